/- A name, in letters small or great, is its number; 7 is Sunday, too. -/
import Derived.Test.YtcmdjpgabkjbpaaGreatDoorCrNamP
import Derived.Test.YtcmdjpgabkjbpaaGreatDoorCrRes
import Derived.Lib.ConvBytes
import Derived.Laws.IdiomStrings
set_option linter.unusedVariables false
namespace Go.Proofs.YtcmdjpgabkjbpaaGreatDoor
open Go.ChangeShapes Go.WideShapes Go.ChangeAt Go.RowKit
open Crn Civ
theorem kept_bytes (w : World) (e : TypeId) (s : ByteArray) : Kept w (Lib.bytesWorld w e s) :=
  ⟨rfl, rfl, by rw [Lib.bytesWorld_size]; omega, fun k hk => Lib.bytesWorld_at_old w e s k hk, rfl⟩
theorem mon_ext : ∀ k : Fin 12, (ByteArray.mk #[106, 97, 110, 102, 101, 98, 109, 97, 114, 97, 112, 114, 109, 97, 121, 106, 117, 110, 106, 117, 108, 97, 117, 103, 115, 101, 112, 111, 99, 116, 110, 111, 118, 100, 101, 99]).extract (3 * k.val) (3 * k.val + 3) = ⟨#[moL (k.val + 1) 0, moL (k.val + 1) 1, moL (k.val + 1) 2]⟩ := by decide
theorem day_ext : ∀ k : Fin 7, (ByteArray.mk #[115, 117, 110, 109, 111, 110, 116, 117, 101, 119, 101, 100, 116, 104, 117, 102, 114, 105, 115, 97, 116]).extract (3 * k.val) (3 * k.val + 3) = ⟨#[dyL k.val 0, dyL k.val 1, dyL k.val 2]⟩ := by decide
theorem mon_slice (k : Nat) (h1 : 1 ≤ k) (h2 : k ≤ 12) (w : World) : (Instr.slice 9 (.string ⟨#[106, 97, 110, 102, 101, 98, 109, 97, 114, 97, 112, 114, 109, 97, 121, 106, 117, 110, 106, 117, 108, 97, 117, 103, 115, 101, 112, 111, 99, 116, 110, 111, 118, 100, 101, 99]⟩) (some (.int .i64 (3 * (k : Int) - 3))) (some (.int .i64 (3 * (k : Int)))) none).run Tryz.prog w = .ok (.string ⟨#[moL k 0, moL k 1, moL k 2]⟩) w := by
  rw [run_slice_string w 9 _ .i64 .i64 _ _ Tryz.underlying9 (by omega) (by omega) (by show 3 * (k : Int) ≤ 36; omega)]
  have := mon_ext ⟨k - 1, by omega⟩
  simp only [Nat.sub_add_cancel h1] at this
  rw [show (3 * (k : Int) - 3).toNat = 3 * (k - 1) by omega, show (3 * (k : Int)).toNat = 3 * (k - 1) + 3 by omega, this]
theorem day_slice (k : Nat) (h2 : k ≤ 6) (w : World) : (Instr.slice 9 (.string ⟨#[115, 117, 110, 109, 111, 110, 116, 117, 101, 119, 101, 100, 116, 104, 117, 102, 114, 105, 115, 97, 116]⟩) (some (.int .i64 (3 * (k : Int)))) (some (.int .i64 (3 * (k : Int) + 3))) none).run Tryz.prog w = .ok (.string ⟨#[dyL k 0, dyL k 1, dyL k 2]⟩) w := by
  rw [run_slice_string w 9 _ .i64 .i64 _ _ Tryz.underlying9 (by omega) (by omega) (by show 3 * (k : Int) + 3 ≤ 21; omega)]
  have := day_ext ⟨k, by omega⟩
  simp only at this
  rw [show (3 * (k : Int)).toNat = 3 * k by omega, show (3 * (k : Int) + 3).toNat = 3 * k + 3 by omega, this]
theorem bs_app (m w : Nat) : (((⟨#[moL m 0, moL m 1, moL m 2]⟩ : ByteArray) ++ ⟨#[32]⟩) ++ ⟨#[dyL w 0, dyL w 1, dyL w 2]⟩ : ByteArray) = ⟨(bs m w).toArray⟩ := by
  apply ByteArray.ext; simp [ByteArray.data_append, bs]
/-- the letters of which the first ones are as they shall be -/
def NmIn (m w g k b : Nat) (W x : World) : Prop := Kept W x ∧ (∃ cs t fz, x.heap[b]? = some (.cells cs t fz) ∧ 7 ≤ cs.size ∧ 7 ≤ fz.1) ∧ ∀ j u v, j < 7 → (bs m w)[j]? = some u → (fsT m w g)[j]? = some v → x.cell? ⟨b, j, none⟩ = some (.int .u8 (((if j < k then v else u) : UInt8).toNat : Int))
theorem block_setF {x : World} {n j : Nat} {cs : Array Value} {t : TypeId} {fz : Nat × Nat} (h : x.heap[n]? = some (.cells cs t fz)) (v : Value) : (x.setCell ⟨n, j, none⟩ v).heap[n]? = some (.cells (cs.setIfInBounds j v) t fz) := by
  simp [World.setCell, Array.getElem?_modify, h]
theorem NmIn.fro {m w g k b : Nat} {W x : World} (h : NmIn m w g k b W x) {j : Nat} (hj : j < 7) : x.frozen? ⟨b, j, none⟩ = false := by
  obtain ⟨_, ⟨cs, t, fz, h1, h2, h3⟩, _⟩ := h
  simp [World.frozen?, h1]
  omega
theorem NmIn.next {m w g k b : Nat} {W x : World} {u : UInt8} (h : NmIn m w g k b W x) (hu : (bs m w)[k]? = some u) (hv : (fsT m w g)[k]? = some u) : NmIn m w g (k + 1) b W x := by
  refine ⟨h.1, h.2.1, fun j u2 v2 hj h1 h2 => ?_⟩
  rw [h.2.2 j u2 v2 hj h1 h2]
  by_cases e : j = k
  · subst e
    rw [hu] at h1; rw [hv] at h2
    cases h1; cases h2
    simp
  · by_cases e2 : j < k
    · rw [if_pos e2, if_pos (by omega)]
    · rw [if_neg e2, if_neg (by omega)]
theorem NmIn.put {m w g k b : Nat} {W x : World} {v : UInt8} (h : NmIn m w g k b W x) (hb : W.heap.size ≤ b) (hk : k < 7) (hv : (fsT m w g)[k]? = some v) : NmIn m w g (k + 1) b W (x.setCell ⟨b, k, none⟩ (.int .u8 (v.toNat : Int))) := by
  obtain ⟨h0, ⟨cs, t, fz, h1, h2, h3⟩, h4⟩ := h
  refine ⟨⟨h0.os, h0.output, by simpa [World.setCell] using h0.size, fun i hi => (Below.heap_setCell _ _ _ _ (show i ≠ b by omega)).trans (h0.block i hi), h0.tape⟩, ⟨_, t, fz, block_setF h1 _, by simpa using h2, h3⟩, fun j u2 v2 hj e1 e2 => ?_⟩
  by_cases e : j = k
  · subst e
    rw [hv] at e2; cases e2
    rw [if_pos (by omega)]
    have := block_setF (j := j) h1 (.int .u8 (v.toNat : Int))
    simp [World.cell?, this]
    rw [Array.getElem?_setIfInBounds_self_of_lt (by omega)]
  · have q := h4 j u2 v2 hj e1 e2
    have := block_setF (j := k) h1 (.int .u8 (v.toNat : Int))
    have hif : (if j < k + 1 then v2 else u2 : UInt8) = if j < k then v2 else u2 := by
      by_cases e3 : j < k
      · rw [if_pos e3, if_pos (by omega)]
      · rw [if_neg e3, if_neg (by omega)]
    rw [hif]
    rw [← q]
    simp only [World.cell?, this, h1]
    rw [Array.getElem?_setIfInBounds_ne (by omega)]
theorem nm_start (m w g : Nat) (W x : World) (h : Kept W x) (hb : W.heap.size ≤ x.heap.size) : NmIn m w g 0 x.heap.size W (Lib.bytesWorld x 5 ⟨(bs m w).toArray⟩) := by
  refine ⟨h.trans (kept_bytes _ _ _), ⟨_, _, _, Lib.bytesWorld_at_new x 5 ⟨(bs m w).toArray⟩, ?_, ?_⟩, fun j u v hj h1 h2 => ?_⟩
  · simp [Lib.bytesCells, bs]
  · simp [Lib.bytesCells, bs]
  · rw [Lib.bytesWorld_cell x 5 ⟨(bs m w).toArray⟩ j hj, if_neg (by omega)]
    show some (Value.int .u8 (((bs m w).getD j 0).toNat : Int)) = _
    rw [show (bs m w).getD j 0 = u by simp [List.getD, h1]]
set_option maxRecDepth 100000 in
set_option maxHeartbeats 4000000 in
theorem names_walk (m d g : Int) (w : World) (htab : Tab w) : Calls Tryz.prog 7 #[.int .i64 m, .int .i64 d, .int .i64 g] w fun e w' => e = .returned (.bool true) ∧ Kept w w' := by
  have T0 := Lib.hid (Tb.start htab)
  clear htab
  go_enter Tryz.func7, Tryz.ntmps7
  go_wp2_with fail
  refine (awake_yes _ T0.out.tab).mono ?_
  rintro e x1 ⟨rfl, k1⟩
  have K1 := Lib.hid k1; have T1 := Lib.hid (T0.out.kept k1)
  clear k1 T0
  by_cases g1 : m < 1
  · go_wp2
    go_ret
    exact ⟨rfl, K1.out⟩
  by_cases g2 : 12 < m
  · go_wp2
    go_ret
    exact ⟨rfl, K1.out⟩
  by_cases g3 : d < 0
  · go_wp2
    go_ret
    exact ⟨rfl, K1.out⟩
  by_cases g4 : 6 < d
  · go_wp2
    go_ret
    exact ⟨rfl, K1.out⟩
  by_cases g5 : g < 0
  · go_wp2
    go_ret
    exact ⟨rfl, K1.out⟩
  by_cases g6 : 63 < g
  · go_wp2
    go_ret
    exact ⟨rfl, K1.out⟩
  obtain ⟨M, rfl⟩ : ∃ k : Nat, m = k := ⟨m.toNat, by omega⟩
  obtain ⟨D, rfl⟩ : ∃ k : Nat, d = k := ⟨d.toNat, by omega⟩
  obtain ⟨G, rfl⟩ : ∃ k : Nat, g = k := ⟨g.toNat, by omega⟩
  have hM1 : 1 ≤ M := by omega
  have hM2 : M ≤ 12 := by omega
  have hD : D ≤ 6 := by omega
  have hG : G < 64 := by omega
  have hw1 : IntKind.i64.wrap (3 * (M : Int)) = 3 * (M : Int) := by simp only [IntKind.wrap_i64]; omega
  have hw2 : IntKind.i64.wrap (3 * (M : Int) - 3) = 3 * (M : Int) - 3 := by simp only [IntKind.wrap_i64]; omega
  have hw3 : IntKind.i64.wrap (3 * (D : Int)) = 3 * (D : Int) := by simp only [IntKind.wrap_i64]; omega
  have hw4 : IntKind.i64.wrap (3 * (D : Int) + 3) = 3 * (D : Int) + 3 := by simp only [IntKind.wrap_i64]; omega
  have hs1 := mon_slice M hM1 hM2
  have hs2 := day_slice D hD
  have hba := bs_app M D
  have hcv : ∀ W', (convert 9 46 (.string ⟨(bs M D).toArray⟩)).run Tryz.prog W' = .ok (.slice (some ⟨W'.heap.size, 0, none⟩) 7 (grownCap W' 7 0 5)) (Lib.bytesWorld W' 5 ⟨(bs M D).toArray⟩) := fun W' => Lib.run_convert_string_bytes W' _ _ _ _ Tryz.underlying9 Tryz.underlying46 Tryz.underlying5
  generalize moL M 0 = a0 at *
  generalize moL M 1 = a1 at *
  generalize moL M 2 = a2 at *
  generalize dyL D 0 = b0 at *
  generalize dyL D 1 = b1 at *
  generalize dyL D 2 = b2 at *
  go_upto_region 6 with (fail)
  have K1b := Lib.hid ((Kept.refl x1).drew)
  refine wp_region_held_drew (S := fun y => Kept x1 y) (by kernel_rfl) K1b.out (fun hS0 => ?_)
  refine wpAnyH_take (i := 0) (oi := { dst := some 47, op := Go.Op.move (Go.Operand.tmp 8), type := 9, pos := "law.go:111", after := #[], guard := none }) (v := ?vn0) rfl (by kernel_rfl) (by kernel_rfl) (by kernel_rfl) (fun _ _ _ h => h) (Or.inl ⟨by rfl, ?yn0⟩) (by assumption) ?rn0
  case yn0 => (intro wq hSw; (try dsimp only at hSw); go_simp; try with_reducible rfl)
  simp only [Act.put, List.setIfInBounds_toArray, List.set_cons_zero, List.set_cons_succ]
  refine wpAnyH_take (i := 1) (oi := { dst := some 48, op := Go.Op.move (Go.Operand.tmp 0), type := 3, pos := "law.go:111", after := #[], guard := none }) (v := ?vn1) rfl (by kernel_rfl) (by kernel_rfl) (by kernel_rfl) (fun _ _ _ h => h) (Or.inl ⟨by rfl, ?yn1⟩) (by assumption) ?rn1
  case yn1 => (intro wq hSw; (try dsimp only at hSw); go_simp; try with_reducible rfl)
  simp only [Act.put, List.setIfInBounds_toArray, List.set_cons_zero, List.set_cons_succ]
  refine wpAnyH_take (i := 2) (oi := { dst := some 49, op := Go.Op.binOp Go.BinOp.mul 3 (Go.Operand.const (Go.Value.int Go.IntKind.i64 3)) (Go.Operand.tmp 48) 3, type := 3, pos := "law.go:111", after := #[{ on := 1, ground := Go.Ground.data }], guard := none }) (v := ?vn2) rfl (by kernel_rfl) (by kernel_rfl) (by kernel_rfl) (fun _ _ _ h => h) (Or.inl ⟨by rfl, ?yn2⟩) (by assumption) ?rn2
  case yn2 => (intro wq hSw; (try dsimp only at hSw); go_simp; try with_reducible rfl)
  simp only [Act.put, List.setIfInBounds_toArray, List.set_cons_zero, List.set_cons_succ]
  refine wpAnyH_take (i := 3) (oi := { dst := some 50, op := Go.Op.binOp Go.BinOp.sub 3 (Go.Operand.tmp 49) (Go.Operand.const (Go.Value.int Go.IntKind.i64 3)) 3, type := 3, pos := "law.go:111", after := #[{ on := 2, ground := Go.Ground.data }], guard := none }) (v := ?vn3) rfl (by kernel_rfl) (by kernel_rfl) (by kernel_rfl) (fun _ _ _ h => h) (Or.inl ⟨by rfl, ?yn3⟩) (by assumption) ?rn3
  case yn3 => (intro wq hSw; (try dsimp only at hSw); go_simp; try with_reducible rfl)
  simp only [Act.put, List.setIfInBounds_toArray, List.set_cons_zero, List.set_cons_succ]
  refine wpAnyH_take (i := 4) (oi := { dst := some 51, op := Go.Op.move (Go.Operand.tmp 0), type := 3, pos := "law.go:111", after := #[], guard := none }) (v := ?vn4) rfl (by kernel_rfl) (by kernel_rfl) (by kernel_rfl) (fun _ _ _ h => h) (Or.inl ⟨by rfl, ?yn4⟩) (by assumption) ?rn4
  case yn4 => (intro wq hSw; (try dsimp only at hSw); go_simp; try with_reducible rfl)
  simp only [Act.put, List.setIfInBounds_toArray, List.set_cons_zero, List.set_cons_succ]
  refine wpAnyH_take (i := 5) (oi := { dst := some 52, op := Go.Op.binOp Go.BinOp.mul 3 (Go.Operand.const (Go.Value.int Go.IntKind.i64 3)) (Go.Operand.tmp 51) 3, type := 3, pos := "law.go:111", after := #[{ on := 4, ground := Go.Ground.data }], guard := none }) (v := ?vn5) rfl (by kernel_rfl) (by kernel_rfl) (by kernel_rfl) (fun _ _ _ h => h) (Or.inl ⟨by rfl, ?yn5⟩) (by assumption) ?rn5
  case yn5 => (intro wq hSw; (try dsimp only at hSw); go_simp; try with_reducible rfl)
  simp only [Act.put, List.setIfInBounds_toArray, List.set_cons_zero, List.set_cons_succ]
  refine wpAnyH_take (i := 6) (oi := { dst := some 53, op := Go.Op.slice 9 (Go.Operand.tmp 47) (some (Go.Operand.tmp 50)) (some (Go.Operand.tmp 52)) none, type := 9, pos := "law.go:111", after := #[{ on := 0, ground := Go.Ground.data }, { on := 3, ground := Go.Ground.data }, { on := 5, ground := Go.Ground.data }], guard := none }) (v := ?vn6) rfl (by kernel_rfl) (by kernel_rfl) (by kernel_rfl) (fun _ _ _ h => h) (Or.inl ⟨by rfl, ?yn6⟩) (by assumption) ?rn6
  case yn6 => (intro wq hSw; (try dsimp only at hSw); go_simp; try with_reducible rfl)
  simp only [Act.put, List.setIfInBounds_toArray, List.set_cons_zero, List.set_cons_succ]
  refine wpAnyH_take (i := 7) (oi := { dst := some 54, op := Go.Op.binOp Go.BinOp.add 9 (Go.Operand.tmp 53) (Go.Operand.const (Go.Value.string { data := #[32] })) 9, type := 9, pos := "law.go:111", after := #[{ on := 6, ground := Go.Ground.data }], guard := none }) (v := ?vn7) rfl (by kernel_rfl) (by kernel_rfl) (by kernel_rfl) (fun _ _ _ h => h) (Or.inl ⟨by rfl, ?yn7⟩) (by assumption) ?rn7
  case yn7 => (intro wq hSw; (try dsimp only at hSw); go_simp; try with_reducible rfl)
  simp only [Act.put, List.setIfInBounds_toArray, List.set_cons_zero, List.set_cons_succ]
  refine wpAnyH_take (i := 8) (oi := { dst := some 55, op := Go.Op.move (Go.Operand.tmp 9), type := 9, pos := "law.go:111", after := #[], guard := none }) (v := ?vn8) rfl (by kernel_rfl) (by kernel_rfl) (by kernel_rfl) (fun _ _ _ h => h) (Or.inl ⟨by rfl, ?yn8⟩) (by assumption) ?rn8
  case yn8 => (intro wq hSw; (try dsimp only at hSw); go_simp; try with_reducible rfl)
  simp only [Act.put, List.setIfInBounds_toArray, List.set_cons_zero, List.set_cons_succ]
  refine wpAnyH_take (i := 9) (oi := { dst := some 56, op := Go.Op.move (Go.Operand.tmp 1), type := 3, pos := "law.go:111", after := #[], guard := none }) (v := ?vn9) rfl (by kernel_rfl) (by kernel_rfl) (by kernel_rfl) (fun _ _ _ h => h) (Or.inl ⟨by rfl, ?yn9⟩) (by assumption) ?rn9
  case yn9 => (intro wq hSw; (try dsimp only at hSw); go_simp; try with_reducible rfl)
  simp only [Act.put, List.setIfInBounds_toArray, List.set_cons_zero, List.set_cons_succ]
  refine wpAnyH_take (i := 10) (oi := { dst := some 57, op := Go.Op.binOp Go.BinOp.mul 3 (Go.Operand.const (Go.Value.int Go.IntKind.i64 3)) (Go.Operand.tmp 56) 3, type := 3, pos := "law.go:111", after := #[{ on := 9, ground := Go.Ground.data }], guard := none }) (v := ?vn10) rfl (by kernel_rfl) (by kernel_rfl) (by kernel_rfl) (fun _ _ _ h => h) (Or.inl ⟨by rfl, ?yn10⟩) (by assumption) ?rn10
  case yn10 => (intro wq hSw; (try dsimp only at hSw); go_simp; try with_reducible rfl)
  simp only [Act.put, List.setIfInBounds_toArray, List.set_cons_zero, List.set_cons_succ]
  refine wpAnyH_take (i := 11) (oi := { dst := some 58, op := Go.Op.move (Go.Operand.tmp 1), type := 3, pos := "law.go:111", after := #[], guard := none }) (v := ?vn11) rfl (by kernel_rfl) (by kernel_rfl) (by kernel_rfl) (fun _ _ _ h => h) (Or.inl ⟨by rfl, ?yn11⟩) (by assumption) ?rn11
  case yn11 => (intro wq hSw; (try dsimp only at hSw); go_simp; try with_reducible rfl)
  simp only [Act.put, List.setIfInBounds_toArray, List.set_cons_zero, List.set_cons_succ]
  refine wpAnyH_take (i := 12) (oi := { dst := some 59, op := Go.Op.binOp Go.BinOp.mul 3 (Go.Operand.const (Go.Value.int Go.IntKind.i64 3)) (Go.Operand.tmp 58) 3, type := 3, pos := "law.go:111", after := #[{ on := 11, ground := Go.Ground.data }], guard := none }) (v := ?vn12) rfl (by kernel_rfl) (by kernel_rfl) (by kernel_rfl) (fun _ _ _ h => h) (Or.inl ⟨by rfl, ?yn12⟩) (by assumption) ?rn12
  case yn12 => (intro wq hSw; (try dsimp only at hSw); go_simp; try with_reducible rfl)
  simp only [Act.put, List.setIfInBounds_toArray, List.set_cons_zero, List.set_cons_succ]
  refine wpAnyH_take (i := 13) (oi := { dst := some 60, op := Go.Op.binOp Go.BinOp.add 3 (Go.Operand.tmp 59) (Go.Operand.const (Go.Value.int Go.IntKind.i64 3)) 3, type := 3, pos := "law.go:111", after := #[{ on := 12, ground := Go.Ground.data }], guard := none }) (v := ?vn13) rfl (by kernel_rfl) (by kernel_rfl) (by kernel_rfl) (fun _ _ _ h => h) (Or.inl ⟨by rfl, ?yn13⟩) (by assumption) ?rn13
  case yn13 => (intro wq hSw; (try dsimp only at hSw); go_simp; try with_reducible rfl)
  simp only [Act.put, List.setIfInBounds_toArray, List.set_cons_zero, List.set_cons_succ]
  refine wpAnyH_take (i := 14) (oi := { dst := some 61, op := Go.Op.slice 9 (Go.Operand.tmp 55) (some (Go.Operand.tmp 57)) (some (Go.Operand.tmp 60)) none, type := 9, pos := "law.go:111", after := #[{ on := 8, ground := Go.Ground.data }, { on := 10, ground := Go.Ground.data }, { on := 13, ground := Go.Ground.data }], guard := none }) (v := ?vn14) rfl (by kernel_rfl) (by kernel_rfl) (by kernel_rfl) (fun _ _ _ h => h) (Or.inl ⟨by rfl, ?yn14⟩) (by assumption) ?rn14
  case yn14 => (intro wq hSw; (try dsimp only at hSw); go_simp; try with_reducible rfl)
  simp only [Act.put, List.setIfInBounds_toArray, List.set_cons_zero, List.set_cons_succ]
  refine wpAnyH_take (i := 15) (oi := { dst := some 62, op := Go.Op.binOp Go.BinOp.add 9 (Go.Operand.tmp 54) (Go.Operand.tmp 61) 9, type := 9, pos := "law.go:111", after := #[{ on := 7, ground := Go.Ground.data }, { on := 14, ground := Go.Ground.data }], guard := none }) (v := ?vn15) rfl (by kernel_rfl) (by kernel_rfl) (by kernel_rfl) (fun _ _ _ h => h) (Or.inl ⟨by rfl, ?yn15⟩) (by assumption) ?rn15
  case yn15 => (intro wq hSw; (try dsimp only at hSw); go_simp; try with_reducible rfl)
  simp only [Act.put, List.setIfInBounds_toArray, List.set_cons_zero, List.set_cons_succ]
  refine wpAnyH_ready (rs := [16]) (by kernel_rfl) (by simp) (AllReadyH.cons (o := { dst := some 63, op := Go.Op.convert 9 46 (Go.Operand.tmp 62), type := 46, pos := "law.go:111", after := #[{ on := 15, ground := Go.Ground.data }], guard := none }) rfl (fun K hK => ?_) AllReadyH.nil)
  go_simp
  have KB := Lib.hid (kept_bytes x1.drew 5 ⟨(bs M D).toArray⟩)
  refine Shut.out hK _ _ (K1b.out.trans KB.out) (fun hSb => ?_)
  clear hK K
  try simp only [Act.put, List.setIfInBounds_toArray, List.set_cons_zero, List.set_cons_succ]
  refine wpAnyH_take (i := 17) (oi := { dst := some 10, op := Go.Op.assign (Go.Operand.tmp 63), type := 46, pos := "law.go:111", after := #[{ on := 16, ground := Go.Ground.data }, { on := 0, ground := Go.Ground.phase }, { on := 1, ground := Go.Ground.phase }, { on := 2, ground := Go.Ground.phase }, { on := 3, ground := Go.Ground.phase }, { on := 4, ground := Go.Ground.phase }, { on := 5, ground := Go.Ground.phase }, { on := 6, ground := Go.Ground.phase }, { on := 7, ground := Go.Ground.phase }, { on := 8, ground := Go.Ground.phase }, { on := 9, ground := Go.Ground.phase }, { on := 10, ground := Go.Ground.phase }, { on := 11, ground := Go.Ground.phase }, { on := 12, ground := Go.Ground.phase }, { on := 13, ground := Go.Ground.phase }, { on := 14, ground := Go.Ground.phase }, { on := 15, ground := Go.Ground.phase }, { on := 16, ground := Go.Ground.phase }], guard := none }) (v := ?vn17) rfl (by kernel_rfl) (by kernel_rfl) (by kernel_rfl) (fun _ _ _ h => h) (Or.inl ⟨by rfl, ?yn17⟩) (by assumption) ?rn17
  case yn17 => (intro wq hSw; (try dsimp only at hSw); go_simp; try with_reducible rfl)
  simp only [Act.put, List.setIfInBounds_toArray, List.set_cons_zero, List.set_cons_succ]
  refine wpAnyH_done (by kernel_rfl) ?_ _
  have NM := Lib.hid (show NmIn M D G 0 x1.heap.size x1 (Lib.bytesWorld x1.drew 5 ⟨(bs M D).toArray⟩) from nm_start M D G x1 x1.drew K1b.out K1b.out.size)
  have hbx : x1.heap.size ≤ x1.heap.size := Nat.le_refl _
  have T2 := Lib.hid (T1.out.kept (K1b.out.trans KB.out))
  clear hS0 hSb hw1 hw2 hw3 hw4 hs1 hs2 hba hcv K1b KB T1
  generalize grownCap x1.drew 7 0 5 = cap at *
  generalize Lib.bytesWorld x1.drew 5 ⟨(bs M D).toArray⟩ = X at *
  clear g1 g2 g3 g4 g5 g6
  go_wp2_with fail
  go_loopw [11, 12, 13, 14] (fun i _ _ _ y => ∃ k : Nat, k ≤ 7 ∧ i = .int .i64 k ∧ NmIn M D G k x1.heap.size x1 y ∧ Tb w.heap.size y) (fun i _ _ _ _ => 7 - (intOf i).toNat)
  case atStart => exact ⟨0, by omega, rfl, NM.out, T2.out⟩
  case round =>
    obtain ⟨k, hk, rfl, hn, ht⟩ := hrel
    have HN := Lib.hid hn; have HT := Lib.hid ht
    clear hn ht
    by_cases hlt : k < 7
    · have hlti : (k : Int) < 7 := by omega
      obtain ⟨u, hu⟩ : ∃ u, (bs M D)[k]? = some u := ⟨_, List.getElem?_eq_getElem (by rw [bs_len]; exact hlt)⟩
      have hv := fsT_at M D G k u hu
      have ck := HN.out.2.2 k u _ hlt hu hv
      rw [if_neg (by omega)] at ck
      have gk := HN.out.fro hlt
      have HU := Lib.hid hu; have HV := Lib.hid hv
      have HB := Lib.hid (fun h => bs_bd (j := k) (b := u) hM1 hM2 hD hu h)
      clear hu hv
      have hbx' : x1.heap.size ≤ x1.heap.size := hbx
      have hwB : w.heap.size ≤ x1.heap.size := Nat.le_trans K1.out.size hbx
      by_cases h3 : 3 < k
      · have h3i : (3 : Int) < (k : Int) := by omega
        obtain ⟨be, hbe⟩ : ∃ be : Nat, (k : Int) - 1 = be := ⟨k - 1, by omega⟩
        have hk3n : k ≠ 3 := by omega
        have hk3 : ((k : Int) != 3) = true := by rw [bne_iff_ne]; omega
        have hk3j : ¬ (k : Int) = 3 := by omega
        go_wp2_with fail
        generalize hW : wr = W2 at *
        clear hW
        go_loopw [13, 14] (fun n t y => y = W2 ∧ ∃ (q t2 : Nat), t2 ≤ be ∧ n = .int .i64 q ∧ t = .int .i64 t2 ∧ q = G / 2 ^ t2) (fun _ t _ => be - (intOf t).toNat)
        case atStart => exact ⟨rfl, G, 0, by omega, rfl, rfl, by simp⟩
        case round =>
          obtain ⟨hwy, q, t2, ht2, rfl, rfl, hq⟩ := hrel
          subst hwy
          have hq63 : q ≤ 63 := by rw [hq]; exact Nat.le_trans (Nat.div_le_self _ _) (by omega)
          have HQ := Lib.hid hq; clear hq
          by_cases hlt2 : t2 < be
          · have hlt2i : (t2 : Int) < (be : Int) := by omega
            have HQ2 := Lib.hid (show q / 2 = G / 2 ^ (t2 + 1) by rw [HQ.out, half])
            go_wp2
            go_roundw
            case rel => exact ⟨trivial, q / 2, t2 + 1, hlt2, by go_num, by go_num, HQ2.out⟩
            case measure => simp [intOf]; omega
          · obtain rfl : t2 = be := by omega
            have hm1 : (q : Int).tmod 2 = (q : Int) % 2 := Int.tmod_eq_emod_of_nonneg (by omega)
            have h97 := HB.out hk3n
            by_cases hp : q % 2 = 1
            · have hb1 : ((q : Int) % 2 == 1) = true := by rw [beq_iff_eq]; omega
              have hb2 : ((q : Int).tmod 2 == 1) = true := by rw [hm1]; exact hb1
              have HE := Lib.hid (show (fsT M D G)[k]? = some (u - 32) by rw [HV.out, if_neg hk3n]; unfold up; rw [show bt k = t2 from (by unfold bt; rw [if_pos h3]; omega), ← HQ.out, if_pos hp])
              have h32 := sub32 h97.1
              generalize u - 32 = u2 at *
              have hwu : IntKind.u8.wrap (u2.toNat : Int) = (u2.toNat : Int) := by have := u2.toNat_lt; simp only [IntKind.wrap_u8]; omega
              have hnx := HN.out.put hbx' hlt HE.out
              rw [h32] at hnx
              have HNX := Lib.hid hnx
              have HTX := Lib.hid (HT.out.bar hwB ((Bar.refl x1.heap.size wr).set k (.int .u8 ((u.toNat : Int) - 32))))
              clear hnx
              go_wp2
              go_roundw
              case rel => exact ⟨k + 1, hlt, by go_num, HNX.out, HTX.out⟩
              case measure => simp [intOf]; omega
            · have hb1 : ((q : Int) % 2 == 1) = false := by rw [beq_eq_false_iff_ne]; omega
              have hb2 : ((q : Int).tmod 2 == 1) = false := by rw [hm1]; exact hb1
              have HE := Lib.hid (show (fsT M D G)[k]? = some u by rw [HV.out, if_neg hk3n]; unfold up; rw [show bt k = t2 from (by unfold bt; rw [if_pos h3]; omega), ← HQ.out, if_neg hp])
              have HNX := Lib.hid (HN.out.next HU.out HE.out)
              go_wp2
              go_roundw
              case rel => exact ⟨k + 1, hlt, by go_num, HNX.out, HT.out⟩
              case measure => simp [intOf]; omega
      · have h3i : ¬ (3 : Int) < (k : Int) := by omega
        by_cases hk3n : k ≠ 3
        · have hk3 : ((k : Int) != 3) = true := by rw [bne_iff_ne]; omega
          have hk3j : ¬ (k : Int) = 3 := by omega
          go_wp2_with fail
          generalize hW : wr = W2 at *
          clear hW
          go_loopw [13, 14] (fun n t y => y = W2 ∧ ∃ (q t2 : Nat), t2 ≤ k ∧ n = .int .i64 q ∧ t = .int .i64 t2 ∧ q = G / 2 ^ t2) (fun _ t _ => k - (intOf t).toNat)
          case atStart => exact ⟨rfl, G, 0, by omega, rfl, rfl, by simp⟩
          case round =>
            obtain ⟨hwy, q, t2, ht2, rfl, rfl, hq⟩ := hrel
            subst hwy
            have hq63 : q ≤ 63 := by rw [hq]; exact Nat.le_trans (Nat.div_le_self _ _) (by omega)
            have HQ := Lib.hid hq; clear hq
            by_cases hlt2 : t2 < k
            · have hlt2i : (t2 : Int) < (k : Int) := by omega
              have HQ2 := Lib.hid (show q / 2 = G / 2 ^ (t2 + 1) by rw [HQ.out, half])
              go_wp2
              go_roundw
              case rel => exact ⟨trivial, q / 2, t2 + 1, hlt2, by go_num, by go_num, HQ2.out⟩
              case measure => simp [intOf]; omega
            · obtain rfl : t2 = k := by omega
              have hm1 : (q : Int).tmod 2 = (q : Int) % 2 := Int.tmod_eq_emod_of_nonneg (by omega)
              have h97 := HB.out hk3n
              by_cases hp : q % 2 = 1
              · have hb1 : ((q : Int) % 2 == 1) = true := by rw [beq_iff_eq]; omega
                have hb2 : ((q : Int).tmod 2 == 1) = true := by rw [hm1]; exact hb1
                have HE := Lib.hid (show (fsT M D G)[t2]? = some (u - 32) by rw [HV.out, if_neg hk3n]; unfold up; rw [show bt t2 = t2 from (by unfold bt; rw [if_neg h3]), ← HQ.out, if_pos hp])
                have h32 := sub32 h97.1
                generalize u - 32 = u2 at *
                have hwu : IntKind.u8.wrap (u2.toNat : Int) = (u2.toNat : Int) := by have := u2.toNat_lt; simp only [IntKind.wrap_u8]; omega
                have hnx := HN.out.put hbx' hlt HE.out
                rw [h32] at hnx
                have HNX := Lib.hid hnx
                have HTX := Lib.hid (HT.out.bar hwB ((Bar.refl x1.heap.size wr).set t2 (.int .u8 ((u.toNat : Int) - 32))))
                clear hnx
                go_wp2
                go_roundw
                case rel => exact ⟨t2 + 1, hlt, by go_num, HNX.out, HTX.out⟩
                case measure => simp [intOf]; omega
              · have hb1 : ((q : Int) % 2 == 1) = false := by rw [beq_eq_false_iff_ne]; omega
                have hb2 : ((q : Int).tmod 2 == 1) = false := by rw [hm1]; exact hb1
                have HE := Lib.hid (show (fsT M D G)[t2]? = some u by rw [HV.out, if_neg hk3n]; unfold up; rw [show bt t2 = t2 from (by unfold bt; rw [if_neg h3]), ← HQ.out, if_neg hp])
                have HNX := Lib.hid (HN.out.next HU.out HE.out)
                go_wp2
                go_roundw
                case rel => exact ⟨t2 + 1, hlt, by go_num, HNX.out, HT.out⟩
                case measure => simp [intOf]; omega
        · have hk3 : ((k : Int) != 3) = false := by have : k = 3 := (by omega); subst this; rfl
          have HE := Lib.hid (show (fsT M D G)[k]? = some u by rw [HV.out, if_pos (by omega)])
          go_wp2_with fail
          generalize hW : wr = W2 at *
          clear hW
          go_loopw [13, 14] (fun n t y => y = W2 ∧ ∃ (q t2 : Nat), t2 ≤ k ∧ n = .int .i64 q ∧ t = .int .i64 t2 ∧ q = G / 2 ^ t2) (fun _ t _ => k - (intOf t).toNat)
          case atStart => exact ⟨rfl, G, 0, by omega, rfl, rfl, by simp⟩
          case round =>
            obtain ⟨hwy, q, t2, ht2, rfl, rfl, hq⟩ := hrel
            subst hwy
            have hq63 : q ≤ 63 := by rw [hq]; exact Nat.le_trans (Nat.div_le_self _ _) (by omega)
            have HQ := Lib.hid hq; clear hq
            by_cases hlt2 : t2 < k
            · have hlt2i : (t2 : Int) < (k : Int) := by omega
              have HQ2 := Lib.hid (show q / 2 = G / 2 ^ (t2 + 1) by rw [HQ.out, half])
              go_wp2
              go_roundw
              case rel => exact ⟨trivial, q / 2, t2 + 1, hlt2, by go_num, by go_num, HQ2.out⟩
              case measure => simp [intOf]; omega
            · obtain rfl : t2 = k := by omega
              have HNX := Lib.hid (HN.out.next HU.out HE.out)
              go_wp2
              go_roundw
              case rel => exact ⟨t2 + 1, hlt, by go_num, HNX.out, HT.out⟩
              case measure => simp [intOf]; omega
    · obtain rfl : k = 7 := by omega
      have hcb : (convert 46 9 (.slice (some ⟨x1.heap.size, 0, none⟩) 7 cap)).run Tryz.prog wr = .ok (.string ⟨(fsT M D G).toArray⟩) wr := by
        refine run_convert_bytes_back wr 46 9 5 ⟨x1.heap.size, 0, none⟩ cap (fsT M D G) Tryz.underlying46 Tryz.underlying5 Tryz.underlying9 ?_
        intro j hj
        have hj7 : j < 7 := hj
        obtain ⟨u, hu⟩ : ∃ u, (bs M D)[j]? = some u := ⟨_, List.getElem?_eq_getElem (by rw [bs_len]; exact hj7)⟩
        have := HN.out.2.2 j u _ hj7 hu (List.getElem?_eq_getElem hj)
        rw [if_pos hj7] at this
        rw [show (Addr.add ⟨x1.heap.size, 0, none⟩ j) = ⟨x1.heap.size, j, none⟩ by unfold Addr.add; split <;> simp_all]
        exact this
      obtain ⟨c3, p3, q3, q4⟩ := name_prs hM1 hM2 hD hG
      obtain ⟨c7, p7, q7⟩ := seven_prs
      have hss : (⟨#[48, 32, 48, 32, 42, 32]⟩ ++ ⟨(fsT M D G).toArray⟩ : ByteArray) = ⟨(st3 ++ fsT M D G).toArray⟩ := app_mk st3 (fsT M D G)
      have hlF : (st3 ++ fsT M D G).length = 13 := rfl
      have hlF7 : (fsT M D G).length = 7 := rfl
      have P3 := Lib.hid p3; have P7 := Lib.hid p7; have Q3 := Lib.hid q3; have Q4 := Lib.hid q4; have Q7 := Lib.hid q7
      have HLF := Lib.hid hlF
      have R3 := Lib.hid (show resP (st3 ++ fsT M D G) = (c3, 0) from res_some (by rw [hlF]; omega) p3)
      have R7 := Lib.hid (show resP st7 = (c7, 0) from res_some (by decide) p7)
      clear p3 p7 q3 q4 q7 hlF
      have K2 := Lib.hid (K1.out.trans HN.out.1)
      generalize hFF : st3 ++ fsT M D G = FF at *
      clear hFF
      generalize fsT M D G = F at *
      clear HN NM
      go_wp2_with fail
      refine (parse_any FF w.heap.size _ HT.out K2.out.size (by rw [HLF.out]; omega)).mono ?_
      intro e x2 hp
      obtain ⟨sa, rfl, ca, k2⟩ := parse_as R3.out hp
      have HZ2 := Lib.hid (box_z x2)
      have k3 := k2.trans (box_k x2 sa c3.st)
      have BA3 := Lib.hid (box_b x2 sa c3.st)
      have ho2 := cr_ones c3.st ca
      have CA3 := Lib.hid (ca.kept (box_k x2 sa c3.st))
      have K3 := Lib.hid (K2.out.trans k3); have T3 := Lib.hid (HT.out.kept k3)
      clear hp ca k2 k3 K2 HT hcb hss
      go_upto_region 21 with (refine wpList_store_row rfl 27 _ _ rfl x2.heap.size _ rfl rfl 27 _ HZ2.out (by kernel_rfl) rfl ho2 ?_)
      generalize (x2.alloc (.cells z10 27)).setRow x2.heap.size (cr10 sa c3.st) = x3 at *
      clear HZ2 ho2
      have hs3 := K3.out.size
      go_wp2_with fail
      refine (parse_any st7 w.heap.size _ T3.out hs3 (by decide)).mono ?_
      intro e x5 hp
      obtain ⟨sb, rfl, cb, k5⟩ := parse_as R7.out hp
      have HZ5 := Lib.hid (box_z x5)
      have k6 := k5.trans (box_k x5 sb c7.st)
      have BB6 := Lib.hid (box_b x5 sb c7.st)
      have ho5 := cr_ones c7.st cb
      have CB6 := Lib.hid (cb.kept (box_k x5 sb c7.st))
      have K6 := Lib.hid (K3.out.trans k6); have BA6 := Lib.hid (BA3.out.kept k6); have CA6 := Lib.hid (CA3.out.kept k6)
      clear hp cb k5 k6 K3 BA3 CA3 T3
      go_upto_region 22 with (refine wpList_store_row rfl 27 _ _ rfl x5.heap.size _ rfl rfl 27 _ HZ5.out (by kernel_rfl) rfl ho5 ?_)
      generalize (x5.alloc (.cells z10 27)).setRow x5.heap.size (cr10 sb c7.st) = x6 at *
      clear ho5 HZ5
      obtain ⟨e0, e1, e2, e3, e4, e5, e6, e7, e8, e9⟩ := cells10 BA6.out
      obtain ⟨v0, v1, v2, v3, v4, v5, v6, v7, v8, v9⟩ := cells10 BB6.out
      have r3 := CA6.out 3 (by omega); have r4 := CA6.out 4 (by omega); have r7 := CB6.out 4 (by omega)
      rw [Q3.out] at r3; rw [Q4.out] at r4; rw [Q7.out] at r7
      obtain ⟨i3, o3, n3, s3, -, f3⟩ := r3.at (k := 0) (by simp)
      obtain ⟨i4, o4, n4, s4, -, f4⟩ := r4.at (k := 0) (by simp)
      obtain ⟨i7, o7, n7, s7, -, f7⟩ := r7.at (k := 0) (by simp)
      have h3 := f3 0 _ rfl; have h4 := f4 0 _ rfl; have h7 := f7 0 _ rfl
      rw [Nat.add_zero] at h3 h4 h7
      rw [s3] at e3; rw [s4] at e4; rw [s7] at v4
      simp only [List.length_cons, List.length_nil] at e3 e4 v4
      clear r3 r4 r7 f3 f4 f7 s3 s4 s7 e0 e1 e2 e5 e6 e7 e8 e9 v0 v1 v2 v3 v5 v6 v7 v8 v9
      go_wp2
      go_ret
      exact ⟨rfl, K6.out⟩
end Go.Proofs.YtcmdjpgabkjbpaaGreatDoor
