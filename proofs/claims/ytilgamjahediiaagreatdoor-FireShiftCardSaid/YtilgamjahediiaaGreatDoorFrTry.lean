/- Contracts of package fire: the search tries a second. -/
import Derived.Test.YtilgamjahediiaaGreatDoorFrSkip
import Derived.BigQuiet
set_option linter.unusedVariables false
namespace Go.Proofs.YtilgamjahediiaaGreatDoor
open Go.ChangeShapes Go.WideShapes Go.ChangeAt Go.RowKit
open Civ Zn Lc Crn
/-- the search in a block of its own -/
abbrev sx28 (z : Zo) (sl : Nat → Value) (st : Nat → Bool) (fr up fo : Int) : Array Value := #[.string ⟨z.std.toArray⟩, .int .i64 z.off, .bool z.has, .string ⟨z.dst.toArray⟩, .int .i64 z.ahead, .int .i64 z.fr.k, .int .i64 z.fr.m, .int .i64 z.fr.w, .int .i64 z.fr.d, .int .i64 z.fr.a, .int .i64 z.to.k, .int .i64 z.to.m, .int .i64 z.to.w, .int .i64 z.to.d, .int .i64 z.to.a, sl 0, sl 1, sl 2, sl 3, sl 4, .bool (st 0), .bool (st 1), .bool (st 2), .bool (st 3), .bool (st 4), .int .i64 fr, .int .i64 up, .int .i64 fo]
def Sx (b : Nat) (z : Zo) (sl : Nat → Value) (st : Nat → Bool) (fr up fo : Int) (x : World) : Prop := x.heap[b]? = some (.cells (sx28 z sl st fr up fo) 89)
theorem Sx.lt {b : Nat} {z : Zo} {sl : Nat → Value} {st : Nat → Bool} {fr up fo : Int} {x : World} (h : Sx b z sl st fr up fo x) : b < x.heap.size := (Array.getElem?_eq_some_iff.1 h).1
theorem Sx.kept {b : Nat} {z : Zo} {sl : Nat → Value} {st : Nat → Bool} {fr up fo : Int} {x y : World} (h : Sx b z sl st fr up fo x) (k : Kept x y) : Sx b z sl st fr up fo y := (k.block _ h.lt).trans h
theorem Sx.save {b : Nat} {z : Zo} {sl : Nat → Value} {st : Nat → Bool} {fr up fo : Int} {x y : World} {M : Nat → Prop} (h : Sx b z sl st fr up fo x) (k : Save M x y) (hm : ¬ M b) : Sx b z sl st fr up fo y := k.at h hm
theorem Sx.frz {b : Nat} {z : Zo} {sl : Nat → Value} {st : Nat → Bool} {fr up fo : Int} {x : World} (h : Sx b z sl st fr up fo x) (j : Nat) : x.frozen? ⟨b, j, none⟩ = false := by unfold Sx at h; simp [World.frozen?, h]
set_option maxRecDepth 100000 in
theorem Sx.cells {b : Nat} {z : Zo} {sl : Nat → Value} {st : Nat → Bool} {fr up fo : Int} {y : World} (h : Sx b z sl st fr up fo y) : y.cell? ⟨b, 0, none⟩ = some (.string ⟨z.std.toArray⟩) ∧ y.cell? ⟨b, 1, none⟩ = some (.int .i64 z.off) ∧ y.cell? ⟨b, 2, none⟩ = some (.bool z.has) ∧ y.cell? ⟨b, 3, none⟩ = some (.string ⟨z.dst.toArray⟩) ∧ y.cell? ⟨b, 4, none⟩ = some (.int .i64 z.ahead) ∧ y.cell? ⟨b, 5, none⟩ = some (.int .i64 z.fr.k) ∧ y.cell? ⟨b, 6, none⟩ = some (.int .i64 z.fr.m) ∧ y.cell? ⟨b, 7, none⟩ = some (.int .i64 z.fr.w) ∧ y.cell? ⟨b, 8, none⟩ = some (.int .i64 z.fr.d) ∧ y.cell? ⟨b, 9, none⟩ = some (.int .i64 z.fr.a) ∧ y.cell? ⟨b, 10, none⟩ = some (.int .i64 z.to.k) ∧ y.cell? ⟨b, 11, none⟩ = some (.int .i64 z.to.m) ∧ y.cell? ⟨b, 12, none⟩ = some (.int .i64 z.to.w) ∧ y.cell? ⟨b, 13, none⟩ = some (.int .i64 z.to.d) ∧ y.cell? ⟨b, 14, none⟩ = some (.int .i64 z.to.a) ∧ y.cell? ⟨b, 15, none⟩ = some (sl 0) ∧ y.cell? ⟨b, 16, none⟩ = some (sl 1) ∧ y.cell? ⟨b, 17, none⟩ = some (sl 2) ∧ y.cell? ⟨b, 18, none⟩ = some (sl 3) ∧ y.cell? ⟨b, 19, none⟩ = some (sl 4) ∧ y.cell? ⟨b, 20, none⟩ = some (.bool (st 0)) ∧ y.cell? ⟨b, 21, none⟩ = some (.bool (st 1)) ∧ y.cell? ⟨b, 22, none⟩ = some (.bool (st 2)) ∧ y.cell? ⟨b, 23, none⟩ = some (.bool (st 3)) ∧ y.cell? ⟨b, 24, none⟩ = some (.bool (st 4)) ∧ y.cell? ⟨b, 25, none⟩ = some (.int .i64 fr) ∧ y.cell? ⟨b, 26, none⟩ = some (.int .i64 up) ∧ y.cell? ⟨b, 27, none⟩ = some (.int .i64 fo) :=
  ⟨cell_of h rfl, cell_of h rfl, cell_of h rfl, cell_of h rfl, cell_of h rfl, cell_of h rfl, cell_of h rfl, cell_of h rfl, cell_of h rfl, cell_of h rfl, cell_of h rfl, cell_of h rfl, cell_of h rfl, cell_of h rfl, cell_of h rfl, cell_of h rfl, cell_of h rfl, cell_of h rfl, cell_of h rfl, cell_of h rfl, cell_of h rfl, cell_of h rfl, cell_of h rfl, cell_of h rfl, cell_of h rfl, cell_of h rfl, cell_of h rfl, cell_of h rfl⟩
set_option maxRecDepth 100000 in
theorem Sx.found {b : Nat} {z : Zo} {sl : Nat → Value} {st : Nat → Bool} {fr up fo : Int} {x : World} (h : Sx b z sl st fr up fo x) (u f : Int) : Sx b z sl st fr u f ((x.setCell ⟨b, 27, none⟩ (.int .i64 f)).setCell ⟨b, 26, none⟩ (.int .i64 u)) := by
  unfold Sx at h ⊢
  simp [World.setCell, Array.getElem?_modify, h]
set_option maxRecDepth 100000 in
set_option maxHeartbeats 8000000 in
theorem try_any (z : Zo) (c : CR) (sl : Nat → Value) (b : Nat) (fr up fo t : Int) (w : World) (hc : Cr w sl c.L) (hS : Sx b z sl c.st fr up fo w) (t1 : -9223372036854775808 ≤ t) (t2 : t ≤ 9223372036854775807) (f1 : -9223372036854775807 ≤ fr) : Calls Tryz.prog 96 #[.pointer (some ⟨b, 0, none⟩), .int .i64 t] w fun e w' => (∃ v, e = .returned v) ∧ Sx b z sl c.st fr (trU z c fr up t) (trF z c fr up fo t) w' ∧ Save (fun k => k = b) w w' := by
  have HS := Lib.hid hS; have HC := Lib.hid hc
  have HU := Lib.hid (show trU z c fr up t = if fr ≤ t ∧ t ≤ up ∧ frP z c t = true then t - 1 else up by unfold trU; congr)
  have HF := Lib.hid (show trF z c fr up fo t = if fr ≤ t ∧ t ≤ up ∧ frP z c t = true then t else fo by unfold trF; congr)
  generalize trU z c fr up t = ru at *
  generalize trF z c fr up fo t = rf at *
  clear hS hc
  obtain ⟨a0, a1, a2, a3, a4, a5, a6, a7, a8, a9, a10, a11, a12, a13, a14, a15, a16, a17, a18, a19, a20, a21, a22, a23, a24, a25, a26, a27⟩ := HS.out.cells
  by_cases g1 : t < fr
  · have N1 := Lib.hid (show ru = up ∧ rf = fo from ⟨by rw [HU.out, if_neg (by omega)], by rw [HF.out, if_neg (by omega)]⟩)
    have hd : decide (t ≥ fr) = false := decide_eq_false (by omega)
    have hd' : decide (fr ≤ t) = false := decide_eq_false (by omega)
    clear HU HF
    go_enter Tryz.func96, Tryz.ntmps96
    go_upto_region 0 with (fail)
    go_quiet (fail)
    go_wp2
    go_end0
    refine ⟨⟨_, rfl⟩, ?_, Save.of_kept _ ((Kept.refl w).drewN _)⟩
    rw [N1.out.1, N1.out.2]
    exact HS.out
  by_cases g2 : up < t
  · have N1 := Lib.hid (show ru = up ∧ rf = fo from ⟨by rw [HU.out, if_neg (by omega)], by rw [HF.out, if_neg (by omega)]⟩)
    have hd : decide (t ≥ fr) = true := decide_eq_true (by omega)
    have hd' : decide (fr ≤ t) = true := decide_eq_true (by omega)
    have hd2 : decide (t ≤ up) = false := decide_eq_false (by omega)
    clear HU HF
    go_enter Tryz.func96, Tryz.ntmps96
    go_upto_region 0 with (fail)
    go_quiet (fail)
    go_wp2
    go_end0
    refine ⟨⟨_, rfl⟩, ?_, Save.of_kept _ ((Kept.refl w).drewN _)⟩
    rw [N1.out.1, N1.out.2]
    exact HS.out
  have hd : decide (t ≥ fr) = true := decide_eq_true (by omega)
  have hd' : decide (fr ≤ t) = true := decide_eq_true (by omega)
  have hd2 : decide (t ≤ up) = true := decide_eq_true (by omega)
  have HU2 := Lib.hid (show ru = if frP z c t = true then t - 1 else up by rw [HU.out]; congr 1; exact propext ⟨fun q => q.2.2, fun q => ⟨by omega, by omega, q⟩⟩)
  have HF2 := Lib.hid (show rf = if frP z c t = true then t else fo by rw [HF.out]; congr 1; exact propext ⟨fun q => q.2.2, fun q => ⟨by omega, by omega, q⟩⟩)
  have HFR := Lib.hid (fun x hx => fires_any z c sl t x t1 t2 hx)
  clear HU HF
  generalize frP z c t = fs at *
  go_enter Tryz.func96, Tryz.ntmps96
  go_upto_region 0 with (fail)
  have KD := Lib.hid ((Kept.refl w).drew)
  clear a0 a1 a2 a3 a4 a5 a6 a7 a8 a9 a10 a11 a12 a13 a14 a15 a16 a17 a18 a19 a20 a21 a22 a23 a24 a25 a26 a27
  refine wp_region_held_drew (S := (fun y => y.cell? ⟨b, 0, none⟩ = some (.string ⟨z.std.toArray⟩) ∧ y.cell? ⟨b, 1, none⟩ = some (.int .i64 z.off) ∧ y.cell? ⟨b, 2, none⟩ = some (.bool z.has) ∧ y.cell? ⟨b, 3, none⟩ = some (.string ⟨z.dst.toArray⟩) ∧ y.cell? ⟨b, 4, none⟩ = some (.int .i64 z.ahead) ∧ y.cell? ⟨b, 5, none⟩ = some (.int .i64 z.fr.k) ∧ y.cell? ⟨b, 6, none⟩ = some (.int .i64 z.fr.m) ∧ y.cell? ⟨b, 7, none⟩ = some (.int .i64 z.fr.w) ∧ y.cell? ⟨b, 8, none⟩ = some (.int .i64 z.fr.d) ∧ y.cell? ⟨b, 9, none⟩ = some (.int .i64 z.fr.a) ∧ y.cell? ⟨b, 10, none⟩ = some (.int .i64 z.to.k) ∧ y.cell? ⟨b, 11, none⟩ = some (.int .i64 z.to.m) ∧ y.cell? ⟨b, 12, none⟩ = some (.int .i64 z.to.w) ∧ y.cell? ⟨b, 13, none⟩ = some (.int .i64 z.to.d) ∧ y.cell? ⟨b, 14, none⟩ = some (.int .i64 z.to.a) ∧ y.cell? ⟨b, 15, none⟩ = some (sl 0) ∧ y.cell? ⟨b, 16, none⟩ = some (sl 1) ∧ y.cell? ⟨b, 17, none⟩ = some (sl 2) ∧ y.cell? ⟨b, 18, none⟩ = some (sl 3) ∧ y.cell? ⟨b, 19, none⟩ = some (sl 4) ∧ y.cell? ⟨b, 20, none⟩ = some (.bool (c.st 0)) ∧ y.cell? ⟨b, 21, none⟩ = some (.bool (c.st 1)) ∧ y.cell? ⟨b, 22, none⟩ = some (.bool (c.st 2)) ∧ y.cell? ⟨b, 23, none⟩ = some (.bool (c.st 3)) ∧ y.cell? ⟨b, 24, none⟩ = some (.bool (c.st 4)) ∧ y.cell? ⟨b, 25, none⟩ = some (.int .i64 fr) ∧ y.cell? ⟨b, 26, none⟩ = some (.int .i64 up) ∧ y.cell? ⟨b, 27, none⟩ = some (.int .i64 fo))) (by kernel_rfl) (HS.out.kept KD.out).cells (fun hS0 => ?_)
  refine wpAnyH_take (i := 0) (oi := { dst := some 4, op := Go.Op.move (Go.Operand.tmp 1), type := 3, pos := "search.go:29", after := #[], guard := none }) (v := ?vt0) rfl (by kernel_rfl) (by kernel_rfl) (by kernel_rfl) (fun _ _ _ h => h) (Or.inl ⟨by rfl, ?yt0⟩) (by assumption) ?rt0
  case yt0 => (intro wq hSw; (try dsimp only at hSw); go_simp; try with_reducible rfl)
  simp only [Act.put, List.setIfInBounds_toArray, List.set_cons_zero, List.set_cons_succ]
  refine wpAnyH_take (i := 1) (oi := { dst := some 5, op := Go.Op.move (Go.Operand.tmp 0), type := 87, pos := "search.go:29", after := #[], guard := none }) (v := ?vt1) rfl (by kernel_rfl) (by kernel_rfl) (by kernel_rfl) (fun _ _ _ h => h) (Or.inl ⟨by rfl, ?yt1⟩) (by assumption) ?rt1
  case yt1 => (intro wq hSw; (try dsimp only at hSw); go_simp; try with_reducible rfl)
  simp only [Act.put, List.setIfInBounds_toArray, List.set_cons_zero, List.set_cons_succ]
  refine wpAnyH_take (i := 2) (oi := { dst := some 6, op := Go.Op.nilCheck (Go.Operand.tmp 5), type := 0, pos := "search.go:29", after := #[{ on := 1, ground := Go.Ground.data }], guard := none }) (v := ?vt2) rfl (by kernel_rfl) (by kernel_rfl) (by kernel_rfl) (fun _ _ _ h => h) (Or.inl ⟨by rfl, ?yt2⟩) (by assumption) ?rt2
  case yt2 => (intro wq hSw; (try dsimp only at hSw); go_simp; try with_reducible rfl)
  simp only [Act.put, List.setIfInBounds_toArray, List.set_cons_zero, List.set_cons_succ]
  refine wpAnyH_take (i := 3) (oi := { dst := some 7, op := Go.Op.fieldAddr 89 (Go.Operand.tmp 6) 2, type := 0, pos := "search.go:29", after := #[{ on := 2, ground := Go.Ground.data }], guard := none }) (v := ?vt3) rfl (by kernel_rfl) (by kernel_rfl) (by kernel_rfl) (fun _ _ _ h => h) (Or.inl ⟨by rfl, ?yt3⟩) (by assumption) ?rt3
  case yt3 => (intro wq hSw; (try dsimp only at hSw); go_simp; try with_reducible rfl)
  simp only [Act.put, List.setIfInBounds_toArray, List.set_cons_zero, List.set_cons_succ]
  refine wpAnyH_take (i := 4) (oi := { dst := some 8, op := Go.Op.load 3 (Go.Operand.tmp 7), type := 3, pos := "search.go:29", after := #[{ on := 3, ground := Go.Ground.data }], guard := none }) (v := ?vt4) rfl (by kernel_rfl) (by kernel_rfl) (by kernel_rfl) (fun _ _ _ h => h) (Or.inl ⟨by rfl, ?yt4⟩) (by assumption) ?rt4
  case yt4 => (intro wq hSw; (try dsimp only at hSw); go_simp; try with_reducible rfl)
  simp only [Act.put, List.setIfInBounds_toArray, List.set_cons_zero, List.set_cons_succ]
  refine wpAnyH_take (i := 5) (oi := { dst := some 9, op := Go.Op.binOp Go.BinOp.geq 3 (Go.Operand.tmp 4) (Go.Operand.tmp 8) 3, type := 4, pos := "search.go:29", after := #[{ on := 0, ground := Go.Ground.data }, { on := 4, ground := Go.Ground.data }], guard := none }) (v := ?vt5) rfl (by kernel_rfl) (by kernel_rfl) (by kernel_rfl) (fun _ _ _ h => h) (Or.inl ⟨by rfl, ?yt5⟩) (by assumption) ?rt5
  case yt5 => (intro wq hSw; (try dsimp only at hSw); go_simp; try with_reducible rfl)
  simp only [Act.put, List.setIfInBounds_toArray, List.set_cons_zero, List.set_cons_succ]
  refine wpAnyH_take (i := 6) (oi := { dst := some 10, op := Go.Op.move (Go.Operand.tmp 9), type := 4, pos := "search.go:29", after := #[{ on := 5, ground := Go.Ground.data }], guard := none }) (v := ?vt6) rfl (by kernel_rfl) (by kernel_rfl) (by kernel_rfl) (fun _ _ _ h => h) (Or.inl ⟨by rfl, ?yt6⟩) (by assumption) ?rt6
  case yt6 => (intro wq hSw; (try dsimp only at hSw); go_simp; try with_reducible rfl)
  simp only [Act.put, List.setIfInBounds_toArray, List.set_cons_zero, List.set_cons_succ]
  refine wpAnyH_take (i := 7) (oi := { dst := some 11, op := Go.Op.move (Go.Operand.tmp 1), type := 3, pos := "search.go:29", after := #[{ on := 6, ground := Go.Ground.guard }], guard := some (6, true) }) (v := ?vt7) rfl (by kernel_rfl) (by kernel_rfl) (by kernel_rfl) (fun _ _ _ h => h) (Or.inl ⟨by rfl, ?yt7⟩) (by assumption) ?rt7
  case yt7 => (intro wq hSw; (try dsimp only at hSw); go_simp; try with_reducible rfl)
  simp only [Act.put, List.setIfInBounds_toArray, List.set_cons_zero, List.set_cons_succ]
  refine wpAnyH_take (i := 8) (oi := { dst := some 12, op := Go.Op.move (Go.Operand.tmp 0), type := 87, pos := "search.go:29", after := #[{ on := 6, ground := Go.Ground.guard }], guard := some (6, true) }) (v := ?vt8) rfl (by kernel_rfl) (by kernel_rfl) (by kernel_rfl) (fun _ _ _ h => h) (Or.inl ⟨by rfl, ?yt8⟩) (by assumption) ?rt8
  case yt8 => (intro wq hSw; (try dsimp only at hSw); go_simp; try with_reducible rfl)
  simp only [Act.put, List.setIfInBounds_toArray, List.set_cons_zero, List.set_cons_succ]
  refine wpAnyH_take (i := 9) (oi := { dst := some 13, op := Go.Op.nilCheck (Go.Operand.tmp 12), type := 0, pos := "search.go:29", after := #[{ on := 8, ground := Go.Ground.data }, { on := 6, ground := Go.Ground.guard }], guard := some (6, true) }) (v := ?vt9) rfl (by kernel_rfl) (by kernel_rfl) (by kernel_rfl) (fun _ _ _ h => h) (Or.inl ⟨by rfl, ?yt9⟩) (by assumption) ?rt9
  case yt9 => (intro wq hSw; (try dsimp only at hSw); go_simp; try with_reducible rfl)
  simp only [Act.put, List.setIfInBounds_toArray, List.set_cons_zero, List.set_cons_succ]
  refine wpAnyH_take (i := 10) (oi := { dst := some 14, op := Go.Op.fieldAddr 89 (Go.Operand.tmp 13) 3, type := 0, pos := "search.go:29", after := #[{ on := 9, ground := Go.Ground.data }, { on := 6, ground := Go.Ground.guard }], guard := some (6, true) }) (v := ?vt10) rfl (by kernel_rfl) (by kernel_rfl) (by kernel_rfl) (fun _ _ _ h => h) (Or.inl ⟨by rfl, ?yt10⟩) (by assumption) ?rt10
  case yt10 => (intro wq hSw; (try dsimp only at hSw); go_simp; try with_reducible rfl)
  simp only [Act.put, List.setIfInBounds_toArray, List.set_cons_zero, List.set_cons_succ]
  refine wpAnyH_take (i := 11) (oi := { dst := some 15, op := Go.Op.load 3 (Go.Operand.tmp 14), type := 3, pos := "search.go:29", after := #[{ on := 10, ground := Go.Ground.data }, { on := 6, ground := Go.Ground.guard }], guard := some (6, true) }) (v := ?vt11) rfl (by kernel_rfl) (by kernel_rfl) (by kernel_rfl) (fun _ _ _ h => h) (Or.inl ⟨by rfl, ?yt11⟩) (by assumption) ?rt11
  case yt11 => (intro wq hSw; (try dsimp only at hSw); go_simp; try with_reducible rfl)
  simp only [Act.put, List.setIfInBounds_toArray, List.set_cons_zero, List.set_cons_succ]
  refine wpAnyH_take (i := 12) (oi := { dst := some 16, op := Go.Op.binOp Go.BinOp.leq 3 (Go.Operand.tmp 11) (Go.Operand.tmp 15) 3, type := 4, pos := "search.go:29", after := #[{ on := 7, ground := Go.Ground.data }, { on := 11, ground := Go.Ground.data }, { on := 6, ground := Go.Ground.guard }], guard := some (6, true) }) (v := ?vt12) rfl (by kernel_rfl) (by kernel_rfl) (by kernel_rfl) (fun _ _ _ h => h) (Or.inl ⟨by rfl, ?yt12⟩) (by assumption) ?rt12
  case yt12 => (intro wq hSw; (try dsimp only at hSw); go_simp; try with_reducible rfl)
  simp only [Act.put, List.setIfInBounds_toArray, List.set_cons_zero, List.set_cons_succ]
  refine wpAnyH_take (i := 13) (oi := { dst := some 17, op := Go.Op.pick (Go.Operand.tmp 10) (Go.Operand.tmp 16) (Go.Operand.const (Go.Value.bool false)), type := 4, pos := "search.go:29", after := #[{ on := 6, ground := Go.Ground.data }, { on := 12, ground := Go.Ground.data }], guard := none }) (v := ?vt13) rfl (by kernel_rfl) (by kernel_rfl) (by kernel_rfl) (fun _ _ _ h => h) (Or.inl ⟨by rfl, ?yt13⟩) (by assumption) ?rt13
  case yt13 => (intro wq hSw; (try dsimp only at hSw); go_simp; try with_reducible rfl)
  simp only [Act.put, List.setIfInBounds_toArray, List.set_cons_zero, List.set_cons_succ]
  refine wpAnyH_take (i := 14) (oi := { dst := some 18, op := Go.Op.move (Go.Operand.tmp 17), type := 4, pos := "search.go:29", after := #[{ on := 13, ground := Go.Ground.data }, { on := 6, ground := Go.Ground.chain }], guard := none }) (v := ?vt14) rfl (by kernel_rfl) (by kernel_rfl) (by kernel_rfl) (fun _ _ _ h => h) (Or.inl ⟨by rfl, ?yt14⟩) (by assumption) ?rt14
  case yt14 => (intro wq hSw; (try dsimp only at hSw); go_simp; try with_reducible rfl)
  simp only [Act.put, List.setIfInBounds_toArray, List.set_cons_zero, List.set_cons_succ]
  refine wpAnyH_take (i := 15) (oi := { dst := some 19, op := Go.Op.move (Go.Operand.tmp 0), type := 87, pos := "search.go:29", after := #[{ on := 14, ground := Go.Ground.guard }], guard := some (14, true) }) (v := ?vt15) rfl (by kernel_rfl) (by kernel_rfl) (by kernel_rfl) (fun _ _ _ h => h) (Or.inl ⟨by rfl, ?yt15⟩) (by assumption) ?rt15
  case yt15 => (intro wq hSw; (try dsimp only at hSw); go_simp; try with_reducible rfl)
  simp only [Act.put, List.setIfInBounds_toArray, List.set_cons_zero, List.set_cons_succ]
  refine wpAnyH_take (i := 16) (oi := { dst := some 20, op := Go.Op.nilCheck (Go.Operand.tmp 19), type := 0, pos := "search.go:29", after := #[{ on := 15, ground := Go.Ground.data }, { on := 14, ground := Go.Ground.guard }], guard := some (14, true) }) (v := ?vt16) rfl (by kernel_rfl) (by kernel_rfl) (by kernel_rfl) (fun _ _ _ h => h) (Or.inl ⟨by rfl, ?yt16⟩) (by assumption) ?rt16
  case yt16 => (intro wq hSw; (try dsimp only at hSw); go_simp; try with_reducible rfl)
  simp only [Act.put, List.setIfInBounds_toArray, List.set_cons_zero, List.set_cons_succ]
  refine wpAnyH_take (i := 17) (oi := { dst := some 21, op := Go.Op.fieldAddr 89 (Go.Operand.tmp 20) 0, type := 0, pos := "search.go:29", after := #[{ on := 16, ground := Go.Ground.data }, { on := 14, ground := Go.Ground.guard }], guard := some (14, true) }) (v := ?vt17) rfl (by kernel_rfl) (by kernel_rfl) (by kernel_rfl) (fun _ _ _ h => h) (Or.inl ⟨by rfl, ?yt17⟩) (by assumption) ?rt17
  case yt17 => (intro wq hSw; (try dsimp only at hSw); go_simp; try with_reducible rfl)
  simp only [Act.put, List.setIfInBounds_toArray, List.set_cons_zero, List.set_cons_succ]
  refine wpAnyH_take (i := 18) (oi := { dst := some 22, op := Go.Op.load 25 (Go.Operand.tmp 21), type := 25, pos := "search.go:29", after := #[{ on := 17, ground := Go.Ground.data }, { on := 14, ground := Go.Ground.guard }], guard := some (14, true) }) (v := ?vt18) rfl (by kernel_rfl) (by kernel_rfl) (by kernel_rfl) (fun _ _ _ h => h) (Or.inl ⟨by rfl, ?yt18⟩) (by assumption) ?rt18
  case yt18 => (intro wq hSw; (try dsimp only at hSw); go_simp; try with_reducible rfl)
  simp only [Act.put, List.setIfInBounds_toArray, List.set_cons_zero, List.set_cons_succ]
  refine wpAnyH_take (i := 19) (oi := { dst := some 23, op := Go.Op.move (Go.Operand.tmp 0), type := 87, pos := "search.go:29", after := #[{ on := 14, ground := Go.Ground.guard }], guard := some (14, true) }) (v := ?vt19) rfl (by kernel_rfl) (by kernel_rfl) (by kernel_rfl) (fun _ _ _ h => h) (Or.inl ⟨by rfl, ?yt19⟩) (by assumption) ?rt19
  case yt19 => (intro wq hSw; (try dsimp only at hSw); go_simp; try with_reducible rfl)
  simp only [Act.put, List.setIfInBounds_toArray, List.set_cons_zero, List.set_cons_succ]
  refine wpAnyH_take (i := 20) (oi := { dst := some 24, op := Go.Op.nilCheck (Go.Operand.tmp 23), type := 0, pos := "search.go:29", after := #[{ on := 19, ground := Go.Ground.data }, { on := 14, ground := Go.Ground.guard }], guard := some (14, true) }) (v := ?vt20) rfl (by kernel_rfl) (by kernel_rfl) (by kernel_rfl) (fun _ _ _ h => h) (Or.inl ⟨by rfl, ?yt20⟩) (by assumption) ?rt20
  case yt20 => (intro wq hSw; (try dsimp only at hSw); go_simp; try with_reducible rfl)
  simp only [Act.put, List.setIfInBounds_toArray, List.set_cons_zero, List.set_cons_succ]
  refine wpAnyH_take (i := 21) (oi := { dst := some 25, op := Go.Op.fieldAddr 89 (Go.Operand.tmp 24) 1, type := 0, pos := "search.go:29", after := #[{ on := 20, ground := Go.Ground.data }, { on := 14, ground := Go.Ground.guard }], guard := some (14, true) }) (v := ?vt21) rfl (by kernel_rfl) (by kernel_rfl) (by kernel_rfl) (fun _ _ _ h => h) (Or.inl ⟨by rfl, ?yt21⟩) (by assumption) ?rt21
  case yt21 => (intro wq hSw; (try dsimp only at hSw); go_simp; try with_reducible rfl)
  simp only [Act.put, List.setIfInBounds_toArray, List.set_cons_zero, List.set_cons_succ]
  refine wpAnyH_take (i := 22) (oi := { dst := some 26, op := Go.Op.load 30 (Go.Operand.tmp 25), type := 30, pos := "search.go:29", after := #[{ on := 21, ground := Go.Ground.data }, { on := 14, ground := Go.Ground.guard }], guard := some (14, true) }) (v := ?vt22) rfl (by kernel_rfl) (by kernel_rfl) (by kernel_rfl) (fun _ _ _ h => h) (Or.inl ⟨by rfl, ?yt22⟩) (by assumption) ?rt22
  case yt22 => (intro wq hSw; (try dsimp only at hSw); go_simp; try with_reducible rfl)
  simp only [Act.put, List.setIfInBounds_toArray, List.set_cons_zero, List.set_cons_succ]
  refine wpAnyH_take (i := 23) (oi := { dst := some 27, op := Go.Op.move (Go.Operand.tmp 1), type := 3, pos := "search.go:29", after := #[{ on := 14, ground := Go.Ground.guard }], guard := some (14, true) }) (v := ?vt23) rfl (by kernel_rfl) (by kernel_rfl) (by kernel_rfl) (fun _ _ _ h => h) (Or.inl ⟨by rfl, ?yt23⟩) (by assumption) ?rt23
  case yt23 => (intro wq hSw; (try dsimp only at hSw); go_simp; try with_reducible rfl)
  simp only [Act.put, List.setIfInBounds_toArray, List.set_cons_zero, List.set_cons_succ]
  refine wpAnyH_ready (rs := [24]) (by kernel_rfl) (by simp) (AllReadyH.cons (o := { dst := some 28, op := Go.Op.call { callee := Go.Callee.value (Go.Operand.func 15), args := #[Go.Operand.tmp 22, Go.Operand.tmp 26, Go.Operand.tmp 27], argTypes := #[25, 30, 3] }, type := 4, pos := "search.go:29", after := #[{ on := 18, ground := Go.Ground.data }, { on := 22, ground := Go.Ground.data }, { on := 23, ground := Go.Ground.data }, { on := 14, ground := Go.Ground.chain }, { on := 14, ground := Go.Ground.guard }], guard := some (14, true) }) rfl (fun K hK => ?_) AllReadyH.nil)
  go_simp
  go_at_call 15; refine (HFR.out _ (HC.out.kept KD.out)).mono ?_
  rintro e y1 ⟨rfl, q1⟩
  have Q1 := Lib.hid (KD.out.trans q1)
  clear q1
  refine Shut.out hK _ _ (HS.out.kept Q1.out).cells (fun hSb => ?_)
  clear hK K
  try simp only [Act.put, List.setIfInBounds_toArray, List.set_cons_zero, List.set_cons_succ]
  refine wpAnyH_take (i := 25) (oi := { dst := some 29, op := Go.Op.pick (Go.Operand.tmp 18) (Go.Operand.tmp 28) (Go.Operand.const (Go.Value.bool false)), type := 4, pos := "search.go:29", after := #[{ on := 14, ground := Go.Ground.data }, { on := 24, ground := Go.Ground.data }], guard := none }) (v := ?vt25) rfl (by kernel_rfl) (by kernel_rfl) (by kernel_rfl) (fun _ _ _ h => h) (Or.inl ⟨by rfl, ?yt25⟩) (by assumption) ?rt25
  case yt25 => (intro wq hSw; (try dsimp only at hSw); go_simp; try with_reducible rfl)
  simp only [Act.put, List.setIfInBounds_toArray, List.set_cons_zero, List.set_cons_succ]
  refine wpAnyH_done (by kernel_rfl) ?_ _
  clear hSb hS0 HFR
  have S1 := Lib.hid (HS.out.kept Q1.out)
  cases fs with
  | false =>
    go_wp2
    go_end0
    refine ⟨⟨_, rfl⟩, ?_, Save.of_kept _ Q1.out⟩
    rw [HU2.out, HF2.out]
    exact S1.out
  | true =>
    have u26 := cell_of S1.out (j := 26) rfl
    have u27 := cell_of S1.out (j := 27) rfl
    have f26 := S1.out.frz 26
    have f27 := S1.out.frz 27
    go_wp2
    go_end0
    refine ⟨⟨_, rfl⟩, ?_, ((Save.of_kept (fun k => k = b) Q1.out).trans (Save.set (p := ⟨b, 27, none⟩) _ rfl)).trans (Save.set (p := ⟨b, 26, none⟩) _ rfl)⟩
    rw [HU2.out, HF2.out]
    exact S1.out.found (t - 1) t
end Go.Proofs.YtilgamjahediiaaGreatDoor
