/- Rows of bytes of a call's own; what package xml writes. -/
import Derived.Test.YtknggeplnffegaaGreatDoorXwA
import Derived.Test.YtknggeplnffegaaGreatDoorXmX
import Derived.Test.YtknggeplnffegaaGreatDoorEnBd
import Derived.Test.YtknggeplnffegaaGreatDoorEnEnc
import Derived.Lib.AppendStr
import Derived.Deep.RegionHeld3
set_option linter.unusedVariables false
namespace Go.Proofs.YtknggeplnffegaaGreatDoor
open Go.ChangeShapes Go.WideShapes Go.ChangeAt Go.RowKit
open En Xm
/-- bytes in a slice of the call's own -/
def OwnB (B0 : Nat) (v : Value) (l : B) (w : World) : Prop := w.ownsRow B0 5 1 v l.length (Lib.byteCells l)
theorem OwnB.nil (B0 : Nat) (w : World) : OwnB B0 (.slice none 0 0) [] w := World.ownsRow_nil _ _ _ _
theorem OwnB.kept {B0 : Nat} {v : Value} {l : B} {w w' : World} (h : OwnB B0 v l w) (k : Kept w w') : OwnB B0 v l w' := own_keep h (k.grownBy none) (fun r hr => by cases hr)
theorem OwnB.rd {B0 : Nat} {v : Value} {l : B} {w : World} (h : OwnB B0 v l w) : BRd v l w := by
  obtain ⟨a, c, hv⟩ := own_slice h
  refine ⟨a, c, hv, fun hne => ?_⟩
  rcases h.2 with ⟨h1, h2⟩ | ⟨g, cap, cur, h1, _, _, hc, _⟩
  · exact absurd (List.length_eq_zero_iff.1 h2) hne
  · rw [h1] at hv
    cases hv
    refine ⟨g, 0, rfl, hc, fun i x hx => ?_⟩
    have h' := h
    rw [h1] at h'
    have := World.ownsRow.cells h' rfl i (.int .u8 x.toNat) (by simp [Lib.byteCells, hx])
    rwa [Addr.add_lit] at this
/-- a text more -/
theorem wp_strB {op : Oper} {a : Act} {w : World} {K : Act → World → Prop} {Q : Exit → Act → World → Prop} (sx x : Operand) (ho : op.op = .call { callee := .builtin .append, args := #[sx, x], argTypes := #[22, 9] })
    (B0 : Nat) (v : Value) (l t : B) (hs : a.eval sx = v) (hO : OwnB B0 v l w) (hx : a.eval x = .string ⟨t.toArray⟩) (hl : l.length + t.length ≤ 100000000000000) (hB : B0 ≤ w.heap.size)
    (h : ∀ v' w', OwnB B0 v' (l ++ t) w' → w.grownBy w' v.ownBlock → K (a.put op.dst v') w') : op.wp Tryz.prog a w K Q := by
  obtain ⟨i0, hi, hz0, hz1, hz2⟩ := info_parts info8
  have hsz : (ByteArray.mk t.toArray).size = t.length := List.size_toArray
  obtain ⟨v', w', hr, h2, h3, h4⟩ := Lib.run_append_own_string (P := Tryz.prog) w B0 22 9 op.type 5 i0 Tryz.underlying22 Tryz.underlying9 hi hz0 hz1 hz2 v l.length (Lib.byteCells l) hO ⟨t.toArray⟩ (by rw [hsz]; unfold maxLen; omega) (by rw [hsz]; omega) hB
  rw [hsz, str_cells, ← byteCells_app] at h2
  unfold Oper.wp execOp
  simp only [ho, resolve, invoke, builtin, Sem.run_bind, Sem.run_pure, Result.andThen_ok, List.map_toArray, List.map_cons, List.map_nil, hs, hx, hr]
  exact h v' w' (by unfold OwnB; rw [List.length_append]; exact h2) h3
/-- a byte more -/
theorem wp_byteB {op : Oper} {a : Act} {w : World} {K : Act → World → Prop} {Q : Exit → Act → World → Prop} (sx x : Operand) (ho : op.op = .call { callee := .builtin .append, args := #[sx, x], argTypes := #[22, 22] })
    (B0 : Nat) (v : Value) (l : B) (t : UInt8) (k : Nat) (hs : a.eval sx = v) (hO : OwnB B0 v l w) (hx : a.eval x = .slice (some ⟨k, 0, none⟩) 1 1) (hc : w.cell? ⟨k, 0, none⟩ = some (.int .u8 t.toNat)) (hl : l.length ≤ 100000000000000) (hB : B0 ≤ w.heap.size)
    (h : ∀ v' w', OwnB B0 v' (l ++ [t]) w' → w.grownBy w' v.ownBlock → K (a.put op.dst v') w') : op.wp Tryz.prog a w K Q := by
  obtain ⟨i0, hi, hz0, hz1, hz2⟩ := info_parts info8
  refine wp_append_own w sx x 22 ho B0 5 i0 _ 1 1 Tryz.underlying22 hi hz0 hz1 hz2 rfl (by decide) v l.length (Lib.byteCells l) hs hO ⟨k, 0, none⟩ 1 1 [.int .u8 t.toNat] hx rfl (fun j u hj => ?_) (fun u hu => by simp at hu; subst hu; rfl) (by unfold maxLen; omega) (by omega) hB ?_
  · match j, hj with
    | 0, hj => simp at hj; subst hj; simpa [Addr.add] using hc
  · intro v' w' h2 h3 _
    refine h v' w' ?_ h3
    unfold OwnB
    rw [List.length_append, byteCells_app]
    exact h2
theorem flat_le {α : Type} (f : α → B) (M : Nat) : ∀ {l : List α}, (∀ t ∈ l, (f t).length ≤ M) → (l.flatMap f).length ≤ l.length * M
  | [], _ => by simp
  | a :: l, h => by
    rw [List.flatMap_cons, List.length_append, List.length_cons, Nat.add_mul, Nat.one_mul]
    have h1 := h a (by simp)
    have h2 := flat_le f M (l := l) (fun t ht => h t (by simp [ht]))
    omega
theorem flat_take {α : Type} (f : α → B) (M : Nat) {l : List α} (h : ∀ t ∈ l, (f t).length ≤ M) (i : Nat) (hi : i ≤ l.length) : ((l.take i).flatMap f).length ≤ i * M := by
  have := flat_le f M (l := l.take i) (fun t ht => h t (List.mem_of_mem_take ht))
  rwa [List.length_take, Nat.min_eq_left hi] at this
theorem flat_succ {α : Type} (f : α → B) {l : List α} {i : Nat} {u : α} (hu : l[i]? = some u) : (l.take (i + 1)).flatMap f = (l.take i).flatMap f ++ f u := by
  rw [List.take_add_one, hu, List.flatMap_append]
  simp
def SmallA (al : List Atr) : Prop := al.length ≤ 12000 ∧ ∀ a ∈ al, a.1.length ≤ 12000 ∧ a.2.length ≤ 12000
theorem wrA_le {a : Atr} (h : a.1.length ≤ 12000 ∧ a.2.length ≤ 12000) : (wrA a).length ≤ 84010 := by
  have := enc_len a.2
  simp [wrA]
  omega
theorem wrA_split (a : Atr) : wrA a = [32] ++ a.1 ++ [61, 34] ++ enc a.2 ++ [34] := by simp [wrA]
theorem pair_new (x : World) (v v' : Value) (t : TypeId) : (x.alloc (.cells #[v, v'] t)).cell? ⟨x.heap.size, 0, none⟩ = some v ∧ (x.alloc (.cells #[v, v'] t)).cell? ⟨x.heap.size, 1, none⟩ = some v' :=
  ⟨(Kept.refl _).new 0 rfl, (Kept.refl _).new 1 rfl⟩
set_option maxRecDepth 100000 in
set_option maxHeartbeats 4000000 in
theorem attrs_any (v : Value) (al : List Atr) (w : World) (h : AtRd v al w) (hb : SmallA al) : Calls Tryz.prog 60 #[v] w fun e w' => e = .returned (sV (al.flatMap wrA)) ∧ Kept w w' := by
  obtain ⟨a, c, hv⟩ := h.slice
  subst hv
  have hl : al.length ≤ 12000 := hb.1
  have HBd := Lib.hid hb
  clear hb
  go_enter Tryz.func60, Tryz.ntmps60
  go_wp2_with fail
  go_loopw [3, 8] (fun vt vi wr => ∃ i : Nat, i ≤ al.length ∧ vi = .int .i64 i ∧ Hid (Kept w wr) ∧ Hid (OwnB w.heap.size vt ((al.take i).flatMap wrA) wr)) (fun _ vi _ => al.length - (intOf vi).toNat)
  case atStart => exact ⟨0, Nat.zero_le _, rfl, Lib.hid (Kept.refl w), Lib.hid (OwnB.nil _ _)⟩
  case round =>
    obtain ⟨i, hi, rfl, hK, hO⟩ := hrel
    rename_i vt _ wr
    obtain ⟨ta, tc, htv⟩ := own_slice hO.out
    subst htv
    by_cases hlt : i < al.length
    · have hltI : (i : Int) < al.length := by omega
      obtain ⟨u, hu⟩ : ∃ u, al[i]? = some u := ⟨_, List.getElem?_eq_getElem hlt⟩
      obtain ⟨-, g, o, ha, hc, f0, f1⟩ := (h.kept hK.out).at hu
      subst ha
      have hu1 := HBd.out.2 u (List.mem_of_getElem? hu)
      have HW := Lib.hid (flat_succ wrA hu)
      have hbt := flat_take wrA 84010 (fun t ht => wrA_le (HBd.out.2 t ht)) i hi
      have hbt : ((al.take i).flatMap wrA).length ≤ 1100000000 := by omega
      clear hu
      generalize (al.take i).flatMap wrA = D at *
      have hne : (Value.slice ta D.length tc).ownBlock ≠ some wr.heap.size := fun e => by have := (World.ownsRow.lt hO.out _ e).2; omega
      go_upto_region 5 with (fail)
      have c01 := pair_new wr (sV u.1) (sV u.2) 44
      have kx : Kept wr (wr.alloc (.cells #[sV u.1, sV u.2] 44)) := (Kept.refl wr).alloc _
      have KX := Lib.hid (hK.out.trans kx)
      have OX := Lib.hid (hO.out.kept kx)
      generalize wr.alloc (.cells #[sV u.1, sV u.2] 44) = X at *
      generalize wr.heap.size = k at *
      obtain ⟨c0, c1⟩ := c01
      have c0d : X.drew.cell? ⟨k, 0, none⟩ = some (sV u.1) := c0
      have c1d : X.drew.cell? ⟨k, 1, none⟩ = some (sV u.2) := c1
      have HW2 := Lib.hid (HW.out.trans (by rw [wrA_split u]))
      clear HW
      have le := enc_len u.2
      have P1 : (⟨#[32]⟩ ++ ⟨u.1.toArray⟩ : ByteArray) = ⟨([32] ++ u.1).toArray⟩ := str_app [32] u.1
      have l1 : ([32] ++ u.1).length = 1 + u.1.length := by simp; omega
      generalize [32] ++ u.1 = A1 at *
      have P2 : (⟨A1.toArray⟩ ++ ⟨#[61, 34]⟩ : ByteArray) = ⟨(A1 ++ [61, 34]).toArray⟩ := str_app A1 [61, 34]
      have l2 : (A1 ++ [61, 34]).length = A1.length + 2 := by simp
      generalize A1 ++ [61, 34] = A2 at *
      have P3 : (⟨A2.toArray⟩ ++ ⟨(enc u.2).toArray⟩ : ByteArray) = ⟨(A2 ++ enc u.2).toArray⟩ := str_app A2 (enc u.2)
      have l3 : (A2 ++ enc u.2).length = A2.length + (enc u.2).length := by simp
      generalize A2 ++ enc u.2 = A3 at *
      have P4 : (⟨A3.toArray⟩ ++ ⟨#[34]⟩ : ByteArray) = ⟨(A3 ++ [34]).toArray⟩ := str_app A3 [34]
      have l4 : (A3 ++ [34]).length = A3.length + 1 := by simp
      generalize A3 ++ [34] = A4 at *
      have n1 : ¬ 9223372036854775807 < 1 + u.1.length := by omega
      have n2 : ¬ 9223372036854775807 < 1 + u.1.length + 2 := by omega
      have n3 : ¬ 9223372036854775807 < 1 + u.1.length + 2 + (enc u.2).length := by omega
      have n4 : ¬ 9223372036854775807 < 1 + u.1.length + 2 + (enc u.2).length + 1 := by omega
      clear c0 c1 f0 f1 kx hO hK
      have hwx : w.heap.size ≤ X.heap.size := KX.out.size
      refine wp_region_held_drew (S := (fun y => y.cell? ⟨k, 0, none⟩ = some (sV u.1) ∧ y.cell? ⟨k, 1, none⟩ = some (sV u.2))) (by kernel_rfl) ⟨c0d, c1d⟩ (fun hS0 => ?_)
      refine wpAnyH_take (i := 0) (oi := { dst := some 12, op := Go.Op.move (Go.Operand.tmp 3), type := 22, pos := "writer.go:41", after := #[], guard := none }) (v := ?va0) rfl (by kernel_rfl) (by kernel_rfl) (by kernel_rfl) (fun _ _ _ h => h) (Or.inl ⟨by rfl, ?ya0⟩) (by assumption) ?ra0
      case ya0 => (intro wq hSw; (try dsimp only at hSw); go_simp; try with_reducible rfl)
      simp only [Act.put, List.setIfInBounds_toArray, List.set_cons_zero, List.set_cons_succ]
      refine wpAnyH_take (i := 1) (oi := { dst := some 13, op := Go.Op.fieldAddr 44 (Go.Operand.tmp 5) 0, type := 0, pos := "writer.go:41", after := #[], guard := none }) (v := ?va1) rfl (by kernel_rfl) (by kernel_rfl) (by kernel_rfl) (fun _ _ _ h => h) (Or.inl ⟨by rfl, ?ya1⟩) (by assumption) ?ra1
      case ya1 => (intro wq hSw; (try dsimp only at hSw); go_simp; try with_reducible rfl)
      simp only [Act.put, List.setIfInBounds_toArray, List.set_cons_zero, List.set_cons_succ]
      refine wpAnyH_take (i := 2) (oi := { dst := some 14, op := Go.Op.load 9 (Go.Operand.tmp 13), type := 9, pos := "writer.go:41", after := #[{ on := 1, ground := Go.Ground.data }], guard := none }) (v := ?va2) rfl (by kernel_rfl) (by kernel_rfl) (by kernel_rfl) (fun _ _ _ h => h) (Or.inl ⟨by rfl, ?ya2⟩) (by assumption) ?ra2
      case ya2 => (intro wq hSw; (try dsimp only at hSw); go_simp; try with_reducible rfl)
      simp only [Act.put, List.setIfInBounds_toArray, List.set_cons_zero, List.set_cons_succ]
      refine wpAnyH_take (i := 3) (oi := { dst := some 15, op := Go.Op.binOp Go.BinOp.add 9 (Go.Operand.const (Go.Value.string { data := #[32] })) (Go.Operand.tmp 14) 9, type := 9, pos := "writer.go:41", after := #[{ on := 2, ground := Go.Ground.data }], guard := none }) (v := ?va3) rfl (by kernel_rfl) (by kernel_rfl) (by kernel_rfl) (fun _ _ _ h => h) (Or.inl ⟨by rfl, ?ya3⟩) (by assumption) ?ra3
      case ya3 => (intro wq hSw; (try dsimp only at hSw); go_simp; try with_reducible rfl)
      simp only [Act.put, List.setIfInBounds_toArray, List.set_cons_zero, List.set_cons_succ]
      refine wpAnyH_take (i := 4) (oi := { dst := some 16, op := Go.Op.binOp Go.BinOp.add 9 (Go.Operand.tmp 15) (Go.Operand.const (Go.Value.string { data := #[61, 34] })) 9, type := 9, pos := "writer.go:41", after := #[{ on := 3, ground := Go.Ground.data }], guard := none }) (v := ?va4) rfl (by kernel_rfl) (by kernel_rfl) (by kernel_rfl) (fun _ _ _ h => h) (Or.inl ⟨by rfl, ?ya4⟩) (by assumption) ?ra4
      case ya4 => (intro wq hSw; (try dsimp only at hSw); go_simp; try with_reducible rfl)
      simp only [Act.put, List.setIfInBounds_toArray, List.set_cons_zero, List.set_cons_succ]
      refine wpAnyH_take (i := 5) (oi := { dst := some 17, op := Go.Op.fieldAddr 44 (Go.Operand.tmp 5) 1, type := 0, pos := "writer.go:41", after := #[], guard := none }) (v := ?va5) rfl (by kernel_rfl) (by kernel_rfl) (by kernel_rfl) (fun _ _ _ h => h) (Or.inl ⟨by rfl, ?ya5⟩) (by assumption) ?ra5
      case ya5 => (intro wq hSw; (try dsimp only at hSw); go_simp; try with_reducible rfl)
      simp only [Act.put, List.setIfInBounds_toArray, List.set_cons_zero, List.set_cons_succ]
      refine wpAnyH_take (i := 6) (oi := { dst := some 18, op := Go.Op.load 9 (Go.Operand.tmp 17), type := 9, pos := "writer.go:41", after := #[{ on := 5, ground := Go.Ground.data }], guard := none }) (v := ?va6) rfl (by kernel_rfl) (by kernel_rfl) (by kernel_rfl) (fun _ _ _ h => h) (Or.inl ⟨by rfl, ?ya6⟩) (by assumption) ?ra6
      case ya6 => (intro wq hSw; (try dsimp only at hSw); go_simp; try with_reducible rfl)
      simp only [Act.put, List.setIfInBounds_toArray, List.set_cons_zero, List.set_cons_succ]
      refine wpAnyH_ready (rs := [7]) (by kernel_rfl) (by simp) (AllReadyH.cons (o := { dst := some 19, op := Go.Op.call { callee := Go.Callee.value (Go.Operand.func 61), args := #[Go.Operand.tmp 18], argTypes := #[9] }, type := 9, pos := "writer.go:41", after := #[{ on := 6, ground := Go.Ground.data }], guard := none }) rfl (fun K hK => ?_) AllReadyH.nil)
      go_simp
      go_at_call 61
      refine (encode_any u.2 _ (by omega)).mono ?_
      rintro e Y ⟨rfl, ky⟩
      have KXd : Kept w Y := KX.out.drew.trans ky
      have KY := Lib.hid KXd
      have OY := Lib.hid ((OX.out.kept ((Kept.refl X).drew)).kept ky)
      have e0 := ky.yes c0d
      have e1 := ky.yes c1d
      have hwy : w.heap.size ≤ Y.heap.size := KXd.size
      clear KXd ky KX OX
      refine Shut.out hK _ _ ⟨e0, e1⟩ (fun hSb => ?_)
      clear hK K
      try simp only [Act.put, List.setIfInBounds_toArray, List.set_cons_zero, List.set_cons_succ]
      refine wpAnyH_take (i := 8) (oi := { dst := some 20, op := Go.Op.binOp Go.BinOp.add 9 (Go.Operand.tmp 16) (Go.Operand.tmp 19) 9, type := 9, pos := "writer.go:41", after := #[{ on := 4, ground := Go.Ground.data }, { on := 7, ground := Go.Ground.data }], guard := none }) (v := ?va8) rfl (by kernel_rfl) (by kernel_rfl) (by kernel_rfl) (fun _ _ _ h => h) (Or.inl ⟨by rfl, ?ya8⟩) (by assumption) ?ra8
      case ya8 => (intro wq hSw; (try dsimp only at hSw); go_simp; try with_reducible rfl)
      simp only [Act.put, List.setIfInBounds_toArray, List.set_cons_zero, List.set_cons_succ]
      refine wpAnyH_take (i := 9) (oi := { dst := some 21, op := Go.Op.binOp Go.BinOp.add 9 (Go.Operand.tmp 20) (Go.Operand.const (Go.Value.string { data := #[34] })) 9, type := 9, pos := "writer.go:41", after := #[{ on := 8, ground := Go.Ground.data }], guard := none }) (v := ?va9) rfl (by kernel_rfl) (by kernel_rfl) (by kernel_rfl) (fun _ _ _ h => h) (Or.inl ⟨by rfl, ?ya9⟩) (by assumption) ?ra9
      case ya9 => (intro wq hSw; (try dsimp only at hSw); go_simp; try with_reducible rfl)
      simp only [Act.put, List.setIfInBounds_toArray, List.set_cons_zero, List.set_cons_succ]
      refine wpAnyH_ready (rs := [10]) (by kernel_rfl) (by simp) (AllReadyH.cons (o := { dst := some 22, op := Go.Op.call { callee := Go.Callee.builtin Go.Builtin.append, args := #[Go.Operand.tmp 12, Go.Operand.tmp 21], argTypes := #[22, 9] }, type := 22, pos := "writer.go:41", after := #[{ on := 0, ground := Go.Ground.data }, { on := 9, ground := Go.Ground.data }, { on := 7, ground := Go.Ground.chain }], guard := none }) rfl (fun K hK => ?_) AllReadyH.nil)
      rw [if_pos (by rfl)]
      refine wp_strB (.tmp 12) (.tmp 21) rfl w.heap.size (.slice ta D.length tc) D A4 (by rfl) OY.out (by rfl) (by omega) hwy ?_
      intro v' z hz hgz
      have hzk := kept_row KY.out hgz (fun g hg => (World.ownsRow.lt OY.out g hg).1)
      have z0 := grown_cell hgz e0 hne
      have z1 := grown_cell hgz e1 hne
      generalize D ++ A4 = D2 at *
      obtain ⟨va, vc, hvv⟩ := own_slice hz
      subst hvv
      have KZ := Lib.hid hzk
      have OZ := Lib.hid hz
      clear hzk hz hgz OY KY e0 e1
      refine Shut.out hK _ _ ⟨z0, z1⟩ (fun hSb => ?_)
      clear hK K
      try simp only [Act.put, List.setIfInBounds_toArray, List.set_cons_zero, List.set_cons_succ]
      refine wpAnyH_take (i := 11) (oi := { dst := some 3, op := Go.Op.assign (Go.Operand.tmp 22), type := 22, pos := "writer.go:41", after := #[{ on := 10, ground := Go.Ground.data }, { on := 10, ground := Go.Ground.chain }, { on := 0, ground := Go.Ground.phase }, { on := 1, ground := Go.Ground.phase }, { on := 2, ground := Go.Ground.phase }, { on := 3, ground := Go.Ground.phase }, { on := 4, ground := Go.Ground.phase }, { on := 5, ground := Go.Ground.phase }, { on := 6, ground := Go.Ground.phase }, { on := 7, ground := Go.Ground.phase }, { on := 8, ground := Go.Ground.phase }, { on := 9, ground := Go.Ground.phase }, { on := 10, ground := Go.Ground.phase }], guard := none }) (v := ?va11) rfl (by kernel_rfl) (by kernel_rfl) (by kernel_rfl) (fun _ _ _ h => h) (Or.inl ⟨by rfl, ?ya11⟩) (by assumption) ?ra11
      case ya11 => (intro wq hSw; (try dsimp only at hSw); go_simp; try with_reducible rfl)
      simp only [Act.put, List.setIfInBounds_toArray, List.set_cons_zero, List.set_cons_succ]
      refine wpAnyH_done (by kernel_rfl) ?_ _
      have OF := Lib.hid (show OwnB w.heap.size (.slice va D2.length vc) ((al.take (i + 1)).flatMap wrA) z by rw [HW2.out]; exact OZ.out)
      clear OZ z0 z1
      go_wp2
      go_roundw
      case rel => exact ⟨i + 1, hlt, by go_num, KZ, OF⟩
      case measure => simp [intOf]; omega
    · have hltI : ¬ (i : Int) < al.length := by omega
      have HFin := Lib.hid (show (al.take i).flatMap wrA = al.flatMap wrA by rw [List.take_of_length_le (by omega)])
      generalize (al.take i).flatMap wrA = D at *
      have hcv := hO.out.rd.conv
      go_wp2
      go_ret
      exact ⟨by rw [HFin.out]; rfl, hK.out⟩
end Go.Proofs.YtknggeplnffegaaGreatDoor
