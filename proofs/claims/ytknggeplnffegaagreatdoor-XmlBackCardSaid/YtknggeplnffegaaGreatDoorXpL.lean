/- Package xml: what is written of a piece, of pieces; Write. -/
import Derived.Test.YtknggeplnffegaaGreatDoorXpK
set_option linter.unusedVariables false
namespace Go.Proofs.YtknggeplnffegaaGreatDoor
open Go.ChangeShapes Go.WideShapes Go.ChangeAt Go.RowKit
open En Xm
theorem quad_at (x : World) (a b c d : Value) (t : TypeId) : (x.alloc (.cells #[a, b, c, d] t)).cell? ⟨x.heap.size, 0, none⟩ = some a ∧ (x.alloc (.cells #[a, b, c, d] t)).cell? ⟨x.heap.size, 1, none⟩ = some b ∧ (x.alloc (.cells #[a, b, c, d] t)).cell? ⟨x.heap.size, 2, none⟩ = some c ∧ (x.alloc (.cells #[a, b, c, d] t)).cell? ⟨x.heap.size, 3, none⟩ = some d :=
  ⟨(Kept.refl _).new 0 rfl, (Kept.refl _).new 1 rfl, (Kept.refl _).new 2 rfl, (Kept.refl _).new 3 rfl⟩
def SmallK (t : Tk) : Prop := t.2.1.length ≤ 12000 ∧ t.2.2.1.length ≤ 12000 ∧ SmallA t.2.2.2
def IsKd (k : Int) : Prop := k = 0 ∨ k = 1 ∨ k = 2
def PtP (t : Tk) (w : World) (e : Ending) (w' : World) : Prop := Kept w w' ∧ ((IsKd t.1 ∧ e = .returned (.tuple #[sV (wrK t), .bool true])) ∨ (¬ IsKd t.1 ∧ e = .returned (.tuple #[sV [], .bool false])))
theorem flatA_le {al : List Atr} (h : SmallA al) : (al.flatMap wrA).length ≤ 1100000000 := by
  have := flat_le wrA 84010 (l := al) (fun t ht => wrA_le (h.2 t ht))
  have := h.1
  omega
theorem wrK_le {t : Tk} (h : SmallK t) : (wrK t).length ≤ 1100100000 := by
  have h1 := flatA_le h.2.2
  have h2 := enc_len t.2.2.1
  have h3 := h.1; have h4 := h.2.1
  unfold wrK
  split
  · simp only [List.length_append, List.length_cons, List.length_nil]; omega
  · split
    · simp only [List.length_append, List.length_cons, List.length_nil]; omega
    · omega
theorem wrK0 (n s : B) (al : List Atr) : wrK (0, n, s, al) = [60] ++ n ++ al.flatMap wrA ++ [62] := by simp [wrK]
theorem wrK1 (n s : B) (al : List Atr) : wrK (1, n, s, al) = [60, 47] ++ n ++ [62] := by simp [wrK]
theorem wrK2 (k : Int) (n s : B) (al : List Atr) (h0 : k ≠ 0) (h1 : k ≠ 1) : wrK (k, n, s, al) = enc s := by simp [wrK, h0, h1]
set_option maxRecDepth 100000 in
set_option maxHeartbeats 4000000 in
theorem piece_any (t : Tk) (v : Value) (w : World) (h : AtRd v t.2.2.2 w) (hs : SmallK t) : Calls Tryz.prog 42 #[tkV t v] w (PtP t w) := by
  obtain ⟨kd, n, s, al⟩ := t
  simp only at h
  obtain ⟨hn, hst, hA⟩ := hs
  simp only at hn hst hA
  obtain ⟨a, c, hv⟩ := h.slice
  subst hv
  have HX := Lib.hid h
  have HA := Lib.hid hA
  have hal := flatA_le hA
  clear h hA
  have Hw : ∀ W : World, w.alloc (.cells #[iV kd, sV n, sV s, .slice a al.length c] 38) = W → Kept w W := fun W e => e ▸ (Kept.refl w).alloc _
  have tq := quad_at w (iV kd) (sV n) (sV s) (.slice a al.length c) 38
  by_cases h0 : kd = 0
  · subst h0
    go_enter Tryz.func42, Tryz.ntmps42
    go_upto_region 3 with (fail)
    generalize hW : w.alloc (.cells #[iV 0, sV n, sV s, .slice a al.length c] 38) = W at *
    have KW := Lib.hid (Hw W rfl)
    clear Hw hW
    generalize w.heap.size = k at *
    obtain ⟨t0, t1, t2, t3⟩ := tq
    have t1d : W.drew.cell? ⟨k, 1, none⟩ = some (sV n) := t1
    have t3d : W.drew.cell? ⟨k, 3, none⟩ = some (.slice a al.length c) := t3
    have P1 : (⟨#[60]⟩ ++ ⟨n.toArray⟩ : ByteArray) = ⟨([60] ++ n).toArray⟩ := str_app [60] n
    have P2 : (⟨([60] ++ n).toArray⟩ ++ ⟨(al.flatMap wrA).toArray⟩ : ByteArray) = ⟨([60] ++ n ++ al.flatMap wrA).toArray⟩ := str_app ([60] ++ n) _
    have P3 : (⟨([60] ++ n ++ al.flatMap wrA).toArray⟩ ++ ⟨#[62]⟩ : ByteArray) = ⟨([60] ++ n ++ al.flatMap wrA ++ [62]).toArray⟩ := str_app _ [62]
    have HW0 := Lib.hid (wrK0 n s al)
    have l1 : ([60] ++ n).length = 1 + n.length := by simp; omega
    have l2 : ([60] ++ n ++ al.flatMap wrA).length = ([60] ++ n).length + (al.flatMap wrA).length := List.length_append
    have AT := Lib.hid (fun y ky => attrs_any (.slice a al.length c) al y (HX.out.kept ky) HA.out)
    generalize al.flatMap wrA = D at *
    generalize [60] ++ n = A1 at *
    generalize A1 ++ D = A2 at *
    generalize A2 ++ [62] = A3 at *
    have n1 : ¬ 9223372036854775807 < 1 + n.length := by omega
    have n2 : ¬ 9223372036854775807 < 1 + n.length + D.length := by omega
    have n3 : ¬ 9223372036854775807 < 1 + n.length + D.length + 1 := by omega
    clear t0 t1 t2 t3
    refine wp_region_held_drew (S := (fun y => y.cell? ⟨k, 1, none⟩ = some (sV n) ∧ y.cell? ⟨k, 3, none⟩ = some (.slice a al.length c))) (by kernel_rfl) ⟨t1d, t3d⟩ (fun hS0 => ?_)
    refine wpAnyH_take (i := 0) (oi := { dst := some 8, op := Go.Op.fieldAddr 38 (Go.Operand.tmp 1) 1, type := 0, pos := "writer.go:29", after := #[], guard := none }) (v := ?va0) rfl (by kernel_rfl) (by kernel_rfl) (by kernel_rfl) (fun _ _ _ h => h) (Or.inl ⟨by rfl, ?ya0⟩) (by assumption) ?ra0
    case ya0 => (intro wq hSw; (try dsimp only at hSw); go_simp; try with_reducible rfl)
    simp only [Act.put, List.setIfInBounds_toArray, List.set_cons_zero, List.set_cons_succ]
    refine wpAnyH_take (i := 1) (oi := { dst := some 9, op := Go.Op.load 9 (Go.Operand.tmp 8), type := 9, pos := "writer.go:29", after := #[{ on := 0, ground := Go.Ground.data }], guard := none }) (v := ?va1) rfl (by kernel_rfl) (by kernel_rfl) (by kernel_rfl) (fun _ _ _ h => h) (Or.inl ⟨by rfl, ?ya1⟩) (by assumption) ?ra1
    case ya1 => (intro wq hSw; (try dsimp only at hSw); go_simp; try with_reducible rfl)
    simp only [Act.put, List.setIfInBounds_toArray, List.set_cons_zero, List.set_cons_succ]
    refine wpAnyH_take (i := 2) (oi := { dst := some 10, op := Go.Op.binOp Go.BinOp.add 9 (Go.Operand.const (Go.Value.string { data := #[60] })) (Go.Operand.tmp 9) 9, type := 9, pos := "writer.go:29", after := #[{ on := 1, ground := Go.Ground.data }], guard := none }) (v := ?va2) rfl (by kernel_rfl) (by kernel_rfl) (by kernel_rfl) (fun _ _ _ h => h) (Or.inl ⟨by rfl, ?ya2⟩) (by assumption) ?ra2
    case ya2 => (intro wq hSw; (try dsimp only at hSw); go_simp; try with_reducible rfl)
    simp only [Act.put, List.setIfInBounds_toArray, List.set_cons_zero, List.set_cons_succ]
    refine wpAnyH_take (i := 3) (oi := { dst := some 11, op := Go.Op.fieldAddr 38 (Go.Operand.tmp 1) 3, type := 0, pos := "writer.go:29", after := #[], guard := none }) (v := ?va3) rfl (by kernel_rfl) (by kernel_rfl) (by kernel_rfl) (fun _ _ _ h => h) (Or.inl ⟨by rfl, ?ya3⟩) (by assumption) ?ra3
    case ya3 => (intro wq hSw; (try dsimp only at hSw); go_simp; try with_reducible rfl)
    simp only [Act.put, List.setIfInBounds_toArray, List.set_cons_zero, List.set_cons_succ]
    refine wpAnyH_take (i := 4) (oi := { dst := some 12, op := Go.Op.load 36 (Go.Operand.tmp 11), type := 36, pos := "writer.go:29", after := #[{ on := 3, ground := Go.Ground.data }], guard := none }) (v := ?va4) rfl (by kernel_rfl) (by kernel_rfl) (by kernel_rfl) (fun _ _ _ h => h) (Or.inl ⟨by rfl, ?ya4⟩) (by assumption) ?ra4
    case ya4 => (intro wq hSw; (try dsimp only at hSw); go_simp; try with_reducible rfl)
    simp only [Act.put, List.setIfInBounds_toArray, List.set_cons_zero, List.set_cons_succ]
    refine wpAnyH_ready (rs := [5]) (by kernel_rfl) (by simp) (AllReadyH.cons (o := { dst := some 13, op := Go.Op.call { callee := Go.Callee.value (Go.Operand.func 60), args := #[Go.Operand.tmp 12], argTypes := #[36] }, type := 9, pos := "writer.go:29", after := #[{ on := 4, ground := Go.Ground.data }], guard := none }) rfl (fun K hK => ?_) AllReadyH.nil)
    go_simp
    go_at_call 60
    refine (AT.out _ (KW.out.drew)).mono ?_
    rintro e y ⟨rfl, ky⟩
    have KY := Lib.hid (KW.out.drew.trans ky)
    have g1 := ky.yes t1d
    have g2 := ky.yes t3d
    clear ky KW AT
    refine Shut.out hK _ _ ⟨g1, g2⟩ (fun hSb => ?_)
    clear hK K
    try simp only [Act.put, List.setIfInBounds_toArray, List.set_cons_zero, List.set_cons_succ]
    refine wpAnyH_take (i := 6) (oi := { dst := some 14, op := Go.Op.binOp Go.BinOp.add 9 (Go.Operand.tmp 10) (Go.Operand.tmp 13) 9, type := 9, pos := "writer.go:29", after := #[{ on := 2, ground := Go.Ground.data }, { on := 5, ground := Go.Ground.data }], guard := none }) (v := ?va6) rfl (by kernel_rfl) (by kernel_rfl) (by kernel_rfl) (fun _ _ _ h => h) (Or.inl ⟨by rfl, ?ya6⟩) (by assumption) ?ra6
    case ya6 => (intro wq hSw; (try dsimp only at hSw); go_simp; try with_reducible rfl)
    simp only [Act.put, List.setIfInBounds_toArray, List.set_cons_zero, List.set_cons_succ]
    refine wpAnyH_take (i := 7) (oi := { dst := some 15, op := Go.Op.binOp Go.BinOp.add 9 (Go.Operand.tmp 14) (Go.Operand.const (Go.Value.string { data := #[62] })) 9, type := 9, pos := "writer.go:29", after := #[{ on := 6, ground := Go.Ground.data }], guard := none }) (v := ?va7) rfl (by kernel_rfl) (by kernel_rfl) (by kernel_rfl) (fun _ _ _ h => h) (Or.inl ⟨by rfl, ?ya7⟩) (by assumption) ?ra7
    case ya7 => (intro wq hSw; (try dsimp only at hSw); go_simp; try with_reducible rfl)
    simp only [Act.put, List.setIfInBounds_toArray, List.set_cons_zero, List.set_cons_succ]
    refine wpAnyH_take (i := 8) (oi := { dst := some 2, op := Go.Op.assign (Go.Operand.tmp 15), type := 9, pos := "writer.go:29", after := #[{ on := 7, ground := Go.Ground.data }, { on := 5, ground := Go.Ground.chain }, { on := 0, ground := Go.Ground.phase }, { on := 1, ground := Go.Ground.phase }, { on := 2, ground := Go.Ground.phase }, { on := 3, ground := Go.Ground.phase }, { on := 4, ground := Go.Ground.phase }, { on := 5, ground := Go.Ground.phase }, { on := 6, ground := Go.Ground.phase }, { on := 7, ground := Go.Ground.phase }], guard := none }) (v := ?va8) rfl (by kernel_rfl) (by kernel_rfl) (by kernel_rfl) (fun _ _ _ h => h) (Or.inl ⟨by rfl, ?ya8⟩) (by assumption) ?ra8
    case ya8 => (intro wq hSw; (try dsimp only at hSw); go_simp; try with_reducible rfl)
    simp only [Act.put, List.setIfInBounds_toArray, List.set_cons_zero, List.set_cons_succ]
    refine wpAnyH_take (i := 9) (oi := { dst := some 3, op := Go.Op.assign (Go.Operand.const (Go.Value.bool true)), type := 4, pos := "writer.go:29", after := #[{ on := 8, ground := Go.Ground.chain }, { on := 0, ground := Go.Ground.phase }, { on := 1, ground := Go.Ground.phase }, { on := 2, ground := Go.Ground.phase }, { on := 3, ground := Go.Ground.phase }, { on := 4, ground := Go.Ground.phase }, { on := 5, ground := Go.Ground.phase }, { on := 6, ground := Go.Ground.phase }, { on := 7, ground := Go.Ground.phase }, { on := 8, ground := Go.Ground.phase }], guard := none }) (v := ?va9) rfl (by kernel_rfl) (by kernel_rfl) (by kernel_rfl) (fun _ _ _ h => h) (Or.inl ⟨by rfl, ?ya9⟩) (by assumption) ?ra9
    case ya9 => (intro wq hSw; (try dsimp only at hSw); go_simp; try with_reducible rfl)
    simp only [Act.put, List.setIfInBounds_toArray, List.set_cons_zero, List.set_cons_succ]
    refine wpAnyH_done (by kernel_rfl) ?_ _
    clear g1 g2 P1 P2 P3 l1 l2 n1 n2 n3
    go_wp2
    go_ret2
    exact ⟨KY.out, Or.inl ⟨Or.inl rfl, by rw [HW0.out]; rfl⟩⟩
  by_cases h1 : kd = 1
  · subst h1
    go_enter Tryz.func42, Tryz.ntmps42
    go_upto_region 5 with (fail)
    generalize hW : w.alloc (.cells #[iV 1, sV n, sV s, .slice a al.length c] 38) = W at *
    have KW := Lib.hid (Hw W rfl)
    clear Hw hW
    obtain ⟨t0, t1, t2, t3⟩ := tq
    have P1 : (⟨#[60, 47]⟩ ++ ⟨n.toArray⟩ : ByteArray) = ⟨([60, 47] ++ n).toArray⟩ := str_app [60, 47] n
    have P2 : (⟨([60, 47] ++ n).toArray⟩ ++ ⟨#[62]⟩ : ByteArray) = ⟨([60, 47] ++ n ++ [62]).toArray⟩ := str_app ([60, 47] ++ n) [62]
    have l1 : ([60, 47] ++ n).length = 2 + n.length := by simp; omega
    have HW1 := Lib.hid (wrK1 n s al)
    generalize [60, 47] ++ n = A1 at *
    generalize A1 ++ [62] = A2 at *
    have n1 : ¬ 9223372036854775807 < 2 + n.length := by omega
    have n2 : ¬ 9223372036854775807 < 2 + n.length + 1 := by omega
    go_wp2
    go_ret2
    exact ⟨KW.out, Or.inl ⟨Or.inr (Or.inl rfl), by rw [HW1.out]; rfl⟩⟩
  by_cases h2 : kd = 2
  · subst h2
    go_enter Tryz.func42, Tryz.ntmps42
    go_wp2_with fail
    generalize hW : w.alloc (.cells #[iV 2, sV n, sV s, .slice a al.length c] 38) = W at *
    have KW := Lib.hid (Hw W rfl)
    clear Hw hW tq
    refine (encode_any s W (by omega)).mono ?_
    rintro e y ⟨rfl, ky⟩
    have KY := Lib.hid (KW.out.trans ky)
    have HW1 := Lib.hid (wrK2 2 n s al (by decide) (by decide))
    clear ky KW
    go_wp2
    go_ret2
    exact ⟨KY.out, Or.inl ⟨Or.inr (Or.inr rfl), by rw [HW1.out]; rfl⟩⟩
  · have hk0 : (kd == 0) = false := by simp [h0]
    have hk1 : (kd == 1) = false := by simp [h1]
    have hk2 : (kd == 2) = false := by simp [h2]
    go_enter Tryz.func42, Tryz.ntmps42
    go_wp2
    go_ret2
    exact ⟨Hw _ rfl, Or.inr ⟨fun q => by rcases q with q | q | q <;> contradiction, rfl⟩⟩
theorem wpList_strB {ops : Array Oper} {rest : List Oper} {op : Oper} {a : Act} {w : World} {Q : Exit → Act → World → Prop} (hg : op.guard = none) (sx x : Operand) (ho : op.op = .call { callee := .builtin .append, args := #[sx, x], argTypes := #[22, 9] })
    (B0 : Nat) (v : Value) (l t : B) (hs : a.eval sx = v) (hO : OwnB B0 v l w) (hx : a.eval x = .string ⟨t.toArray⟩) (hl : l.length + t.length ≤ 100000000000000) (hB : B0 ≤ w.heap.size)
    (h : ∀ v' w', OwnB B0 v' (l ++ t) w' → w.grownBy w' v.ownBlock → wpList Tryz.prog ops Q rest (a.put op.dst v') w') : wpList Tryz.prog ops Q (op :: rest) a w :=
  wpList_plain hg fun K hK => wp_strB sx x ho B0 v l t hs hO hx hl hB (fun v' w' h1 h2 => hK _ _ (h v' w' h1 h2))
def SmallL (l : List Tk) : Prop := l.length ≤ 12000 ∧ ∀ t ∈ l, SmallK t
theorem small_fw {K : Nat} {l : List Tk} (h : Fw K l) (hK : K ≤ 12000) : SmallL l :=
  ⟨by have := h.1; omega, fun t ht => by
    obtain ⟨h1, h2, h3, h4⟩ := h.2 t ht
    exact ⟨by omega, by omega, by omega, fun a ha => by have := h4 a ha; omega⟩⟩
theorem wri_long {l : List Tk} {i : Nat} (h : 100000 < ((l.take i).flatMap wrK).length) : wri l = ([], 1) := by
  have h2 : 100000 < (wrAll l).length := by
    have e : wrAll l = (l.take i).flatMap wrK ++ (l.drop i).flatMap wrK := by rw [← List.flatMap_append, List.take_append_drop]; rfl
    rw [e, List.length_append]; omega
  unfold wri
  rw [tok_rdS, if_pos h2, if_neg (by intro q; cases q)]
theorem wri_kind {l : List Tk} {t : Tk} (ht : t ∈ l) (h : ¬ IsKd t.1) : wri l = ([], 1) := by
  unfold wri
  rw [if_neg]
  intro q
  have := okL_kd (tok_ok q).1 t ht
  rcases this with ⟨nm, as', rfl⟩ | ⟨nm, rfl⟩ | ⟨x, rfl, _⟩
  · exact h (Or.inl rfl)
  · exact h (Or.inr (Or.inl rfl))
  · exact h (Or.inr (Or.inr rfl))
def WnP (l : List Tk) (w : World) (e : Ending) (w' : World) : Prop := Kept w w' ∧ ((∃ v, e = .returned (.tuple #[v, .bool true]) ∧ OwnB w.heap.size v (wrAll l) w' ∧ (wrAll l).length ≤ 100000) ∨ (e = .returned (.tuple #[.slice none 0 0, .bool false]) ∧ wri l = ([], 1)))
set_option maxRecDepth 100000 in
set_option maxHeartbeats 4000000 in
theorem written_any (v : Value) (l : List Tk) (w : World) (h : TkRd v l w) (hs : SmallL l) : Calls Tryz.prog 23 #[v] w (WnP l w) := by
  obtain ⟨a, c, hv⟩ := h.slice
  subst hv
  have hl : l.length ≤ 12000 := hs.1
  have HS := Lib.hid hs.2
  have H := Lib.hid h
  clear h hs
  go_enter Tryz.func23, Tryz.ntmps23
  go_wp2_with fail
  go_loopw [4, 11] (fun vt vi wr => ∃ i : Nat, i ≤ l.length ∧ ((l.take i).flatMap wrK).length ≤ 100000 ∧ vi = .int .i64 i ∧ Hid (Kept w wr) ∧ Hid (OwnB w.heap.size vt ((l.take i).flatMap wrK) wr)) (fun _ vi _ => l.length - (intOf vi).toNat)
  case atStart => exact ⟨0, Nat.zero_le _, by simp, rfl, Lib.hid (Kept.refl w), Lib.hid (OwnB.nil _ _)⟩
  case round =>
    obtain ⟨i, hi, hD, rfl, hK, hO⟩ := hrel
    rename_i vt _
    obtain ⟨ta, tc, htv⟩ := own_slice hO.out
    subst htv
    by_cases hlt : i < l.length
    · have hltI : (i : Int) < l.length := by omega
      obtain ⟨t, ht⟩ : ∃ t, l[i]? = some t := ⟨_, List.getElem?_eq_getElem hlt⟩
      obtain ⟨-, g, o, x, ha, hc, d0, d1, d2, d3, hx⟩ := (H.out.kept hK.out).at ht
      obtain ⟨pa, ca, hxs⟩ := hx.slice
      subst ha hxs
      have hSK := HS.out t (List.mem_of_getElem? ht)
      have HW := Lib.hid (flat_succ wrK ht)
      have HBad := Lib.hid (fun q => wri_kind (List.mem_of_getElem? ht) q)
      have HLong := Lib.hid (fun q => wri_long (l := l) (i := i + 1) q)
      have hwt := wrK_le hSK
      clear ht
      have kx : Kept wr (wr.alloc (.cells #[iV t.1, sV t.2.1, sV t.2.2.1, .slice pa t.2.2.2.length ca] 38)) := (Kept.refl wr).alloc _
      have KX := Lib.hid (hK.out.trans kx)
      have OX := Lib.hid (hO.out.kept kx)
      have PC := Lib.hid (piece_any t _ _ (hx.kept kx) hSK)
      clear hx hSK kx hK hO
      generalize (l.take i).flatMap wrK = D at *
      go_wp2_with fail
      generalize wr.alloc (.cells #[iV t.1, sV t.2.1, sV t.2.2.1, .slice pa t.2.2.2.length ca] 38) = X at *
      refine PC.out.mono ?_
      rintro e y ⟨ky, hcase⟩
      have KY := Lib.hid (KX.out.trans ky)
      have OY := Lib.hid (OX.out.kept ky)
      have hwy : w.heap.size ≤ y.heap.size := KY.out.size
      clear KX OX ky PC d0 d1 d2 d3
      rcases hcase with ⟨hkd, rfl⟩ | ⟨hkd, rfl⟩
      · clear HBad hkd
        rw [HW.out] at HLong
        have HF := Lib.hid HW.out
        clear HW
        generalize hT : wrK t = T at *
        clear hT
        go_upto_region 8 with (fail)
        go_wp2_with (at_builtin; refine wpList_strB rfl _ _ rfl w.heap.size (.slice ta D.length tc) D T rfl OY.out rfl (by omega) hwy ?_)
        intro v' z hz hgz
        have KZ := Lib.hid (kept_row KY.out hgz (fun g hg => (World.ownsRow.lt OY.out g hg).1))
        have OZ := Lib.hid hz
        clear hz hgz OY KY
        have hDT : (D ++ T).length = D.length + T.length := List.length_append
        generalize D ++ T = D2 at *
        obtain ⟨va, vc, hvv⟩ := own_slice OZ.out
        subst hvv
        clear hDT
        by_cases hbig : (100000 : Int) < D2.length
        · have HB := Lib.hid (HLong.out (by omega))
          go_wp2
          go_ret2
          exact ⟨KZ.out, Or.inr ⟨rfl, HB.out⟩⟩
        · have hsm : D2.length ≤ 100000 := by omega
          have OF := Lib.hid (show OwnB w.heap.size (.slice va D2.length vc) ((l.take (i + 1)).flatMap wrK) z by rw [HF.out]; exact OZ.out)
          have hsm2 := Lib.hid (show ((l.take (i + 1)).flatMap wrK).length ≤ 100000 by rw [HF.out]; exact hsm)
          clear HF HLong OZ
          go_wp2
          go_roundw
          case rel => exact ⟨i + 1, hlt, hsm2.out, by go_num, KZ, OF⟩
          case measure => simp [intOf]; omega
      · have HB := Lib.hid (HBad.out hkd)
        clear HBad HW HLong
        go_wp2
        go_ret2
        exact ⟨KY.out, Or.inr ⟨rfl, HB.out⟩⟩
    · have hltI : ¬ (i : Int) < l.length := by omega
      have hfin : (l.take i).flatMap wrK = wrAll l := by rw [List.take_of_length_le (by omega)]; rfl
      have Z := Lib.hid (show WnP l w (.returned (.tuple #[.slice ta ((l.take i).flatMap wrK).length tc, .bool true])) wr from ⟨hK.out, Or.inl ⟨_, rfl, by rw [← hfin]; exact hO.out, by rw [← hfin]; exact hD⟩⟩)
      clear hfin
      generalize (l.take i).flatMap wrK = D at *
      go_wp2
      go_ret2
      exact Z.out
def WtP (l : List Tk) (w : World) (e : Ending) (w' : World) : Prop := Kept w w' ∧ ∃ v, e = .returned (.tuple #[v, iV (wri l).2]) ∧ BRd v (wri l).1 w'
theorem WtP.no {l : List Tk} {w w' : World} (k : Kept w w') (h : wri l = ([], 1)) : WtP l w (.returned (.tuple #[.slice none 0 0, iV 1])) w' := ⟨k, _, by rw [h], by rw [h]; exact ⟨none, 0, rfl, fun q => absurd rfl q⟩⟩
theorem WtP.yes {l : List Tk} {w w' : World} {v : Value} (k : Kept w w') (h : wri l = (wrAll l, 0)) (hv : BRd v (wrAll l) w') : WtP l w (.returned (.tuple #[v, iV 0])) w' := ⟨k, v, by rw [h], by rw [h]; exact hv⟩
theorem wri_no {l : List Tk} (h : ¬ tok (wrAll l) = (l, 0)) : wri l = ([], 1) := by unfold wri; rw [if_neg h]
theorem wri_yes {l : List Tk} (h : tok (wrAll l) = (l, 0)) : wri l = (wrAll l, 0) := by unfold wri; rw [if_pos h]
set_option maxRecDepth 100000 in
set_option maxHeartbeats 4000000 in
theorem write_any (v : Value) (l : List Tk) (w : World) (h : TkRd v l w) (hs : SmallL l) (hE : EX w.heap.size w) : Calls Tryz.prog 14 #[v] w (WtP l w) := by
  have HW := Lib.hid (written_any v l w h hs)
  have hl : l.length ≤ 1000000 := by have := hs.1; omega
  have HA := Lib.hid (show ∀ t ∈ l, t.2.2.2.length ≤ 1000000 from fun t ht => by have := (hs.2 t ht).2.2.1; omega)
  obtain ⟨a, c, hv⟩ := h.slice
  subst hv
  have H := Lib.hid h; have HE := Lib.hid hE
  clear h hs hE
  go_enter Tryz.func14, Tryz.ntmps14
  go_wp2_with fail
  refine HW.out.mono ?_
  rintro e x1 ⟨k1, hcase⟩
  have K1 := Lib.hid k1
  clear k1
  rcases hcase with ⟨v1, rfl, hO, hlen⟩ | ⟨rfl, hno⟩
  · obtain ⟨va, vc, hvv⟩ := own_slice hO
    subst hvv
    have O1 := Lib.hid hO.rd
    have F := Lib.hid (Fw.at (tok_fw (wrAll l)) (by omega))
    have Hy := Lib.hid (wri_yes (l := l)); have Hn := Lib.hid (wri_no (l := l))
    have PT := Lib.hid (ptokens_any va (wrAll l).length vc (wrAll l) x1 ((HE.out.kept K1.out).mono K1.out.size) rfl (fun _ => O1.out.conv))
    clear hO HW HE
    have ZY := Lib.hid (fun (q : tok (wrAll l) = (l, 0)) y (ky : Kept x1 y) => WtP.yes (w := w) (K1.out.trans ky) (Hy.out q) (O1.out.kept ky))
    have ZN := Lib.hid (fun (q : ¬ tok (wrAll l) = (l, 0)) y (ky : Kept x1 y) => WtP.no (w := w) (K1.out.trans ky) (Hn.out q))
    clear Hy Hn
    generalize tok (wrAll l) = d at *
    generalize wrAll l = doc at *
    go_wp2_with fail
    refine PT.out.mono ?_
    rintro e x2 ⟨k2, v2, rfl, hT⟩
    have K2 := Lib.hid k2
    have T2 := Lib.hid hT.rd
    obtain ⟨a2, c2, hv2⟩ := hT.rd.slice
    subst hv2
    have H2 := Lib.hid (H.out.kept (K1.out.trans k2))
    clear k2 hT PT H
    by_cases hz : d.2 = 0
    · have hdd : (d.2 != 0) = false := by simp [hz]
      go_wp2_with fail
      refine (psame_any _ _ d.1 l x2 T2.out H2.out F.out.1 hl F.out.2 HA.out).mono ?_
      rintro e x3 ⟨rfl, k3⟩
      have K3 := Lib.hid (K2.out.trans k3)
      clear k3 T2 H2 F K2
      by_cases hq : d.1 = l
      · have Z := Lib.hid (ZY.out (by rw [← hz, ← hq]) _ K3.out)
        rw [decide_eq_true hq]
        clear ZY ZN hq
        go_wp2
        go_ret2
        exact Z.out
      · have Z := Lib.hid (ZN.out (fun q => hq (by rw [q])) _ K3.out)
        rw [decide_eq_false hq]
        clear ZY ZN hq
        go_wp2
        go_ret2
        exact Z.out
    · have hdd : (d.2 != 0) = true := by simp [hz]
      have Z := Lib.hid (ZN.out (fun q => hz (by rw [q])) _ K2.out)
      clear ZY ZN
      go_wp2
      go_ret2
      exact Z.out
  · have Z := Lib.hid (WtP.no K1.out hno)
    go_wp2
    go_ret2
    exact Z.out
end Go.Proofs.YtknggeplnffegaaGreatDoor
