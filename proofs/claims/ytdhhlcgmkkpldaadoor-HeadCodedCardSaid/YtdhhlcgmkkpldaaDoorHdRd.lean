/- The document's answer for package head: all lines; are lists the same; are headers few. -/
import Derived.Test.YtdhhlcgmkkpldaaDoorHdRc
set_option linter.unusedSimpArgs false
set_option linter.unusedVariables false
namespace Go.Proofs.YtdhhlcgmkkpldaaDoor.Hd
open Go.ChangeShapes Go.WideShapes Go.ChangeAt Go.RowKit Go.Shelf
set_option maxRecDepth 100000 in
set_option maxHeartbeats 4000000 in
theorem rall_any (v : Value) (l : List Hdr) (w : World) (hR : HRd v l w) (hb : ∀ h ∈ l, h.1.length ≤ 100000000 ∧ h.2.length ≤ 100000000) :
    Calls Tryd.prog 18 #[v] w fun e w' => ∃ xv, e = .returned (.tuple #[xv, .int .i64 (aE l)]) ∧ OwnM w.heap.size xv ((all l).getD []) w' ∧ Kept w w' := by
  obtain ⟨va, vc, hvv⟩ := hR.slice
  subst hvv
  have HR := Lib.hid hR
  have HB := Lib.hid hb
  clear hR hb
  by_cases hlong : 50 < l.length
  · have hlI : (50 : Int) < l.length := by omega
    have HQ := Lib.hid (aE_long hlong)
    go_enter Tryd.func18, Tryd.ntmps18
    go_wp2
    go_ret2
    exact ⟨_, by rw [HQ.out.1]; rfl, by rw [HQ.out.2]; exact OwnM.nil _ _, Kept.refl _⟩
  · have hlI : ¬ (50 : Int) < l.length := by omega
    go_enter Tryd.func18, Tryd.ntmps18
    go_wp2_with fail
    go_loopw [4, 5, 6, 7] (fun vm vi _ _ wr => ∃ i : Nat, i ≤ l.length ∧ vi = .int .i64 i ∧ Hid (∀ j y, j < i → l[j]? = some y → okH y = true) ∧ Hid (Kept w wr) ∧ Hid (OwnM w.heap.size vm (lns (l.take i)) wr)) (fun _ vi _ _ _ => l.length - (intOf vi).toNat)
    case atStart => exact ⟨0, Nat.zero_le _, rfl, Lib.hid (fun j y h => absurd h (Nat.not_lt_zero _)), Lib.hid (Kept.refl w), Lib.hid (OwnM.nil _ _)⟩
    case round =>
      obtain ⟨i, hi, rfl, hA, hK, hO⟩ := hrel
      obtain ⟨ta, tc, htv⟩ := hO.out.slice
      have hll : (lns (l.take i)).length ≤ 4000000 := by
        have := lns_len 76046 (l.take i) (fun h hh => by
          obtain ⟨j, hj, rfl⟩ := List.mem_iff_getElem.1 hh
          rw [List.getElem_take]
          exact lnH_big (hA.out j _ (by simp at hj; omega) (List.getElem?_eq_getElem (by simp at hj; omega))))
        have h2 : (l.take i).length * 76046 ≤ 50 * 76046 := Nat.mul_le_mul_right _ (by simp; omega)
        omega
      by_cases hlt : i < l.length
      · have hltI : (i : Int) < l.length := by omega
        obtain ⟨x, hx⟩ : ∃ x, l[i]? = some x := ⟨_, List.getElem?_eq_getElem hlt⟩
        obtain ⟨g, o, c, hv', hcp, c0, c1⟩ := (HR.out.kept hK.out).at hx
        obtain ⟨xn, xt⟩ := x
        simp only at c0 c1
        injection hv' with ea _ ec
        subst ea ec
        have HX := Lib.hid hx
        have HN := Lib.hid (lns_take hx)
        obtain ⟨hb1, hb2⟩ := HB.out _ (List.mem_of_getElem? hx)
        simp only at hb1 hb2
        have hsz := hK.out.size
        clear hx
        generalize lns (l.take i) = D at *
        subst htv
        go_wp2_with fail
        refine (rline_any (xn, xt) _ hb1 hb2).mono ?_
        rintro e z ⟨xv, rfl, hxo, kz⟩
        have KZ := Lib.hid (hK.out.trans kz)
        have OZ := Lib.hid (hO.out.kept kz)
        clear c0 c1 kz hK hO
        cases hk : okH (xn, xt) with
        | false =>
          have HQ := Lib.hid (aE_bad hlong HX.out hk)
          rw [lE_no hk]
          obtain ⟨xa, xc, hxv⟩ := hxo.slice
          subst hxv
          clear hxo hk
          go_wp2
          go_ret2
          exact ⟨_, by rw [HQ.out.1]; rfl, by rw [HQ.out.2]; exact OwnM.nil _ _, KZ.out⟩
        | true =>
          have HA2 := Lib.hid (allh_take hA.out HX.out hk)
          rw [line_lnH hk, Option.getD_some] at hxo
          rw [lE_ok hk]
          have hlb := lnH_big hk
          have HXO := Lib.hid hxo.rd
          obtain ⟨xa, xc, hxv⟩ := hxo.slice
          clear hxo hk
          generalize lnH (xn, xt) = ln at *
          subst hxv
          have hszz := KZ.out.size
          go_wp2_with (at_builtin; refine wpList_sliceM rfl _ _ rfl w.heap.size _ _ D ln rfl OZ.out rfl HXO.out (by omega) hszz ?_)
          intro v4 z4 hz hgz hnb
          have K4 := Lib.hid (kept_row KZ.out hgz (fun g hg => (OZ.out.lt g hg).1))
          have O4 := Lib.hid (show OwnM w.heap.size v4 (lns (l.take (i + 1))) z4 by rw [HN.out]; exact hz)
          clear hz hgz hnb OZ KZ HXO
          go_wp2_with fail
          go_roundw
          case rel => exact ⟨i + 1, hlt, by go_num, HA2, K4, O4⟩
          case measure => simp [intOf]; omega
      · have hltI : ¬ (i : Int) < l.length := by omega
        obtain rfl : i = l.length := by omega
        rw [List.take_length] at hO hll htv
        have hok := allh_end hA.out
        have hkA : okA l = true := by unfold okA; rw [Bool.and_eq_true, List.all_eq_true]; exact ⟨hok, by simp; omega⟩
        have HQ := Lib.hid (And.intro (aE_ok hkA) (all_lnA hkA))
        have HD := Lib.hid (show lnA l = lns l ++ [13, 10] from rfl)
        clear hok hkA hA
        generalize lns l = D at *
        subst htv
        have k5 := (Kept.refl wr).alloc (.cells #[.int .u8 13, .int .u8 10] 5)
        have hbx := Lib.hid (brd_new wr [13, 10] 5 #[.int .u8 13, .int .u8 10] rfl 2 (Nat.le_refl 2) (0, 0))
        have K5 := Lib.hid (hK.out.trans k5)
        have O5 := Lib.hid (hO.out.kept k5)
        have hszz := K5.out.size
        clear k5 hK hO
        go_wp2_with (at_builtin; refine wpList_sliceM rfl _ _ rfl w.heap.size _ _ D [13, 10] rfl O5.out rfl hbx.out (by simp; omega) hszz ?_)
        intro v4 z4 hz hgz hnb
        have K4 := Lib.hid (kept_row K5.out hgz (fun g hg => (O5.out.lt g hg).1))
        obtain ⟨a4, c4, hv4⟩ := hz.slice
        have O4 := Lib.hid hz
        clear hz hgz hnb
        generalize D ++ [13, 10] = D2 at *
        subst hv4
        go_wp2
        go_ret2
        exact ⟨_, by rw [HQ.out.1]; rfl, by rw [HQ.out.2, Option.getD_some, HD.out]; exact O4.out, K4.out⟩
/-! are lists the same -/
theorem take_eq {α : Type} {l l' : List α} {i : Nat} {a b : α} (h : l.take i = l'.take i) (ha : l[i]? = some a) (hb : l'[i]? = some b) (he : a = b) : l.take (i + 1) = l'.take (i + 1) := by
  rw [List.take_add_one, List.take_add_one, h, ha, hb, he]
theorem take_ne {α : Type} {l l' : List α} {i : Nat} {a b : α} (ha : l[i]? = some a) (hb : l'[i]? = some b) (he : a ≠ b) : l ≠ l' := fun e => by
  rw [e, hb] at ha
  cases ha
  exact he rfl
set_option maxRecDepth 100000 in
theorem eq_hdr (a b : Hdr) (w : World) : (Op.equalIn 10000 23 (hV a) (hV b)).run Tryd.prog w = .ok (a == b) w := by
  have h1 : Tryd.prog.stoodInHeld 23 = false := by kernel_rfl
  rw [run_equalIn_struct w 9999 23 _ _ (by simp [go_sem]) h1]
  simp [go_sem]
  obtain ⟨a1, a2⟩ := a
  obtain ⟨b1, b2⟩ := b
  by_cases h1 : a1 = b1
  · by_cases h2 : a2 = b2
    · simp [h1, h2]
    · simp [h1, h2]
  · simp [h1]
theorem neq_hdr (a b : Hdr) (w : World) : (binOp .neq 23 (hV a) (hV b)).run Tryd.prog w = .ok (.bool (!(a == b))) w := by
  rw [run_neq_struct, eq_hdr]; rfl
theorem eql_hdr (a b : Hdr) (w : World) : (binOp .eql 23 (hV a) (hV b)).run Tryd.prog w = .ok (.bool (a == b)) w := by
  rw [run_eql_struct, eq_hdr]; rfl
def SmP {α : Type} [DecidableEq α] (l l' : List α) (w : World) (e : Ending) (w' : World) : Prop := e = .returned (.bool (decide (l = l'))) ∧ Kept w w'
set_option maxRecDepth 100000 in
set_option maxHeartbeats 4000000 in
theorem rsameH_any (l l' : List Hdr) (v v' : Value) (w : World) (h : HRd v l w) (h' : HRd v' l' w) (hl : l.length ≤ 1000000) (hl' : l'.length ≤ 1000000) :
    Calls Tryd.prog 20 #[v, v'] w (SmP l l' w) := by
  obtain ⟨a, c, hv⟩ := h.slice
  obtain ⟨a', c', hv'⟩ := h'.slice
  subst hv hv'
  have HA := Lib.hid h; have HB := Lib.hid h'
  clear h h'
  by_cases hlen : l.length = l'.length
  · have bl : ((l.length : Int) == l'.length) = true := by simp [hlen]
    have bl2 : ((l.length : Int) != l'.length) = false := by simp [hlen]
    have HL := Lib.hid hlen
    clear hlen
    go_enter Tryd.func20, Tryd.ntmps20
    go_wp2_with fail
    go_loopw [5] (fun vi wr => ∃ i : Nat, i ≤ l.length ∧ vi = .int .i64 i ∧ Hid (Kept w wr) ∧ Hid (l.take i = l'.take i)) (fun vi _ => l.length - (intOf vi).toNat)
    case atStart => exact ⟨0, Nat.zero_le _, rfl, Lib.hid (Kept.refl w), Lib.hid rfl⟩
    case round =>
      obtain ⟨i, hi, rfl, hK, hT⟩ := hrel
      by_cases hlt : i < l.length
      · have hltI : (i : Int) < l.length := by omega
        have hltJ : (i : Int) < l'.length := by have := HL.out; omega
        obtain ⟨u, hu⟩ : ∃ u, l[i]? = some u := ⟨_, List.getElem?_eq_getElem hlt⟩
        obtain ⟨u', hu'⟩ : ∃ u', l'[i]? = some u' := ⟨_, List.getElem?_eq_getElem (by rw [← HL.out]; exact hlt)⟩
        obtain ⟨ga, oa, ca, hpa, hca, p0, p1⟩ := (HA.out.kept hK.out).at hu
        obtain ⟨gb, ob, cb, hpb, hcb, q0, q1⟩ := (HB.out.kept hK.out).at hu'
        injection hpa with ea _ ec
        subst ea ec
        injection hpb with ea _ ec
        subst ea ec
        have hneq := neq_hdr u u'
        have HU := Lib.hid (fun (q : u ≠ u') => take_ne hu hu' q)
        have HUT := Lib.hid (fun (q : u = u') => take_eq hT.out hu hu' q)
        clear hu hu' hT
        by_cases huu : u = u'
        · have bu : (u == u') = true := by simp [huu]
          have HN2 := Lib.hid (HUT.out huu)
          rw [bu] at hneq
          clear huu bu HU HUT
          go_upto_region 6 with (fail)
          go_quiet (fail)
          have K2 := Lib.hid (hK.out.drewN nq)
          clear hK p0 p1 q0 q1
          go_wp2
          go_roundw
          case rel => exact ⟨i + 1, hlt, by go_num, K2, HN2⟩
          case measure => simp [intOf]; omega
        · have bu : (u == u') = false := by simp [huu]
          rw [bu] at hneq
          have hbad : l ≠ l' := HU.out huu
          clear huu bu HU HUT
          go_upto_region 6 with (fail)
          go_quiet (fail)
          have Z := Lib.hid (show SmP l l' w (.returned (.bool false)) (wr.drewN nq) from ⟨by rw [decide_eq_false hbad], hK.out.drewN nq⟩)
          clear hK p0 p1 q0 q1
          go_wp2
          go_ret
          exact Z.out
      · have hltI : ¬ (i : Int) < l.length := by omega
        have Z := Lib.hid (show SmP l l' w (.returned (.bool true)) wr from ⟨by
          have := hT.out
          rw [List.take_of_length_le (by omega), List.take_of_length_le (by rw [← HL.out]; omega)] at this
          rw [decide_eq_true this], hK.out⟩)
        clear hT hK
        go_wp2
        go_ret
        exact Z.out
  · have bl : ((l.length : Int) == l'.length) = false := by rw [beq_eq_false_iff_ne]; omega
    have bl2 : ((l.length : Int) != l'.length) = true := by simp; omega
    have Z := Lib.hid (show SmP l l' w (.returned (.bool false)) w from ⟨by rw [decide_eq_false (fun e => hlen (by rw [e]))], Kept.refl _⟩)
    clear hlen
    go_enter Tryd.func20, Tryd.ntmps20
    go_wp2
    go_ret
    exact Z.out
set_option maxRecDepth 100000 in
set_option maxHeartbeats 4000000 in
theorem rsameS_any (l l' : List B) (v v' : Value) (w : World) (h : SRd v l w) (h' : SRd v' l' w) (hl : l.length ≤ 10000000) (hl' : l'.length ≤ 10000000) :
    Calls Tryd.prog 12 #[v, v'] w (SmP l l' w) := by
  obtain ⟨a, c, hv⟩ := h.slice
  obtain ⟨a', c', hv'⟩ := h'.slice
  subst hv hv'
  have HA := Lib.hid h; have HB := Lib.hid h'
  clear h h'
  by_cases hlen : l.length = l'.length
  · have bl : ((l.length : Int) == l'.length) = true := by simp [hlen]
    have bl2 : ((l.length : Int) != l'.length) = false := by simp [hlen]
    have HL := Lib.hid hlen
    clear hlen
    go_enter Tryd.func12, Tryd.ntmps12
    go_wp2_with fail
    go_loopw [5] (fun vi wr => ∃ i : Nat, i ≤ l.length ∧ vi = .int .i64 i ∧ Hid (Kept w wr) ∧ Hid (l.take i = l'.take i)) (fun vi _ => l.length - (intOf vi).toNat)
    case atStart => exact ⟨0, Nat.zero_le _, rfl, Lib.hid (Kept.refl w), Lib.hid rfl⟩
    case round =>
      obtain ⟨i, hi, rfl, hK, hT⟩ := hrel
      by_cases hlt : i < l.length
      · have hltI : (i : Int) < l.length := by omega
        have hltJ : (i : Int) < l'.length := by have := HL.out; omega
        obtain ⟨u, hu⟩ : ∃ u, l[i]? = some u := ⟨_, List.getElem?_eq_getElem hlt⟩
        obtain ⟨u', hu'⟩ : ∃ u', l'[i]? = some u' := ⟨_, List.getElem?_eq_getElem (by rw [← HL.out]; exact hlt)⟩
        obtain ⟨ga, oa, ca, hpa, hca, p0⟩ := (HA.out.kept hK.out).at hu
        obtain ⟨gb, ob, cb, hpb, hcb, q0⟩ := (HB.out.kept hK.out).at hu'
        injection hpa with ea _ ec
        subst ea ec
        injection hpb with ea _ ec
        subst ea ec
        have HU := Lib.hid (fun (q : u ≠ u') => take_ne hu hu' q)
        have HUT := Lib.hid (fun (q : u = u') => take_eq hT.out hu hu' q)
        clear hu hu' hT
        by_cases huu : u = u'
        · have bu : (u == u') = true := by simp [huu]
          have HN2 := Lib.hid (HUT.out huu)
          clear HU HUT huu
          go_upto_region 6 with (fail)
          go_quiet (fail)
          have K2 := Lib.hid (hK.out.drewN nq)
          clear hK p0 q0
          go_wp2
          go_roundw
          case rel => exact ⟨i + 1, hlt, by go_num, K2, HN2⟩
          case measure => simp [intOf]; omega
        · have bu : (u == u') = false := by simp [huu]
          have hbad : l ≠ l' := HU.out huu
          clear HU HUT huu
          go_upto_region 6 with (fail)
          go_quiet (fail)
          have Z := Lib.hid (show SmP l l' w (.returned (.bool false)) (wr.drewN nq) from ⟨by rw [decide_eq_false hbad], hK.out.drewN nq⟩)
          clear hK p0 q0
          go_wp2
          go_ret
          exact Z.out
      · have hltI : ¬ (i : Int) < l.length := by omega
        have Z := Lib.hid (show SmP l l' w (.returned (.bool true)) wr from ⟨by
          have := hT.out
          rw [List.take_of_length_le (by omega), List.take_of_length_le (by rw [← HL.out]; omega)] at this
          rw [decide_eq_true this], hK.out⟩)
        clear hT hK
        go_wp2
        go_ret
        exact Z.out
  · have bl : ((l.length : Int) == l'.length) = false := by rw [beq_eq_false_iff_ne]; omega
    have bl2 : ((l.length : Int) != l'.length) = true := by simp; omega
    have Z := Lib.hid (show SmP l l' w (.returned (.bool false)) w from ⟨by rw [decide_eq_false (fun e => hlen (by rw [e]))], Kept.refl _⟩)
    clear hlen
    go_enter Tryd.func12, Tryd.ntmps12
    go_wp2
    go_ret
    exact Z.out
end Go.Proofs.YtdhhlcgmkkpldaaDoor.Hd
