/- Package head: All; how many bytes headers have. -/
import Derived.Test.YtdhhlcgmkkpldaaGreatDoorHdRe
import Derived.Test.YtdhhlcgmkkpldaaGreatDoorBxRb
import Derived.Lib.SlBytesConst
set_option linter.unusedSimpArgs false
set_option linter.unusedVariables false
namespace Go.Proofs.YtdhhlcgmkkpldaaGreatDoor.Hd
open Go.ChangeShapes Go.WideShapes Go.ChangeAt Go.RowKit Go.Shelf
/-- All's error -/
def aE (l : List Hdr) : Int := if 50 < l.length then 4 else if l.all okH = true then 0 else 1
theorem aE_ok {l : List Hdr} (h : okA l = true) : aE l = 0 := by
  obtain ⟨h1, h2⟩ := okA_all h
  unfold aE
  rw [if_neg (by omega), if_pos (by rw [List.all_eq_true]; exact h1)]
theorem aE_long {l : List Hdr} (h : 50 < l.length) : aE l = 4 ∧ all l = none := by
  refine ⟨if_pos h, ?_⟩
  unfold all okA
  rw [decide_eq_false (by omega), Bool.and_false]; rfl
theorem aE_bad {l : List Hdr} (h : ¬ 50 < l.length) {k : Nat} {x : Hdr} (hx : l[k]? = some x) (hk : okH x = false) : aE l = 1 ∧ all l = none := by
  have : l.all okH = false := by rw [List.all_eq_false]; exact ⟨x, List.mem_of_getElem? hx, by rw [hk]; decide⟩
  unfold aE all okA
  rw [if_neg h, this]
  exact ⟨rfl, rfl⟩
theorem lns_take {l : List Hdr} {k : Nat} {x : Hdr} (h : l[k]? = some x) : lns (l.take (k + 1)) = lns (l.take k) ++ lnH x := by
  unfold lns
  rw [List.take_add_one, h, List.flatMap_append]; simp
theorem allh_take {l : List Hdr} {k : Nat} {x : Hdr} (h : ∀ j y, j < k → l[j]? = some y → okH y = true) (hx : l[k]? = some x) (hp : okH x = true) : ∀ j y, j < k + 1 → l[j]? = some y → okH y = true := by
  intro j y hj hy
  by_cases q : j = k
  · subst q; rw [hx] at hy; cases hy; exact hp
  · exact h j y (by omega) hy
theorem allh_end {l : List Hdr} (h : ∀ j y, j < l.length → l[j]? = some y → okH y = true) : ∀ x ∈ l, okH x = true := by
  intro x hx
  obtain ⟨i, hi, rfl⟩ := List.mem_iff_getElem.1 hx
  exact h i _ hi (List.getElem?_eq_getElem hi)
theorem lnH_big {h : Hdr} (hk : okH h = true) : (lnH h).length ≤ 76046 := by
  have := lnH_len h
  obtain ⟨h1, h2⟩ := okH_nam hk
  have := (nam_all h1).2.2
  omega
set_option maxRecDepth 100000 in
set_option maxHeartbeats 4000000 in
theorem all_any (v : Value) (l : List Hdr) (w : World) (hR : HRd v l w) (hE : Env w) (hb : ∀ h ∈ l, h.1.length ≤ 100000000 ∧ h.2.length ≤ 100000000) :
    Calls Tryz.prog 19 #[v] w fun e w' => ∃ xv, e = .returned (.tuple #[xv, .int .i64 (aE l)]) ∧ OwnM w.heap.size xv ((all l).getD []) w' ∧ Kept w w' := by
  obtain ⟨va, vc, hvv⟩ := hR.slice
  subst hvv
  have HR := Lib.hid hR
  have HE := Lib.hid hE
  have HB := Lib.hid hb
  clear hR hE hb
  by_cases hlong : 50 < l.length
  · have hlI : (50 : Int) < l.length := by omega
    have HQ := Lib.hid (aE_long hlong)
    go_enter Tryz.func19, Tryz.ntmps19
    go_wp2
    go_ret2
    exact ⟨_, by rw [HQ.out.1]; rfl, by rw [HQ.out.2]; exact OwnM.nil _ _, Kept.refl _⟩
  · have hlI : ¬ (50 : Int) < l.length := by omega
    go_enter Tryz.func19, Tryz.ntmps19
    go_wp2_with fail
    go_loopw [4, 6, 7, 8, 14] (fun vm _ _ _ vi wr => ∃ i : Nat, i ≤ l.length ∧ vi = .int .i64 i ∧ Hid (∀ j y, j < i → l[j]? = some y → okH y = true) ∧ Hid (Kept w wr) ∧ Hid (OwnM w.heap.size vm (lns (l.take i)) wr)) (fun _ _ _ _ vi _ => l.length - (intOf vi).toNat)
    case atStart => exact ⟨0, Nat.zero_le _, rfl, Lib.hid (fun j y h => absurd h (Nat.not_lt_zero _)), Lib.hid (Kept.refl w), Lib.hid (OwnM.nil _ _)⟩
    case round =>
      obtain ⟨i, hi, rfl, hA, hK, hO⟩ := hrel
      obtain ⟨ta, tc, htv⟩ := hO.out.slice
      have hll : (lns (l.take i)).length ≤ 4000000 := by
        have := lns_len 76046 (l.take i) (fun h hh => by
          obtain ⟨j, hj, rfl⟩ := List.mem_iff_getElem.1 hh
          rw [List.getElem_take]
          exact lnH_big (hA.out j _ (by simp at hj; omega) (List.getElem?_eq_getElem (by simp at hj; omega))))
        have h2 : (l.take i).length * 76046 ≤ 50 * 76046 := Nat.mul_le_mul_right _ (by simp; omega)
        omega
      by_cases hlt : i < l.length
      · have hltI : (i : Int) < l.length := by omega
        obtain ⟨x, hx⟩ : ∃ x, l[i]? = some x := ⟨_, List.getElem?_eq_getElem hlt⟩
        obtain ⟨g, o, c, hv', hcp, c0, c1⟩ := (HR.out.kept hK.out).at hx
        obtain ⟨xn, xt⟩ := x
        simp only at c0 c1
        injection hv' with ea _ ec
        subst ea ec
        have HX := Lib.hid hx
        have HN := Lib.hid (lns_take hx)
        obtain ⟨hb1, hb2⟩ := HB.out _ (List.mem_of_getElem? hx)
        simp only at hb1 hb2
        have hsz := hK.out.size
        clear hx
        generalize lns (l.take i) = D at *
        subst htv
        have k1 := (Kept.refl wr).alloc (.cells #[sV xn, sV xt] 25)
        have d0 := (Kept.refl (wr.alloc (.cells #[sV xn, sV xt] 25))).new 0 (v := sV xn) rfl
        have d1 := (Kept.refl (wr.alloc (.cells #[sV xn, sV xt] 25))).new 1 (v := sV xt) rfl
        have K1 := Lib.hid (hK.out.trans k1)
        have O1 := Lib.hid (hO.out.kept k1)
        clear hK hO k1
        go_upto_region 7 with (fail)
        generalize wr.alloc (.cells #[sV xn, sV xt] 25) = y at *
        clear c0 c1
        go_wp2_with fail
        refine (line_any (xn, xt) _ (HE.out.kept K1.out) hb1 hb2).mono ?_
        rintro e z ⟨xv, rfl, hxo, kz⟩
        have KZ := Lib.hid (K1.out.trans kz)
        have OZ := Lib.hid (O1.out.kept kz)
        clear d0 d1 kz K1 O1
        cases hk : okH (xn, xt) with
        | false =>
          have HQ := Lib.hid (aE_bad hlong HX.out hk)
          rw [lE_no hk]
          obtain ⟨xa, xc, hxv⟩ := hxo.slice
          subst hxv
          clear hxo hk
          go_wp2
          go_ret2
          exact ⟨_, by rw [HQ.out.1]; rfl, by rw [HQ.out.2]; exact OwnM.nil _ _, KZ.out⟩
        | true =>
          have HA2 := Lib.hid (allh_take hA.out HX.out hk)
          rw [line_lnH hk, Option.getD_some] at hxo
          rw [lE_ok hk]
          have hlb := lnH_big hk
          have HXO := Lib.hid hxo.rd
          obtain ⟨xa, xc, hxv⟩ := hxo.slice
          clear hxo hk
          generalize lnH (xn, xt) = ln at *
          subst hxv
          have hszz := KZ.out.size
          go_wp2_with (at_builtin; refine wpList_sliceM rfl _ _ rfl w.heap.size _ _ D ln rfl OZ.out rfl HXO.out (by omega) hszz ?_)
          intro v4 z4 hz hgz hnb
          have K4 := Lib.hid (kept_row KZ.out hgz (fun g hg => (OZ.out.lt g hg).1))
          have O4 := Lib.hid (show OwnM w.heap.size v4 (lns (l.take (i + 1))) z4 by rw [HN.out]; exact hz)
          clear hz hgz hnb OZ KZ HXO
          go_wp2_with fail
          go_roundw
          case rel => exact ⟨i + 1, hlt, by go_num, HA2, K4, O4⟩
          case measure => simp [intOf]; omega
      · have hltI : ¬ (i : Int) < l.length := by omega
        obtain rfl : i = l.length := by omega
        rw [List.take_length] at hO hll htv
        have hok := allh_end hA.out
        have hkA : okA l = true := by unfold okA; rw [Bool.and_eq_true, List.all_eq_true]; exact ⟨hok, by simp; omega⟩
        have HQ := Lib.hid (And.intro (aE_ok hkA) (all_lnA hkA))
        have HD := Lib.hid (show lnA l = lns l ++ [13, 10] from rfl)
        clear hok hkA hA
        generalize lns l = D at *
        subst htv
        have hszz := hK.out.size
        go_wp2_with (at_builtin; refine wpList_strM rfl _ _ rfl w.heap.size _ D [13, 10] rfl hO.out rfl (by simp; omega) hszz ?_)
        intro v4 z4 hz hgz hnb
        have K4 := Lib.hid (kept_row hK.out hgz (fun g hg => (hO.out.lt g hg).1))
        obtain ⟨a4, c4, hv4⟩ := hz.slice
        have O4 := Lib.hid hz
        clear hz hgz hnb
        generalize D ++ [13, 10] = D2 at *
        subst hv4
        go_wp2
        go_ret2
        exact ⟨_, by rw [HQ.out.1]; rfl, by rw [HQ.out.2, Option.getD_some, HD.out]; exact O4.out, K4.out⟩
set_option maxRecDepth 100000 in
set_option maxHeartbeats 4000000 in
theorem hasPrefix_any (v u : Value) (l p : B) (w : World) (hv : BRd v l w) (hu : BRd u p w) (hp : p ≠ []) (hl : l.length ≤ 1000000000) (hpl : p.length ≤ 100) :
    Calls Tryz.prog 33 #[v, u] w fun e w' => e = .returned (.bool (p.isPrefixOf l)) ∧ Kept w w' := by
  have hpp := List.length_pos_iff.2 hp
  obtain ⟨va, vc, hvv⟩ := hv.slice
  obtain ⟨ua, uc, huv⟩ := hu.slice
  have HV := Lib.hid hv
  have HU := Lib.hid hu
  subst huv
  by_cases h : (p.length : Int) ≤ l.length
  · obtain ⟨g, o, rfl⟩ : ∃ g o, va = some ⟨g, o, none⟩ := by
      obtain ⟨x, hx⟩ : ∃ x, l[0]? = some x := ⟨_, List.getElem?_eq_getElem (by omega)⟩
      obtain ⟨g, o, c, h, _⟩ := hv.at hx
      rw [hvv] at h
      injection h with h
      exact ⟨g, o, h⟩
    subst hvv
    have HT := Lib.hid (hv.to p.length (by omega))
    have hcl : l.length ≤ vc := by
      obtain ⟨_, _, hw, _, hq⟩ := hv
      obtain ⟨_, _, ha, hc, _⟩ := hq (fun e => by rw [e, List.length_nil] at h; omega)
      cases hw; exact hc
    have hE := Lib.hid (fun w' (k : Kept w w') => equal_any _ _ (l.take p.length) p w' (HT.out.kept k) (HU.out.kept k))
    have hb : (l.take p.length == p) = p.isPrefixOf l := by
      rw [Bool.eq_iff_iff, beq_iff_eq, List.isPrefixOf_iff_prefix, List.prefix_iff_eq_take]
      exact eq_comm
    have htl : (l.take p.length).length = p.length := by simp; omega
    rw [hb] at hE
    have HR := Lib.hid hE.out
    clear hv hu hE hb HT htl
    generalize p.isPrefixOf l = q at *
    go_enter Tryz.func33, Tryz.ntmps33
    go_wp2_with fail
    refine (HR.out _ (Kept.refl _)).mono ?_
    rintro e y ⟨rfl, rfl⟩
    go_wp2
    go_ret
    exact ⟨rfl, Kept.refl _⟩
  · have hb : p.isPrefixOf l = false := by
      rw [Bool.eq_false_iff]
      intro e
      rw [List.isPrefixOf_iff_prefix] at e
      have := e.length_le; omega
    rw [hb]
    subst hvv
    clear hv hu hb
    go_enter Tryz.func33, Tryz.ntmps33
    go_wp2
    go_ret
    exact ⟨rfl, Kept.refl _⟩
end Go.Proofs.YtdhhlcgmkkpldaaGreatDoor.Hd
