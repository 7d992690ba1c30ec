/- The document's answer for package part: Split. -/
import Derived.Test.YtgpocnnolieijaaGreatDoorPtRj
import Derived.Test.YtgpocnnolieijaaGreatDoorPtS
import Derived.Test.YtgpocnnolieijaaGreatDoorHdSd
import Derived.Test.YtgpocnnolieijaaGreatDoorQpRd
set_option linter.unusedSimpArgs false
set_option linter.unusedVariables false
namespace Go.Proofs.YtgpocnnolieijaaGreatDoor.Pt
open Go.ChangeShapes Go.WideShapes Go.ChangeAt Go.RowKit Go.Shelf
open Hd (SRd OwnS Hdr cutA cE cL cR cut_some cut_none)
theorem one_none {p : B} (h : cutA p = none) : one p = none := by unfold one; rw [h]
theorem one_no {p r : B} {hs : List Hdr} (h : cutA p = some (hs, r)) (h2 : ¬ (hs.length = 2 ∧ 2 ≤ r.length)) : one p = none := by unfold one; rw [h]; exact if_neg h2
theorem one_yes {p r : B} {h : Hdr} {hs : List Hdr} (hc : cutA p = some (h :: hs, r)) (h2 : (h :: hs).length = 2 ∧ 2 ≤ r.length) : one p = match Qp.dec (r.take (r.length - 2)) with | none => none | some b => some (h.2, b) := by unfold one; rw [hc]; exact if_pos h2
/-- what one answers -/
def OneR (s : B) (w : World) (e : Ending) (w' : World) : Prop := ∃ (t b : B) (xv : Value), e = .returned (.tuple #[sV t, xv, .bool (one s).isSome]) ∧ OwnB w.heap.size xv b w' ∧ (∀ x, one s = some x → x = (t, b)) ∧ t.length ≤ 4000 ∧ b.length ≤ s.length ∧ Kept w w'
theorem OneR.no {s : B} {w w' : World} (h : one s = none) (k : Kept w w') : OneR s w (.returned (.tuple #[sV [], .slice none 0 0, .bool false])) w' :=
  ⟨[], [], _, by rw [h]; rfl, OwnB.nil _ _, fun x hx => (by rw [h] at hx; cases hx), by simp, by simp, k⟩
set_option maxRecDepth 100000 in
set_option maxHeartbeats 4000000 in
theorem one_any (s : B) (w : World) (hl : s.length ≤ 100000) : Calls Tryz.prog 34 #[sV s] w (OneR s w) := by
  obtain ⟨cp, y, hcv, ky, hy⟩ := to_bytes s w
  have HC := Lib.hid (Hd.rcut_any _ s y hy hl)
  have KY := Lib.hid ky
  have HN1 := Lib.hid (fun h => one_none (p := s) h)
  have HN2 := Lib.hid (fun hs r h h2 => one_no (p := s) (hs := hs) (r := r) h h2)
  have HN3 := Lib.hid (fun x hs r h h2 => one_yes (p := s) (h := x) (hs := hs) (r := r) h h2)
  have HNO := Lib.hid (fun (w' : World) h k => OneR.no (s := s) (w := w) (w' := w') h k)
  clear ky hy
  go_enter Tryz.func34, Tryz.ntmps34
  go_wp2_with fail
  refine HC.out.mono ?_
  rintro e y2 ⟨lv, rv, rfl, hlv, hrv, k2⟩
  have K2 := Lib.hid (KY.out.trans k2)
  clear k2 KY HC hcv
  cases hc : cutA s with
  | none =>
    have HQ := Lib.hid (HNO.out y2 (HN1.out hc) K2.out)
    obtain ⟨e1, e2, e3⟩ := cut_none hc
    rw [e1]
    obtain ⟨la, lc, rfl⟩ := hlv.slice
    obtain ⟨ra, rc, rfl⟩ := hrv.slice
    clear hc e1 e2 e3 HN1 HN2 HN3 HNO hlv hrv
    go_wp2
    go_ret3
    exact HQ.out
  | some z =>
    obtain ⟨hs, r⟩ := z
    obtain ⟨e1, e2, e3⟩ := cut_some hc
    rw [e1]
    rw [e2] at hlv
    rw [e3] at hrv
    have hqe := (Hd.cutA_iff.1 hc).2
    have hrl : r.length ≤ s.length := by rw [hqe, List.length_append]; omega
    obtain ⟨la, lc, rfl⟩ := hlv.slice
    obtain ⟨ra, rc, rfl⟩ := hrv.slice
    by_cases h2 : (hs.length : Int) = 2
    · by_cases h3 : (r.length : Int) < 2
      · have HQ := Lib.hid (HNO.out y2 (HN2.out hs r hc (fun h => by omega)) K2.out)
        have h2b : ((hs.length : Int) != 2) = false := by rw [h2]; rfl
        clear hc e1 e2 e3 HN1 HN2 HN3 HNO hlv hrv hqe
        generalize hs.length = n at *
        go_wp2
        go_ret3
        exact HQ.out
      · cases hs with
        | nil => simp at h2
        | cons h hs =>
          have HQ := Lib.hid (HN3.out h hs r hc ⟨by omega, by omega⟩)
          have htl := (Hd.okH_nam ((Hd.okA_all (Hd.cutA_iff.1 hc).1).1 h (by simp))).2
          obtain ⟨g, o, c, hv, hcc, c0, c1⟩ := hlv.at (i := 0) rfl
          have hb := BRd.upto hrv (r.length - 2) (by omega)
          have hT : (r.take (r.length - 2)).length = r.length - 2 := by simp
          have HD := Lib.hid (Qp.rdecode_any _ (r.take (r.length - 2)) y2 hb (by rw [hT]; omega))
          have hrc := (BRd.parts hrv).2.2.2
          have hsub : ((r.length : Int) - 2).toNat = r.length - 2 := by omega
          have h2n : (h :: hs).length = 2 := by omega
          rw [h2n] at hv hcc
          rw [h2n]
          have htd : (r.take (r.length - 2)).length ≤ s.length := by omega
          injection hv with hv1 hv2 hv3
          subst hv1
          clear hc e1 e2 e3 HN1 HN2 HN3 hlv hrv hqe h2 hT hb h2n
          generalize r.take (r.length - 2) = T at *
          go_wp2_with fail
          refine HD.out.mono ?_
          rintro e y3 ⟨dv, rfl, ⟨xv, hxo, rfl⟩, k3⟩
          have K3 := Lib.hid (K2.out.trans k3)
          have d1 := k3.yes c1
          have hszy := K2.out.size
          clear k3 HD K2 c0 c1
          cases hd : Qp.dec T with
          | none =>
            have HZ := Lib.hid (show one s = none by rw [HQ.out, hd])
            rw [show Qp.dE T = 2 by unfold Qp.dE; rw [hd]; rfl]
            rw [hd] at hxo
            have HO := Lib.hid (OwnB.mono' hxo hszy)
            obtain ⟨xa, xc, hxv⟩ := own_slice hxo
            subst hxv
            clear hd hxo HQ HNO
            go_wp2
            go_ret3
            exact ⟨h.2, [], _, by rw [HZ.out]; rfl, HO.out, fun x hx => (by rw [HZ.out] at hx; cases hx), htl, by simp, K3.out⟩
          | some b =>
            have HZ := Lib.hid (show one s = some (h.2, b) by rw [HQ.out, hd])
            rw [show Qp.dE T = 0 by unfold Qp.dE; rw [hd]; rfl]
            rw [hd, Option.getD_some] at hxo
            have hbl := Qp.dec_le hd
            have HO := Lib.hid (OwnB.mono' hxo hszy)
            obtain ⟨xa, xc, hxv⟩ := own_slice hxo
            subst hxv
            clear hd hxo HQ HNO
            go_wp2
            go_ret3
            exact ⟨h.2, b, _, by rw [HZ.out]; rfl, HO.out, fun x hx => by rw [HZ.out] at hx; cases hx; rfl, htl, by omega, K3.out⟩
    · have HQ := Lib.hid (HNO.out y2 (HN2.out hs r hc (fun h => by omega)) K2.out)
      clear hc e1 e2 e3 HN1 HN2 HN3 HNO hlv hrv hqe
      generalize hs.length = n at *
      go_wp2
      go_ret3
      exact HQ.out
end Go.Proofs.YtgpocnnolieijaaGreatDoor.Pt
