/- Any headers' lines are what the document says, or have the error; they are cut off ahead of whatever stands behind. -/
import Derived.Test.YtdhhlcgmkkpldaaDoorHdWB
import Derived.Test.YtdhhlcgmkkpldaaDoorHdCt
set_option linter.unusedSimpArgs false
set_option linter.unusedVariables false
namespace Go.Proofs.YtdhhlcgmkkpldaaDoor.Hd
open Go.ChangeShapes Go.WideShapes Go.ChangeAt Go.RowKit Go.Shelf
theorem aE_zero {l : List Hdr} (h : okA l = false) : (aE l == 0) = false := by
  have := aE_no h
  simpa [bne] using this
set_option maxRecDepth 100000 in
set_option maxHeartbeats 8000000 in
theorem all14_walk (v : Value) (l : List Hdr) (u : Value) (r : B) (w : World) (hH : HRd v l w) (hl : l.length ≤ maxLen) (hb : ∀ x ∈ l, x.1.length ≤ maxLen ∧ x.2.length ≤ maxLen) (hB : BRd u r w) (hd : r.length ≤ maxLen) (hE : Env w) :
    Calls Tryd.prog 4 #[v, u] w fun e w' => e = .returned (.bool true) ∧ Kept w w' := by
  have HF := Lib.hid (fun w (hR : HRd v l w) => few_any v l 60 w hR hl hb)
  unfold maxLen at hl hd
  obtain ⟨va, vc, hvv⟩ := hH.slice
  obtain ⟨ua, uc, huv⟩ := hB.slice
  have HB := Lib.hid hB
  have HH := Lib.hid hH
  have HE := Lib.hid hE
  subst hvv huv
  clear hB hH hE hb
  go_enter Tryd.func4, Tryd.ntmps4
  go_wp2_with fail
  refine (awake14_any _ HE.out).mono ?_
  rintro e x1 ⟨rfl, k1⟩
  have K1 := Lib.hid k1
  clear k1
  go_wp2_with fail
  refine (HF.out _ (HH.out.kept K1.out)).mono ?_
  rintro e x2 ⟨rfl, rfl⟩
  clear HF
  cases hf : fewB l 60 with
  | false =>
    clear hf
    go_wp2
    go_ret
    exact ⟨rfl, K1.out⟩
  | true =>
    obtain ⟨hl60, hfb⟩ := few_bd hf
    have HFB := Lib.hid hfb
    clear hf hfb
    by_cases hs : 300 < (r.length : Int)
    · go_wp2
      go_ret
      exact ⟨rfl, K1.out⟩
    have hbd : ∀ h ∈ l, h.1.length ≤ 100000000 ∧ h.2.length ≤ 100000000 := fun h hh => by have := HFB.out h hh; omega
    have HA := Lib.hid (fun w hR hE => all_any (.slice va l.length vc) l w hR hE hbd)
    have HRA := Lib.hid (fun w hR => rall_any (.slice va l.length vc) l w hR hbd)
    clear hbd
    go_wp2_with fail
    refine (HA.out _ (HH.out.kept K1.out) (HE.out.kept K1.out)).mono ?_
    rintro e x3 ⟨xv, rfl, hO, k3⟩
    have K3 := Lib.hid (K1.out.trans k3)
    have O3 := Lib.hid hO
    obtain ⟨xa, xc, hxv⟩ := hO.slice
    generalize hz : (all l).getD [] = z at *
    subst hxv
    clear hO k3 HA K1
    go_wp2_with fail
    refine (HRA.out _ (HH.out.kept K3.out)).mono ?_
    rintro e x4 ⟨yv, rfl, hy, k4⟩
    have K4 := Lib.hid (K3.out.trans k4)
    have O4 := Lib.hid (O3.out.kept k4)
    have hc1 := O4.out.rd.conv
    have hc2 := hy.rd.conv
    obtain ⟨ya, yc, hyv⟩ := hy.slice
    subst hyv
    clear hy k4 O3 K3 HRA
    cases hk : okA l with
    | false =>
      have ha := aE_zero hk
      have ha2 := aE_no hk
      generalize aE l = ea at *
      clear hk hz
      go_wp2
      go_ret
      exact ⟨rfl, K4.out⟩
    | true =>
      rw [aE_ok hk]
      rw [all_lnA hk, Option.getD_some] at hz
      obtain ⟨hok, hl50⟩ := okA_all hk
      have HCut := Lib.hid (cut_some (show cutA (z ++ r) = some (l, r) from cutA_iff.2 ⟨hk, by rw [hz]⟩))
      have hzl : z.length ≤ 600000 := by
        have h1 := lns_len 11506 l (fun h hh => by
          have h2 := lnH_len h
          have h3 := HFB.out h hh
          omega)
        have h2 : l.length * 11506 ≤ 50 * 11506 := Nat.mul_le_mul_right _ hl50
        rw [← hz]
        unfold lnA
        simp; omega
      have hzne : z ≠ [] := by rw [← hz]; simp [lnA]
      clear hz hok hk
      go_upto_region 11 with (fail)
      clear hc1 hc2
      go_wp2_with (at_builtin; refine wpList_sliceM rfl _ _ rfl w.heap.size (.slice none 0 0) _ [] z rfl (OwnM.nil _ _) rfl O4.out.rd (by simp; omega) K4.out.size ?_)
      intro v5 x5 h5 hg5 hn5
      have K5 := Lib.hid (kept_row K4.out hg5 (fun g hg => by cases hg))
      have O5 := Lib.hid h5
      obtain ⟨a5, c5, hv5⟩ := h5.slice
      subst hv5
      clear h5 hg5 hn5
      go_wp2_with (at_builtin; refine wpList_sliceM rfl _ _ rfl w.heap.size _ _ z r rfl O5.out rfl (HB.out.kept K5.out) (by omega) K5.out.size ?_)
      intro v6 x6 h6 hg6 hn6
      have K6 := Lib.hid (kept_row K5.out hg6 (fun g hg => (O5.out.lt g hg).1))
      have O6 := Lib.hid h6
      have hzr : (z ++ r).length ≤ 1000000 := by simp; omega
      obtain ⟨a6, c6, hv6⟩ := h6.slice
      clear h6 hg6 hn6
      generalize z ++ r = q at *
      subst hv6
      go_wp2_with fail
      refine (cut_any _ q _ O6.out.rd (HE.out.kept K6.out) hzr).mono ?_
      rintro e x7 ⟨lv, rv, rfl, hL, hR, k7⟩
      rw [HCut.out.1]
      rw [HCut.out.2.1] at hL
      rw [HCut.out.2.2] at hR
      have K7 := Lib.hid (K6.out.trans k7)
      have L7 := Lib.hid hL.rd
      have R7 := Lib.hid hR.rd
      obtain ⟨la, lc, hlv⟩ := own_slice hL
      obtain ⟨ra, rc, hrv⟩ := own_slice hR
      subst hlv hrv
      clear hL hR k7
      go_wp2_with fail
      refine (rsameH_any l l _ _ _ (HH.out.kept K7.out) L7.out (by omega) (by omega)).mono ?_
      rintro e x8 ⟨rfl, k8⟩
      rw [decide_eq_true (show l = l from rfl)]
      have K8 := Lib.hid (K7.out.trans k8)
      have hc1 := (R7.out.kept k8).conv
      have hc2 := (HB.out.kept K8.out).conv
      clear k8
      go_wp2
      go_ret
      exact ⟨rfl, K8.out⟩
end Go.Proofs.YtdhhlcgmkkpldaaDoor.Hd
