/- Any bytes are the header, and begin with the headers, that the document says, or with none. -/
import Derived.Test.YtdhhlcgmkkpldaaGreatDoorHdSd
import Derived.Test.YtdhhlcgmkkpldaaGreatDoorHdRd
set_option linter.unusedSimpArgs false
set_option linter.unusedVariables false
namespace Go.Proofs.YtdhhlcgmkkpldaaGreatDoor.Hd
open Go.ChangeShapes Go.WideShapes Go.ChangeAt Go.RowKit Go.Shelf
theorem cLR_len (l : B) : (cL l).length ≤ 50 ∧ (cR l).length ≤ l.length := by
  unfold cL cR
  cases h : cutA l with
  | none => simp
  | some x =>
    obtain ⟨a, r⟩ := x
    obtain ⟨h1, h2⟩ := cutA_iff.1 h
    simp only [Option.map_some, Option.getD_some]
    refine ⟨(okA_all h1).2, ?_⟩
    rw [h2]; simp
set_option maxRecDepth 100000 in
set_option maxHeartbeats 2000000 in
theorem reads14_walk (v : Value) (l : B) (w : World) (hB : BRd v l w) (hd : l.length ≤ maxLen) (hE : Env w) :
    Calls Tryz.prog 3 #[v] w fun e w' => e = .returned (.bool true) ∧ Kept w w' := by
  unfold maxLen at hd
  have HE := Lib.hid hE
  have HB := Lib.hid hB
  obtain ⟨va, vc, hvv⟩ := hB.slice
  subst hvv
  clear hB hE
  go_enter Tryz.func3, Tryz.ntmps3
  go_wp2_with fail
  refine (awake14_any _ HE.out).mono ?_
  rintro e x1 ⟨rfl, k1⟩
  have K1 := Lib.hid k1
  clear k1
  by_cases hs : 2000 < (l.length : Int)
  · go_wp2
    go_ret
    exact ⟨rfl, K1.out⟩
  have hl : l.length ≤ 2000 := by omega
  have HR := Lib.hid (fun w' (k : Kept w w') => read_any _ l w' (HB.out.kept k) (HE.out.kept k) (by omega))
  have HS := Lib.hid (fun w' (k : Kept w w') => rread_any _ l w' (HB.out.kept k) (by omega))
  have HC := Lib.hid (fun w' (k : Kept w w') => cut_any _ l w' (HB.out.kept k) (HE.out.kept k) (by omega))
  have HD := Lib.hid (fun w' (k : Kept w w') => rcut_any _ l w' (HB.out.kept k) (by omega))
  obtain ⟨hLl, hRl⟩ := cLR_len l
  generalize rH l = hh at *
  generalize rE l = re at *
  generalize cL l = L at *
  generalize cR l = R at *
  generalize cE l = ce at *
  obtain ⟨n, t⟩ := hh
  have heq : ∀ W, (binOp .eql 25 (hV (n, t)) (hV (n, t))).run Tryz.prog W = .ok (.bool true) W := fun W => (eql_hdr _ _ W).trans (by simp)
  clear HE HB
  go_wp2_with fail
  refine (HR.out _ K1.out).mono ?_
  rintro e x2 ⟨rfl, k2⟩
  have k2a := k2.alloc (.cells #[sV n, sV t] 25)
  have c0 := (Kept.refl (x2.alloc (.cells #[sV n, sV t] 25))).new 0 (v := sV n) rfl
  have c1 := (Kept.refl (x2.alloc (.cells #[sV n, sV t] 25))).new 1 (v := sV t) rfl
  have K2 := Lib.hid (K1.out.trans k2a)
  clear k2 k2a K1 HR
  go_upto_region 5 with (fail)
  generalize hb2 : x2.heap.size = b2 at *
  generalize x2.alloc (.cells #[sV n, sV t] 25) = x3 at *
  go_wp2_with fail
  refine (HS.out _ K2.out).mono ?_
  rintro e x4 ⟨rfl, k4⟩
  have k4a := k4.alloc (.cells #[sV n, sV t] 25)
  have d0 := k4a.yes c0
  have d1 := k4a.yes c1
  have f0 := (Kept.refl (x4.alloc (.cells #[sV n, sV t] 25))).new 0 (v := sV n) rfl
  have f1 := (Kept.refl (x4.alloc (.cells #[sV n, sV t] 25))).new 1 (v := sV t) rfl
  have K4 := Lib.hid (K2.out.trans k4a)
  clear k4 k4a K2 HS c0 c1 hb2
  go_upto_region 6 with (fail)
  generalize x4.heap.size = b4 at *
  generalize x4.alloc (.cells #[sV n, sV t] 25) = x5 at *
  go_wp2_with fail
  refine (HC.out _ K4.out).mono ?_
  rintro e x6 ⟨lv, rv, rfl, hlo, hro, k6⟩
  obtain ⟨la, lc, hlv⟩ := own_slice hlo
  obtain ⟨ra, rc, hrv⟩ := own_slice hro
  have L6 := Lib.hid hlo.rd
  have R6 := Lib.hid hro.rd
  subst hlv hrv
  have g0 := k6.yes d0
  have g1 := k6.yes d1
  have i0 := k6.yes f0
  have i1 := k6.yes f1
  have K6 := Lib.hid (K4.out.trans k6)
  clear k6 hlo hro HC K4 d0 d1 f0 f1
  go_wp2_with fail
  refine (HD.out _ K6.out).mono ?_
  rintro e x7 ⟨lv, rv, rfl, hlo, hro, k7⟩
  have M7 := Lib.hid hlo
  have S7 := Lib.hid hro
  obtain ⟨ma, mc, hlv⟩ := hlo.slice
  obtain ⟨sa, sc, hrv⟩ := hro.slice
  subst hlv hrv
  have L7 := Lib.hid (HRd.kept L6.out k7)
  have R7 := Lib.hid (R6.out.kept k7)
  have j0 := k7.yes g0
  have j1 := k7.yes g1
  have m0 := k7.yes i0
  have m1 := k7.yes i1
  have K7 := Lib.hid (K6.out.trans k7)
  clear k7 hlo hro HD K6 L6 R6 g0 g1 i0 i1
  have HSm := Lib.hid (rsameH_any L L _ _ x7 L7.out M7.out (by omega) (by omega))
  go_wp2_with fail
  refine HSm.out.mono ?_
  rintro e x8 ⟨rfl, k8⟩
  rw [decide_eq_true (show L = L from rfl)]
  have hc1 := (R7.out.kept k8).conv
  have hc2 := (S7.out.kept k8).conv
  have n0 := k8.yes j0
  have n1 := k8.yes j1
  have o0 := k8.yes m0
  have o1 := k8.yes m1
  have K8 := Lib.hid (K7.out.trans k8)
  clear k8 HSm L7 M7 R7 S7 K7 j0 j1 m0 m1
  go_wp2_with fail
  go_ret
  exact ⟨rfl, K8.out⟩
end Go.Proofs.YtdhhlcgmkkpldaaGreatDoor.Hd
