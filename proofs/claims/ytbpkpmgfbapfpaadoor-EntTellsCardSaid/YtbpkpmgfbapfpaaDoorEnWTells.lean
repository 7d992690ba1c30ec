/- The law EntTells, walked (given package ent's contracts). -/
import Derived.Test.YtbpkpmgfbapfpaaDoorEnAw
import Derived.Test.YtbpkpmgfbapfpaaDoorEnRefH
set_option linter.unusedVariables false
namespace Go.Proofs.YtbpkpmgfbapfpaaDoor
open Go.ChangeShapes Go.WideShapes Go.ChangeAt Go.RowKit
open En
set_option maxRecDepth 100000 in
set_option maxHeartbeats 4000000 in
theorem tells7_walk {I : World → Prop} (H : EntC I) (l : List UInt8) (n : Int) (c : UInt8) (w : World) (hl : l.length ≤ maxLen) (n1 : -9223372036854775808 ≤ n) (n2 : n ≤ 9223372036854775807) (hI : I w) : Calls Tryd.prog 3 #[.string ⟨l.toArray⟩, .int .i64 n, .int .u8 c.toNat] w fun e w' => e = .returned (.bool true) ∧ Kept w w' := by
  unfold maxLen at hl
  have H := Lib.hid H
  have I0 := Lib.hid hI
  have K0 := Lib.hid (Kept.refl w)
  clear hI
  go_enter Tryd.func3, Tryd.ntmps3
  go_wp2_with fail
  refine (awake7_any H.out _ I0.out).mono ?_
  rintro e x1 ⟨rfl, k1⟩
  have K1 := Lib.hid (K0.out.trans k1); have I1 := Lib.hid (H.out.stays _ _ I0.out k1)
  clear k1 K0 I0
  by_cases hs : 600 < (l.length : Int)
  · go_wp2
    go_ret
    exact ⟨rfl, K1.out⟩
  have hl6 : l.length ≤ 600 := by omega
  go_wp2_with fail
  refine (H.out.decode l _ I1.out (by omega)).mono ?_
  rintro e x2 ⟨rfl, k2⟩
  have K2 := Lib.hid (K1.out.trans k2); have I2 := Lib.hid (H.out.stays _ _ I1.out k2)
  clear k2 K1 I1
  go_wp2_with fail
  refine (rdecode_any l _ (by omega)).mono ?_
  rintro e x3 ⟨rfl, k3⟩
  have K3 := Lib.hid (K2.out.trans k3); have I3 := Lib.hid (H.out.stays _ _ I2.out k3)
  clear k3 K2 I2
  generalize deT l = dt at *
  generalize deE l = de at *
  go_wp2_with fail
  refine (H.out.rune n _ I3.out n1 n2).mono ?_
  rintro e x4 ⟨rfl, k4⟩
  have K4 := Lib.hid (K3.out.trans k4); have I4 := Lib.hid (H.out.stays _ _ I3.out k4)
  clear k4 K3 I3
  go_wp2_with fail
  refine (rrune_any n _).mono ?_
  rintro e x5 ⟨rfl, k5⟩
  have K5 := Lib.hid (K4.out.trans k5); have I5 := Lib.hid (H.out.stays _ _ I4.out k5)
  clear k5 K4 I4
  generalize rnS n = rs at *
  generalize okN n = rb at *
  go_wp2_with fail
  refine (rspace_any c _).mono ?_
  rintro e x9 ⟨rfl, rfl⟩
  generalize hsb : spB c = sb at *
  go_wp2_with fail
  refine (H.out.loose l _ I5.out (by omega)).mono ?_
  rintro e x6 ⟨rfl, k6⟩
  have K6 := Lib.hid (K5.out.trans k6); have I6 := Lib.hid (H.out.stays _ _ I5.out k6)
  clear k6 K5 I5
  go_wp2_with fail
  refine (rloose_any l _ (by omega)).mono ?_
  rintro e x7 ⟨rfl, k7⟩
  have K7 := Lib.hid (K6.out.trans k7); have I7 := Lib.hid (H.out.stays _ _ I6.out k7)
  clear k7 K6 I6
  generalize (gone l).1 = gl at *
  go_wp2_with fail
  refine (H.out.encode l _ I7.out (by omega)).mono ?_
  rintro e x8 ⟨rfl, k8⟩
  have K8 := Lib.hid (K7.out.trans k8); have I8 := Lib.hid (H.out.stays _ _ I7.out k8)
  clear k8 K7 I7
  go_wp2_with fail
  refine (rencode_any l _ (by omega)).mono ?_
  rintro e x9 ⟨rfl, k9⟩
  have K9 := Lib.hid (K8.out.trans k9); have I9 := Lib.hid (H.out.stays _ _ I8.out k9)
  clear k9 K8 I8
  generalize enc l = el at *
  go_wp2_with fail
  refine (H.out.trim l _ I9.out (by omega)).mono ?_
  rintro e x10 ⟨rfl, k10⟩
  have K10 := Lib.hid (K9.out.trans k10); have I10 := Lib.hid (H.out.stays _ _ I9.out k10)
  clear k10 K9 I9
  go_wp2_with fail
  refine (rtrim_any l _ (by omega)).mono ?_
  rintro e x11 ⟨rfl, k11⟩
  have K11 := Lib.hid (K10.out.trans k11); have I11 := Lib.hid (H.out.stays _ _ I10.out k11)
  clear k11 K10 I10
  generalize tr l = tl at *
  go_wp2_with fail
  refine (H.out.space c _ I11.out).mono ?_
  rintro e x12 ⟨rfl, k12⟩
  have K12 := Lib.hid (K11.out.trans k12); have I12 := Lib.hid (H.out.stays _ _ I11.out k12)
  clear k12 K11 I11
  rw [hsb]
  go_wp2
  go_ret
  exact ⟨rfl, K12.out⟩
end Go.Proofs.YtbpkpmgfbapfpaaDoor
