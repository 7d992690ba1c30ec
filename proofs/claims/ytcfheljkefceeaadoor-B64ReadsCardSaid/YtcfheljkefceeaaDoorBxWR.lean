/- Any text's bytes, and any lines', or that there are none, are what the document says. -/
import Derived.Test.YtcfheljkefceeaaDoorBxAw
import Derived.Test.YtcfheljkefceeaaDoorBxRd
set_option linter.unusedSimpArgs false
set_option linter.unusedVariables false
namespace Go.Proofs.YtcfheljkefceeaaDoor
open Go.ChangeShapes Go.WideShapes Go.ChangeAt Go.RowKit
open Bx
set_option maxRecDepth 100000 in
set_option maxHeartbeats 8000000 in
theorem reads13_walk (s : B) (w : World) (hd : s.length ≤ maxLen) (hE : Env w) : Calls Tryd.prog 4 #[sV s] w fun e w' => e = .returned (.bool true) ∧ Kept w w' := by
  unfold maxLen at hd
  have hss : (ByteArray.mk s.toArray).size = s.length := List.size_toArray
  have HEN := Lib.hid hE
  go_enter Tryd.func4, Tryd.ntmps4
  go_wp2_with fail
  refine (awake13_any w hE).mono ?_
  rintro e x1 ⟨rfl, k1⟩
  have K1 := Lib.hid k1
  clear k1
  clear hE
  by_cases hs : 600 < (s.length : Int)
  · go_wp2
    go_ret
    exact ⟨rfl, K1.out⟩
  have hl : s.length ≤ 600 := by omega
  go_wp2_with fail
  refine (bytes_any s x1 (by omega)).mono ?_
  rintro e x2 ⟨xv, rfl, ⟨av, hO, rfl⟩, k2⟩
  have K2 := Lib.hid (K1.out.trans k2)
  have R2 := Lib.hid hO.rd
  obtain ⟨a2, c2, hv2⟩ := own_slice hO
  subst hv2
  clear hO k2 K1
  go_wp2_with fail
  refine (rbytes_any s x2 (by omega)).mono ?_
  rintro e x3 ⟨xv, rfl, ⟨bv, hO, rfl⟩, k3⟩
  have K3 := Lib.hid (K2.out.trans k3)
  have R3 := Lib.hid (R2.out.kept k3)
  have S3 := Lib.hid hO.rd
  obtain ⟨a3, c3, hv3⟩ := own_slice hO
  subst hv3
  clear hO k3 K2 R2
  generalize bE s = ev at *
  generalize (byt s).getD [] = D at *
  obtain ⟨cp, x4, hcv, k4, hR4⟩ := to_bytes s x3
  have K4 := Lib.hid (K3.out.trans k4)
  have R4 := Lib.hid (R3.out.kept k4)
  have S4 := Lib.hid (S3.out.kept k4)
  have B4 := Lib.hid hR4
  have E4 := Lib.hid (HEN.out.kept K4.out)
  clear k4 hR4 K3 R3 S3
  go_wp2_with fail
  clear hcv
  refine (decode_any _ s x4 B4.out E4.out (by omega)).mono ?_
  rintro e x5 ⟨xv, rfl, ⟨cv, hO, rfl⟩, k5⟩
  have K5 := Lib.hid (K4.out.trans k5)
  have R5 := Lib.hid (R4.out.kept k5)
  have S5 := Lib.hid (S4.out.kept k5)
  have T5 := Lib.hid hO.rd
  obtain ⟨a5, c5, hv5⟩ := own_slice hO
  subst hv5
  clear hO k5 K4 R4 S4 B4 E4
  obtain ⟨cq, x6, hcv, k6, hR6⟩ := to_bytes s x5
  have K6 := Lib.hid (K5.out.trans k6)
  have R6 := Lib.hid (R5.out.kept k6)
  have S6 := Lib.hid (S5.out.kept k6)
  have T6 := Lib.hid (T5.out.kept k6)
  have B6 := Lib.hid hR6
  clear k6 hR6 K5 R5 S5 T5
  go_wp2_with fail
  clear hcv
  refine (rdecode_any _ s x6 B6.out (by omega)).mono ?_
  rintro e x7 ⟨xv, rfl, ⟨dv, hO, rfl⟩, k7⟩
  have K7 := Lib.hid (K6.out.trans k7)
  have hc1 := (R6.out.kept k7).conv
  have hc2 := (S6.out.kept k7).conv
  have hc3 := (T6.out.kept k7).conv
  have hc4 := hO.rd.conv
  obtain ⟨a7, c7, hv7⟩ := own_slice hO
  subst hv7
  clear hO k7 K6 R6 S6 T6 B6
  generalize dE s = ew at *
  generalize (dec s).getD [] = G at *
  go_wp2
  go_ret
  exact ⟨rfl, K7.out⟩
end Go.Proofs.YtcfheljkefceeaaDoor
