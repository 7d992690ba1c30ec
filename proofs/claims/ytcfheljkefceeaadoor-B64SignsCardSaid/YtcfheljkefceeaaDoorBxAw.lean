/- The chapter's examples. -/
import Derived.Test.YtcfheljkefceeaaDoorBxC
import Derived.Lib.SlBytesConst
set_option linter.unusedSimpArgs false
set_option linter.unusedVariables false
namespace Go.Proofs.YtcfheljkefceeaaDoor
open Go.ChangeShapes Go.WideShapes Go.ChangeAt Go.RowKit
open Bx
theorem ex_byt : byt [89, 81, 61, 61] = some [97] := byt_some ex_a
theorem ex_dec : dec [89, 87, 74, 106, 13, 10] = some [97, 98, 99] := dec_some ex_enc
set_option maxRecDepth 100000 in
set_option maxHeartbeats 2000000 in
theorem awake13_any (w : World) (hE : Env w) : Calls Tryd.prog 8 #[] w fun e w' => e = .returned (.bool true) ∧ Kept w w' := by
  have kc := fun (w : World) (C : Array Value) (n c : Nat) => Lib.run_convert_bytes_const (P := Tryd.prog) w 22 5 C n c Tryd.underlying22 Tryd.underlying5
  go_enter Tryd.func8, Tryd.ntmps8
  go_wp2_with fail
  refine (bytes_any [89, 81, 61, 61] w (by decide)).mono ?_
  rintro e x1 ⟨xv, rfl, ⟨av, hO, rfl⟩, k1⟩
  rw [ex_byt, show (some ([97] : B)).getD [] = [97] from rfl] at hO
  rw [bE_some ex_byt]
  have K1 := Lib.hid k1
  have R1 := Lib.hid (show BRd av [97] x1 from hO.rd)
  have E1 := Lib.hid (hE.kept k1)
  obtain ⟨a1, c1, hv1⟩ := own_slice hO
  rw [show ([97] : B).length = 1 from rfl] at hv1
  subst hv1
  clear hO k1 hE
  have ka := (Kept.refl x1).alloc (.cells #[.int .u8 89, .int .u8 87, .int .u8 74, .int .u8 106, .int .u8 13, .int .u8 10] 5 (6, 7))
  have KA := Lib.hid (K1.out.trans ka)
  have RA := Lib.hid (brd_new x1 [89, 87, 74, 106, 13, 10] 5 #[.int .u8 89, .int .u8 87, .int .u8 74, .int .u8 106, .int .u8 13, .int .u8 10] rfl 6 (Nat.le_refl 6) (6, 7))
  have EA := Lib.hid (E1.out.kept ka)
  have R1A := Lib.hid (R1.out.kept ka)
  clear K1 R1 E1 ka
  go_wp2_with fail
  refine (decode_any _ [89, 87, 74, 106, 13, 10] _ RA.out EA.out (by decide)).mono ?_
  rintro e x2 ⟨xv, rfl, ⟨cv, hO, rfl⟩, k2⟩
  rw [ex_dec, show (some ([97, 98, 99] : B)).getD [] = [97, 98, 99] from rfl] at hO
  rw [dE_some ex_dec]
  have K2 := Lib.hid (KA.out.trans k2)
  have R2 := Lib.hid (R1A.out.kept k2)
  have C2 := Lib.hid (show BRd cv [97, 98, 99] x2 from hO.rd)
  obtain ⟨a2, c2, hv2⟩ := own_slice hO
  rw [show ([97, 98, 99] : B).length = 3 from rfl] at hv2
  subst hv2
  clear hO k2 KA RA EA R1A
  have kb := (Kept.refl x2).alloc (.cells #[.int .u8 97] 5 (1, 2))
  have KB := Lib.hid (K2.out.trans kb)
  have RB := Lib.hid (brd_new x2 [97] 5 #[.int .u8 97] rfl 1 (Nat.le_refl 1) (1, 2))
  have R1B := Lib.hid (R2.out.kept kb)
  have CB := Lib.hid (C2.out.kept kb)
  clear K2 R2 C2 kb
  go_wp2_with fail
  refine (raw_any _ [97] _ RB.out (by decide)).mono ?_
  rintro e x3 ⟨rfl, k3⟩
  rw [show raw [97] = [89, 81, 61, 61] from ex_a]
  have K3 := Lib.hid (KB.out.trans k3)
  have R3 := R1B.out.kept k3
  have C3 := Lib.hid (CB.out.kept k3)
  have hc1 := R3.conv
  have hc2 := C3.out.conv
  clear KB RB R1B CB k3 R3
  go_wp2_with fail
  refine (encode_any _ [97, 98, 99] _ C3.out (by decide)).mono ?_
  rintro e x4 ⟨xv, rfl, hO, k4⟩
  rw [ex_enc] at hO
  have K4 := Lib.hid (K3.out.trans k4)
  have hc3 := hO.rd.conv
  obtain ⟨a4, c4, hv4⟩ := own_slice hO
  rw [show ([89, 87, 74, 106, 13, 10] : B).length = 6 from rfl] at hv4
  subst hv4
  clear hO k4 K3 C3 hc1 hc2
  go_wp2_with fail
  go_ret
  exact ⟨rfl, K4.out⟩
end Go.Proofs.YtcfheljkefceeaaDoor
