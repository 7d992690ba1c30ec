/- The chapter's example. -/
import Derived.Test.YtkcalnmemjioaaaQpD
import Derived.Test.YtkcalnmemjioaaaQpE
set_option linter.unusedSimpArgs false
set_option linter.unusedVariables false
namespace Go.Proofs.Ytkcalnmemjioaaa
open Go.ChangeShapes Go.WideShapes Go.ChangeAt Go.RowKit
open Qp
def exA : B := [195, 169, 10]
def exC : B := [61, 67, 51, 61, 65, 57, 13, 10]
theorem ex_dec : dec exC = some exA := by
  have := dec_enc exA 0
  rwa [show enc 0 exA = exC from ex_enc] at this
set_option maxRecDepth 100000 in
set_option maxHeartbeats 2000000 in
theorem awake12_any (w : World) : Calls Try.prog 9 #[] w fun e w' => e = .returned (.bool true) ∧ Kept w w' := by
  have hB := Lib.hid (brd_new w exA 5 #[.int .u8 195, .int .u8 169, .int .u8 10] rfl 3 (Nat.le_refl 3) (0, 0))
  have K1 := Lib.hid ((Kept.refl w).alloc (.cells #[.int .u8 195, .int .u8 169, .int .u8 10] 5))
  go_enter Try.func9, Try.ntmps9
  go_wp2_with fail
  refine (encode_any _ exA _ hB.out (by decide)).mono ?_
  rintro e x1 ⟨xv, rfl, hO, k1⟩
  rw [show enc 0 exA = exC from ex_enc] at hO
  have K2 := Lib.hid (K1.out.trans k1)
  have R1 := Lib.hid hO.rd
  obtain ⟨a1, c1, hv⟩ := own_slice hO
  subst hv
  clear hO k1 K1 hB
  go_wp2_with fail
  refine (decode_any _ exC _ R1.out (by decide)).mono ?_
  rintro e x2 ⟨xv, rfl, ⟨yv, hO, rfl⟩, k2⟩
  rw [ex_dec] at hO
  rw [dE_some ex_dec]
  rw [show (some exA).getD [] = exA from rfl] at hO
  have K3 := Lib.hid (K2.out.trans k2)
  have R2 := Lib.hid (R1.out.kept k2)
  have D2 := Lib.hid hO.rd
  have hc1 := R2.out.conv
  have hc2 := D2.out.conv
  obtain ⟨a2, c2, hv⟩ := own_slice hO
  subst hv
  clear hO k2 K2 R1
  go_wp2_with fail
  go_ret
  exact ⟨rfl, K3.out⟩
end Go.Proofs.Ytkcalnmemjioaaa
