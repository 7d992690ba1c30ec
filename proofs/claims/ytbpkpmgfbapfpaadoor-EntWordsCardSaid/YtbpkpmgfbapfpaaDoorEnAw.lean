/- The chapter's examples, given package ent's contracts. -/
import Derived.Test.YtbpkpmgfbapfpaaDoorEnC
set_option linter.unusedVariables false
namespace Go.Proofs.YtbpkpmgfbapfpaaDoor
open Go.ChangeShapes Go.WideShapes Go.ChangeAt Go.RowKit
open En
set_option maxRecDepth 100000 in
set_option maxHeartbeats 2000000 in
theorem awake7_any {I : World → Prop} (H : EntC I) (w : World) (hI : I w) : Calls Tryd.prog 9 #[] w fun e w' => e = .returned (.bool true) ∧ Kept w w' := by
  have D1 := Lib.hid (show ∀ w, I w → Calls Tryd.prog 10 #[.string ⟨#[97, 38, 35, 120, 52, 49, 59, 38, 108, 116, 59]⟩] w fun e w' => e = .returned (.tuple #[.string ⟨#[97, 65, 60]⟩, .int .i64 0]) ∧ Kept w w' from fun w h => by
    refine (H.decode [97, 38, 35, 120, 52, 49, 59, 38, 108, 116, 59] w h (by decide)).mono ?_
    rintro e x ⟨rfl, k⟩
    exact ⟨by rw [show deT [97, 38, 35, 120, 52, 49, 59, 38, 108, 116, 59] = [97, 65, 60] by decide +kernel, show deE [97, 38, 35, 120, 52, 49, 59, 38, 108, 116, 59] = 0 by decide +kernel], k⟩)
  have D2 := Lib.hid (show ∀ w, I w → Calls Tryd.prog 10 #[.string ⟨#[38, 120, 59]⟩] w fun e w' => e = .returned (.tuple #[.string ⟨#[]⟩, .int .i64 2]) ∧ Kept w w' from fun w h => by
    refine (H.decode [38, 120, 59] w h (by decide)).mono ?_
    rintro e x ⟨rfl, k⟩
    exact ⟨by rw [show deT [38, 120, 59] = [] by decide +kernel, show deE [38, 120, 59] = 2 by decide +kernel], k⟩)
  have D3 := Lib.hid (show ∀ w, I w → Calls Tryd.prog 15 #[.string ⟨#[38, 120, 59]⟩] w fun e w' => e = .returned (.string ⟨#[38, 120, 59]⟩) ∧ Kept w w' from fun w h => by
    refine (H.loose [38, 120, 59] w h (by decide)).mono ?_
    rintro e x ⟨rfl, k⟩
    exact ⟨by rw [show (gone [38, 120, 59]).1 = [38, 120, 59] by decide +kernel], k⟩)
  have D4 := Lib.hid (show ∀ w, I w → Calls Tryd.prog 17 #[.string ⟨#[60]⟩] w fun e w' => e = .returned (.string ⟨#[38, 108, 116, 59]⟩) ∧ Kept w w' from fun w h => by
    refine (H.encode [60] w h (by decide)).mono ?_
    rintro e x ⟨rfl, k⟩
    exact ⟨by rw [show enc [60] = [38, 108, 116, 59] by decide +kernel], k⟩)
  have D5 := Lib.hid (show ∀ w, I w → Calls Tryd.prog 19 #[.string ⟨#[32, 97, 32, 32, 98, 32]⟩] w fun e w' => e = .returned (.string ⟨#[97, 32, 98]⟩) ∧ Kept w w' from fun w h => by
    refine (H.trim [32, 97, 32, 32, 98, 32] w h (by decide)).mono ?_
    rintro e x ⟨rfl, k⟩
    exact ⟨by rw [show tr [32, 97, 32, 32, 98, 32] = [97, 32, 98] by decide +kernel], k⟩)
  have D6 := Lib.hid (show ∀ w, I w → Calls Tryd.prog 21 #[.int .u8 9] w fun e w' => e = .returned (.bool true) ∧ Kept w w' from fun w h => by
    refine (H.space 9 w h).mono ?_
    rintro e x ⟨rfl, k⟩
    exact ⟨by rw [show spB 9 = true by decide +kernel], k⟩)
  have ST := Lib.hid H.stays
  have I0 := Lib.hid hI
  clear H hI
  go_enter Tryd.func9, Tryd.ntmps9
  go_wp2_with fail
  refine (D1.out _ I0.out).mono ?_
  rintro e x1 ⟨rfl, k1⟩
  have K1 := Lib.hid k1
  have I1 := Lib.hid (ST.out _ _ I0.out k1)
  clear k1
  go_wp2_with fail
  refine (D2.out _ I1.out).mono ?_
  rintro e x2 ⟨rfl, k2⟩
  have K2 := Lib.hid (K1.out.trans k2)
  have I2 := Lib.hid (ST.out _ _ I1.out k2)
  clear k2
  go_wp2_with fail
  refine (D3.out _ I2.out).mono ?_
  rintro e x3 ⟨rfl, k3⟩
  have K3 := Lib.hid (K2.out.trans k3)
  have I3 := Lib.hid (ST.out _ _ I2.out k3)
  clear k3
  go_wp2_with fail
  refine (D4.out _ I3.out).mono ?_
  rintro e x4 ⟨rfl, k4⟩
  have K4 := Lib.hid (K3.out.trans k4)
  have I4 := Lib.hid (ST.out _ _ I3.out k4)
  clear k4
  go_wp2_with fail
  refine (D5.out _ I4.out).mono ?_
  rintro e x5 ⟨rfl, k5⟩
  have K5 := Lib.hid (K4.out.trans k5)
  have I5 := Lib.hid (ST.out _ _ I4.out k5)
  clear k5
  go_wp2_with fail
  refine (D6.out _ I5.out).mono ?_
  rintro e x6 ⟨rfl, k6⟩
  go_wp2
  go_ret
  exact ⟨rfl, K5.out.trans k6⟩
end Go.Proofs.YtbpkpmgfbapfpaaDoor
