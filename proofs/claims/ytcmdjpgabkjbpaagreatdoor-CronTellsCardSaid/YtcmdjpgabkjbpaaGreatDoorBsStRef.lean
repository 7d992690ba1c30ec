/- Contracts of the document's answer for seconds. -/
import Derived.Test.YtcmdjpgabkjbpaaGreatDoorBsSt
import Derived.Test.YtcmdjpgabkjbpaaGreatDoorCivRef
import Derived.RowKit
namespace Go.Proofs.YtcmdjpgabkjbpaaGreatDoor
open Go.ChangeShapes Go.WideShapes Go.ChangeAt Go.RowKit
open Civ
set_option maxHeartbeats 2000000 in
theorem rmay_any (y m d h i s : Int) (w : World) :
    Calls Tryz.prog 37 #[civ y m d h i s] w fun e w' => e = .returned (.bool (mayB y m d h i s)) ∧ Kept w w' := by
  by_cases ko : okP y m d
  · have hm := Lib.hid (show mayB y m d h i s = tmB h i s by unfold mayB; rw [(okB_iff y m d).2 ko]; exact Bool.true_and _)
    have K := Lib.hid ko; clear ko
    go_enter Tryz.func37, Tryz.ntmps37
    go_wp2_with fail
    refine (rord_yes y m d _ K.out).mono ?_
    rintro e w1 ⟨rfl, rfl⟩
    go_wp2
    all_goals (go_ret; refine ⟨ret_bool ?_, (Kept.refl w).alloc _⟩; rw [hm.out]; first | (simp [tmB, *]; done) | (simp [tmB, *]; intros; omega))
  · have hm := Lib.hid (show mayB y m d h i s = false by unfold mayB; rw [(okB_no y m d).2 ko]; exact Bool.false_and _)
    have K := Lib.hid ko; clear ko
    go_enter Tryz.func37, Tryz.ntmps37
    go_wp2_with fail
    refine (rord_not y m d _ K.out).mono ?_
    rintro e w1 ⟨rfl, rfl⟩
    go_wp2
    go_ret
    exact ⟨ret_bool hm.out.symm, (Kept.refl w).alloc _⟩
end Go.Proofs.YtcmdjpgabkjbpaaGreatDoor
