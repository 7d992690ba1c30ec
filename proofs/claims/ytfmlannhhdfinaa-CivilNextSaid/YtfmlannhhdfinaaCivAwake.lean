/- The statements' own example: it comes to true. -/
import Derived.Test.YtfmlannhhdfinaaCivRef
namespace Go.Proofs.Ytfmlannhhdfinaa
open Go.ChangeShapes Go.WideShapes Go.ChangeAt Go.RowKit
open Civ
theorem ok_2000 : okP 2000 3 1 := ⟨by omega, by omega, by omega, by decide +kernel⟩
theorem ord_2000 : ord 2000 3 1 = 11017 := by decide +kernel
theorem cord_2000 (w : World) : Calls Try.prog 10 #[.int .i64 2000, .int .i64 3, .int .i64 1] w fun e w' => e = .returned (.tuple #[.int .i64 11017, .int .i64 0]) ∧ Grown w w' := by
  have := ord_yes 2000 3 1 w ok_2000; rwa [ord_2000] at this
theorem cdate_11017 (w : World) : Calls Try.prog 18 #[.int .i64 11017] w fun e w' => e = .returned (.tuple #[.int .i64 2000, .int .i64 3, .int .i64 1, .int .i64 0]) ∧ Grown w w' := by
  refine (date_yes 11017 w (by omega) (by omega)).mono ?_
  rintro e w' ⟨y, m, d, rfl, hk, ho, hg⟩
  obtain ⟨rfl, rfl, rfl⟩ := ord_inj hk ok_2000 (ho.trans ord_2000.symm)
  exact ⟨rfl, hg⟩
theorem cyday_2000 (w : World) : Calls Try.prog 13 #[.int .i64 2000, .int .i64 3, .int .i64 1] w fun e w' => e = .returned (.int .i64 61) ∧ Grown w w' :=
  yday_yes 2000 3 1 w ok_2000
theorem cwday_11017 (w : World) : Calls Try.prog 20 #[.int .i64 11017] w fun e w' => e = .returned (.int .i64 3) ∧ w = w' :=
  wday_any 11017 w
set_option maxHeartbeats 1000000 in
theorem awake_any (w : World) : Calls Try.prog 9 #[] w fun e w' => e = .returned (.bool true) ∧ Grown w w' := by
  go_enter Try.func9, Try.ntmps9
  go_wp2_with (first | (go_at_call 10; refine (cord_2000 _).mono ?_; rintro e w1 ⟨rfl, hg1⟩) | (go_at_call 18; refine (cdate_11017 _).mono ?_; rintro e w2 ⟨rfl, hg2⟩) | (go_at_call 20; refine (cwday_11017 _).mono ?_; rintro e w3 ⟨rfl, rfl⟩) | (go_at_call 13; refine (cyday_2000 _).mono ?_; rintro e w4 ⟨rfl, hg4⟩) | (go_at_call 17; refine (leap_yes 2000 _ rfl).mono ?_; rintro e w5 ⟨rfl, rfl⟩))
  go_ret
  exact ⟨rfl, Grown.trans' (Grown.trans' hg1 hg2) hg4⟩
end Go.Proofs.Ytfmlannhhdfinaa
