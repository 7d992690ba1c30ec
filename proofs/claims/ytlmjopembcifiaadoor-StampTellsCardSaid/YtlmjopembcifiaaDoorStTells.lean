/- The law StampTells, walked. -/
import Derived.Test.YtlmjopembcifiaaDoorStAwake
import Derived.Test.YtlmjopembcifiaaDoorStRef
namespace Go.Proofs.YtlmjopembcifiaaDoor
open Go.ChangeShapes Go.WideShapes Go.ChangeAt Go.RowKit
open Civ
set_option maxHeartbeats 4000000 in
theorem walkTells1 (y m d h i s t : Int) (w : World) (_ : -9223372036854775808 ≤ t) (_ : t ≤ 9223372036854775807) (htab : Tab w) (hc : okP y m d ∧ tmB h i s = true) (hi : inCal t) :
    Calls Tryd.prog 3 #[civ y m d h i s, .int .i64 t] w fun e w' => e = .returned (.bool true) ∧ Kept w w' := by
    have HT := Lib.hid htab; clear htab
    have HC := Lib.hid hc; clear hc
    have HI := Lib.hid hi; clear hi
    go_enter Tryd.func3, Tryd.ntmps3
    go_wp2_with fail
    refine (awake_yes _ (((Kept.refl w).alloc _).tab' HT.out)).mono ?_
    rintro e w1 ⟨rfl, k1⟩
    have c0 := (k1).new 0 rfl
    have c1 := (k1).new 1 rfl
    have c2 := (k1).new 2 rfl
    have c3 := (k1).new 3 rfl
    have c4 := (k1).new 4 rfl
    have c5 := (k1).new 5 rfl
    go_wp2_with fail
    clear c0 c1 c2 c3 c4 c5
    refine (of_yes y m d h i s _ HC.out.1 HC.out.2).mono ?_
    rintro e w2 ⟨rfl, k2⟩
    have q2 := k1.trans k2
    have c0 := (q2).new 0 rfl
    have c1 := (q2).new 1 rfl
    have c2 := (q2).new 2 rfl
    have c3 := (q2).new 3 rfl
    have c4 := (q2).new 4 rfl
    have c5 := (q2).new 5 rfl
    go_wp2_with fail
    clear c0 c1 c2 c3 c4 c5
    refine (rof_yes y m d h i s _ HC.out.1 HC.out.2).mono ?_
    rintro e w3 ⟨rfl, k3⟩
    have q3 := q2.trans k3
    go_wp2_with fail
    refine (at_yes t _ HI.out).mono ?_
    rintro e w4 ⟨_, rfl, k4⟩
    have q4 := q3.trans k4
    go_wp2_with fail
    refine (rat_yes t _ HI.out).mono ?_
    rintro e w5 ⟨_, rfl, k5⟩
    have q5 := q4.trans k5.back
    have c0 := (q5).new2 0 rfl
    have c1 := (q5).new2 1 rfl
    have c2 := (q5).new2 2 rfl
    have c3 := (q5).new2 3 rfl
    have c4 := (q5).new2 4 rfl
    have c5 := (q5).new2 5 rfl
    go_wp2_with fail
    clear c0 c1 c2 c3 c4 c5
    refine (rmay_any y m d h i s _).mono ?_
    rintro e w6 ⟨rfl, k6⟩
    have q6 := q5.trans k6.back
    have p6 := k5.trans k6.back
    have c0 := (q6).new 0 rfl
    have c1 := (q6).new 1 rfl
    have c2 := (q6).new 2 rfl
    have c3 := (q6).new 3 rfl
    have c4 := (q6).new 4 rfl
    have c5 := (q6).new 5 rfl
    have x0 := (p6).new 0 rfl
    have x1 := (p6).new 1 rfl
    have x2 := (p6).new 2 rfl
    have x3 := (p6).new 3 rfl
    have x4 := (p6).new 4 rfl
    have x5 := (p6).new 5 rfl
    have v0 := (k6).new 0 rfl
    have v1 := (k6).new 1 rfl
    have v2 := (k6).new 2 rfl
    have v3 := (k6).new 3 rfl
    have v4 := (k6).new 4 rfl
    have v5 := (k6).new 5 rfl
    have KK := Lib.hid q6.back
    clear k1 k2 k3 k4 k5 k6 q2 q3 q4 q5 q6 p6
    go_wp2_with fail
    refine (may_any y m d h i s _).mono ?_
    rintro e w7 ⟨rfl, k7⟩
    go_wp2
    go_ret
    exact ⟨rfl, KK.out.trans k7⟩
set_option maxHeartbeats 4000000 in
theorem walkTells2 (y m d h i s t : Int) (w : World) (t0 : -9223372036854775808 ≤ t) (t1 : t ≤ 9223372036854775807) (htab : Tab w) (hc : okP y m d ∧ tmB h i s = true) (hi : ¬ inCal t) :
    Calls Tryd.prog 3 #[civ y m d h i s, .int .i64 t] w fun e w' => e = .returned (.bool true) ∧ Kept w w' := by
    have HT := Lib.hid htab; clear htab
    have HC := Lib.hid hc; clear hc
    have HI := Lib.hid hi; clear hi
    go_enter Tryd.func3, Tryd.ntmps3
    go_wp2_with fail
    refine (awake_yes _ (((Kept.refl w).alloc _).tab' HT.out)).mono ?_
    rintro e w1 ⟨rfl, k1⟩
    have c0 := (k1).new 0 rfl
    have c1 := (k1).new 1 rfl
    have c2 := (k1).new 2 rfl
    have c3 := (k1).new 3 rfl
    have c4 := (k1).new 4 rfl
    have c5 := (k1).new 5 rfl
    go_wp2_with fail
    clear c0 c1 c2 c3 c4 c5
    refine (of_yes y m d h i s _ HC.out.1 HC.out.2).mono ?_
    rintro e w2 ⟨rfl, k2⟩
    have q2 := k1.trans k2
    have c0 := (q2).new 0 rfl
    have c1 := (q2).new 1 rfl
    have c2 := (q2).new 2 rfl
    have c3 := (q2).new 3 rfl
    have c4 := (q2).new 4 rfl
    have c5 := (q2).new 5 rfl
    go_wp2_with fail
    clear c0 c1 c2 c3 c4 c5
    refine (rof_yes y m d h i s _ HC.out.1 HC.out.2).mono ?_
    rintro e w3 ⟨rfl, k3⟩
    have q3 := q2.trans k3
    go_wp2_with fail
    refine (at_not t _ t0 t1 HI.out).mono ?_
    rintro e w4 ⟨rfl, k4⟩
    have q4 := q3.trans k4
    go_wp2_with fail
    refine (rat_not t _ t0 t1 HI.out).mono ?_
    rintro e w5 ⟨rfl, k5⟩
    have q5 := q4.trans k5.back
    have c0 := (q5).new2 0 rfl
    have c1 := (q5).new2 1 rfl
    have c2 := (q5).new2 2 rfl
    have c3 := (q5).new2 3 rfl
    have c4 := (q5).new2 4 rfl
    have c5 := (q5).new2 5 rfl
    go_wp2_with fail
    clear c0 c1 c2 c3 c4 c5
    refine (rmay_any y m d h i s _).mono ?_
    rintro e w6 ⟨rfl, k6⟩
    have q6 := q5.trans k6.back
    have p6 := k5.trans k6.back
    have c0 := (q6).new 0 rfl
    have c1 := (q6).new 1 rfl
    have c2 := (q6).new 2 rfl
    have c3 := (q6).new 3 rfl
    have c4 := (q6).new 4 rfl
    have c5 := (q6).new 5 rfl
    have x0 := (p6).new 0 rfl
    have x1 := (p6).new 1 rfl
    have x2 := (p6).new 2 rfl
    have x3 := (p6).new 3 rfl
    have x4 := (p6).new 4 rfl
    have x5 := (p6).new 5 rfl
    have v0 := (k6).new 0 rfl
    have v1 := (k6).new 1 rfl
    have v2 := (k6).new 2 rfl
    have v3 := (k6).new 3 rfl
    have v4 := (k6).new 4 rfl
    have v5 := (k6).new 5 rfl
    have KK := Lib.hid q6.back
    clear k1 k2 k3 k4 k5 k6 q2 q3 q4 q5 q6 p6
    go_wp2_with fail
    refine (may_any y m d h i s _).mono ?_
    rintro e w7 ⟨rfl, k7⟩
    go_wp2
    go_ret
    exact ⟨rfl, KK.out.trans k7⟩
set_option maxHeartbeats 4000000 in
theorem walkTells3 (y m d h i s t : Int) (w : World) (_ : -9223372036854775808 ≤ t) (_ : t ≤ 9223372036854775807) (htab : Tab w) (hc : ¬ (okP y m d ∧ tmB h i s = true)) (hi : inCal t) :
    Calls Tryd.prog 3 #[civ y m d h i s, .int .i64 t] w fun e w' => e = .returned (.bool true) ∧ Kept w w' := by
    have HT := Lib.hid htab; clear htab
    have HC := Lib.hid hc; clear hc
    have HI := Lib.hid hi; clear hi
    go_enter Tryd.func3, Tryd.ntmps3
    go_wp2_with fail
    refine (awake_yes _ (((Kept.refl w).alloc _).tab' HT.out)).mono ?_
    rintro e w1 ⟨rfl, k1⟩
    have c0 := (k1).new 0 rfl
    have c1 := (k1).new 1 rfl
    have c2 := (k1).new 2 rfl
    have c3 := (k1).new 3 rfl
    have c4 := (k1).new 4 rfl
    have c5 := (k1).new 5 rfl
    go_wp2_with fail
    clear c0 c1 c2 c3 c4 c5
    refine (of_not y m d h i s _ HC.out).mono ?_
    rintro e w2 ⟨rfl, k2⟩
    have q2 := k1.trans k2
    have c0 := (q2).new 0 rfl
    have c1 := (q2).new 1 rfl
    have c2 := (q2).new 2 rfl
    have c3 := (q2).new 3 rfl
    have c4 := (q2).new 4 rfl
    have c5 := (q2).new 5 rfl
    go_wp2_with fail
    clear c0 c1 c2 c3 c4 c5
    refine (rof_not y m d h i s _ HC.out).mono ?_
    rintro e w3 ⟨rfl, k3⟩
    have q3 := q2.trans k3
    go_wp2_with fail
    refine (at_yes t _ HI.out).mono ?_
    rintro e w4 ⟨_, rfl, k4⟩
    have q4 := q3.trans k4
    go_wp2_with fail
    refine (rat_yes t _ HI.out).mono ?_
    rintro e w5 ⟨_, rfl, k5⟩
    have q5 := q4.trans k5.back
    have c0 := (q5).new2 0 rfl
    have c1 := (q5).new2 1 rfl
    have c2 := (q5).new2 2 rfl
    have c3 := (q5).new2 3 rfl
    have c4 := (q5).new2 4 rfl
    have c5 := (q5).new2 5 rfl
    go_wp2_with fail
    clear c0 c1 c2 c3 c4 c5
    refine (rmay_any y m d h i s _).mono ?_
    rintro e w6 ⟨rfl, k6⟩
    have q6 := q5.trans k6.back
    have p6 := k5.trans k6.back
    have c0 := (q6).new 0 rfl
    have c1 := (q6).new 1 rfl
    have c2 := (q6).new 2 rfl
    have c3 := (q6).new 3 rfl
    have c4 := (q6).new 4 rfl
    have c5 := (q6).new 5 rfl
    have x0 := (p6).new 0 rfl
    have x1 := (p6).new 1 rfl
    have x2 := (p6).new 2 rfl
    have x3 := (p6).new 3 rfl
    have x4 := (p6).new 4 rfl
    have x5 := (p6).new 5 rfl
    have v0 := (k6).new 0 rfl
    have v1 := (k6).new 1 rfl
    have v2 := (k6).new 2 rfl
    have v3 := (k6).new 3 rfl
    have v4 := (k6).new 4 rfl
    have v5 := (k6).new 5 rfl
    have KK := Lib.hid q6.back
    clear k1 k2 k3 k4 k5 k6 q2 q3 q4 q5 q6 p6
    go_wp2_with fail
    refine (may_any y m d h i s _).mono ?_
    rintro e w7 ⟨rfl, k7⟩
    go_wp2
    go_ret
    exact ⟨rfl, KK.out.trans k7⟩
set_option maxHeartbeats 4000000 in
theorem walkTells4 (y m d h i s t : Int) (w : World) (t0 : -9223372036854775808 ≤ t) (t1 : t ≤ 9223372036854775807) (htab : Tab w) (hc : ¬ (okP y m d ∧ tmB h i s = true)) (hi : ¬ inCal t) :
    Calls Tryd.prog 3 #[civ y m d h i s, .int .i64 t] w fun e w' => e = .returned (.bool true) ∧ Kept w w' := by
    have HT := Lib.hid htab; clear htab
    have HC := Lib.hid hc; clear hc
    have HI := Lib.hid hi; clear hi
    go_enter Tryd.func3, Tryd.ntmps3
    go_wp2_with fail
    refine (awake_yes _ (((Kept.refl w).alloc _).tab' HT.out)).mono ?_
    rintro e w1 ⟨rfl, k1⟩
    have c0 := (k1).new 0 rfl
    have c1 := (k1).new 1 rfl
    have c2 := (k1).new 2 rfl
    have c3 := (k1).new 3 rfl
    have c4 := (k1).new 4 rfl
    have c5 := (k1).new 5 rfl
    go_wp2_with fail
    clear c0 c1 c2 c3 c4 c5
    refine (of_not y m d h i s _ HC.out).mono ?_
    rintro e w2 ⟨rfl, k2⟩
    have q2 := k1.trans k2
    have c0 := (q2).new 0 rfl
    have c1 := (q2).new 1 rfl
    have c2 := (q2).new 2 rfl
    have c3 := (q2).new 3 rfl
    have c4 := (q2).new 4 rfl
    have c5 := (q2).new 5 rfl
    go_wp2_with fail
    clear c0 c1 c2 c3 c4 c5
    refine (rof_not y m d h i s _ HC.out).mono ?_
    rintro e w3 ⟨rfl, k3⟩
    have q3 := q2.trans k3
    go_wp2_with fail
    refine (at_not t _ t0 t1 HI.out).mono ?_
    rintro e w4 ⟨rfl, k4⟩
    have q4 := q3.trans k4
    go_wp2_with fail
    refine (rat_not t _ t0 t1 HI.out).mono ?_
    rintro e w5 ⟨rfl, k5⟩
    have q5 := q4.trans k5.back
    have c0 := (q5).new2 0 rfl
    have c1 := (q5).new2 1 rfl
    have c2 := (q5).new2 2 rfl
    have c3 := (q5).new2 3 rfl
    have c4 := (q5).new2 4 rfl
    have c5 := (q5).new2 5 rfl
    go_wp2_with fail
    clear c0 c1 c2 c3 c4 c5
    refine (rmay_any y m d h i s _).mono ?_
    rintro e w6 ⟨rfl, k6⟩
    have q6 := q5.trans k6.back
    have p6 := k5.trans k6.back
    have c0 := (q6).new 0 rfl
    have c1 := (q6).new 1 rfl
    have c2 := (q6).new 2 rfl
    have c3 := (q6).new 3 rfl
    have c4 := (q6).new 4 rfl
    have c5 := (q6).new 5 rfl
    have x0 := (p6).new 0 rfl
    have x1 := (p6).new 1 rfl
    have x2 := (p6).new 2 rfl
    have x3 := (p6).new 3 rfl
    have x4 := (p6).new 4 rfl
    have x5 := (p6).new 5 rfl
    have v0 := (k6).new 0 rfl
    have v1 := (k6).new 1 rfl
    have v2 := (k6).new 2 rfl
    have v3 := (k6).new 3 rfl
    have v4 := (k6).new 4 rfl
    have v5 := (k6).new 5 rfl
    have KK := Lib.hid q6.back
    clear k1 k2 k3 k4 k5 k6 q2 q3 q4 q5 q6 p6
    go_wp2_with fail
    refine (may_any y m d h i s _).mono ?_
    rintro e w7 ⟨rfl, k7⟩
    go_wp2
    go_ret
    exact ⟨rfl, KK.out.trans k7⟩
theorem walkTells (y m d h i s t : Int) (w : World) (t0 : -9223372036854775808 ≤ t) (t1 : t ≤ 9223372036854775807) (htab : Tab w) :
    Calls Tryd.prog 3 #[civ y m d h i s, .int .i64 t] w fun e w' => e = .returned (.bool true) ∧ Kept w w' := by
  by_cases hc : okP y m d ∧ tmB h i s = true
  · by_cases hi : inCal t
    · exact walkTells1 y m d h i s t w t0 t1 htab hc hi
    · exact walkTells2 y m d h i s t w t0 t1 htab hc hi
  · by_cases hi : inCal t
    · exact walkTells3 y m d h i s t w t0 t1 htab hc hi
    · exact walkTells4 y m d h i s t w t0 t1 htab hc hi
end Go.Proofs.YtlmjopembcifiaaDoor
