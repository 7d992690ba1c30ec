/- Contracts of the document's answer for seconds. -/
import Derived.Test.YtilgamjahediiaaGreatDoorBsSt
import Derived.Test.YtilgamjahediiaaGreatDoorCivA
import Derived.RowKit
namespace Go.Proofs.YtilgamjahediiaaGreatDoor
open Go.ChangeShapes Go.WideShapes Go.ChangeAt Go.RowKit
open Civ
theorem rfloor_any (t : Int) (w : World) (h1 : -9223372036854775808 ≤ t) (h2 : t ≤ 9223372036854775807) :
    Calls Tryz.prog 62 #[.int .i64 t, .int .i64 86400] w fun e w' => e = .returned (.tuple #[.int .i64 (t / 86400), .int .i64 (t % 86400)]) ∧ w = w' := by
  obtain ⟨t1, t2, t3⟩ := tmod86400 t
  have b1 : -106751991167301 ≤ t.tdiv 86400 := by omega
  have b2 : t.tdiv 86400 ≤ 106751991167301 := by omega
  have T3 := Lib.hid t3; clear t3
  by_cases h : t.tmod 86400 < 0
  · go_enter Tryz.func62, Tryz.ntmps62
    go_wp2
    go_ret2
    have := T3.out
    exact ⟨by rw [show t / 86400 = t.tdiv 86400 - 1 by omega, show t % 86400 = t.tmod 86400 + 86400 by omega]; rfl, rfl⟩
  · go_enter Tryz.func62, Tryz.ntmps62
    go_wp2
    go_ret2
    have := T3.out
    exact ⟨by rw [show t / 86400 = t.tdiv 86400 by omega, show t % 86400 = t.tmod 86400 by omega]; rfl, rfl⟩
set_option maxHeartbeats 1000000 in
theorem rat_yes (t : Int) (w : World) (h : inCal t) : Calls Tryz.prog 31 #[.int .i64 t] w (AtPost t w) := by
  obtain ⟨h1, h2⟩ := h
  have r1 : 0 ≤ t % 86400 := by omega
  have r2 : t % 86400 < 86400 := by omega
  have n1 : -719162 ≤ t / 86400 := by omega
  have n2 : t / 86400 ≤ 2932896 := by omega
  have em : t % 86400 / 60 % 60 = t % 3600 / 60 := by omega
  go_enter Tryz.func31, Tryz.ntmps31
  go_wp2_with fail
  refine (rfloor_any t _ (by omega) (by omega)).mono ?_
  rintro e w1 ⟨rfl, rfl⟩
  go_wp2_with fail
  refine (rdate_yes _ _ n1 n2).mono ?_
  intro e w1 hd
  obtain ⟨hday, rfl, k1⟩ := datePost hd
  clear hd
  have HD := Lib.hid hday; clear hday
  have c0 := k1.new 0 rfl
  have c1 := k1.new 1 rfl
  have c2 := k1.new 2 rfl
  have c3 := k1.new 3 rfl
  have c4 := k1.new 4 rfl
  have c5 := k1.new 5 rfl
  have f0 := k1.newF
  have kb := k1.back; clear k1
  go_wp2
  exact bodyPost_ret (v := .tuple #[cv t, .int .i64 0]) (by simp [results, Tryz.results31, go_sem, *]) rfl ⟨HD.out, rfl, (((((kb.setCell (Nat.le_refl _) _).setCell (Nat.le_refl _) _).setCell (Nat.le_refl _) _).setCell (Nat.le_refl _) _).setCell (Nat.le_refl _) _).setCell (Nat.le_refl _) _⟩
set_option maxHeartbeats 1000000 in
theorem rat_not (t : Int) (w : World) (h1 : -9223372036854775808 ≤ t) (h2 : t ≤ 9223372036854775807) (h : ¬ inCal t) :
    Calls Tryz.prog 31 #[.int .i64 t] w fun e w' => e = .returned (.tuple #[civ 0 0 0 0 0 0, .int .i64 1]) ∧ Kept w w' := by
  have n1 := Lib.hid (show t / 86400 < -719162 ∨ 2932896 < t / 86400 by unfold inCal at h; omega)
  clear h
  go_enter Tryz.func31, Tryz.ntmps31
  go_wp2_with fail
  refine (rfloor_any t _ (by omega) (by omega)).mono ?_
  rintro e w1 ⟨rfl, rfl⟩
  go_wp2_with fail
  refine (rdate_not _ _ n1.out).mono ?_
  rintro e w1 ⟨rfl, rfl⟩
  go_wp2
  exact bodyPost_ret (v := .tuple #[civ 0 0 0 0 0 0, .int .i64 1]) (by simp [results, Tryz.results31, go_sem, *]) rfl ⟨rfl, by repeat (first | exact Kept.refl _ | apply Kept.drew | apply Kept.alloc)⟩
set_option maxHeartbeats 2000000 in
theorem rmay_any (y m d h i s : Int) (w : World) :
    Calls Tryz.prog 66 #[civ y m d h i s] w fun e w' => e = .returned (.bool (mayB y m d h i s)) ∧ Kept w w' := by
  by_cases ko : okP y m d
  · have hm := Lib.hid (show mayB y m d h i s = tmB h i s by unfold mayB; rw [(okB_iff y m d).2 ko]; exact Bool.true_and _)
    have K := Lib.hid ko; clear ko
    go_enter Tryz.func66, Tryz.ntmps66
    go_wp2_with fail
    refine (rord_yes y m d _ K.out).mono ?_
    rintro e w1 ⟨rfl, rfl⟩
    go_wp2
    all_goals (go_ret; refine ⟨ret_bool ?_, (Kept.refl w).alloc _⟩; rw [hm.out]; first | (simp [tmB, *]; done) | (simp [tmB, *]; intros; omega))
  · have hm := Lib.hid (show mayB y m d h i s = false by unfold mayB; rw [(okB_no y m d).2 ko]; exact Bool.false_and _)
    have K := Lib.hid ko; clear ko
    go_enter Tryz.func66, Tryz.ntmps66
    go_wp2_with fail
    refine (rord_not y m d _ K.out).mono ?_
    rintro e w1 ⟨rfl, rfl⟩
    go_wp2
    go_ret
    exact ⟨ret_bool hm.out.symm, (Kept.refl w).alloc _⟩
set_option maxHeartbeats 2000000 in
theorem rof_yes (y m d h i s : Int) (w : World) (k : okP y m d) (kt : tmB h i s = true) :
    Calls Tryz.prog 93 #[civ y m d h i s] w fun e w' => e = .returned (.tuple #[.int .i64 (sec y m d h i s), .int .i64 0]) ∧ Kept w w' := by
  obtain ⟨a1, a2, a3, a4, a5, a6⟩ := tm_bd kt
  obtain ⟨o1, o2⟩ := ord_bd k
  have hm := Lib.hid (show mayB y m d h i s = true by unfold mayB; rw [(okB_iff y m d).2 k, kt]; rfl)
  have K := Lib.hid k; clear k
  clear kt
  go_enter Tryz.func93, Tryz.ntmps93
  go_wp2_with fail
  refine (rmay_any y m d h i s _).mono ?_
  rintro e w1 ⟨rfl, k1⟩
  rw [hm.out]
  have c0 := k1.new 0 rfl
  have c1 := k1.new 1 rfl
  have c2 := k1.new 2 rfl
  have c3 := k1.new 3 rfl
  have c4 := k1.new 4 rfl
  have c5 := k1.new 5 rfl
  have kb := k1.back; clear k1
  go_wp2_with fail
  refine (rord_yes y m d _ K.out).mono ?_
  rintro e w2 ⟨rfl, rfl⟩
  go_wp2
  go_ret2
  exact ⟨by rw [show sec y m d h i s = 86400 * ord y m d + 3600 * h + 60 * i + s from rfl]; rfl, kb⟩
set_option maxHeartbeats 1000000 in
theorem rof_not (y m d h i s : Int) (w : World) (k : ¬ (okP y m d ∧ tmB h i s = true)) :
    Calls Tryz.prog 93 #[civ y m d h i s] w fun e w' => e = .returned (.tuple #[.int .i64 0, .int .i64 1]) ∧ Kept w w' := by
  have hm := Lib.hid (show mayB y m d h i s = false by
    cases hb : mayB y m d h i s with
    | false => rfl
    | true => exact absurd (by unfold mayB at hb; rw [Bool.and_eq_true, okB_iff] at hb; exact hb) k)
  clear k
  go_enter Tryz.func93, Tryz.ntmps93
  go_wp2_with fail
  refine (rmay_any y m d h i s _).mono ?_
  rintro e w1 ⟨rfl, k1⟩
  rw [hm.out]
  go_wp2
  go_ret2
  exact ⟨rfl, k1.back⟩
end Go.Proofs.YtilgamjahediiaaGreatDoor
