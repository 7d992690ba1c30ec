/- Contracts of package stamp. -/
import Derived.Test.YtilgamjahediiaaGreatDoorShelf
import Derived.Test.YtilgamjahediiaaGreatDoorKept
import Derived.Test.YtilgamjahediiaaGreatDoorCivA
import Derived.RowKit
namespace Go.Proofs.YtilgamjahediiaaGreatDoor
open Go.ChangeShapes Go.WideShapes Go.ChangeAt Go.RowKit
open Civ
def tmB (h i s : Int) : Bool := decide (0 ≤ h ∧ h ≤ 23 ∧ 0 ≤ i ∧ i ≤ 59 ∧ 0 ≤ s ∧ s ≤ 59)
theorem isTime_any (h i s : Int) (w : World) :
    Calls Tryz.prog 76 #[.int .i64 h, .int .i64 i, .int .i64 s] w fun e w' => e = .returned (.bool (tmB h i s)) ∧ w = w' := by
  go_enter Tryz.func76, Tryz.ntmps76
  go_wp2
  all_goals (go_ret; refine ⟨ret_bool ?_, rfl⟩; first | (simp [tmB, *]; done) | (simp [tmB, *]; intros; omega))
theorem tmod86400 (n : Int) : -86400 < n.tmod 86400 ∧ n.tmod 86400 < 86400 ∧ n = 86400 * n.tdiv 86400 + n.tmod 86400 :=
  ⟨by have h := Int.tmod_lt_of_pos (-n) (show (0 : Int) < 86400 by omega); rw [Int.neg_tmod] at h; omega, Int.tmod_lt_of_pos n (by omega), (Int.mul_tdiv_add_tmod n 86400).symm⟩
theorem split_any (t : Int) (w : World) (h1 : -9223372036854775808 ≤ t) (h2 : t ≤ 9223372036854775807) :
    Calls Tryz.prog 56 #[.int .i64 t] w fun e w' => e = .returned (.tuple #[.int .i64 (t / 86400), .int .i64 (t % 86400)]) ∧ w = w' := by
  obtain ⟨t1, t2, t3⟩ := tmod86400 t
  have b1 : -106751991167301 ≤ t.tdiv 86400 := by omega
  have b2 : t.tdiv 86400 ≤ 106751991167301 := by omega
  have T3 := Lib.hid t3; clear t3
  by_cases h : t.tmod 86400 < 0
  · go_enter Tryz.func56, Tryz.ntmps56
    go_wp2
    go_ret2
    have := T3.out
    exact ⟨by rw [show t / 86400 = t.tdiv 86400 - 1 by omega, show t % 86400 = t.tmod 86400 + 86400 by omega]; rfl, rfl⟩
  · go_enter Tryz.func56, Tryz.ntmps56
    go_wp2
    go_ret2
    have := T3.out
    exact ⟨by rw [show t / 86400 = t.tdiv 86400 by omega, show t % 86400 = t.tmod 86400 by omega]; rfl, rfl⟩
abbrev civ (y m d h i s : Int) : Value := .agg #[.int .i64 y, .int .i64 m, .int .i64 d, .int .i64 h, .int .i64 i, .int .i64 s]
def sec (y m d h i s : Int) : Int := 86400 * ord y m d + 3600 * h + 60 * i + s
theorem tm_bd {h i s : Int} (k : tmB h i s = true) : 0 ≤ h ∧ h ≤ 23 ∧ 0 ≤ i ∧ i ≤ 59 ∧ 0 ≤ s ∧ s ≤ 59 := by simpa [tmB] using k
set_option maxHeartbeats 1000000 in
theorem of_yes (y m d h i s : Int) (w : World) (k : okP y m d) (kt : tmB h i s = true) :
    Calls Tryz.prog 40 #[civ y m d h i s] w fun e w' => e = .returned (.tuple #[.int .i64 (sec y m d h i s), .int .i64 0]) ∧ Kept w w' := by
  obtain ⟨a1, a2, a3, a4, a5, a6⟩ := tm_bd kt
  obtain ⟨o1, o2⟩ := ord_bd k
  have K := Lib.hid k; clear k
  have KT := Lib.hid kt; clear kt
  go_enter Tryz.func40, Tryz.ntmps40
  go_wp2_with fail
  refine (ord_yes y m d _ K.out).mono ?_
  rintro e w1 ⟨rfl, g1⟩
  have k1 := Kept.of_grown g1; clear g1
  have c3 := k1.new 3 rfl
  have c4 := k1.new 4 rfl
  have c5 := k1.new 5 rfl
  have kb := k1.back; clear k1
  go_wp2_with fail
  refine (isTime_any h i s _).mono ?_
  rintro e w2 ⟨rfl, rfl⟩
  rw [KT.out]
  go_wp2
  go_ret2
  exact ⟨by rw [show sec y m d h i s = ord y m d * 86400 + h * 3600 + i * 60 + s by unfold sec; omega]; rfl, kb⟩
set_option maxHeartbeats 1000000 in
theorem of_not (y m d h i s : Int) (w : World) (k : ¬ (okP y m d ∧ tmB h i s = true)) :
    Calls Tryz.prog 40 #[civ y m d h i s] w fun e w' => e = .returned (.tuple #[.int .i64 0, .int .i64 1]) ∧ Kept w w' := by
  by_cases ko : okP y m d
  · have kt : tmB h i s = false := by simpa [ko] using k
    clear k
    have K := Lib.hid ko; clear ko
    have KT := Lib.hid kt; clear kt
    go_enter Tryz.func40, Tryz.ntmps40
    go_wp2_with fail
    refine (ord_yes y m d _ K.out).mono ?_
    rintro e w1 ⟨rfl, g1⟩
    have k1 := Kept.of_grown g1; clear g1
    have c3 := k1.new 3 rfl
    have c4 := k1.new 4 rfl
    have c5 := k1.new 5 rfl
    have kb := k1.back; clear k1
    go_wp2_with fail
    refine (isTime_any h i s _).mono ?_
    rintro e w2 ⟨rfl, rfl⟩
    rw [KT.out]
    go_wp2
    go_ret2
    exact ⟨rfl, kb⟩
  · clear k
    have K := Lib.hid ko; clear ko
    go_enter Tryz.func40, Tryz.ntmps40
    go_wp2_with fail
    refine (ord_not y m d _ K.out).mono ?_
    rintro e w1 ⟨rfl, g1⟩
    have kb := (Kept.of_grown g1).back; clear g1
    go_wp2
    go_ret2
    exact ⟨rfl, kb⟩
/-- whether a day and time may be -/
noncomputable def mayB (y m d h i s : Int) : Bool := okB y m d && tmB h i s
set_option maxHeartbeats 1000000 in
theorem may_any (y m d h i s : Int) (w : World) :
    Calls Tryz.prog 46 #[civ y m d h i s] w fun e w' => e = .returned (.bool (mayB y m d h i s)) ∧ Kept w w' := by
  by_cases ko : okP y m d
  · have hm := Lib.hid (show mayB y m d h i s = tmB h i s by unfold mayB; rw [(okB_iff y m d).2 ko]; exact Bool.true_and _)
    have K := Lib.hid ko; clear ko
    go_enter Tryz.func46, Tryz.ntmps46
    go_wp2_with fail
    refine (ord_yes y m d _ K.out).mono ?_
    rintro e w1 ⟨rfl, g1⟩
    have k1 := Kept.of_grown g1; clear g1
    have c3 := k1.new 3 rfl
    have c4 := k1.new 4 rfl
    have c5 := k1.new 5 rfl
    have kb := k1.back; clear k1
    go_wp2_with fail
    refine (isTime_any h i s _).mono ?_
    rintro e w2 ⟨rfl, rfl⟩
    go_wp2
    go_ret
    exact ⟨ret_bool hm.out.symm, kb⟩
  · have hm := Lib.hid (show mayB y m d h i s = false by unfold mayB; rw [(okB_no y m d).2 ko]; exact Bool.false_and _)
    have K := Lib.hid ko; clear ko
    go_enter Tryz.func46, Tryz.ntmps46
    go_wp2_with fail
    refine (ord_not y m d _ K.out).mono ?_
    rintro e w1 ⟨rfl, g1⟩
    have kb := (Kept.of_grown g1).back; clear g1
    go_wp2
    go_ret
    exact ⟨ret_bool hm.out.symm, kb⟩
open Classical in
noncomputable def ymd (n : Int) : Int × Int × Int := if h : ∃ x : Int × Int × Int, okP x.1 x.2.1 x.2.2 ∧ ord x.1 x.2.1 x.2.2 = n then h.choose else (0, 0, 0)
noncomputable def yr (n : Int) : Int := (ymd n).1
noncomputable def mo (n : Int) : Int := (ymd n).2.1
noncomputable def dy (n : Int) : Int := (ymd n).2.2
theorem ymd_of {n y m d : Int} (h : okP y m d) (e : ord y m d = n) : yr n = y ∧ mo n = m ∧ dy n = d := by
  have hx : ∃ x : Int × Int × Int, okP x.1 x.2.1 x.2.2 ∧ ord x.1 x.2.1 x.2.2 = n := ⟨(y, m, d), h, e⟩
  have hc := hx.choose_spec
  have : ymd n = hx.choose := by unfold ymd; rw [dif_pos hx]
  unfold yr mo dy
  rw [this]
  exact ord_inj hc.1 h (hc.2.trans e.symm)
/-- that a number's day is told by the three -/
def Day (n : Int) : Prop := okP (yr n) (mo n) (dy n) ∧ ord (yr n) (mo n) (dy n) = n
def DatePost' (n : Int) (w : World) (e : Ending) (w' : World) : Prop := Day n ∧ e = .returned (.tuple #[.int .i64 (yr n), .int .i64 (mo n), .int .i64 (dy n), .int .i64 0]) ∧ Kept w w'
theorem datePost {n : Int} {w : World} {e : Ending} {w' : World} (h : DatePost n w e w') : DatePost' n w e w' := by
  obtain ⟨y, m, d, rfl, h1, h2, h3⟩ := h
  obtain ⟨rfl, rfl, rfl⟩ := ymd_of h1 h2
  exact ⟨⟨h1, h2⟩, rfl, Kept.of_grown h3⟩
/-- a second's day and time -/
noncomputable abbrev cv (t : Int) : Value := civ (yr (t / 86400)) (mo (t / 86400)) (dy (t / 86400)) (t % 86400 / 3600) (t % 3600 / 60) (t % 60)
def AtPost (t : Int) (w : World) (e : Ending) (w' : World) : Prop := Day (t / 86400) ∧ e = .returned (.tuple #[cv t, .int .i64 0]) ∧ Kept w w'
def inCal (t : Int) : Prop := -62135596800 ≤ t ∧ t ≤ 253402300799
set_option maxHeartbeats 1000000 in
theorem at_yes (t : Int) (w : World) (h : inCal t) : Calls Tryz.prog 28 #[.int .i64 t] w (AtPost t w) := by
  obtain ⟨h1, h2⟩ := h
  have r1 : 0 ≤ t % 86400 := by omega
  have r2 : t % 86400 < 86400 := by omega
  have n1 : -719162 ≤ t / 86400 := by omega
  have n2 : t / 86400 ≤ 2932896 := by omega
  go_enter Tryz.func28, Tryz.ntmps28
  go_wp2_with fail
  refine (split_any t _ (by omega) (by omega)).mono ?_
  rintro e w1 ⟨rfl, rfl⟩
  go_wp2_with fail
  refine (date_yes _ _ n1 n2).mono ?_
  intro e w1 hd
  obtain ⟨hday, rfl, k1⟩ := datePost hd
  clear hd
  have HD := Lib.hid hday; clear hday
  have c0 := k1.new 0 rfl
  have c1 := k1.new 1 rfl
  have c2 := k1.new 2 rfl
  have c3 := k1.new 3 rfl
  have c4 := k1.new 4 rfl
  have c5 := k1.new 5 rfl
  have f0 := k1.newF
  have kb := k1.back; clear k1
  go_wp2
  exact bodyPost_ret (v := .tuple #[cv t, .int .i64 0]) (by simp [results, Tryz.results28, go_sem, *]) rfl ⟨HD.out, rfl, (((((kb.setCell (Nat.le_refl _) _).setCell (Nat.le_refl _) _).setCell (Nat.le_refl _) _).setCell (Nat.le_refl _) _).setCell (Nat.le_refl _) _).setCell (Nat.le_refl _) _⟩
set_option maxHeartbeats 1000000 in
theorem at_not (t : Int) (w : World) (h1 : -9223372036854775808 ≤ t) (h2 : t ≤ 9223372036854775807) (h : ¬ inCal t) :
    Calls Tryz.prog 28 #[.int .i64 t] w fun e w' => e = .returned (.tuple #[civ 0 0 0 0 0 0, .int .i64 1]) ∧ Kept w w' := by
  have n1 := Lib.hid (show t / 86400 < -719162 ∨ 2932896 < t / 86400 by unfold inCal at h; omega)
  clear h
  go_enter Tryz.func28, Tryz.ntmps28
  go_wp2_with fail
  refine (split_any t _ (by omega) (by omega)).mono ?_
  rintro e w1 ⟨rfl, rfl⟩
  go_wp2_with fail
  refine (date_not _ _ n1.out).mono ?_
  rintro e w1 ⟨rfl, rfl⟩
  go_wp2
  exact bodyPost_ret (v := .tuple #[civ 0 0 0 0 0 0, .int .i64 1]) (by simp [results, Tryz.results28, go_sem, *]) rfl ⟨rfl, by repeat (first | exact Kept.refl _ | apply Kept.drew | apply Kept.alloc)⟩
end Go.Proofs.YtilgamjahediiaaGreatDoor
