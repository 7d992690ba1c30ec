/- The six statements on days (package civil), as walks: each call comes to true, whatever the numbers; at most new memory is laid. -/
import Derived.Test.YtfmlannhhdfinaaCivAwake
namespace Go.Proofs.Ytfmlannhhdfinaa
open Go.ChangeShapes Go.WideShapes Go.ChangeAt Go.RowKit
open Civ
set_option maxHeartbeats 1000000 in
theorem walkOrd (a0 a1 a2 : Int) (w : World) :
    Calls Try.prog 3 #[.int .i64 a0, .int .i64 a1, .int .i64 a2] w fun e w' => e = .returned (.bool true) ∧ Grown w w' := by
  by_cases h : okP a0 a1 a2
  · have H := Lib.hid h; clear h
    go_enter Try.func3, Try.ntmps3
    go_wp2_with (first | (go_at_call 9; refine (awake_any _).mono ?_; rintro e w1 ⟨rfl, hg1⟩) | (go_at_call 10; refine (ord_yes _ _ _ _ H.out).mono ?_; rintro e w2 ⟨rfl, hg2⟩) | (go_at_call 11; refine (rord_yes _ _ _ _ H.out).mono ?_; rintro e w3 ⟨rfl, rfl⟩) | (go_at_call 12; refine (rleap_any _ _).mono ?_; rintro e w4 ⟨rfl, rfl⟩) | (go_at_call 13; refine (yday_yes _ _ _ _ H.out).mono ?_; rintro e w5 ⟨rfl, hg5⟩) | (go_at_call 14; refine (ryday_yes _ _ _ _ H.out).mono ?_; rintro e w6 ⟨rfl, rfl⟩) | (go_at_call 15; refine (days_any _ _ _).mono ?_; rintro e w7 ⟨rfl, hg7⟩) | (go_at_call 16; refine (rdays_any _ _ _).mono ?_; rintro e w8 ⟨rfl, rfl⟩) | (go_at_call 17; refine (leap_any _ _).mono ?_; rintro e w9 ⟨rfl, rfl⟩))
    go_ret
    exact ⟨by simp, Grown.trans' (Grown.trans' (Grown.trans' hg1 hg2) hg5) hg7⟩
  · have H := Lib.hid h; clear h
    go_enter Try.func3, Try.ntmps3
    go_wp2_with (first | (go_at_call 9; refine (awake_any _).mono ?_; rintro e w1 ⟨rfl, hg1⟩) | (go_at_call 10; refine (ord_not _ _ _ _ H.out).mono ?_; rintro e w2 ⟨rfl, hg2⟩) | (go_at_call 11; refine (rord_not _ _ _ _ H.out).mono ?_; rintro e w3 ⟨rfl, rfl⟩) | (go_at_call 12; refine (rleap_any _ _).mono ?_; rintro e w4 ⟨rfl, rfl⟩) | (go_at_call 13; refine (yday_not _ _ _ _ H.out).mono ?_; rintro e w5 ⟨rfl, hg5⟩) | (go_at_call 14; refine (ryday_not _ _ _ _ H.out).mono ?_; rintro e w6 ⟨rfl, rfl⟩) | (go_at_call 15; refine (days_any _ _ _).mono ?_; rintro e w7 ⟨rfl, hg7⟩) | (go_at_call 16; refine (rdays_any _ _ _).mono ?_; rintro e w8 ⟨rfl, rfl⟩) | (go_at_call 17; refine (leap_any _ _).mono ?_; rintro e w9 ⟨rfl, rfl⟩))
    go_ret
    exact ⟨by simp, Grown.trans' (Grown.trans' (Grown.trans' hg1 hg2) hg5) hg7⟩
set_option maxHeartbeats 1000000 in
theorem walkDate (a0 : Int) (w : World) :
    Calls Try.prog 4 #[.int .i64 a0] w fun e w' => e = .returned (.bool true) ∧ Grown w w' := by
  by_cases h : -719162 ≤ a0 ∧ a0 ≤ 2932896
  · obtain ⟨h1, h2⟩ := h
    go_enter Try.func4, Try.ntmps4
    go_wp2_with fail
    refine (awake_any _).mono ?_
    rintro e w1 ⟨rfl, hg1⟩
    go_wp2_with fail
    refine (date_yes _ _ h1 h2).mono ?_
    rintro e w2 ⟨y, m, d, rfl, hk, ho, hg2⟩
    go_wp2_with fail
    refine (rdate_yes _ _ h1 h2).mono ?_
    rintro e w3 ⟨y', m', d', rfl, hk', ho', hg3⟩
    obtain ⟨rfl, rfl, rfl⟩ := ord_inj hk hk' (ho.trans ho'.symm)
    clear hk hk' ho ho'
    go_wp2_with (first | (go_at_call 20; refine (wday_any _ _).mono ?_; rintro e w3 ⟨rfl, rfl⟩) | (go_at_call 21; refine (rwday_any _ _).mono ?_; rintro e w3 ⟨rfl, rfl⟩))
    go_ret
    exact ⟨by simp, Grown.trans' (Grown.trans' hg1 hg2) hg3⟩
  · have h' : a0 < -719162 ∨ 2932896 < a0 := by omega
    clear h
    have H := Lib.hid h'; clear h'
    go_enter Try.func4, Try.ntmps4
    go_wp2_with (first | (go_at_call 9; refine (awake_any _).mono ?_; rintro e w1 ⟨rfl, hg1⟩) | (go_at_call 18; refine (date_not _ _ H.out).mono ?_; rintro e w2 ⟨rfl, rfl⟩) | (go_at_call 19; refine (rdate_not _ _ H.out).mono ?_; rintro e w3 ⟨rfl, rfl⟩) | (go_at_call 20; refine (wday_any _ _).mono ?_; rintro e w3 ⟨rfl, rfl⟩) | (go_at_call 21; refine (rwday_any _ _).mono ?_; rintro e w3 ⟨rfl, rfl⟩))
    go_ret
    exact ⟨by simp, hg1⟩
set_option maxHeartbeats 1000000 in
theorem walkBack (a0 a1 a2 a3 : Int) (w : World) :
    Calls Try.prog 5 #[.int .i64 a0, .int .i64 a1, .int .i64 a2, .int .i64 a3] w fun e w' => e = .returned (.bool true) ∧ Grown w w' := by
  by_cases h : okP a0 a1 a2
  · have H := Lib.hid h; clear h
    have hb := ord_bd H.out
    by_cases hr : -719162 ≤ a3 ∧ a3 ≤ 2932896
    · obtain ⟨h1, h2⟩ := hr
      go_enter Try.func5, Try.ntmps5
      go_wp2_with fail
      refine (awake_any _).mono ?_
      rintro e w1 ⟨rfl, hg1⟩
      go_wp2_with fail
      refine (ord_yes _ _ _ _ H.out).mono ?_
      rintro e w2 ⟨rfl, hg2⟩
      go_wp2_with fail
      refine (date_yes _ _ hb.1 hb.2).mono ?_
      rintro e w3 ⟨y, m, d, rfl, hk, ho, hg3⟩
      obtain ⟨rfl, rfl, rfl⟩ := ord_inj hk H.out ho
      clear hk ho
      go_wp2_with fail
      refine (date_yes _ _ h1 h2).mono ?_
      rintro e w4 ⟨y', m', d', rfl, hk', ho', hg4⟩
      have HK := Lib.hid hk'; have HO := Lib.hid ho'; clear hk' ho'
      go_wp2_with fail
      refine (ord_yes _ _ _ _ HK.out).mono ?_
      rw [HO.out]
      rintro e w5 ⟨rfl, hg5⟩
      go_wp2_with fail
      go_ret
      exact ⟨by simp, Grown.trans' (Grown.trans' (Grown.trans' (Grown.trans' hg1 hg2) hg3) hg4) hg5⟩
    · have hr' : a3 < -719162 ∨ 2932896 < a3 := by omega
      have HR := Lib.hid hr'; clear hr hr'
      go_enter Try.func5, Try.ntmps5
      go_wp2_with fail
      refine (awake_any _).mono ?_
      rintro e w1 ⟨rfl, hg1⟩
      go_wp2_with fail
      refine (ord_yes _ _ _ _ H.out).mono ?_
      rintro e w2 ⟨rfl, hg2⟩
      go_wp2_with fail
      refine (date_yes _ _ hb.1 hb.2).mono ?_
      rintro e w3 ⟨y, m, d, rfl, hk, ho, hg3⟩
      obtain ⟨rfl, rfl, rfl⟩ := ord_inj hk H.out ho
      clear hk ho
      go_wp2_with fail
      refine (date_not _ _ HR.out).mono ?_
      rintro e w4 ⟨rfl, rfl⟩
      go_wp2_with fail
      go_ret
      exact ⟨by simp, Grown.trans' (Grown.trans' hg1 hg2) hg3⟩
  · have H := Lib.hid h; clear h
    by_cases hr : -719162 ≤ a3 ∧ a3 ≤ 2932896
    · obtain ⟨h1, h2⟩ := hr
      go_enter Try.func5, Try.ntmps5
      go_wp2_with fail
      refine (awake_any _).mono ?_
      rintro e w1 ⟨rfl, hg1⟩
      go_wp2_with fail
      refine (ord_not _ _ _ _ H.out).mono ?_
      rintro e w2 ⟨rfl, hg2⟩
      go_wp2_with fail
      refine (date_yes _ _ h1 h2).mono ?_
      rintro e w4 ⟨y', m', d', rfl, hk', ho', hg4⟩
      have HK := Lib.hid hk'; have HO := Lib.hid ho'; clear hk' ho'
      go_wp2_with fail
      refine (ord_yes _ _ _ _ HK.out).mono ?_
      rw [HO.out]
      rintro e w5 ⟨rfl, hg5⟩
      go_wp2_with fail
      go_ret
      exact ⟨by simp, Grown.trans' (Grown.trans' (Grown.trans' hg1 hg2) hg4) hg5⟩
    · have hr' : a3 < -719162 ∨ 2932896 < a3 := by omega
      have HR := Lib.hid hr'; clear hr hr'
      go_enter Try.func5, Try.ntmps5
      go_wp2_with fail
      refine (awake_any _).mono ?_
      rintro e w1 ⟨rfl, hg1⟩
      go_wp2_with fail
      refine (ord_not _ _ _ _ H.out).mono ?_
      rintro e w2 ⟨rfl, hg2⟩
      go_wp2_with fail
      refine (date_not _ _ HR.out).mono ?_
      rintro e w4 ⟨rfl, rfl⟩
      go_wp2_with fail
      go_ret
      exact ⟨by simp, Grown.trans' hg1 hg2⟩
theorem jan (y : Int) (h1 : 1 ≤ y) (h2 : y ≤ 9999) : okP y 1 1 := ⟨h1, h2, by omega, by simp [dim]⟩
theorem ord_jan (y : Int) : ord y 1 1 = dby y - 719162 := by unfold ord; rw [cum_1]; omega
theorem cord_jan (y : Int) (w : World) (h1 : 1 ≤ y) (h2 : y ≤ 9999) : Calls Try.prog 10 #[.int .i64 y, .int .i64 1, .int .i64 1] w fun e w' => e = .returned (.tuple #[.int .i64 (dby y - 719162), .int .i64 0]) ∧ Grown w w' := by
  have := ord_yes y 1 1 w (jan y h1 h2); rwa [ord_jan] at this
set_option maxHeartbeats 1000000 in
theorem walkYears (a0 : Int) (w : World) :
    Calls Try.prog 7 #[.int .i64 a0] w fun e w' => e = .returned (.bool true) ∧ Grown w w' := by
  by_cases h1 : a0 < 1
  · go_enter Try.func7, Try.ntmps7
    go_wp2_with (go_at_call 9; refine (awake_any _).mono ?_; rintro e w1 ⟨rfl, hg1⟩)
    go_ret
    exact ⟨rfl, hg1⟩
  · by_cases h2 : 9598 < a0
    · go_enter Try.func7, Try.ntmps7
      go_wp2_with (go_at_call 9; refine (awake_any _).mono ?_; rintro e w1 ⟨rfl, hg1⟩)
      go_ret
      exact ⟨rfl, hg1⟩
    · have hs := dby_succ a0 (by omega)
      have h4 := dby_400 a0
      have hb := dby_bd a0 (by omega) (by omega)
      have hb1 := dby_bd (a0 + 1) (by omega) (by omega)
      have hb4 := dby_bd (a0 + 400) (by omega) (by omega)
      have HS := Lib.hid hs; have H4 := Lib.hid h4; clear hs h4
      have L4 := Lib.hid (leap_400 a0 (by omega))
      cases hl : leap a0
      · have HL := Lib.hid hl; clear hl
        have T1 : (dby (a0 + 1) - 719162 - (dby a0 - 719162) == 365) = true := beq_iff_eq.2 (by have := HS.out; rw [lp_false HL.out] at this; omega)
        have T2 : (dby (a0 + 400) - 719162 - (dby a0 - 719162) == 146097) = true := beq_iff_eq.2 (by have := H4.out; omega)
        go_enter Try.func7, Try.ntmps7
        go_wp2_with fail
        refine (awake_any _).mono ?_
        rintro e w1 ⟨rfl, hg1⟩
        go_wp2_with fail
        refine (cord_jan _ _ (by omega) (by omega)).mono ?_
        rintro e w2 ⟨rfl, hg2⟩
        go_wp2_with fail
        refine (cord_jan _ _ (by omega) (by omega)).mono ?_
        rintro e w3 ⟨rfl, hg3⟩
        go_wp2_with fail
        refine (cord_jan _ _ (by omega) (by omega)).mono ?_
        rintro e w4 ⟨rfl, hg4⟩
        go_wp2_with fail
        refine (leap_no _ _ HL.out).mono ?_
        rintro e w5 ⟨rfl, rfl⟩
        go_wp2_with fail
        refine (leap_no _ _ HL.out).mono ?_
        rintro e w6 ⟨rfl, rfl⟩
        go_wp2_with fail
        refine (leap_no _ _ (L4.out.trans HL.out)).mono ?_
        rintro e w7 ⟨rfl, rfl⟩
        go_wp2_with fail
        go_ret
        exact ⟨rfl, Grown.trans' (Grown.trans' (Grown.trans' hg1 hg2) hg3) hg4⟩
      · have HL := Lib.hid hl; clear hl
        have T1 : (dby (a0 + 1) - 719162 - (dby a0 - 719162) == 366) = true := beq_iff_eq.2 (by have := HS.out; rw [lp_true HL.out] at this; omega)
        have T2 : (dby (a0 + 400) - 719162 - (dby a0 - 719162) == 146097) = true := beq_iff_eq.2 (by have := H4.out; omega)
        go_enter Try.func7, Try.ntmps7
        go_wp2_with fail
        refine (awake_any _).mono ?_
        rintro e w1 ⟨rfl, hg1⟩
        go_wp2_with fail
        refine (cord_jan _ _ (by omega) (by omega)).mono ?_
        rintro e w2 ⟨rfl, hg2⟩
        go_wp2_with fail
        refine (cord_jan _ _ (by omega) (by omega)).mono ?_
        rintro e w3 ⟨rfl, hg3⟩
        go_wp2_with fail
        refine (cord_jan _ _ (by omega) (by omega)).mono ?_
        rintro e w4 ⟨rfl, hg4⟩
        go_wp2_with fail
        refine (leap_yes _ _ HL.out).mono ?_
        rintro e w5 ⟨rfl, rfl⟩
        go_wp2_with fail
        refine (leap_yes _ _ HL.out).mono ?_
        rintro e w6 ⟨rfl, rfl⟩
        go_wp2_with fail
        refine (leap_yes _ _ (L4.out.trans HL.out)).mono ?_
        rintro e w7 ⟨rfl, rfl⟩
        go_wp2_with fail
        go_ret
        exact ⟨rfl, Grown.trans' (Grown.trans' (Grown.trans' hg1 hg2) hg3) hg4⟩
set_option maxHeartbeats 1000000 in
theorem walkYday (a0 a1 a2 : Int) (w : World) :
    Calls Try.prog 8 #[.int .i64 a0, .int .i64 a1, .int .i64 a2] w fun e w' => e = .returned (.bool true) ∧ Grown w w' := by
  by_cases h : okP a0 a1 a2
  · have H := Lib.hid h; clear h
    obtain ⟨b1, b2⟩ := yd_bd H.out
    have hlp := lp_01 a0
    obtain ⟨m1, m2⟩ := ok_month H.out.2.2.1 H.out.2.2.2
    have d1 := H.out.2.2.1
    have d2 := H.out.2.2.2
    have dd := dim_bd a0 a1
    obtain ⟨k, rfl⟩ := Int.eq_ofNat_of_zero_le (show 0 ≤ a1 by omega)
    have k1 : 1 ≤ k := by omega
    have k2 : k ≤ 12 := by omega
    go_enter Try.func8, Try.ntmps8
    go_wp2_with (first | (go_at_call 9; refine (awake_any _).mono ?_; rintro e w1 ⟨rfl, hg1⟩) | (go_at_call 13; refine (yday_yes _ _ _ _ H.out).mono ?_; rintro e w2 ⟨rfl, hg2⟩) | (go_at_call 10; refine (ord_yes _ _ _ _ H.out).mono ?_; rintro e w3 ⟨rfl, hg3⟩))
    have hG : Grown w w3 := Grown.trans' (Grown.trans' hg1 hg2) hg3
    clear hg1 hg2 hg3
    go_loopw [11, 12] (fun t i W => ∃ j : Nat, 1 ≤ j ∧ j ≤ k ∧ i = .int .i64 j ∧ t = .int .i64 (cum a0 j) ∧ Grown w W) (fun _ i _ => k - (intOf i).toNat)
    case atStart => exact ⟨1, by omega, by omega, rfl, by simp [cum], hG⟩
    case round =>
      obtain ⟨j, j1, j2, rfl, rfl, hGr⟩ := hrel
      have cb := cum_bd a0 j (by omega) (by omega)
      have db := dim_bd a0 j
      by_cases hlt : j < k
      · have CS := Lib.hid (cum_succ a0 j (by omega) (by omega))
        go_wp2_with (go_at_call 15; refine (days_any _ _ _).mono ?_; rintro e w5 ⟨rfl, hg5⟩)
        go_roundw
        case rel => exact ⟨j + 1, by omega, by omega, by go_num, by rw [show ((j + 1 : Nat) : Int) = j + 1 from by omega, CS.out], Grown.trans' hGr hg5⟩
        case measure => simp [intOf]; omega
      · obtain rfl : j = k := by omega
        go_wp2
        go_ret
        exact ⟨by simp; omega, hGr⟩
  · have H := Lib.hid h; clear h
    go_enter Try.func8, Try.ntmps8
    go_wp2_with (first | (go_at_call 9; refine (awake_any _).mono ?_; rintro e w1 ⟨rfl, hg1⟩) | (go_at_call 13; refine (yday_not _ _ _ _ H.out).mono ?_; rintro e w2 ⟨rfl, hg2⟩) | (go_at_call 10; refine (ord_not _ _ _ _ H.out).mono ?_; rintro e w3 ⟨rfl, hg3⟩))
    go_ret
    exact ⟨by simp, Grown.trans' (Grown.trans' hg1 hg2) hg3⟩
theorem wd_next (n : Int) (h1 : -719162 ≤ n) (h2 : n ≤ 2932896) : wd (n + 1) = (wd n + 1) % 7 ∧ 0 ≤ wd n ∧ wd n ≤ 6 := by
  unfold wd; rw [if_neg (by omega), if_neg (by omega)]; omega
theorem next_in {y m d : Int} (h : okP y m d) (g : d + 1 ≤ dim y m) : okP y m (d + 1) ∧ ord y m (d + 1) = ord y m d + 1 :=
  ⟨⟨h.1, h.2.1, by have := h.2.2.1; omega, g⟩, by unfold ord; omega⟩
theorem next_month {y m d : Int} (h : okP y m d) (g : dim y m < d + 1) (hm : m < 12) : okP y (m + 1) 1 ∧ ord y (m + 1) 1 = ord y m d + 1 := by
  obtain ⟨h1, h2, h3, h4⟩ := h
  obtain ⟨m1, m2⟩ := ok_month h3 h4
  have := cum_succ y m m1 m2
  have := dim_in y (m + 1) (by omega) (by omega)
  exact ⟨⟨h1, h2, by omega, by omega⟩, by unfold ord; omega⟩
theorem next_year {y m d : Int} (h : okP y m d) (g : dim y m < d + 1) (hm : m = 12) (hy : y < 9999) : okP (y + 1) 1 1 ∧ ord (y + 1) 1 1 = ord y m d + 1 := by
  subst hm
  obtain ⟨h1, h2, h3, h4⟩ := h
  have := cum_succ y 12 (by omega) (by omega)
  rw [show (12 : Int) + 1 = 13 from rfl, cum_13] at this
  have := dby_succ y h1
  exact ⟨⟨by omega, by omega, by omega, by simp [dim]⟩, by unfold ord; rw [cum_1]; omega⟩
set_option maxHeartbeats 1000000 in
/-- The walk, once what the next day is, and how its parts come about, are known. -/
theorem walkNextIn (a0 a1 a2 : Int) (w : World) (H : Hid (okP a0 a1 a2)) (hl : (a0 == 9999) = false ∨ ((a0 == 9999) = true ∧ (a1 == 12) = false) ∨ ((a0 == 9999) = true ∧ (a1 == 12) = true ∧ (a2 == 31) = false))
    (g : a2 + 1 ≤ dim a0 a1) :
    Calls Try.prog 6 #[.int .i64 a0, .int .i64 a1, .int .i64 a2] w fun e w' => e = .returned (.bool true) ∧ Grown w w' := by
  obtain ⟨m1, m2⟩ := ok_month H.out.2.2.1 H.out.2.2.2
  have d1 := H.out.2.2.1
  have dd := dim_bd a0 a1
  have y1 := H.out.1
  have y2 := H.out.2.1
  have hb := ord_bd H.out
  have hN := Lib.hid (next_in H.out g)
  obtain ⟨hw, w1, w2⟩ := wd_next (ord a0 a1 a2) hb.1 hb.2
  have HW := Lib.hid hw; clear hw
  rcases hl with c1 | ⟨c1, c2⟩ | ⟨c1, c2, c3⟩
  all_goals
    go_enter Try.func6, Try.ntmps6
    go_wp2_with fail
    refine (awake_any _).mono ?_
    rintro e w1 ⟨rfl, hg1⟩
    go_wp2_with fail
    refine (ord_yes _ _ _ _ H.out).mono ?_
    rintro e w2 ⟨rfl, hg2⟩
    go_wp2_with fail
    refine (days_any _ _ _).mono ?_
    rintro e w3 ⟨rfl, hg3⟩
    go_wp2_with fail
    refine (ord_yes _ _ _ _ hN.out.1).mono ?_
    rw [hN.out.2]
    rintro e w4 ⟨rfl, hg4⟩
    go_wp2_with fail
    refine (wday_any _ _).mono ?_
    rw [HW.out]
    rintro e w5 ⟨rfl, rfl⟩
    go_wp2_with fail
    refine (wday_any _ _).mono ?_
    rintro e w6 ⟨rfl, rfl⟩
    go_wp2_with fail
    go_ret
    exact ⟨by simp, Grown.trans' (Grown.trans' (Grown.trans' hg1 hg2) hg3) hg4⟩
set_option maxHeartbeats 1000000 in
theorem walkNextMonth (a0 a1 a2 : Int) (w : World) (H : Hid (okP a0 a1 a2)) (hl : (a0 == 9999) = false ∨ ((a0 == 9999) = true ∧ (a1 == 12) = false))
    (g : dim a0 a1 < a2 + 1) (gm : a1 < 12) :
    Calls Try.prog 6 #[.int .i64 a0, .int .i64 a1, .int .i64 a2] w fun e w' => e = .returned (.bool true) ∧ Grown w w' := by
  obtain ⟨m1, m2⟩ := ok_month H.out.2.2.1 H.out.2.2.2
  have d1 := H.out.2.2.1
  have d2 := H.out.2.2.2
  have dd := dim_bd a0 a1
  have y1 := H.out.1
  have y2 := H.out.2.1
  have hb := ord_bd H.out
  have hN := Lib.hid (next_month H.out g gm)
  obtain ⟨hw, w1, w2⟩ := wd_next (ord a0 a1 a2) hb.1 hb.2
  have HW := Lib.hid hw; clear hw
  rcases hl with c1 | ⟨c1, c2⟩
  all_goals
    go_enter Try.func6, Try.ntmps6
    go_wp2_with fail
    refine (awake_any _).mono ?_
    rintro e w1 ⟨rfl, hg1⟩
    go_wp2_with fail
    refine (ord_yes _ _ _ _ H.out).mono ?_
    rintro e w2 ⟨rfl, hg2⟩
    go_wp2_with fail
    refine (days_any _ _ _).mono ?_
    rintro e w3 ⟨rfl, hg3⟩
    go_wp2_with fail
    refine (ord_yes _ _ _ _ hN.out.1).mono ?_
    rw [hN.out.2]
    rintro e w4 ⟨rfl, hg4⟩
    go_wp2_with fail
    refine (wday_any _ _).mono ?_
    rw [HW.out]
    rintro e w5 ⟨rfl, rfl⟩
    go_wp2_with fail
    refine (wday_any _ _).mono ?_
    rintro e w6 ⟨rfl, rfl⟩
    go_wp2_with fail
    go_ret
    exact ⟨by simp, Grown.trans' (Grown.trans' (Grown.trans' hg1 hg2) hg3) hg4⟩
set_option maxHeartbeats 1000000 in
theorem walkNextYear (a0 a2 : Int) (w : World) (H : Hid (okP a0 12 a2)) (c1 : (a0 == 9999) = false) (gy : a0 < 9999)
    (g : dim a0 12 < a2 + 1) :
    Calls Try.prog 6 #[.int .i64 a0, .int .i64 12, .int .i64 a2] w fun e w' => e = .returned (.bool true) ∧ Grown w w' := by
  have d1 := H.out.2.2.1
  have d2 := H.out.2.2.2
  have dd := dim_bd a0 12
  have y1 := H.out.1
  have y2 := H.out.2.1
  have hb := ord_bd H.out
  have hN := Lib.hid (next_year H.out g rfl gy)
  obtain ⟨hw, w1, w2⟩ := wd_next (ord a0 12 a2) hb.1 hb.2
  have HW := Lib.hid hw; clear hw
  go_enter Try.func6, Try.ntmps6
  go_wp2_with fail
  refine (awake_any _).mono ?_
  rintro e w1 ⟨rfl, hg1⟩
  go_wp2_with fail
  refine (ord_yes _ _ _ _ H.out).mono ?_
  rintro e w2 ⟨rfl, hg2⟩
  go_wp2_with fail
  refine (days_any _ _ _).mono ?_
  rintro e w3 ⟨rfl, hg3⟩
  go_wp2_with fail
  refine (ord_yes _ _ _ _ hN.out.1).mono ?_
  rw [hN.out.2]
  rintro e w4 ⟨rfl, hg4⟩
  go_wp2_with fail
  refine (wday_any _ _).mono ?_
  rw [HW.out]
  rintro e w5 ⟨rfl, rfl⟩
  go_wp2_with fail
  refine (wday_any _ _).mono ?_
  rintro e w6 ⟨rfl, rfl⟩
  go_wp2_with fail
  go_ret
  exact ⟨by simp, Grown.trans' (Grown.trans' (Grown.trans' hg1 hg2) hg3) hg4⟩
set_option maxHeartbeats 1000000 in
theorem walkNext (a0 a1 a2 : Int) (w : World) :
    Calls Try.prog 6 #[.int .i64 a0, .int .i64 a1, .int .i64 a2] w fun e w' => e = .returned (.bool true) ∧ Grown w w' := by
  by_cases h : okP a0 a1 a2
  · have H := Lib.hid h
    obtain ⟨h1, h2, h3, h4⟩ := h
    obtain ⟨m1, m2⟩ := ok_month h3 h4
    by_cases hlast : a0 = 9999 ∧ a1 = 12 ∧ a2 = 31
    · obtain ⟨rfl, rfl, rfl⟩ := hlast
      clear h1 h2 h3 h4 m1 m2
      go_enter Try.func6, Try.ntmps6
      go_wp2_with (first | (go_at_call 9; refine (awake_any _).mono ?_; rintro e w1 ⟨rfl, hg1⟩) | (go_at_call 10; refine (ord_yes _ _ _ _ H.out).mono ?_; rintro e w2 ⟨rfl, hg2⟩))
      go_ret
      exact ⟨rfl, Grown.trans' hg1 hg2⟩
    · by_cases g : a2 + 1 ≤ dim a0 a1
      · refine walkNextIn a0 a1 a2 w H ?_ g
        simp only [beq_iff_eq, beq_eq_false_iff_ne]; omega
      · by_cases gm : a1 < 12
        · refine walkNextMonth a0 a1 a2 w H ?_ (by omega) gm
          simp only [beq_iff_eq, beq_eq_false_iff_ne]; omega
        · obtain rfl : a1 = 12 := by omega
          have e31 : dim a0 12 = 31 := by simp [dim]
          refine walkNextYear a0 a2 w H ?_ (by omega) (by omega)
          simp only [beq_eq_false_iff_ne]; omega
  · have H := Lib.hid h; clear h
    go_enter Try.func6, Try.ntmps6
    go_wp2_with (first | (go_at_call 9; refine (awake_any _).mono ?_; rintro e w1 ⟨rfl, hg1⟩) | (go_at_call 10; refine (ord_not _ _ _ _ H.out).mono ?_; rintro e w2 ⟨rfl, hg2⟩))
    go_ret
    exact ⟨rfl, Grown.trans' hg1 hg2⟩
end Go.Proofs.Ytfmlannhhdfinaa
