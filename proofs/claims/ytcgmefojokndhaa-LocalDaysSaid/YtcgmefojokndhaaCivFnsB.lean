/- What package civil's functions come to, call by call (contracts): days' numbers, days of the year and of the week, a number's day. -/
import Derived.Test.YtcgmefojokndhaaCivFnsA
namespace Go.Proofs.Ytcgmefojokndhaa
open Go.ChangeShapes Go.WideShapes Go.ChangeAt Go.RowKit
open Civ
def la (y : Int) (j : Nat) : Int := if j = 0 then 0 else dim y j
def cs (y : Int) (j : Nat) : Int := if j = 0 then 0 else cum y j
theorem la_bd (y : Int) (j : Nat) : 0 ≤ la y j ∧ la y j ≤ 31 := by
  unfold la; split
  · omega
  · exact dim_bd y j
theorem cs_bd (y : Int) (j : Nat) (h : j ≤ 13) : 0 ≤ cs y j ∧ cs y j ≤ 366 := by
  have := lp_01 y
  unfold cs; split
  · omega
  · have := cum_bd y j (by omega) (by omega); omega
theorem cs_succ (y : Int) (j : Nat) (h : j ≤ 12) : cs y (j + 1) = cs y j + la y j := by
  unfold cs la
  by_cases h0 : j = 0
  · subst h0; rfl
  · rw [if_neg (by omega), if_neg h0, if_neg h0, show ((j + 1 : Nat) : Int) = (j : Int) + 1 from by omega]; exact cum_succ y j (by omega) (by omega)
theorem lens_cell (y : Int) (w : World) (t : TypeId) (j : Nat) (h : j < 13) : (w.alloc (.cells #[.int .i64 0, .int .i64 31, .int .i64 (28 + lp y), .int .i64 31, .int .i64 30, .int .i64 31, .int .i64 30, .int .i64 31, .int .i64 31, .int .i64 30, .int .i64 31, .int .i64 30, .int .i64 31] t)).cell? ⟨w.heap.size, j, none⟩ = some (.int .i64 (la y j)) := by
  have : j = 0 ∨ j = 1 ∨ j = 2 ∨ j = 3 ∨ j = 4 ∨ j = 5 ∨ j = 6 ∨ j = 7 ∨ j = 8 ∨ j = 9 ∨ j = 10 ∨ j = 11 ∨ j = 12 := by omega
  rcases this with rfl | rfl | rfl | rfl | rfl | rfl | rfl | rfl | rfl | rfl | rfl | rfl | rfl <;> simp [la, dim]
set_option maxHeartbeats 1000000 in
theorem doy_any (y m d : Int) (w : World) (h1 : 1 ≤ m) (h2 : m ≤ 12) (h3 : 1 ≤ d) (h4 : d ≤ 31) :
    Calls Try.prog 51 #[.int .i64 y, .int .i64 m, .int .i64 d] w fun e w' => e = .returned (.int .i64 (cum y m + d)) ∧ Kept w w' := by
  obtain ⟨k, rfl⟩ := Int.eq_ofNat_of_zero_le (show 0 ≤ m by omega)
  have hk : k ≤ 13 := by omega
  have hk' : (k : Int) ≤ 13 := by omega
  have hk0 : (0 : Int) ≤ (k : Int) := by omega
  go_enter Try.func51, Try.ntmps51
  go_wp2_with (go_at_call 54; refine (lengths_lit _ _).mono ?_; rintro e w' ⟨rfl, hg⟩)
  have hcell := fun j h => lens_cell y w' 66 j h
  have hG : Kept w (w'.alloc (.cells #[.int .i64 0, .int .i64 31, .int .i64 (28 + lp y), .int .i64 31, .int .i64 30, .int .i64 31, .int .i64 30, .int .i64 31, .int .i64 31, .int .i64 30, .int .i64 31, .int .i64 30, .int .i64 31] 66)) := hg.alloc _
  generalize (w'.alloc (.cells #[.int .i64 0, .int .i64 31, .int .i64 (28 + lp y), .int .i64 31, .int .i64 30, .int .i64 31, .int .i64 30, .int .i64 31, .int .i64 31, .int .i64 30, .int .i64 31, .int .i64 30, .int .i64 31] 66)) = W at hcell hG ⊢
  have HC := Lib.hid hcell; clear hcell
  go_loop [2, 15] (fun a i => ∃ j : Nat, j ≤ k ∧ i = .int .i64 j ∧ a = .int .i64 (d + cs y j)) (fun _ i => k - (intOf i).toNat)
  case atStart => exact ⟨0, Nat.zero_le _, rfl, by simp [cs]⟩
  case round =>
    obtain ⟨j, hj, rfl, rfl⟩ := hrel
    have hb := cs_bd y j (by omega)
    have hl := la_bd y j
    by_cases hlt : j < k
    · have hc := HC.out j (by omega)
      have HS := Lib.hid (cs_succ y j (by omega))
      go_wp2
      go_round
      case rel => exact ⟨j + 1, by omega, by go_num, by rw [HS.out]; go_num⟩
      case measure => simp [intOf]; omega
    · go_wp2
      go_ret
      exact ⟨ret_int (by rw [show j = k from by omega]; unfold cs; rw [if_neg (by omega)]; omega), hG⟩
def MonthPost (y l : Int) (w : World) (e : Ending) (w' : World) : Prop := ∃ m d : Int, e = .returned (.tuple #[.int .i64 m, .int .i64 d]) ∧ 1 ≤ d ∧ d ≤ dim y m ∧ cum y m + d = l + 1 ∧ Kept w w'
set_option maxHeartbeats 1000000 in
theorem monthOf_any (y l : Int) (w : World) (h1 : 0 ≤ l) (h2 : l < 365 + lp y) :
    Calls Try.prog 53 #[.int .i64 y, .int .i64 l] w (MonthPost y l w) := by
  have hlp := lp_01 y
  have hl3 : l ≤ 365 := by omega
  go_enter Try.func53, Try.ntmps53
  go_wp2_with (go_at_call 54; refine (lengths_lit _ _).mono ?_; rintro e w' ⟨rfl, hg⟩)
  have hcell := fun j h => lens_cell y w' 66 j h
  have hG : Kept w (w'.alloc (.cells #[.int .i64 0, .int .i64 31, .int .i64 (28 + lp y), .int .i64 31, .int .i64 30, .int .i64 31, .int .i64 30, .int .i64 31, .int .i64 31, .int .i64 30, .int .i64 31, .int .i64 30, .int .i64 31] 66)) := hg.alloc _
  generalize (w'.alloc (.cells #[.int .i64 0, .int .i64 31, .int .i64 (28 + lp y), .int .i64 31, .int .i64 30, .int .i64 31, .int .i64 30, .int .i64 31, .int .i64 31, .int .i64 30, .int .i64 31, .int .i64 30, .int .i64 31] 66)) = W at hcell hG ⊢
  have HC := Lib.hid hcell; clear hcell
  go_loop [1, 4] (fun r i => ∃ m : Nat, 1 ≤ m ∧ m ≤ 12 ∧ i = .int .i64 m ∧ r = .int .i64 (l - cum y m) ∧ cum y m ≤ l) (fun _ i => 12 - (intOf i).toNat)
  case atStart => exact ⟨1, by omega, by omega, rfl, by simp [cum], by simp [cum]; omega⟩
  case round =>
    obtain ⟨m, hm1, hm2, rfl, rfl, hle⟩ := hrel
    have cb := cum_bd y m (by omega) (by omega)
    have db := dim_bd y m
    have hc : W.cell? ⟨w'.heap.size, m, none⟩ = some (.int .i64 (dim y m)) := by
      have := HC.out m (by omega); unfold la at this; rwa [if_neg (by omega)] at this
    have CS := Lib.hid (cum_succ y m (by omega) (by omega))
    by_cases hm : m < 12
    · by_cases hd : dim y m ≤ l - cum y m
      · go_wp2
        go_round
        case rel => exact ⟨m + 1, by omega, by omega, by go_num, by rw [show ((m + 1 : Nat) : Int) = m + 1 from by omega, CS.out]; go_num, by rw [show ((m + 1 : Nat) : Int) = m + 1 from by omega, CS.out]; omega⟩
        case measure => simp [intOf]; omega
      · go_wp2
        go_ret2
        exact ⟨_, _, rfl, by omega, by omega, by omega, hG⟩
    · go_wp2
      go_ret2
      have e12 : m = 12 := by omega
      subst e12
      have c13 := CS.out
      rw [show ((12 : Nat) : Int) + 1 = 13 from rfl, cum_13] at c13
      exact ⟨_, _, rfl, by omega, by omega, by omega, hG⟩
def YearPost (l : Int) (w : World) (e : Ending) (w' : World) : Prop := ∃ y : Int, e = .returned (.int .i64 y) ∧ 1 ≤ y ∧ y ≤ 9999 ∧ dby y ≤ l ∧ l < dby (y + 1) ∧ w = w'
set_option maxHeartbeats 400000 in
theorem yearOf_any (l : Int) (w : World) (h1 : 0 ≤ l) (h2 : l ≤ 3652058) :
    Calls Try.prog 52 #[.int .i64 l] w (YearPost l w) := by
  have g1 := guess_lo l h1
  have g2 := guess_hi l
  have q1 : 0 ≤ l * 400 / 146097 := by omega
  have q2 : l * 400 / 146097 ≤ 9998 := by omega
  by_cases hc : dby (l * 400 / 146097 + 1 + 1) ≤ l
  · have hq9 : l * 400 / 146097 + 2 ≤ 9999 := by
      rcases (show l * 400 / 146097 + 2 ≤ 9999 ∨ l * 400 / 146097 = 9998 by omega) with h | h
      · exact h
      · rw [h, show (9998 : Int) + 1 + 1 = 10000 from rfl, dby_10000] at hc; omega
    go_enter Try.func52, Try.ntmps52
    go_wp2_with (go_at_call 50; refine (daysAhead_any _ _ (by omega) (by omega)).mono ?_; rintro e w' ⟨rfl, rfl⟩)
    go_ret
    exact ⟨_, rfl, by omega, by omega, hc, by rw [show l * 400 / 146097 + 1 + 1 + 1 = l * 400 / 146097 + 3 from by omega]; exact g2, rfl⟩
  · go_enter Try.func52, Try.ntmps52
    go_wp2_with (go_at_call 50; refine (daysAhead_any _ _ (by omega) (by omega)).mono ?_; rintro e w' ⟨rfl, rfl⟩)
    go_ret
    exact ⟨_, rfl, by omega, by omega, g1, by omega, rfl⟩

set_option maxHeartbeats 400000 in
theorem ord_yes (y m d : Int) (w : World) (h : okP y m d) :
    Calls Try.prog 23 #[.int .i64 y, .int .i64 m, .int .i64 d] w fun e w' => e = .returned (.tuple #[.int .i64 (ord y m d), .int .i64 0]) ∧ Kept w w' := by
  have hk := Lib.hid ((okB_iff y m d).2 h)
  have hb := dby_bd y h.1 (by have := h.2.1; omega)
  have hyb := yd_bd h
  have hlp := lp_01 y
  obtain ⟨h1, h2, h3, h4⟩ := h
  obtain ⟨m1, m2⟩ := ok_month h3 h4
  have hdm := dim_bd y m
  go_enter Try.func23, Try.ntmps23
  go_wp2_with fail
  refine (isDay_any _ _ _ _).mono ?_
  rintro e w1 ⟨rfl, hg1⟩
  rw [hk.out]
  go_wp2_with (first | (go_at_call 50; refine (daysAhead_any _ _ (by omega) (by omega)).mono ?_; rintro e w' ⟨rfl, rfl⟩) | (go_at_call 51; refine (doy_any _ _ _ _ (by omega) (by omega) (by omega) (by omega)).mono ?_; rintro e w2 ⟨rfl, hg2⟩))
  go_ret2
  exact ⟨by unfold ord; go_num, Kept.trans hg1 hg2⟩
theorem ord_not (y m d : Int) (w : World) (h : ¬ okP y m d) :
    Calls Try.prog 23 #[.int .i64 y, .int .i64 m, .int .i64 d] w fun e w' => e = .returned (.tuple #[.int .i64 0, .int .i64 1]) ∧ Kept w w' := by
  have hk := Lib.hid ((okB_no y m d).2 h)
  clear h
  go_enter Try.func23, Try.ntmps23
  go_wp2_with fail
  refine (isDay_any _ _ _ _).mono ?_
  rintro e w1 ⟨rfl, hg1⟩
  rw [hk.out]
  go_wp2
  go_ret2
  exact ⟨rfl, hg1⟩
set_option maxHeartbeats 400000 in
theorem yday_yes (y m d : Int) (w : World) (h : okP y m d) :
    Calls Try.prog 26 #[.int .i64 y, .int .i64 m, .int .i64 d] w fun e w' => e = .returned (.int .i64 (cum y m + d)) ∧ Kept w w' := by
  have hk := Lib.hid ((okB_iff y m d).2 h)
  obtain ⟨h1, h2, h3, h4⟩ := h
  obtain ⟨m1, m2⟩ := ok_month h3 h4
  have hdm := dim_bd y m
  go_enter Try.func26, Try.ntmps26
  go_wp2_with fail
  refine (isDay_any _ _ _ _).mono ?_
  rintro e w1 ⟨rfl, hg1⟩
  rw [hk.out]
  go_wp2_with (go_at_call 51; refine (doy_any _ _ _ _ (by omega) (by omega) (by omega) (by omega)).mono ?_; rintro e w2 ⟨rfl, hg2⟩)
  go_ret
  exact ⟨rfl, Kept.trans hg1 hg2⟩
theorem yday_not (y m d : Int) (w : World) (h : ¬ okP y m d) :
    Calls Try.prog 26 #[.int .i64 y, .int .i64 m, .int .i64 d] w fun e w' => e = .returned (.int .i64 0) ∧ Kept w w' := by
  have hk := Lib.hid ((okB_no y m d).2 h)
  clear h
  go_enter Try.func26, Try.ntmps26
  go_wp2_with fail
  refine (isDay_any _ _ _ _).mono ?_
  rintro e w1 ⟨rfl, hg1⟩
  rw [hk.out]
  go_wp2
  go_ret
  exact ⟨rfl, hg1⟩
def wd (n : Int) : Int := if n < -1099511627776 ∨ 1099511627776 < n then 0 else (n + 4) % 7
theorem tmod7 (n : Int) : -7 < n.tmod 7 ∧ n.tmod 7 < 7 ∧ n = 7 * n.tdiv 7 + n.tmod 7 :=
  ⟨by have h := Int.tmod_lt_of_pos (-n) (show (0 : Int) < 7 by omega); rw [Int.neg_tmod] at h; omega, Int.tmod_lt_of_pos n (by omega), (Int.mul_tdiv_add_tmod n 7).symm⟩
set_option maxHeartbeats 400000 in
theorem wday_any (n : Int) (w : World) :
    Calls Try.prog 27 #[.int .i64 n] w fun e w' => e = .returned (.int .i64 (wd n)) ∧ w = w' := by
  obtain ⟨t1, t2, t3⟩ := tmod7 n
  have T3 := Lib.hid t3; clear t3
  by_cases h1 : n < -1099511627776
  · have hw := Lib.hid (show wd n = 0 from by unfold wd; rw [if_pos (Or.inl h1)])
    go_enter Try.func27, Try.ntmps27
    go_wp2
    go_ret
    exact ⟨ret_int hw.out.symm, rfl⟩
  · by_cases h2 : 1099511627776 < n
    · have hw := Lib.hid (show wd n = 0 from by unfold wd; rw [if_pos (Or.inr h2)])
      go_enter Try.func27, Try.ntmps27
      go_wp2
      go_ret
      exact ⟨ret_int hw.out.symm, rfl⟩
    · have hw := Lib.hid (show wd n = (n + 4) % 7 from by unfold wd; rw [if_neg (by omega)])
      go_enter Try.func27, Try.ntmps27
      go_wp2
      go_ret
      exact ⟨ret_int (by rw [hw.out]; have := T3.out; omega), rfl⟩
def DatePost (n : Int) (w : World) (e : Ending) (w' : World) : Prop := ∃ y m d : Int, e = .returned (.tuple #[.int .i64 y, .int .i64 m, .int .i64 d, .int .i64 0]) ∧ okP y m d ∧ ord y m d = n ∧ Kept w w'
set_option maxHeartbeats 1000000 in
theorem date_yes (n : Int) (w : World) (h1 : -719162 ≤ n) (h2 : n ≤ 2932896) :
    Calls Try.prog 24 #[.int .i64 n] w (DatePost n w) := by
  go_enter Try.func24, Try.ntmps24
  go_wp2_with fail
  refine (yearOf_any _ _ (by omega) (by omega)).mono ?_
  rintro e w1 ⟨y, rfl, y1, y2, y3, y4, rfl⟩
  have hb := dby_bd y y1 (by omega)
  have hs := dby_succ y y1
  have hy4 : n - -719162 - dby y < 365 + lp y := by omega
  clear hs y4
  go_wp2_with fail
  refine (daysAhead_any _ _ (by omega) (by omega)).mono ?_
  rintro e w1 ⟨rfl, rfl⟩
  go_wp2_with fail
  refine (monthOf_any _ _ _ (by omega) (by omega)).mono ?_
  rintro e w1 ⟨m, d, rfl, d1, d2, hcd, hg⟩
  have HC := Lib.hid hcd; clear hcd
  go_wp2
  exact bodyPost_ret (v := .tuple #[.int .i64 y, .int .i64 m, .int .i64 d, .int .i64 0]) (by simp [results, Try.results24, go_sem]) rfl
    ⟨y, m, d, rfl, ⟨y1, y2, d1, d2⟩, by have := HC.out; unfold ord; omega, hg⟩
theorem date_not (n : Int) (w : World) (h : n < -719162 ∨ 2932896 < n) :
    Calls Try.prog 24 #[.int .i64 n] w fun e w' => e = .returned (.tuple #[.int .i64 0, .int .i64 0, .int .i64 0, .int .i64 1]) ∧ w = w' := by
  rcases h with h | h
  · go_enter Try.func24, Try.ntmps24
    go_wp2
    exact bodyPost_ret (v := .tuple #[.int .i64 0, .int .i64 0, .int .i64 0, .int .i64 1]) (by simp [results, Try.results24, go_sem]) rfl ⟨rfl, rfl⟩
  · have h' : ¬ n < -719162 := by omega
    go_enter Try.func24, Try.ntmps24
    go_wp2
    exact bodyPost_ret (v := .tuple #[.int .i64 0, .int .i64 0, .int .i64 0, .int .i64 1]) (by simp [results, Try.results24, go_sem]) rfl ⟨rfl, rfl⟩
end Go.Proofs.Ytcgmefojokndhaa
