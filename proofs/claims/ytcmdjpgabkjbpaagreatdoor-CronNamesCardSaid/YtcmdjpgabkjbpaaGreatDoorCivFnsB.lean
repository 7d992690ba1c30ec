/- What package civil's functions come to, call by call (contracts): days' numbers, days of the year and of the week, a number's day. -/
import Derived.Test.YtcmdjpgabkjbpaaGreatDoorCivFnsA
namespace Go.Proofs.YtcmdjpgabkjbpaaGreatDoor
open Go.ChangeShapes Go.WideShapes Go.ChangeAt Go.RowKit
open Civ
def la (y : Int) (j : Nat) : Int := if j = 0 then 0 else dim y j
def cs (y : Int) (j : Nat) : Int := if j = 0 then 0 else cum y j
theorem la_bd (y : Int) (j : Nat) : 0 ≤ la y j ∧ la y j ≤ 31 := by
  unfold la; split
  · omega
  · exact dim_bd y j
theorem cs_bd (y : Int) (j : Nat) (h : j ≤ 13) : 0 ≤ cs y j ∧ cs y j ≤ 366 := by
  have := lp_01 y
  unfold cs; split
  · omega
  · have := cum_bd y j (by omega) (by omega); omega
theorem cs_succ (y : Int) (j : Nat) (h : j ≤ 12) : cs y (j + 1) = cs y j + la y j := by
  unfold cs la
  by_cases h0 : j = 0
  · subst h0; rfl
  · rw [if_neg (by omega), if_neg h0, if_neg h0, show ((j + 1 : Nat) : Int) = (j : Int) + 1 from by omega]; exact cum_succ y j (by omega) (by omega)
theorem lens_cell (y : Int) (w : World) (t : TypeId) (j : Nat) (h : j < 13) : (w.alloc (.cells #[.int .i64 0, .int .i64 31, .int .i64 (28 + lp y), .int .i64 31, .int .i64 30, .int .i64 31, .int .i64 30, .int .i64 31, .int .i64 31, .int .i64 30, .int .i64 31, .int .i64 30, .int .i64 31] t)).cell? ⟨w.heap.size, j, none⟩ = some (.int .i64 (la y j)) := by
  have : j = 0 ∨ j = 1 ∨ j = 2 ∨ j = 3 ∨ j = 4 ∨ j = 5 ∨ j = 6 ∨ j = 7 ∨ j = 8 ∨ j = 9 ∨ j = 10 ∨ j = 11 ∨ j = 12 := by omega
  rcases this with rfl | rfl | rfl | rfl | rfl | rfl | rfl | rfl | rfl | rfl | rfl | rfl | rfl <;> simp [la, dim]
set_option maxHeartbeats 1000000 in
theorem doy_any (y m d : Int) (w : World) (h1 : 1 ≤ m) (h2 : m ≤ 12) (h3 : 1 ≤ d) (h4 : d ≤ 31) :
    Calls Tryz.prog 46 #[.int .i64 y, .int .i64 m, .int .i64 d] w fun e w' => e = .returned (.int .i64 (cum y m + d)) ∧ Kept w w' := by
  obtain ⟨k, rfl⟩ := Int.eq_ofNat_of_zero_le (show 0 ≤ m by omega)
  have hk : k ≤ 13 := by omega
  have hk' : (k : Int) ≤ 13 := by omega
  have hk0 : (0 : Int) ≤ (k : Int) := by omega
  go_enter Tryz.func46, Tryz.ntmps46
  go_wp2_with (go_at_call 62; refine (lengths_lit _ _).mono ?_; rintro e w' ⟨rfl, hg⟩)
  have hcell := fun j h => lens_cell y w' 82 j h
  have hG : Kept w (w'.alloc (.cells #[.int .i64 0, .int .i64 31, .int .i64 (28 + lp y), .int .i64 31, .int .i64 30, .int .i64 31, .int .i64 30, .int .i64 31, .int .i64 31, .int .i64 30, .int .i64 31, .int .i64 30, .int .i64 31] 82)) := hg.alloc _
  generalize (w'.alloc (.cells #[.int .i64 0, .int .i64 31, .int .i64 (28 + lp y), .int .i64 31, .int .i64 30, .int .i64 31, .int .i64 30, .int .i64 31, .int .i64 31, .int .i64 30, .int .i64 31, .int .i64 30, .int .i64 31] 82)) = W at hcell hG ⊢
  have HC := Lib.hid hcell; clear hcell
  go_loop [2, 15] (fun a i => ∃ j : Nat, j ≤ k ∧ i = .int .i64 j ∧ a = .int .i64 (d + cs y j)) (fun _ i => k - (intOf i).toNat)
  case atStart => exact ⟨0, Nat.zero_le _, rfl, by simp [cs]⟩
  case round =>
    obtain ⟨j, hj, rfl, rfl⟩ := hrel
    have hb := cs_bd y j (by omega)
    have hl := la_bd y j
    by_cases hlt : j < k
    · have hc := HC.out j (by omega)
      have HS := Lib.hid (cs_succ y j (by omega))
      go_wp2
      go_round
      case rel => exact ⟨j + 1, by omega, by go_num, by rw [HS.out]; go_num⟩
      case measure => simp [intOf]; omega
    · go_wp2
      go_ret
      exact ⟨ret_int (by rw [show j = k from by omega]; unfold cs; rw [if_neg (by omega)]; omega), hG⟩
def MonthPost (y l : Int) (w : World) (e : Ending) (w' : World) : Prop := ∃ m d : Int, e = .returned (.tuple #[.int .i64 m, .int .i64 d]) ∧ 1 ≤ d ∧ d ≤ dim y m ∧ cum y m + d = l + 1 ∧ Kept w w'
def YearPost (l : Int) (w : World) (e : Ending) (w' : World) : Prop := ∃ y : Int, e = .returned (.int .i64 y) ∧ 1 ≤ y ∧ y ≤ 9999 ∧ dby y ≤ l ∧ l < dby (y + 1) ∧ w = w'
set_option maxHeartbeats 400000 in
theorem ord_yes (y m d : Int) (w : World) (h : okP y m d) :
    Calls Tryz.prog 24 #[.int .i64 y, .int .i64 m, .int .i64 d] w fun e w' => e = .returned (.tuple #[.int .i64 (ord y m d), .int .i64 0]) ∧ Kept w w' := by
  have hk := Lib.hid ((okB_iff y m d).2 h)
  have hb := dby_bd y h.1 (by have := h.2.1; omega)
  have hyb := yd_bd h
  have hlp := lp_01 y
  obtain ⟨h1, h2, h3, h4⟩ := h
  obtain ⟨m1, m2⟩ := ok_month h3 h4
  have hdm := dim_bd y m
  go_enter Tryz.func24, Tryz.ntmps24
  go_wp2_with fail
  refine (isDay_any _ _ _ _).mono ?_
  rintro e w1 ⟨rfl, hg1⟩
  rw [hk.out]
  go_wp2_with (first | (go_at_call 45; refine (daysAhead_any _ _ (by omega) (by omega)).mono ?_; rintro e w' ⟨rfl, rfl⟩) | (go_at_call 46; refine (doy_any _ _ _ _ (by omega) (by omega) (by omega) (by omega)).mono ?_; rintro e w2 ⟨rfl, hg2⟩))
  go_ret2
  exact ⟨by unfold ord; go_num, Kept.trans hg1 hg2⟩
theorem ord_not (y m d : Int) (w : World) (h : ¬ okP y m d) :
    Calls Tryz.prog 24 #[.int .i64 y, .int .i64 m, .int .i64 d] w fun e w' => e = .returned (.tuple #[.int .i64 0, .int .i64 1]) ∧ Kept w w' := by
  have hk := Lib.hid ((okB_no y m d).2 h)
  clear h
  go_enter Tryz.func24, Tryz.ntmps24
  go_wp2_with fail
  refine (isDay_any _ _ _ _).mono ?_
  rintro e w1 ⟨rfl, hg1⟩
  rw [hk.out]
  go_wp2
  go_ret2
  exact ⟨rfl, hg1⟩
def wd (n : Int) : Int := if n < -1099511627776 ∨ 1099511627776 < n then 0 else (n + 4) % 7
theorem tmod7 (n : Int) : -7 < n.tmod 7 ∧ n.tmod 7 < 7 ∧ n = 7 * n.tdiv 7 + n.tmod 7 :=
  ⟨by have h := Int.tmod_lt_of_pos (-n) (show (0 : Int) < 7 by omega); rw [Int.neg_tmod] at h; omega, Int.tmod_lt_of_pos n (by omega), (Int.mul_tdiv_add_tmod n 7).symm⟩
set_option maxHeartbeats 400000 in
theorem wday_any (n : Int) (w : World) :
    Calls Tryz.prog 26 #[.int .i64 n] w fun e w' => e = .returned (.int .i64 (wd n)) ∧ w = w' := by
  obtain ⟨t1, t2, t3⟩ := tmod7 n
  have T3 := Lib.hid t3; clear t3
  by_cases h1 : n < -1099511627776
  · have hw := Lib.hid (show wd n = 0 from by unfold wd; rw [if_pos (Or.inl h1)])
    go_enter Tryz.func26, Tryz.ntmps26
    go_wp2
    go_ret
    exact ⟨ret_int hw.out.symm, rfl⟩
  · by_cases h2 : 1099511627776 < n
    · have hw := Lib.hid (show wd n = 0 from by unfold wd; rw [if_pos (Or.inr h2)])
      go_enter Tryz.func26, Tryz.ntmps26
      go_wp2
      go_ret
      exact ⟨ret_int hw.out.symm, rfl⟩
    · have hw := Lib.hid (show wd n = (n + 4) % 7 from by unfold wd; rw [if_neg (by omega)])
      go_enter Tryz.func26, Tryz.ntmps26
      go_wp2
      go_ret
      exact ⟨ret_int (by rw [hw.out]; have := T3.out; omega), rfl⟩
def DatePost (n : Int) (w : World) (e : Ending) (w' : World) : Prop := ∃ y m d : Int, e = .returned (.tuple #[.int .i64 y, .int .i64 m, .int .i64 d, .int .i64 0]) ∧ okP y m d ∧ ord y m d = n ∧ Kept w w'
end Go.Proofs.YtcmdjpgabkjbpaaGreatDoor
