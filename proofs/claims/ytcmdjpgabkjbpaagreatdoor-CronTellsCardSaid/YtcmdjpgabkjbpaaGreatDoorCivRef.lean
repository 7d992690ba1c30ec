/- What the document's own answers for package civil come to, call by call (contracts). -/
import Derived.Test.YtcmdjpgabkjbpaaGreatDoorCivFnsB
namespace Go.Proofs.YtcmdjpgabkjbpaaGreatDoor
open Go.ChangeShapes Go.WideShapes Go.ChangeAt Go.RowKit
open Civ
/-! ### The document's own answers -/
set_option maxHeartbeats 400000 in
theorem rleap_any (y : Int) (w : World) :
    Calls Tryz.prog 72 #[.int .i64 y] w fun e w' => e = .returned (.bool (leap y)) ∧ w = w' := by
  go_enter Tryz.func72, Tryz.ntmps72
  go_wp2
  all_goals (go_ret; exact ⟨ret_bool (by simp [leap, *]), rfl⟩)
set_option maxHeartbeats 1000000 in
theorem rdays_any (y m : Int) (w : World) :
    Calls Tryz.prog 58 #[.int .i64 y, .int .i64 m] w fun e w' => e = .returned (.int .i64 (dim y m)) ∧ w = w' := by
  by_cases h : 1 ≤ m ∧ m ≤ 12
  · rcases month_cases m h.1 h.2 with rfl | rfl | rfl | rfl | rfl | rfl | rfl | rfl | rfl | rfl | rfl | rfl
    case inr.inl =>
      clear h
      have hd : Hid (dim y 2 = 28 + lp y) := Lib.hid rfl
      cases hl : leap y
      · have H := Lib.hid hl; clear hl
        go_enter Tryz.func58, Tryz.ntmps58
        go_wp2_with (go_at_call 72; refine (rleap_any _ _).mono ?_; rintro e w' ⟨rfl, rfl⟩; rw [H.out])
        go_ret
        exact ⟨ret_int (by rw [hd.out, lp_false H.out]; rfl), rfl⟩
      · have H := Lib.hid hl; clear hl
        go_enter Tryz.func58, Tryz.ntmps58
        go_wp2_with (go_at_call 72; refine (rleap_any _ _).mono ?_; rintro e w' ⟨rfl, rfl⟩; rw [H.out])
        go_ret
        exact ⟨ret_int (by rw [hd.out, lp_true H.out]; rfl), rfl⟩
    all_goals
      clear h
      go_enter Tryz.func58, Tryz.ntmps58
      go_wp2_with fail
      go_ret
      exact ⟨ret_int (by simp [dim]), rfl⟩
  · have hd := Lib.hid (dim_out y m (by omega))
    have n1 : (m == 1) = false := beq_eq_false_iff_ne.2 (by omega)
    have n2 : (m == 2) = false := beq_eq_false_iff_ne.2 (by omega)
    have n3 : (m == 3) = false := beq_eq_false_iff_ne.2 (by omega)
    have n4 : (m == 4) = false := beq_eq_false_iff_ne.2 (by omega)
    have n5 : (m == 5) = false := beq_eq_false_iff_ne.2 (by omega)
    have n6 : (m == 6) = false := beq_eq_false_iff_ne.2 (by omega)
    have n7 : (m == 7) = false := beq_eq_false_iff_ne.2 (by omega)
    have n8 : (m == 8) = false := beq_eq_false_iff_ne.2 (by omega)
    have n9 : (m == 9) = false := beq_eq_false_iff_ne.2 (by omega)
    have n10 : (m == 10) = false := beq_eq_false_iff_ne.2 (by omega)
    have n11 : (m == 11) = false := beq_eq_false_iff_ne.2 (by omega)
    have n12 : (m == 12) = false := beq_eq_false_iff_ne.2 (by omega)
    clear h
    go_enter Tryz.func58, Tryz.ntmps58
    go_wp2_with fail
    go_ret
    exact ⟨ret_int hd.out.symm, rfl⟩
set_option maxHeartbeats 400000 in
theorem rstart_any (y : Int) (w : World) (h1 : 1 ≤ y) (h2 : y ≤ 100000) :
    Calls Tryz.prog 59 #[.int .i64 y] w fun e w' => e = .returned (.int .i64 (dby y - 719162)) ∧ w = w' := by
  go_enter Tryz.func59, Tryz.ntmps59
  go_wp2
  go_ret
  exact ⟨ret_int (by unfold dby; omega), rfl⟩
set_option maxHeartbeats 1000000 in
theorem rord_yes (y m d : Int) (w : World) (h : okP y m d) :
    Calls Tryz.prog 38 #[.int .i64 y, .int .i64 m, .int .i64 d] w fun e w' => e = .returned (.tuple #[.int .i64 (ord y m d), .int .i64 0]) ∧ w = w' := by
  have hb := dby_bd y h.1 (by have := h.2.1; omega)
  have hlp := lp_01 y
  obtain ⟨h1, h2, h3, h4⟩ := h
  obtain ⟨m1, m2⟩ := ok_month h3 h4
  have hdm := dim_bd y m
  obtain ⟨k, rfl⟩ := Int.eq_ofNat_of_zero_le (show 0 ≤ m by omega)
  have k1 : 1 ≤ k := by omega
  have k2 : k ≤ 12 := by omega
  have b1 : decide (y < 1) = false := decide_eq_false (by omega)
  have b2 : decide (9999 < y) = false := decide_eq_false (by omega)
  have b3 : decide (d < 1) = false := decide_eq_false (by omega)
  have b4 : decide (dim y k < d) = false := decide_eq_false (by omega)
  go_enter Tryz.func38, Tryz.ntmps38
  go_wp2_with (first | (go_at_call 58; refine (rdays_any _ _ _).mono ?_; rintro e w' ⟨rfl, rfl⟩) | (go_at_call 59; refine (rstart_any _ _ (by omega) (by omega)).mono ?_; rintro e w' ⟨rfl, rfl⟩))
  go_loop [8, 9] (fun n i => ∃ j : Nat, 1 ≤ j ∧ j ≤ k ∧ i = .int .i64 j ∧ n = .int .i64 (dby y - 719162 + cum y j)) (fun _ i => k - (intOf i).toNat)
  case atStart => exact ⟨1, by omega, by omega, rfl, by simp [cum]⟩
  case round =>
    obtain ⟨j, j1, j2, rfl, rfl⟩ := hrel
    have cb := cum_bd y j (by omega) (by omega)
    have db := dim_bd y j
    by_cases hlt : j < k
    · have CS := Lib.hid (cum_succ y j (by omega) (by omega))
      go_wp2_with (go_at_call 58; refine (rdays_any _ _ _).mono ?_; rintro e w' ⟨rfl, rfl⟩)
      go_round
      case rel => exact ⟨j + 1, by omega, by omega, by go_num, by rw [show ((j + 1 : Nat) : Int) = j + 1 from by omega, CS.out]; go_num⟩
      case measure => simp [intOf]; omega
    · obtain rfl : j = k := by omega
      go_wp2
      go_ret2
      exact ⟨by unfold ord; go_num, rfl⟩
set_option maxHeartbeats 1000000 in
theorem rord_not (y m d : Int) (w : World) (h : ¬ okP y m d) :
    Calls Tryz.prog 38 #[.int .i64 y, .int .i64 m, .int .i64 d] w fun e w' => e = .returned (.tuple #[.int .i64 0, .int .i64 1]) ∧ w = w' := by
  unfold okP at h
  by_cases h1 : y < 1
  · clear h
    go_enter Tryz.func38, Tryz.ntmps38
    go_wp2_with fail
    go_ret2
    exact ⟨rfl, rfl⟩
  · by_cases h2 : 9999 < y
    · clear h
      go_enter Tryz.func38, Tryz.ntmps38
      go_wp2_with fail
      go_ret2
      exact ⟨rfl, rfl⟩
    · by_cases h3 : d < 1
      · clear h
        go_enter Tryz.func38, Tryz.ntmps38
        go_wp2_with fail
        go_ret2
        exact ⟨rfl, rfl⟩
      · have h4 : dim y m < d := by omega
        clear h
        go_enter Tryz.func38, Tryz.ntmps38
        go_wp2_with (go_at_call 58; refine (rdays_any _ _ _).mono ?_; rintro e w' ⟨rfl, rfl⟩)
        go_ret2
        exact ⟨rfl, rfl⟩
set_option maxHeartbeats 400000 in
theorem rwday_any (n : Int) (w : World) :
    Calls Tryz.prog 39 #[.int .i64 n] w fun e w' => e = .returned (.int .i64 (wd n)) ∧ w = w' := by
  obtain ⟨t1, t2, t3⟩ := tmod7 (n + 4)
  have T3 := Lib.hid t3; clear t3
  by_cases h1 : n < -1099511627776
  · have hw := Lib.hid (show wd n = 0 from by unfold wd; rw [if_pos (Or.inl h1)])
    go_enter Tryz.func39, Tryz.ntmps39
    go_wp2
    go_ret
    exact ⟨ret_int hw.out.symm, rfl⟩
  · by_cases h2 : 1099511627776 < n
    · have hw := Lib.hid (show wd n = 0 from by unfold wd; rw [if_pos (Or.inr h2)])
      go_enter Tryz.func39, Tryz.ntmps39
      go_wp2
      go_ret
      exact ⟨ret_int hw.out.symm, rfl⟩
    · have hw := Lib.hid (show wd n = (n + 4) % 7 from by unfold wd; rw [if_neg (by omega)])
      by_cases h3 : (n + 4).tmod 7 < 0
      · go_enter Tryz.func39, Tryz.ntmps39
        go_wp2
        go_ret
        exact ⟨ret_int (by rw [hw.out]; have := T3.out; omega), rfl⟩
      · go_enter Tryz.func39, Tryz.ntmps39
        go_wp2
        go_ret
        exact ⟨ret_int (by rw [hw.out]; have := T3.out; omega), rfl⟩
theorem rstart_1 (w : World) : Calls Tryz.prog 59 #[.int .i64 1] w fun e w' => e = .returned (.int .i64 (-719162)) ∧ w = w' := by
  have := rstart_any 1 w (by omega) (by omega); rwa [dby_1] at this
theorem rstart_10000 (w : World) : Calls Tryz.prog 59 #[.int .i64 10000] w fun e w' => e = .returned (.int .i64 2932897) ∧ w = w' := by
  have := rstart_any 10000 w (by omega) (by omega); rwa [dby_10000] at this
theorem two_half (k : Nat) : (2 : Nat) ^ (k + 1) / 2 = 2 ^ k := by rw [Nat.pow_succ]; omega
/-- half of what is a power of two, or nothing at last -/
def st (k : Nat) : Int := ((2 ^ k / 2 : Nat) : Int)
theorem st_0 : st 0 = 0 := rfl
theorem st_succ (k : Nat) : st (k + 1) = 2 ^ k := by unfold st; rw [two_half]; simp
theorem st_half (k : Nat) : st (k + 1) / 2 = st k := by unfold st; rw [two_half]; generalize 2 ^ k = x; omega
theorem st_bd (k : Nat) (h : k ≤ 14) : 0 ≤ st k ∧ st k ≤ 8192 := by
  unfold st; have h2 : 2 ^ k ≤ 2 ^ 14 := Nat.pow_le_pow_right (by omega) h; generalize 2 ^ k = x at *; omega
theorem st_pos (k : Nat) : 1 ≤ st (k + 1) := by unfold st; rw [two_half]; have h2 : 1 ≤ 2 ^ k := Nat.one_le_two_pow; generalize 2 ^ k = x at *; omega
def Hi (n y : Int) (k : Nat) : Prop := 9999 < y + 2 ^ k ∨ n < dby (y + 2 ^ k) - 719162
end Go.Proofs.YtcmdjpgabkjbpaaGreatDoor
