import Derived.Test.YtjlpkgipdkjfhaaGreatDoorCa
set_option linter.unusedVariables false
set_option linter.unusedSimpArgs false
namespace Go.Proofs.YtjlpkgipdkjfhaaGreatDoor
open Go.ChangeShapes Go.WideShapes Go.ChangeAt Go.RowKit
open Civ
set_option maxHeartbeats 400000 in
theorem rleap_any (y : Int) (w : World) :
    Calls Tryz.prog 212 #[.int .i64 y] w fun e w' => e = .returned (.bool (leap y)) ∧ w = w' := by
  go_enter Tryz.func212, Tryz.ntmps212
  go_wp2
  all_goals (go_ret; exact ⟨ret_bool (by simp [leap, *]), rfl⟩)
set_option maxHeartbeats 1000000 in
theorem rdays_any (y m : Int) (w : World) :
    Calls Tryz.prog 157 #[.int .i64 y, .int .i64 m] w fun e w' => e = .returned (.int .i64 (dim y m)) ∧ w = w' := by
  by_cases h : 1 ≤ m ∧ m ≤ 12
  · rcases month_cases m h.1 h.2 with rfl | rfl | rfl | rfl | rfl | rfl | rfl | rfl | rfl | rfl | rfl | rfl
    case inr.inl =>
      clear h
      have hd : Hid (dim y 2 = 28 + lp y) := Lib.hid rfl
      cases hl : leap y
      · have H := Lib.hid hl; clear hl
        go_enter Tryz.func157, Tryz.ntmps157
        go_wp2_with (go_at_call 212; refine (rleap_any _ _).mono ?_; rintro e w' ⟨rfl, rfl⟩; rw [H.out])
        go_ret
        exact ⟨ret_int (by rw [hd.out, lp_false H.out]; rfl), rfl⟩
      · have H := Lib.hid hl; clear hl
        go_enter Tryz.func157, Tryz.ntmps157
        go_wp2_with (go_at_call 212; refine (rleap_any _ _).mono ?_; rintro e w' ⟨rfl, rfl⟩; rw [H.out])
        go_ret
        exact ⟨ret_int (by rw [hd.out, lp_true H.out]; rfl), rfl⟩
    all_goals
      clear h
      go_enter Tryz.func157, Tryz.ntmps157
      go_wp2_with fail
      go_ret
      exact ⟨ret_int (by simp [dim]), rfl⟩
  · have hd := Lib.hid (dim_out y m (by omega))
    have n1 : (m == 1) = false := beq_eq_false_iff_ne.2 (by omega)
    have n2 : (m == 2) = false := beq_eq_false_iff_ne.2 (by omega)
    have n3 : (m == 3) = false := beq_eq_false_iff_ne.2 (by omega)
    have n4 : (m == 4) = false := beq_eq_false_iff_ne.2 (by omega)
    have n5 : (m == 5) = false := beq_eq_false_iff_ne.2 (by omega)
    have n6 : (m == 6) = false := beq_eq_false_iff_ne.2 (by omega)
    have n7 : (m == 7) = false := beq_eq_false_iff_ne.2 (by omega)
    have n8 : (m == 8) = false := beq_eq_false_iff_ne.2 (by omega)
    have n9 : (m == 9) = false := beq_eq_false_iff_ne.2 (by omega)
    have n10 : (m == 10) = false := beq_eq_false_iff_ne.2 (by omega)
    have n11 : (m == 11) = false := beq_eq_false_iff_ne.2 (by omega)
    have n12 : (m == 12) = false := beq_eq_false_iff_ne.2 (by omega)
    clear h
    go_enter Tryz.func157, Tryz.ntmps157
    go_wp2_with fail
    go_ret
    exact ⟨ret_int hd.out.symm, rfl⟩
set_option maxHeartbeats 400000 in
theorem rstart_any (y : Int) (w : World) (h1 : 1 ≤ y) (h2 : y ≤ 100000) :
    Calls Tryz.prog 156 #[.int .i64 y] w fun e w' => e = .returned (.int .i64 (dby y - 719162)) ∧ w = w' := by
  go_enter Tryz.func156, Tryz.ntmps156
  go_wp2
  go_ret
  exact ⟨ret_int (by unfold dby; omega), rfl⟩
set_option maxHeartbeats 400000 in
theorem rwday_any (n : Int) (w : World) :
    Calls Tryz.prog 65 #[.int .i64 n] w fun e w' => e = .returned (.int .i64 (wd n)) ∧ w = w' := by
  obtain ⟨t1, t2, t3⟩ := tmod7 (n + 4)
  have T3 := Lib.hid t3; clear t3
  by_cases h1 : n < -1099511627776
  · have hw := Lib.hid (show wd n = 0 from by unfold wd; rw [if_pos (Or.inl h1)])
    go_enter Tryz.func65, Tryz.ntmps65
    go_wp2
    go_ret
    exact ⟨ret_int hw.out.symm, rfl⟩
  · by_cases h2 : 1099511627776 < n
    · have hw := Lib.hid (show wd n = 0 from by unfold wd; rw [if_pos (Or.inr h2)])
      go_enter Tryz.func65, Tryz.ntmps65
      go_wp2
      go_ret
      exact ⟨ret_int hw.out.symm, rfl⟩
    · have hw := Lib.hid (show wd n = (n + 4) % 7 from by unfold wd; rw [if_neg (by omega)])
      by_cases h3 : (n + 4).tmod 7 < 0
      · go_enter Tryz.func65, Tryz.ntmps65
        go_wp2
        go_ret
        exact ⟨ret_int (by rw [hw.out]; have := T3.out; omega), rfl⟩
      · go_enter Tryz.func65, Tryz.ntmps65
        go_wp2
        go_ret
        exact ⟨ret_int (by rw [hw.out]; have := T3.out; omega), rfl⟩
theorem rstart_1 (w : World) : Calls Tryz.prog 156 #[.int .i64 1] w fun e w' => e = .returned (.int .i64 (-719162)) ∧ w = w' := by
  have := rstart_any 1 w (by omega) (by omega); rwa [dby_1] at this
theorem rstart_10000 (w : World) : Calls Tryz.prog 156 #[.int .i64 10000] w fun e w' => e = .returned (.int .i64 2932897) ∧ w = w' := by
  have := rstart_any 10000 w (by omega) (by omega); rwa [dby_10000] at this
theorem two_half (k : Nat) : (2 : Nat) ^ (k + 1) / 2 = 2 ^ k := by rw [Nat.pow_succ]; omega
def st (k : Nat) : Int := ((2 ^ k / 2 : Nat) : Int)
theorem st_0 : st 0 = 0 := rfl
theorem st_succ (k : Nat) : st (k + 1) = 2 ^ k := by unfold st; rw [two_half]; simp
theorem st_half (k : Nat) : st (k + 1) / 2 = st k := by unfold st; rw [two_half]; generalize 2 ^ k = x; omega
theorem st_bd (k : Nat) (h : k ≤ 14) : 0 ≤ st k ∧ st k ≤ 8192 := by
  unfold st; have h2 : 2 ^ k ≤ 2 ^ 14 := Nat.pow_le_pow_right (by omega) h; generalize 2 ^ k = x at *; omega
theorem st_pos (k : Nat) : 1 ≤ st (k + 1) := by unfold st; rw [two_half]; have h2 : 1 ≤ 2 ^ k := Nat.one_le_two_pow; generalize 2 ^ k = x at *; omega
def Hi (n y : Int) (k : Nat) : Prop := 9999 < y + 2 ^ k ∨ n < dby (y + 2 ^ k) - 719162
set_option maxHeartbeats 1000000 in
theorem rdate_yes (n : Int) (w : World) (h1 : -719162 ≤ n) (h2 : n ≤ 2932896) :
    Calls Tryz.prog 105 #[.int .i64 n] w (DatePost n w) := by
  have b1 : decide (n < -719162) = false := decide_eq_false (by omega)
  have b2 : decide (2932897 ≤ n) = false := decide_eq_false (by omega)
  go_enter Tryz.func105, Tryz.ntmps105
  go_wp2_with fail
  refine (rstart_1 _).mono ?_
  rintro e w1 ⟨rfl, rfl⟩
  go_wp2_with fail
  refine (rstart_10000 _).mono ?_
  rintro e w1 ⟨rfl, rfl⟩
  go_wp2_with fail
  go_loop [6, 7] (fun a s => ∃ (y : Int) (k : Nat), k ≤ 14 ∧ 1 ≤ y ∧ y ≤ 9999 ∧ a = .int .i64 y ∧ s = .int .i64 (st k) ∧ dby y - 719162 ≤ n ∧ Hi n y k) (fun _ s => (intOf s).toNat)
  case atStart => exact ⟨1, 14, by omega, by omega, by omega, rfl, rfl, by rw [dby_1]; omega, Or.inl (by decide +kernel)⟩
  case round =>
    obtain ⟨y, k, hk, y1, y2, rfl, rfl, hlo, hhi⟩ := hrel
    cases k with
    | zero =>
      have hhi' : n < dby (y + 1) - 719162 := by
        rcases hhi with h | h
        · have e : y = 9999 := by have : (2 : Int) ^ 0 = 1 := rfl; omega
          subst e; rw [show (9999 : Int) + 1 = 10000 from rfl, dby_10000]; omega
        · exact h
      clear hhi
      have hs := dby_succ y y1
      have hn : n - (dby y - 719162) < 365 + lp y := by omega
      have hdb := dby_bd y y1 (by omega)
      have hlp := lp_01 y
      clear hs hhi'
      rw [st_0]
      go_wp2_with (go_at_call 156; refine (rstart_any _ _ (by omega) (by omega)).mono ?_; rintro e w' ⟨rfl, rfl⟩)
      go_loop [0, 8] (fun r i => ∃ m : Nat, 1 ≤ m ∧ m ≤ 12 ∧ i = .int .i64 m ∧ r = .int .i64 (n - (dby y - 719162) - cum y m) ∧ cum y m ≤ n - (dby y - 719162)) (fun _ i => 12 - (intOf i).toNat)
      case atStart => exact ⟨1, by omega, by omega, rfl, by simp [cum], by simp [cum]; omega⟩
      case round =>
        obtain ⟨m, hm1, hm2, rfl, rfl, hle⟩ := hrel
        have cb := cum_bd y m (by omega) (by omega)
        have db := dim_bd y m
        have CS := Lib.hid (cum_succ y m (by omega) (by omega))
        by_cases hd : dim y m ≤ n - (dby y - 719162) - cum y m
        · have hm : m < 12 := by
            rcases (show m < 12 ∨ m = 12 by omega) with h | h
            · exact h
            · subst h; have c13 := CS.out; rw [show ((12 : Nat) : Int) + 1 = 13 from rfl, cum_13] at c13; omega
          go_wp2_with (go_at_call 157; refine (rdays_any _ _ _).mono ?_; rintro e w' ⟨rfl, rfl⟩)
          go_round
          case rel => exact ⟨m + 1, by omega, by omega, by go_num, by rw [show ((m + 1 : Nat) : Int) = m + 1 from by omega, CS.out]; go_num, by rw [show ((m + 1 : Nat) : Int) = m + 1 from by omega, CS.out]; omega⟩
          case measure => simp [intOf]; omega
        · go_wp2_with (go_at_call 157; refine (rdays_any _ _ _).mono ?_; rintro e w' ⟨rfl, rfl⟩)
          exact bodyPost_ret (v := .tuple #[.int .i64 y, .int .i64 m, .int .i64 (n - (dby y - 719162) - cum y m + 1), .int .i64 0]) (by simp [results, Tryz.results105, go_sem]) rfl
            ⟨y, m, _, rfl, ⟨y1, y2, by omega, by omega⟩, by unfold ord; omega, Kept.refl _⟩
    | succ k =>
      have p1 := st_pos k
      have p2 := st_bd (k + 1) hk
      have hst := st_succ k
      have HH := Lib.hid (st_half k)
      have HM : Hid (st k < st (k + 1)) := Lib.hid (by have := st_half k; omega)
      by_cases hc1 : y + st (k + 1) ≤ 9999
      · by_cases hc2 : dby (y + st (k + 1)) - 719162 ≤ n
        · have hhi' : Hi n (y + st (k + 1)) k := by
            rw [hst]; unfold Hi at hhi ⊢; rw [show y + 2 ^ k + 2 ^ k = y + 2 ^ (k + 1) from by rw [Int.pow_succ]; omega]; exact hhi
          clear hst hhi
          generalize st (k + 1) = s at *
          go_wp2_with (go_at_call 156; refine (rstart_any _ _ (by omega) (by omega)).mono ?_; rintro e w' ⟨rfl, rfl⟩)
          go_round
          case rel => exact ⟨y + s, k, by omega, by omega, by omega, rfl, by rw [HH.out], hc2, hhi'⟩
          case measure => have := HM.out; rw [← HH.out] at this; simp [intOf]; omega
        · have hhi' : Hi n y k := by unfold Hi; rw [← hst]; omega
          clear hst hhi
          generalize st (k + 1) = s at *
          go_wp2_with (go_at_call 156; refine (rstart_any _ _ (by omega) (by omega)).mono ?_; rintro e w' ⟨rfl, rfl⟩)
          go_round
          case rel => exact ⟨y, k, by omega, by omega, by omega, rfl, by rw [HH.out], hlo, hhi'⟩
          case measure => have := HM.out; rw [← HH.out] at this; simp [intOf]; omega
      · have hhi' : Hi n y k := by unfold Hi; rw [← hst]; omega
        clear hst hhi
        generalize st (k + 1) = s at *
        go_wp2_with (go_at_call 156; refine (rstart_any _ _ (by omega) (by omega)).mono ?_; rintro e w' ⟨rfl, rfl⟩)
        go_round
        case rel => exact ⟨y, k, by omega, by omega, by omega, rfl, by rw [HH.out], hlo, hhi'⟩
        case measure => have := HM.out; rw [← HH.out] at this; simp [intOf]; omega
theorem rdate_not (n : Int) (w : World) (h : n < -719162 ∨ 2932896 < n) :
    Calls Tryz.prog 105 #[.int .i64 n] w fun e w' => e = .returned (.tuple #[.int .i64 0, .int .i64 0, .int .i64 0, .int .i64 1]) ∧ w = w' := by
  rcases h with h | h
  · go_enter Tryz.func105, Tryz.ntmps105
    go_wp2_with (go_at_call 156; refine (rstart_1 _).mono ?_; rintro e w' ⟨rfl, rfl⟩)
    exact bodyPost_ret (v := .tuple #[.int .i64 0, .int .i64 0, .int .i64 0, .int .i64 1]) (by simp [results, Tryz.results105, go_sem]) rfl ⟨rfl, rfl⟩
  · have h' : ¬ n < -719162 := by omega
    have h'' : 2932897 ≤ n := by omega
    go_enter Tryz.func105, Tryz.ntmps105
    go_wp2_with fail
    refine (rstart_1 _).mono ?_
    rintro e w1 ⟨rfl, rfl⟩
    go_wp2_with fail
    refine (rstart_10000 _).mono ?_
    rintro e w1 ⟨rfl, rfl⟩
    go_wp2_with fail
    exact bodyPost_ret (v := .tuple #[.int .i64 0, .int .i64 0, .int .i64 0, .int .i64 1]) (by simp [results, Tryz.results105, go_sem]) rfl ⟨rfl, rfl⟩
end Go.Proofs.YtjlpkgipdkjfhaaGreatDoor
namespace Go.Proofs.YtjlpkgipdkjfhaaGreatDoor.Sm
open Go.ChangeShapes Go.WideShapes Go.ChangeAt Go.RowKit
open Civ
theorem rfloor_any (t : Int) (w : World) (h1 : -9223372036854775808 ≤ t) (h2 : t ≤ 9223372036854775807) :
    Calls Tryz.prog 63 #[.int .i64 t, .int .i64 86400] w fun e w' => e = .returned (.tuple #[.int .i64 (t / 86400), .int .i64 (t % 86400)]) ∧ w = w' := by
  obtain ⟨t1, t2, t3⟩ := tmod86400 t
  have b1 : -106751991167301 ≤ t.tdiv 86400 := by omega
  have b2 : t.tdiv 86400 ≤ 106751991167301 := by omega
  have T3 := Lib.hid t3; clear t3
  by_cases h : t.tmod 86400 < 0
  · go_enter Tryz.func63, Tryz.ntmps63
    go_wp2
    go_ret2
    have := T3.out
    exact ⟨by rw [show t / 86400 = t.tdiv 86400 - 1 by omega, show t % 86400 = t.tmod 86400 + 86400 by omega]; rfl, rfl⟩
  · go_enter Tryz.func63, Tryz.ntmps63
    go_wp2
    go_ret2
    have := T3.out
    exact ⟨by rw [show t / 86400 = t.tdiv 86400 by omega, show t % 86400 = t.tmod 86400 by omega]; rfl, rfl⟩
set_option maxHeartbeats 1000000 in
theorem rat_yes (t : Int) (w : World) (h : inCal t) : Calls Tryz.prog 62 #[.int .i64 t] w (AtPost t w) := by
  obtain ⟨h1, h2⟩ := h
  have r1 : 0 ≤ t % 86400 := by omega
  have r2 : t % 86400 < 86400 := by omega
  have n1 : -719162 ≤ t / 86400 := by omega
  have n2 : t / 86400 ≤ 2932896 := by omega
  have em : t % 86400 / 60 % 60 = t % 3600 / 60 := by omega
  go_enter Tryz.func62, Tryz.ntmps62
  go_wp2_with fail
  refine (rfloor_any t _ (by omega) (by omega)).mono ?_
  rintro e w1 ⟨rfl, rfl⟩
  go_wp2_with fail
  refine (rdate_yes _ _ n1 n2).mono ?_
  intro e w1 hd
  obtain ⟨hday, rfl, k1⟩ := datePost hd
  clear hd
  have HD := Lib.hid hday; clear hday
  have c0 := k1.new 0 rfl
  have c1 := k1.new 1 rfl
  have c2 := k1.new 2 rfl
  have c3 := k1.new 3 rfl
  have c4 := k1.new 4 rfl
  have c5 := k1.new 5 rfl
  have f0 := k1.newF
  have kb := k1.back; clear k1
  go_wp2
  exact bodyPost_ret (v := .tuple #[cv t, .int .i64 0]) (by simp [results, Tryz.results62, go_sem, *]) rfl ⟨HD.out, rfl, (((((kb.setCell (Nat.le_refl _) _).setCell (Nat.le_refl _) _).setCell (Nat.le_refl _) _).setCell (Nat.le_refl _) _).setCell (Nat.le_refl _) _).setCell (Nat.le_refl _) _⟩
set_option maxHeartbeats 1000000 in
theorem rat_not (t : Int) (w : World) (h1 : -9223372036854775808 ≤ t) (h2 : t ≤ 9223372036854775807) (h : ¬ inCal t) :
    Calls Tryz.prog 62 #[.int .i64 t] w fun e w' => e = .returned (.tuple #[civ 0 0 0 0 0 0, .int .i64 1]) ∧ Kept w w' := by
  have n1 := Lib.hid (show t / 86400 < -719162 ∨ 2932896 < t / 86400 by unfold inCal at h; omega)
  clear h
  go_enter Tryz.func62, Tryz.ntmps62
  go_wp2_with fail
  refine (rfloor_any t _ (by omega) (by omega)).mono ?_
  rintro e w1 ⟨rfl, rfl⟩
  go_wp2_with fail
  refine (rdate_not _ _ n1.out).mono ?_
  rintro e w1 ⟨rfl, rfl⟩
  go_wp2
  exact bodyPost_ret (v := .tuple #[civ 0 0 0 0 0 0, .int .i64 1]) (by simp [results, Tryz.results62, go_sem, *]) rfl ⟨rfl, by repeat (first | exact Kept.refl _ | apply Kept.drew | apply Kept.alloc)⟩
theorem ext10 (m : Nat) (h : m < 10) : (ByteArray.mk #[48, 49, 50, 51, 52, 53, 54, 55, 56, 57]).extract m (m + 1) = ⟨#[UInt8.ofNat (48 + m)]⟩ := by
  have : m = 0 ∨ m = 1 ∨ m = 2 ∨ m = 3 ∨ m = 4 ∨ m = 5 ∨ m = 6 ∨ m = 7 ∨ m = 8 ∨ m = 9 := by omega
  rcases this with rfl | rfl | rfl | rfl | rfl | rfl | rfl | rfl | rfl | rfl <;> rfl
set_option maxHeartbeats 1000000 in
theorem rdigits_any (n k : Nat) (w : World) (hk : k ≤ 4) (hn : n ≤ 9223372036854775807) :
    Calls Tryz.prog 66 #[.int .i64 n, .int .i64 k] w fun e w' => e = .returned (.string ⟨(dig k n).toArray⟩) ∧ w = w' := by
  have dl : ∀ k n, (dig k n).length = k := dig_length
  go_enter Tryz.func66, Tryz.ntmps66
  go_wp2_with fail
  go_loop [0, 5, 6] (fun a o i => ∃ j : Nat, j ≤ k ∧ i = .int .i64 j ∧ a = .int .i64 ((n / 10 ^ j : Nat) : Int) ∧ o = .string ⟨(dig j n).toArray⟩) (fun _ _ i => k - (intOf i).toNat)
  case atStart => exact ⟨0, Nat.zero_le _, rfl, by simp, rfl⟩
  case round =>
    obtain ⟨j, hj, rfl, rfl, rfl⟩ := hrel
    by_cases hlt : j < k
    · have hN : n / 10 ^ j ≤ 9223372036854775807 := Nat.le_trans (Nat.div_le_self _ _) hn
      have hf := dig_front j n
      have he : n / 10 ^ (j + 1) = n / 10 ^ j / 10 := by rw [Nat.div_div_eq_div_mul, Nat.pow_succ]
      generalize n / 10 ^ j = N at *
      have HF := Lib.hid hf; clear hf
      have HE := Lib.hid he; clear he
      have hx := ext10 (N % 10) (by omega)
      have i1 : (0 : Int) ≤ (N : Int) % 10 := by omega
      have i2 : (N : Int) % 10 + 1 ≤ 10 := by omega
      have i3 : (N : Int) % 10 ≤ (N : Int) % 10 + 1 := by omega
      have i4 : ((N : Int) % 10).toNat = N % 10 := by omega
      have i5 : ((N : Int) % 10 + 1).toNat = N % 10 + 1 := by omega
      go_wp2
      go_round
      case rel =>
        refine ⟨j + 1, by omega, by go_num, ?_, ?_⟩
        · rw [HE.out]; go_num
        · rw [HF.out, show (48 : UInt8) + UInt8.ofNat (N % 10) = UInt8.ofNat (48 + N % 10) by simp]
          rw [show (UInt8.ofNat (48 + N % 10) :: dig j n) = [UInt8.ofNat (48 + N % 10)] ++ dig j n from rfl, ← ByteArray.mk_append_mk]
      case measure => simp [intOf]; omega
    · have hjk : j = k := by omega
      subst hjk
      go_wp2
      go_ret
      exact ⟨rfl, rfl⟩
theorem rdigits_2 (n : Int) (w : World) (h0 : 0 ≤ n) (h1 : n < 100) :
    Calls Tryz.prog 66 #[.int .i64 n, .int .i64 2] w fun e w' => e = .returned (.string ⟨(dig 2 n.toNat).toArray⟩) ∧ w = w' := by
  obtain ⟨k, rfl⟩ := Int.eq_ofNat_of_zero_le h0
  exact rdigits_any k 2 w (by omega) (by omega)
theorem rdigits_4 (n : Int) (w : World) (h0 : 0 ≤ n) (h1 : n < 10000) :
    Calls Tryz.prog 66 #[.int .i64 n, .int .i64 4] w fun e w' => e = .returned (.string ⟨(dig 4 n.toNat).toArray⟩) ∧ w = w' := by
  obtain ⟨k, rfl⟩ := Int.eq_ofNat_of_zero_le h0
  exact rdigits_any k 4 w (by omega) (by omega)
theorem rname_any (l : List UInt8) (i : Nat) (w : World) (hl : l.length ≤ 100) (hi : 3 * i + 3 ≤ l.length) :
    Calls Tryz.prog 64 #[.string ⟨l.toArray⟩, .int .i64 i] w fun e w' => e = .returned (.string ⟨(nm l i).toArray⟩) ∧ w = w' := by
  have h1 : (0 : Int) ≤ 3 * (i : Int) := by omega
  have h2 : 3 * (i : Int) + 3 ≤ (l.length : Int) := by omega
  have h3 : 3 * (i : Int) ≤ 3 * (i : Int) + 3 := by omega
  have h4 : (l.length : Int) ≤ 100 := by omega
  go_enter Tryz.func64, Tryz.ntmps64
  go_wp2
  go_ret
  rw [extract_mk, Nat.add_sub_cancel_left]
  exact ⟨rfl, rfl⟩
theorem rname_day (i : Int) (w : World) (h0 : 0 ≤ i) (h1 : i < 7) :
    Calls Tryz.prog 64 #[.string ⟨#[83, 117, 110, 77, 111, 110, 84, 117, 101, 87, 101, 100, 84, 104, 117, 70, 114, 105, 83, 97, 116]⟩, .int .i64 i] w fun e w' => e = .returned (.string ⟨(nm dayNames i.toNat).toArray⟩) ∧ w = w' := by
  obtain ⟨k, rfl⟩ := Int.eq_ofNat_of_zero_le h0
  exact rname_any dayNames k w (by decide) (by show 3 * k + 3 ≤ 21; omega)
theorem rname_mon (i : Int) (w : World) (h0 : 0 ≤ i) (h1 : i < 12) :
    Calls Tryz.prog 64 #[.string ⟨#[74, 97, 110, 70, 101, 98, 77, 97, 114, 65, 112, 114, 77, 97, 121, 74, 117, 110, 74, 117, 108, 65, 117, 103, 83, 101, 112, 79, 99, 116, 78, 111, 118, 68, 101, 99]⟩, .int .i64 i] w fun e w' => e = .returned (.string ⟨(nm monNames i.toNat).toArray⟩) ∧ w = w' := by
  obtain ⟨k, rfl⟩ := Int.eq_ofNat_of_zero_le h0
  exact rname_any monNames k w (by decide) (by show 3 * k + 3 ≤ 36; omega)
theorem rwday_cal (n : Int) (w : World) (h1 : -719162 ≤ n) (h2 : n ≤ 2932896) :
    Calls Tryz.prog 65 #[.int .i64 n] w fun e w' => e = .returned (.int .i64 ((n + 4) % 7)) ∧ w = w' := by
  have := rwday_any n w; rwa [wd_cal n h1 h2] at this
set_option maxRecDepth 100000 in
set_option maxHeartbeats 4000000 in
theorem rmail_pos (t p : Int) (w : World) (h0 : 0 ≤ p) (h1 : p ≤ 93599) (h : inCal (t + p)) : Calls Tryz.prog 30 #[.int .i64 t, .int .i64 p] w (MailPost (t + p) p w) := by
  have dl : ∀ k n, (dig k n).length = k := dig_length
  have hc1 := h.1
  have hc2 := h.2
  have HC := Lib.hid h; clear h
  have n1 : -719162 ≤ (t + p) / 86400 := by omega
  have n2 : (t + p) / 86400 ≤ 2932896 := by omega
  have hw3 := nm_day (((t + p) / 86400 + 4) % 7).toNat (by omega)
  have E1 := Lib.hid (show (p / 3600).toNat = (p : Int).natAbs / 3600 by omega)
  have E2 := Lib.hid (show (p / 60 % 60).toNat = (p : Int).natAbs % 3600 / 60 by omega)
  have hq1 : IntKind.i64.wrap (p.tdiv 3600) = p / 3600 := by rw [IntKind.wrap_i64, Int.tdiv_eq_ediv_of_nonneg (by omega)]; omega
  have hq2 : IntKind.i64.wrap (p.tdiv 60) = p / 60 := by rw [IntKind.wrap_i64, Int.tdiv_eq_ediv_of_nonneg (by omega)]; omega
  have hq3 : (p / 60).tmod 60 = p / 60 % 60 := Int.tmod_eq_emod_of_nonneg (by omega)
  have HSG := Lib.hid (show ¬ p < 0 by omega)
  go_enter Tryz.func30, Tryz.ntmps30
  go_wp2_with fail
  refine (rat_yes (t + p) _ HC.out).mono ?_
  rintro e w1 ⟨hday, rfl, k1⟩
  generalize hu : t + p = u at *
  obtain ⟨b1, b2, b3, b4, b5, b6⟩ := day_bd hday
  have HD := Lib.hid hday; clear hday
  have q1 : 0 ≤ u % 86400 / 3600 ∧ u % 86400 / 3600 < 24 := by omega
  have q2 : 0 ≤ u % 3600 / 60 ∧ u % 3600 / 60 < 60 := by omega
  have q3 : 0 ≤ u % 60 ∧ u % 60 < 60 := by omega
  have hwm : IntKind.i64.wrap (mo (u / 86400) - 1) = mo (u / 86400) - 1 := by rw [IntKind.wrap_i64]; omega
  have hw4 := nm_mon (mo (u / 86400) - 1).toNat (by omega)
  have hw5 := nm_mon ((mo (u / 86400)).toNat - 1) (by omega)
  have g0 := (Kept.refl (w1.alloc (.cells #[.int .i64 (yr (u / 86400)), .int .i64 (mo (u / 86400)), .int .i64 (dy (u / 86400)), .int .i64 (u % 86400 / 3600), .int .i64 (u % 3600 / 60), .int .i64 (u % 60)] 82)))
  have c0 := g0.new 0 rfl
  have c1 := g0.new 1 rfl
  have c2 := g0.new 2 rfl
  have c3 := g0.new 3 rfl
  have c4 := g0.new 4 rfl
  have c5 := g0.new 5 rfl
  have kw := k1.trans g0.back; clear k1 g0
  go_wp2_with fail
  refine (rfloor_any u _ (by omega) (by omega)).mono ?_
  rintro e w2 ⟨rfl, rfl⟩
  go_wp2_with fail
  generalize w1.alloc (.cells #[.int .i64 (yr (u / 86400)), .int .i64 (mo (u / 86400)), .int .i64 (dy (u / 86400)), .int .i64 (u % 86400 / 3600), .int .i64 (u % 3600 / 60), .int .i64 (u % 60)] 82) = W at *
  go_region_held3 (fun x => Kept W x ∧ x.cell? ⟨w1.heap.size, 0, none⟩ = some (.int .i64 (yr (u / 86400))) ∧ x.cell? ⟨w1.heap.size, 1, none⟩ = some (.int .i64 (mo (u / 86400))) ∧ x.cell? ⟨w1.heap.size, 2, none⟩ = some (.int .i64 (dy (u / 86400))) ∧ x.cell? ⟨w1.heap.size, 3, none⟩ = some (.int .i64 (u % 86400 / 3600)) ∧ x.cell? ⟨w1.heap.size, 4, none⟩ = some (.int .i64 (u % 3600 / 60)) ∧ x.cell? ⟨w1.heap.size, 5, none⟩ = some (.int .i64 (u % 60)))
    (first | assumption | exact ⟨(Kept.refl W).drew, c0, c1, c2, c3, c4, c5⟩)
    (first | (go_at_call_of 66 (Value.int IntKind.i64 4); refine (rdigits_4 _ _ (by omega) (by omega)).mono ?_; rintro e w' ⟨rfl, rfl⟩)
           | (go_at_call 66; refine (rdigits_2 _ _ (by omega) (by omega)).mono ?_; rintro e w' ⟨rfl, rfl⟩)
           | (go_at_call 65; refine (rwday_cal _ _ (by omega) (by omega)).mono ?_; rintro e w' ⟨rfl, rfl⟩)
           | (go_at_call_of 64 (Value.string ⟨#[83, 117, 110, 77, 111, 110, 84, 117, 101, 87, 101, 100, 84, 104, 117, 70, 114, 105, 83, 97, 116]⟩); refine (rname_day _ _ (by omega) (by omega)).mono ?_; rintro e w' ⟨rfl, rfl⟩)
           | (go_at_call 64; refine (rname_mon _ _ (by omega) (by omega)).mono ?_; rintro e w' ⟨rfl, rfl⟩))
  go_wp2_with fail
  obtain ⟨hK, d0, d1, d2, d3, d4, d5⟩ := ‹Kept W _ ∧ _›
  have HS := Lib.hid (show (⟨(nm dayNames ((u / 86400 + 4) % 7).toNat).toArray⟩ ++ ⟨#[44, 32]⟩ ++ ⟨(dig 2 (dy (u / 86400)).toNat).toArray⟩ ++ ⟨#[32]⟩ ++ ⟨(nm monNames ((mo (u / 86400)).toNat - 1)).toArray⟩ ++ ⟨#[32]⟩ ++ ⟨(dig 4 (yr (u / 86400)).toNat).toArray⟩ : ByteArray) = ⟨(nm dayNames ((u / 86400 + 4) % 7).toNat ++ [44] ++ [32] ++ dig 2 (dy (u / 86400)).toNat ++ [32] ++ nm monNames ((mo (u / 86400)).toNat - 1) ++ [32] ++ dig 4 (yr (u / 86400)).toNat).toArray⟩ by apply ByteArray.ext; simp [ByteArray.data_append])
  have hD : (⟨(nm dayNames ((u / 86400 + 4) % 7).toNat).toArray⟩ ++ ⟨#[44, 32]⟩ ++ ⟨(dig 2 (dy (u / 86400)).toNat).toArray⟩ ++ ⟨#[32]⟩ ++ ⟨(nm monNames ((mo (u / 86400)).toNat - 1)).toArray⟩ ++ ⟨#[32]⟩ ++ ⟨(dig 4 (yr (u / 86400)).toNat).toArray⟩ : ByteArray).size = 16 := by simp [ByteArray.size_mk', dl, hw3, hw5]
  generalize (⟨(nm dayNames ((u / 86400 + 4) % 7).toNat).toArray⟩ ++ ⟨#[44, 32]⟩ ++ ⟨(dig 2 (dy (u / 86400)).toNat).toArray⟩ ++ ⟨#[32]⟩ ++ ⟨(nm monNames ((mo (u / 86400)).toNat - 1)).toArray⟩ ++ ⟨#[32]⟩ ++ ⟨(dig 4 (yr (u / 86400)).toNat).toArray⟩ : ByteArray) = D at *
  clear c0 c1 c2 c3 c4 c5 hw3 hw4 hw5 hwm
  go_region_held3 (fun x => Kept W x ∧ x.cell? ⟨w1.heap.size, 3, none⟩ = some (.int .i64 (u % 86400 / 3600)) ∧ x.cell? ⟨w1.heap.size, 4, none⟩ = some (.int .i64 (u % 3600 / 60)) ∧ x.cell? ⟨w1.heap.size, 5, none⟩ = some (.int .i64 (u % 60)))
    (first | assumption | exact ⟨hK.drew, d3, d4, d5⟩)
    (first | (go_at_call 66; refine (rdigits_2 _ _ (by omega) (by omega)).mono ?_; rintro e w' ⟨rfl, rfl⟩))
  have hK2 := (‹Kept W _ ∧ _›).1
  have hfin : (D ++ ⟨#[32]⟩ ++ ⟨(dig 2 (u % 86400 / 3600).toNat).toArray⟩ ++ ⟨#[58]⟩ ++ ⟨(dig 2 (u % 3600 / 60).toNat).toArray⟩ ++ ⟨#[58]⟩ ++ ⟨(dig 2 (u % 60).toNat).toArray⟩ ++ ⟨#[32]⟩ ++ ⟨#[43]⟩ ++ ⟨(dig 2 (p / 3600).toNat).toArray⟩ ++ ⟨(dig 2 (p / 60 % 60).toNat).toArray⟩ : ByteArray) = ⟨(mtx u p).toArray⟩ := by
    rw [HS.out, E1.out, E2.out]
    apply ByteArray.ext
    simp [ByteArray.data_append, mtx, clk, offs, HSG.out]
  have HF := Lib.hid hfin; clear hfin
  go_wp2
  rw [HF.out]
  go_ret2
  exact ⟨HD.out, rfl, kw.trans hK2⟩
set_option maxRecDepth 100000 in
set_option maxHeartbeats 4000000 in
theorem rmail_neg (t p : Int) (w : World) (h0 : 1 ≤ p) (h1 : p ≤ 93599) (h : inCal (t + (-p))) : Calls Tryz.prog 30 #[.int .i64 t, .int .i64 (-p)] w (MailPost (t + (-p)) (-p) w) := by
  have dl : ∀ k n, (dig k n).length = k := dig_length
  have hc1 := h.1
  have hc2 := h.2
  have HC := Lib.hid h; clear h
  have n1 : -719162 ≤ (t + (-p)) / 86400 := by omega
  have n2 : (t + (-p)) / 86400 ≤ 2932896 := by omega
  have hw3 := nm_day (((t + (-p)) / 86400 + 4) % 7).toNat (by omega)
  have E1 := Lib.hid (show (p / 3600).toNat = ((-p) : Int).natAbs / 3600 by omega)
  have E2 := Lib.hid (show (p / 60 % 60).toNat = ((-p) : Int).natAbs % 3600 / 60 by omega)
  have hq1 : IntKind.i64.wrap (p.tdiv 3600) = p / 3600 := by rw [IntKind.wrap_i64, Int.tdiv_eq_ediv_of_nonneg (by omega)]; omega
  have hq2 : IntKind.i64.wrap (p.tdiv 60) = p / 60 := by rw [IntKind.wrap_i64, Int.tdiv_eq_ediv_of_nonneg (by omega)]; omega
  have hq3 : (p / 60).tmod 60 = p / 60 % 60 := Int.tmod_eq_emod_of_nonneg (by omega)
  have HSG := Lib.hid (show 0 < p by omega)
  go_enter Tryz.func30, Tryz.ntmps30
  go_wp2_with fail
  refine (rat_yes (t + (-p)) _ HC.out).mono ?_
  rintro e w1 ⟨hday, rfl, k1⟩
  generalize hu : t + (-p) = u at *
  obtain ⟨b1, b2, b3, b4, b5, b6⟩ := day_bd hday
  have HD := Lib.hid hday; clear hday
  have q1 : 0 ≤ u % 86400 / 3600 ∧ u % 86400 / 3600 < 24 := by omega
  have q2 : 0 ≤ u % 3600 / 60 ∧ u % 3600 / 60 < 60 := by omega
  have q3 : 0 ≤ u % 60 ∧ u % 60 < 60 := by omega
  have hwm : IntKind.i64.wrap (mo (u / 86400) - 1) = mo (u / 86400) - 1 := by rw [IntKind.wrap_i64]; omega
  have hw4 := nm_mon (mo (u / 86400) - 1).toNat (by omega)
  have hw5 := nm_mon ((mo (u / 86400)).toNat - 1) (by omega)
  have g0 := (Kept.refl (w1.alloc (.cells #[.int .i64 (yr (u / 86400)), .int .i64 (mo (u / 86400)), .int .i64 (dy (u / 86400)), .int .i64 (u % 86400 / 3600), .int .i64 (u % 3600 / 60), .int .i64 (u % 60)] 82)))
  have c0 := g0.new 0 rfl
  have c1 := g0.new 1 rfl
  have c2 := g0.new 2 rfl
  have c3 := g0.new 3 rfl
  have c4 := g0.new 4 rfl
  have c5 := g0.new 5 rfl
  have kw := k1.trans g0.back; clear k1 g0
  go_wp2_with fail
  refine (rfloor_any u _ (by omega) (by omega)).mono ?_
  rintro e w2 ⟨rfl, rfl⟩
  go_wp2_with fail
  generalize w1.alloc (.cells #[.int .i64 (yr (u / 86400)), .int .i64 (mo (u / 86400)), .int .i64 (dy (u / 86400)), .int .i64 (u % 86400 / 3600), .int .i64 (u % 3600 / 60), .int .i64 (u % 60)] 82) = W at *
  go_region_held3 (fun x => Kept W x ∧ x.cell? ⟨w1.heap.size, 0, none⟩ = some (.int .i64 (yr (u / 86400))) ∧ x.cell? ⟨w1.heap.size, 1, none⟩ = some (.int .i64 (mo (u / 86400))) ∧ x.cell? ⟨w1.heap.size, 2, none⟩ = some (.int .i64 (dy (u / 86400))) ∧ x.cell? ⟨w1.heap.size, 3, none⟩ = some (.int .i64 (u % 86400 / 3600)) ∧ x.cell? ⟨w1.heap.size, 4, none⟩ = some (.int .i64 (u % 3600 / 60)) ∧ x.cell? ⟨w1.heap.size, 5, none⟩ = some (.int .i64 (u % 60)))
    (first | assumption | exact ⟨(Kept.refl W).drew, c0, c1, c2, c3, c4, c5⟩)
    (first | (go_at_call_of 66 (Value.int IntKind.i64 4); refine (rdigits_4 _ _ (by omega) (by omega)).mono ?_; rintro e w' ⟨rfl, rfl⟩)
           | (go_at_call 66; refine (rdigits_2 _ _ (by omega) (by omega)).mono ?_; rintro e w' ⟨rfl, rfl⟩)
           | (go_at_call 65; refine (rwday_cal _ _ (by omega) (by omega)).mono ?_; rintro e w' ⟨rfl, rfl⟩)
           | (go_at_call_of 64 (Value.string ⟨#[83, 117, 110, 77, 111, 110, 84, 117, 101, 87, 101, 100, 84, 104, 117, 70, 114, 105, 83, 97, 116]⟩); refine (rname_day _ _ (by omega) (by omega)).mono ?_; rintro e w' ⟨rfl, rfl⟩)
           | (go_at_call 64; refine (rname_mon _ _ (by omega) (by omega)).mono ?_; rintro e w' ⟨rfl, rfl⟩))
  go_wp2_with fail
  obtain ⟨hK, d0, d1, d2, d3, d4, d5⟩ := ‹Kept W _ ∧ _›
  have HS := Lib.hid (show (⟨(nm dayNames ((u / 86400 + 4) % 7).toNat).toArray⟩ ++ ⟨#[44, 32]⟩ ++ ⟨(dig 2 (dy (u / 86400)).toNat).toArray⟩ ++ ⟨#[32]⟩ ++ ⟨(nm monNames ((mo (u / 86400)).toNat - 1)).toArray⟩ ++ ⟨#[32]⟩ ++ ⟨(dig 4 (yr (u / 86400)).toNat).toArray⟩ : ByteArray) = ⟨(nm dayNames ((u / 86400 + 4) % 7).toNat ++ [44] ++ [32] ++ dig 2 (dy (u / 86400)).toNat ++ [32] ++ nm monNames ((mo (u / 86400)).toNat - 1) ++ [32] ++ dig 4 (yr (u / 86400)).toNat).toArray⟩ by apply ByteArray.ext; simp [ByteArray.data_append])
  have hD : (⟨(nm dayNames ((u / 86400 + 4) % 7).toNat).toArray⟩ ++ ⟨#[44, 32]⟩ ++ ⟨(dig 2 (dy (u / 86400)).toNat).toArray⟩ ++ ⟨#[32]⟩ ++ ⟨(nm monNames ((mo (u / 86400)).toNat - 1)).toArray⟩ ++ ⟨#[32]⟩ ++ ⟨(dig 4 (yr (u / 86400)).toNat).toArray⟩ : ByteArray).size = 16 := by simp [ByteArray.size_mk', dl, hw3, hw5]
  generalize (⟨(nm dayNames ((u / 86400 + 4) % 7).toNat).toArray⟩ ++ ⟨#[44, 32]⟩ ++ ⟨(dig 2 (dy (u / 86400)).toNat).toArray⟩ ++ ⟨#[32]⟩ ++ ⟨(nm monNames ((mo (u / 86400)).toNat - 1)).toArray⟩ ++ ⟨#[32]⟩ ++ ⟨(dig 4 (yr (u / 86400)).toNat).toArray⟩ : ByteArray) = D at *
  clear c0 c1 c2 c3 c4 c5 hw3 hw4 hw5 hwm
  go_region_held3 (fun x => Kept W x ∧ x.cell? ⟨w1.heap.size, 3, none⟩ = some (.int .i64 (u % 86400 / 3600)) ∧ x.cell? ⟨w1.heap.size, 4, none⟩ = some (.int .i64 (u % 3600 / 60)) ∧ x.cell? ⟨w1.heap.size, 5, none⟩ = some (.int .i64 (u % 60)))
    (first | assumption | exact ⟨hK.drew, d3, d4, d5⟩)
    (first | (go_at_call 66; refine (rdigits_2 _ _ (by omega) (by omega)).mono ?_; rintro e w' ⟨rfl, rfl⟩))
  have hK2 := (‹Kept W _ ∧ _›).1
  have hfin : (D ++ ⟨#[32]⟩ ++ ⟨(dig 2 (u % 86400 / 3600).toNat).toArray⟩ ++ ⟨#[58]⟩ ++ ⟨(dig 2 (u % 3600 / 60).toNat).toArray⟩ ++ ⟨#[58]⟩ ++ ⟨(dig 2 (u % 60).toNat).toArray⟩ ++ ⟨#[32]⟩ ++ ⟨#[45]⟩ ++ ⟨(dig 2 (p / 3600).toNat).toArray⟩ ++ ⟨(dig 2 (p / 60 % 60).toNat).toArray⟩ : ByteArray) = ⟨(mtx u (-p)).toArray⟩ := by
    rw [HS.out, E1.out, E2.out]
    apply ByteArray.ext
    simp [ByteArray.data_append, mtx, clk, offs, HSG.out]
  have HF := Lib.hid hfin; clear hfin
  go_wp2
  rw [HF.out]
  go_ret2
  exact ⟨HD.out, rfl, kw.trans hK2⟩
theorem rmail_yes (t o : Int) (w : World) (h0 : -93599 ≤ o) (h1 : o ≤ 93599) (h : inCal (t + o)) : Calls Tryz.prog 30 #[.int .i64 t, .int .i64 o] w (MailPost (t + o) o w) := by
  by_cases hn : o < 0
  · obtain ⟨p, rfl⟩ : ∃ p, o = -p := ⟨-o, by omega⟩
    exact rmail_neg t p w (by omega) (by omega) h
  · exact rmail_pos t o w (by omega) h1 h
set_option maxHeartbeats 1000000 in
theorem rmail_off (t o : Int) (w : World) (h : o < -93599 ∨ 93599 < o) :
    Calls Tryz.prog 30 #[.int .i64 t, .int .i64 o] w fun e w' => e = .returned (.tuple #[.string ⟨#[]⟩, .int .i64 1]) ∧ Kept w w' := by
  rcases h with h | h
  · go_enter Tryz.func30, Tryz.ntmps30
    go_wp2
    go_ret2
    exact ⟨rfl, Kept.refl _⟩
  · have h' : decide (o < -93599) = false := decide_eq_false (by omega)
    go_enter Tryz.func30, Tryz.ntmps30
    go_wp2
    go_ret2
    exact ⟨rfl, Kept.refl _⟩
set_option maxHeartbeats 1000000 in
theorem rmail_not (t o : Int) (w : World) (h0 : -93599 ≤ o) (h1 : o ≤ 93599) (h : ¬ inCal (t + o)) :
    Calls Tryz.prog 30 #[.int .i64 t, .int .i64 o] w fun e w' => e = .returned (.tuple #[.string ⟨#[]⟩, .int .i64 1]) ∧ Kept w w' := by
  have d0 : decide (o < -93599) = false := decide_eq_false (by omega)
  have d1 : decide (93599 < o) = false := decide_eq_false (by omega)
  by_cases t0 : t < -1099511627776
  · have HC := Lib.hid h; clear h
    clear h0 h1
    go_enter Tryz.func30, Tryz.ntmps30
    go_wp2
    go_ret2
    exact ⟨rfl, Kept.refl _⟩
  · have d2 : decide (t < -1099511627776) = false := decide_eq_false t0
    by_cases t1 : 1099511627776 < t
    · have HC := Lib.hid h; clear h
      clear h0 h1 t0
      go_enter Tryz.func30, Tryz.ntmps30
      go_wp2
      go_ret2
      exact ⟨rfl, Kept.refl _⟩
    · have d3 : decide (1099511627776 < t) = false := decide_eq_false t1
      have HC := Lib.hid h; clear h
      go_enter Tryz.func30, Tryz.ntmps30
      go_wp2_with fail
      refine (rat_not (t + o) _ (by omega) (by omega) HC.out).mono ?_
      rintro e w1 ⟨rfl, k1⟩
      go_wp2
      go_ret2
      exact ⟨rfl, k1.alloc _⟩
end Go.Proofs.YtjlpkgipdkjfhaaGreatDoor.Sm
