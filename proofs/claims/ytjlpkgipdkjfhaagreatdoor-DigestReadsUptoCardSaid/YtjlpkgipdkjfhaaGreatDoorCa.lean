import Derived.KernelRfl
import Derived.Test.YtjlpkgipdkjfhaaGreatDoorChecked
import Derived.Test.YtjlpkgipdkjfhaaGreatDoorKept
import Derived.WalkKit
import Derived.ProofKit
import Derived.Lib.Hide
import Derived.Lib.ItoaNum
import Derived.Lib.Repeat
import Derived.Test.YtjlpkgipdkjfhaaGreatDoorShelf
import Derived.Lib.ItoaMem
import Derived.Deep.RegionHeld3
set_option linter.unusedVariables false
set_option linter.unusedSimpArgs false
namespace Go.Proofs.YtjlpkgipdkjfhaaGreatDoor.Civ
def leap (y : Int) : Bool := (y.tmod 4 == 0 && y.tmod 100 != 0) || y.tmod 400 == 0
def lp (y : Int) : Int := if leap y = true then 1 else 0
def dim (y m : Int) : Int :=
  if m = 1 then 31 else if m = 2 then 28 + lp y else if m = 3 then 31 else if m = 4 then 30 else if m = 5 then 31 else if m = 6 then 30
  else if m = 7 then 31 else if m = 8 then 31 else if m = 9 then 30 else if m = 10 then 31 else if m = 11 then 30 else if m = 12 then 31 else 0
def cum (y m : Int) : Int :=
  if m = 1 then 0 else if m = 2 then 31 else if m = 3 then 59 + lp y else if m = 4 then 90 + lp y else if m = 5 then 120 + lp y else if m = 6 then 151 + lp y
  else if m = 7 then 181 + lp y else if m = 8 then 212 + lp y else if m = 9 then 243 + lp y else if m = 10 then 273 + lp y else if m = 11 then 304 + lp y else if m = 12 then 334 + lp y else if m = 13 then 365 + lp y else 0
def dby (y : Int) : Int := 365 * (y - 1) + (y - 1) / 4 - (y - 1) / 100 + (y - 1) / 400
def ord (y m d : Int) : Int := dby y - 719162 + cum y m + d - 1
def okP (y m d : Int) : Prop := 1 ≤ y ∧ y ≤ 9999 ∧ 1 ≤ d ∧ d ≤ dim y m
theorem lp_01 (y : Int) : 0 ≤ lp y ∧ lp y ≤ 1 := by unfold lp; split <;> omega
theorem lp_true {y : Int} (h : leap y = true) : lp y = 1 := by unfold lp; rw [if_pos h]
theorem lp_false {y : Int} (h : leap y = false) : lp y = 0 := by unfold lp; rw [h]; rfl
theorem leap_pos (y : Int) (h : 0 ≤ y) : leap y = true ↔ ((y % 4 = 0 ∧ y % 100 ≠ 0) ∨ y % 400 = 0) := by
  unfold leap
  rw [Int.tmod_eq_emod_of_nonneg h, Int.tmod_eq_emod_of_nonneg h, Int.tmod_eq_emod_of_nonneg h]
  simp
theorem lp_eq (y : Int) (h : 0 ≤ y) : lp y = if (y % 4 = 0 ∧ y % 100 ≠ 0) ∨ y % 400 = 0 then 1 else 0 := by
  unfold lp
  by_cases g : leap y = true
  · rw [if_pos g, if_pos ((leap_pos y h).1 g)]
  · rw [if_neg g, if_neg (fun k => g ((leap_pos y h).2 k))]
theorem dby_succ (y : Int) (h : 1 ≤ y) : dby (y + 1) = dby y + 365 + lp y := by
  rw [lp_eq y (by omega)]; unfold dby; split <;> omega
theorem dby_bd (y : Int) (h0 : 1 ≤ y) (h : y ≤ 10001) : 0 ≤ dby y ∧ dby y ≤ 3652790 := by unfold dby; omega
theorem dby_step (y : Int) (h : 1 ≤ y) : dby y + 365 ≤ dby (y + 1) := by have := dby_succ y h; have := lp_01 y; omega
theorem dby_mono_nat (y : Int) (h : 1 ≤ y) (k : Nat) : dby y + 365 * k ≤ dby (y + k) := by
  induction k with
  | zero => simp
  | succ k ih => have := dby_step (y + k) (by omega); rw [show y + ((k + 1 : Nat) : Int) = y + k + 1 from by omega]; omega
theorem dby_mono (a b : Int) (h0 : 1 ≤ a) (h : a ≤ b) : dby a + 365 * (b - a) ≤ dby b := by
  obtain ⟨k, hk⟩ := Int.eq_ofNat_of_zero_le (show 0 ≤ b - a by omega)
  have := dby_mono_nat a h0 k
  rw [show b = a + k from by omega, show a + (k : Int) - a = k from by omega]; exact this
theorem dby_1 : dby 1 = 0 := by decide +kernel
theorem dby_10000 : dby 10000 = 3652059 := by decide +kernel
theorem month_cases (m : Int) (h1 : 1 ≤ m) (h2 : m ≤ 12) : m = 1 ∨ m = 2 ∨ m = 3 ∨ m = 4 ∨ m = 5 ∨ m = 6 ∨ m = 7 ∨ m = 8 ∨ m = 9 ∨ m = 10 ∨ m = 11 ∨ m = 12 := by omega
theorem dim_in (y m : Int) (h1 : 1 ≤ m) (h2 : m ≤ 12) : 28 ≤ dim y m ∧ dim y m ≤ 31 := by
  have := lp_01 y
  rcases month_cases m h1 h2 with rfl | rfl | rfl | rfl | rfl | rfl | rfl | rfl | rfl | rfl | rfl | rfl <;> simp [dim] <;> omega
theorem dim_out (y m : Int) (h : m < 1 ∨ 12 < m) : dim y m = 0 := by
  unfold dim; repeat (rw [if_neg (by omega)])
theorem dim_bd (y m : Int) : 0 ≤ dim y m ∧ dim y m ≤ 31 := by
  by_cases h : 1 ≤ m ∧ m ≤ 12
  · have := dim_in y m h.1 h.2; omega
  · rw [dim_out y m (by omega)]; omega
theorem cum_succ (y m : Int) (h1 : 1 ≤ m) (h2 : m ≤ 12) : cum y (m + 1) = cum y m + dim y m := by
  have := lp_01 y
  rcases month_cases m h1 h2 with rfl | rfl | rfl | rfl | rfl | rfl | rfl | rfl | rfl | rfl | rfl | rfl <;> simp [cum, dim] <;> omega
theorem cum_bd (y m : Int) (h1 : 1 ≤ m) (h2 : m ≤ 13) : 0 ≤ cum y m ∧ cum y m ≤ 365 + lp y := by
  have := lp_01 y
  rcases (show m = 13 ∨ m ≤ 12 by omega) with rfl | h
  · simp [cum]; omega
  · rcases month_cases m h1 h with rfl | rfl | rfl | rfl | rfl | rfl | rfl | rfl | rfl | rfl | rfl | rfl <;> simp [cum] <;> omega
theorem cum_13 (y : Int) : cum y 13 = 365 + lp y := rfl
theorem cum_mono_nat (y m : Int) (h : 1 ≤ m) (k : Nat) (hk : m + k ≤ 13) : cum y m ≤ cum y (m + k) := by
  induction k with
  | zero => simp
  | succ k ih =>
    have := cum_succ y (m + k) (by omega) (by omega); have := dim_bd y (m + k); have := ih (by omega)
    rw [show m + ((k + 1 : Nat) : Int) = m + k + 1 from by omega]; omega
theorem cum_mono (y a b : Int) (h0 : 1 ≤ a) (h : a ≤ b) (h13 : b ≤ 13) : cum y a ≤ cum y b := by
  obtain ⟨k, hk⟩ := Int.eq_ofNat_of_zero_le (show 0 ≤ b - a by omega)
  have := cum_mono_nat y a h0 k (by omega)
  rw [show b = a + k from by omega]; exact this
theorem ok_month {y m d : Int} (h : 1 ≤ d) (h' : d ≤ dim y m) : 1 ≤ m ∧ m ≤ 12 := by
  by_cases g : 1 ≤ m ∧ m ≤ 12
  · exact g
  · rw [dim_out y m (by omega)] at h'; omega
theorem yd_bd {y m d : Int} (h : okP y m d) : 1 ≤ cum y m + d ∧ cum y m + d ≤ 365 + lp y := by
  obtain ⟨h1, h2, h3, h4⟩ := h
  obtain ⟨m1, m2⟩ := ok_month h3 h4
  have := cum_succ y m m1 m2; have := cum_mono y (m + 1) 13 (by omega) (by omega) (by omega); rw [cum_13] at this
  have := cum_bd y m m1 (by omega); omega
theorem ord_inj {y m d y' m' d' : Int} (h : okP y m d) (h' : okP y' m' d') (e : ord y m d = ord y' m' d') : y = y' ∧ m = m' ∧ d = d' := by
  have b := yd_bd h; have b' := yd_bd h'
  obtain ⟨h1, h2, h3, h4⟩ := h; obtain ⟨k1, k2, k3, k4⟩ := h'
  unfold ord at e
  have hy : y = y' := by
    rcases (show y < y' ∨ y = y' ∨ y' < y by omega) with g | g | g
    · have := dby_mono (y + 1) y' (by omega) (by omega); have := dby_succ y h1; omega
    · exact g
    · have := dby_mono (y' + 1) y (by omega) (by omega); have := dby_succ y' k1; omega
  subst hy
  obtain ⟨m1, m2⟩ := ok_month h3 h4; obtain ⟨n1, n2⟩ := ok_month k3 k4
  have hm : m = m' := by
    rcases (show m < m' ∨ m = m' ∨ m' < m by omega) with g | g | g
    · have := cum_mono y (m + 1) m' (by omega) (by omega) (by omega); have := cum_succ y m m1 m2; omega
    · exact g
    · have := cum_mono y (m' + 1) m (by omega) (by omega) (by omega); have := cum_succ y m' n1 n2; omega
  subst hm
  exact ⟨rfl, rfl, by omega⟩
theorem guess_lo (l : Int) (h : 0 ≤ l) : dby (l * 400 / 146097 + 1) ≤ l := by
  generalize hq : l * 400 / 146097 = q
  have q0 : 146097 * q ≤ l * 400 := by omega
  have q1 : 0 ≤ q := by omega
  unfold dby; rw [show q + 1 - 1 = q from by omega]
  have e1 : q / 100 = q / 4 / 25 := by omega
  have e2 : q / 400 = q / 4 / 25 / 4 := by omega
  rw [e1, e2]
  clear e1 e2 hq
  generalize hu : q / 4 = u
  generalize hv : u / 25 = v
  generalize hx : v / 4 = x
  omega
theorem guess_hi (l : Int) : l < dby (l * 400 / 146097 + 3) := by
  generalize hq : l * 400 / 146097 = q
  have q0 : l * 400 < 146097 * (q + 1) := by omega
  unfold dby; rw [show q + 3 - 1 = q + 2 from by omega]
  omega
end Go.Proofs.YtjlpkgipdkjfhaaGreatDoor.Civ
namespace Go.Proofs.YtjlpkgipdkjfhaaGreatDoor
open Go.ChangeShapes Go.WideShapes Go.ChangeAt Go.RowKit
open Civ
theorem ret_int {k : IntKind} {a b : Int} (h : a = b) : Ending.returned (.int k a) = .returned (.int k b) := by rw [h]
theorem ret_bool {a b : Bool} (h : a = b) : Ending.returned (.bool a) = .returned (.bool b) := by rw [h]
set_option maxHeartbeats 400000 in
theorem leap_any (y : Int) (w : World) :
    Calls Tryz.prog 245 #[.int .i64 y] w fun e w' => e = .returned (.bool (leap y)) ∧ w = w' := by
  go_enter Tryz.func245, Tryz.ntmps245
  go_wp2
  all_goals (go_ret; exact ⟨ret_bool (by simp [leap, *]), rfl⟩)
theorem leap_yes (y : Int) (w : World) (h : leap y = true) :
    Calls Tryz.prog 245 #[.int .i64 y] w fun e w' => e = .returned (.bool true) ∧ w = w' := by
  have := leap_any y w; rwa [h] at this
theorem leap_no (y : Int) (w : World) (h : leap y = false) :
    Calls Tryz.prog 245 #[.int .i64 y] w fun e w' => e = .returned (.bool false) ∧ w = w' := by
  have := leap_any y w; rwa [h] at this
def lens (y : Int) : Array Value := #[.int .i64 0, .int .i64 31, .int .i64 (28 + lp y), .int .i64 31, .int .i64 30, .int .i64 31, .int .i64 30, .int .i64 31, .int .i64 31, .int .i64 30, .int .i64 31, .int .i64 30, .int .i64 31]
set_option maxHeartbeats 1000000 in
theorem lengths_yes (y : Int) (w : World) (h : leap y = true) :
    Calls Tryz.prog 204 #[.int .i64 y] w fun e w' => e = .returned (.agg (lens y)) ∧ Kept w w' := by
  have hl : lens y = #[.int .i64 0, .int .i64 31, .int .i64 29, .int .i64 31, .int .i64 30, .int .i64 31, .int .i64 30, .int .i64 31, .int .i64 31, .int .i64 30, .int .i64 31, .int .i64 30, .int .i64 31] := by
    unfold lens; rw [lp_true h]; rfl
  rw [hl]; clear hl
  have H := Lib.hid h; clear h
  go_enter Tryz.func204, Tryz.ntmps204
  go_wp2_with (first | (go_at_call 245; refine (leap_yes _ _ H.out).mono ?_; rintro e w' ⟨rfl, rfl⟩) | go_in)
  go_end0
  go_wp2
  exact bodyPost_ret (v := .agg #[.int .i64 0, .int .i64 31, .int .i64 29, .int .i64 31, .int .i64 30, .int .i64 31, .int .i64 30, .int .i64 31, .int .i64 31, .int .i64 30, .int .i64 31, .int .i64 30, .int .i64 31]) (by simp [results, Tryz.results204, go_sem]) rfl
    ⟨rfl, (((Kept.refl _).alloc _).alloc _).alloc _⟩
set_option maxHeartbeats 1000000 in
theorem lengths_no (y : Int) (w : World) (h : leap y = false) :
    Calls Tryz.prog 204 #[.int .i64 y] w fun e w' => e = .returned (.agg (lens y)) ∧ Kept w w' := by
  have hl : lens y = #[.int .i64 0, .int .i64 31, .int .i64 28, .int .i64 31, .int .i64 30, .int .i64 31, .int .i64 30, .int .i64 31, .int .i64 31, .int .i64 30, .int .i64 31, .int .i64 30, .int .i64 31] := by
    unfold lens; rw [lp_false h]; rfl
  rw [hl]; clear hl
  have H := Lib.hid h; clear h
  go_enter Tryz.func204, Tryz.ntmps204
  go_wp2_with (first | (go_at_call 245; refine (leap_no _ _ H.out).mono ?_; rintro e w' ⟨rfl, rfl⟩) | go_in)
  go_end0
  go_wp2
  exact bodyPost_ret (v := .agg #[.int .i64 0, .int .i64 31, .int .i64 28, .int .i64 31, .int .i64 30, .int .i64 31, .int .i64 30, .int .i64 31, .int .i64 31, .int .i64 30, .int .i64 31, .int .i64 30, .int .i64 31]) (by simp [results, Tryz.results204, go_sem]) rfl
    ⟨rfl, (((Kept.refl _).alloc _).alloc _).alloc _⟩
theorem lengths_any (y : Int) (w : World) :
    Calls Tryz.prog 204 #[.int .i64 y] w fun e w' => e = .returned (.agg (lens y)) ∧ Kept w w' := by
  cases h : leap y
  · exact lengths_no y w h
  · exact lengths_yes y w h
theorem lengths_lit (y : Int) (w : World) :
    Calls Tryz.prog 204 #[.int .i64 y] w fun e w' => e = .returned (.agg #[.int .i64 0, .int .i64 31, .int .i64 (28 + lp y), .int .i64 31, .int .i64 30, .int .i64 31, .int .i64 30, .int .i64 31, .int .i64 31, .int .i64 30, .int .i64 31, .int .i64 30, .int .i64 31]) ∧ Kept w w' := lengths_any y w
set_option maxHeartbeats 400000 in
theorem daysAhead_any (y : Int) (w : World) (h1 : 1 ≤ y) (h2 : y ≤ 10001) :
    Calls Tryz.prog 147 #[.int .i64 y] w fun e w' => e = .returned (.int .i64 (dby y)) ∧ w = w' := by
  go_enter Tryz.func147, Tryz.ntmps147
  go_wp2
  go_ret
  exact ⟨ret_int (by unfold dby; omega), rfl⟩
def la (y : Int) (j : Nat) : Int := if j = 0 then 0 else dim y j
def cs (y : Int) (j : Nat) : Int := if j = 0 then 0 else cum y j
theorem lens_cell (y : Int) (w : World) (t : TypeId) (j : Nat) (h : j < 13) : (w.alloc (.cells #[.int .i64 0, .int .i64 31, .int .i64 (28 + lp y), .int .i64 31, .int .i64 30, .int .i64 31, .int .i64 30, .int .i64 31, .int .i64 31, .int .i64 30, .int .i64 31, .int .i64 30, .int .i64 31] t)).cell? ⟨w.heap.size, j, none⟩ = some (.int .i64 (la y j)) := by
  have : j = 0 ∨ j = 1 ∨ j = 2 ∨ j = 3 ∨ j = 4 ∨ j = 5 ∨ j = 6 ∨ j = 7 ∨ j = 8 ∨ j = 9 ∨ j = 10 ∨ j = 11 ∨ j = 12 := by omega
  rcases this with rfl | rfl | rfl | rfl | rfl | rfl | rfl | rfl | rfl | rfl | rfl | rfl | rfl <;> simp [la, dim]
def MonthPost (y l : Int) (w : World) (e : Ending) (w' : World) : Prop := ∃ m d : Int, e = .returned (.tuple #[.int .i64 m, .int .i64 d]) ∧ 1 ≤ d ∧ d ≤ dim y m ∧ cum y m + d = l + 1 ∧ Kept w w'
set_option maxHeartbeats 1000000 in
theorem monthOf_any (y l : Int) (w : World) (h1 : 0 ≤ l) (h2 : l < 365 + lp y) :
    Calls Tryz.prog 146 #[.int .i64 y, .int .i64 l] w (MonthPost y l w) := by
  have hlp := lp_01 y
  have hl3 : l ≤ 365 := by omega
  go_enter Tryz.func146, Tryz.ntmps146
  go_wp2_with (go_at_call 204; refine (lengths_lit _ _).mono ?_; rintro e w' ⟨rfl, hg⟩)
  have hcell := fun j h => lens_cell y w' 187 j h
  have hG : Kept w (w'.alloc (.cells #[.int .i64 0, .int .i64 31, .int .i64 (28 + lp y), .int .i64 31, .int .i64 30, .int .i64 31, .int .i64 30, .int .i64 31, .int .i64 31, .int .i64 30, .int .i64 31, .int .i64 30, .int .i64 31] 187)) := hg.alloc _
  generalize (w'.alloc (.cells #[.int .i64 0, .int .i64 31, .int .i64 (28 + lp y), .int .i64 31, .int .i64 30, .int .i64 31, .int .i64 30, .int .i64 31, .int .i64 31, .int .i64 30, .int .i64 31, .int .i64 30, .int .i64 31] 187)) = W at hcell hG ⊢
  have HC := Lib.hid hcell; clear hcell
  go_loop [1, 4] (fun r i => ∃ m : Nat, 1 ≤ m ∧ m ≤ 12 ∧ i = .int .i64 m ∧ r = .int .i64 (l - cum y m) ∧ cum y m ≤ l) (fun _ i => 12 - (intOf i).toNat)
  case atStart => exact ⟨1, by omega, by omega, rfl, by simp [cum], by simp [cum]; omega⟩
  case round =>
    obtain ⟨m, hm1, hm2, rfl, rfl, hle⟩ := hrel
    have cb := cum_bd y m (by omega) (by omega)
    have db := dim_bd y m
    have hc : W.cell? ⟨w'.heap.size, m, none⟩ = some (.int .i64 (dim y m)) := by
      have := HC.out m (by omega); unfold la at this; rwa [if_neg (by omega)] at this
    have CS := Lib.hid (cum_succ y m (by omega) (by omega))
    by_cases hm : m < 12
    · by_cases hd : dim y m ≤ l - cum y m
      · go_wp2
        go_round
        case rel => exact ⟨m + 1, by omega, by omega, by go_num, by rw [show ((m + 1 : Nat) : Int) = m + 1 from by omega, CS.out]; go_num, by rw [show ((m + 1 : Nat) : Int) = m + 1 from by omega, CS.out]; omega⟩
        case measure => simp [intOf]; omega
      · go_wp2
        go_ret2
        exact ⟨_, _, rfl, by omega, by omega, by omega, hG⟩
    · go_wp2
      go_ret2
      have e12 : m = 12 := by omega
      subst e12
      have c13 := CS.out
      rw [show ((12 : Nat) : Int) + 1 = 13 from rfl, cum_13] at c13
      exact ⟨_, _, rfl, by omega, by omega, by omega, hG⟩
def YearPost (l : Int) (w : World) (e : Ending) (w' : World) : Prop := ∃ y : Int, e = .returned (.int .i64 y) ∧ 1 ≤ y ∧ y ≤ 9999 ∧ dby y ≤ l ∧ l < dby (y + 1) ∧ w = w'
set_option maxHeartbeats 400000 in
theorem yearOf_any (l : Int) (w : World) (h1 : 0 ≤ l) (h2 : l ≤ 3652058) :
    Calls Tryz.prog 145 #[.int .i64 l] w (YearPost l w) := by
  have g1 := guess_lo l h1
  have g2 := guess_hi l
  have q1 : 0 ≤ l * 400 / 146097 := by omega
  have q2 : l * 400 / 146097 ≤ 9998 := by omega
  by_cases hc : dby (l * 400 / 146097 + 1 + 1) ≤ l
  · have hq9 : l * 400 / 146097 + 2 ≤ 9999 := by
      rcases (show l * 400 / 146097 + 2 ≤ 9999 ∨ l * 400 / 146097 = 9998 by omega) with h | h
      · exact h
      · rw [h, show (9998 : Int) + 1 + 1 = 10000 from rfl, dby_10000] at hc; omega
    go_enter Tryz.func145, Tryz.ntmps145
    go_wp2_with (go_at_call 147; refine (daysAhead_any _ _ (by omega) (by omega)).mono ?_; rintro e w' ⟨rfl, rfl⟩)
    go_ret
    exact ⟨_, rfl, by omega, by omega, hc, by rw [show l * 400 / 146097 + 1 + 1 + 1 = l * 400 / 146097 + 3 from by omega]; exact g2, rfl⟩
  · go_enter Tryz.func145, Tryz.ntmps145
    go_wp2_with (go_at_call 147; refine (daysAhead_any _ _ (by omega) (by omega)).mono ?_; rintro e w' ⟨rfl, rfl⟩)
    go_ret
    exact ⟨_, rfl, by omega, by omega, g1, by omega, rfl⟩
def wd (n : Int) : Int := if n < -1099511627776 ∨ 1099511627776 < n then 0 else (n + 4) % 7
theorem tmod7 (n : Int) : -7 < n.tmod 7 ∧ n.tmod 7 < 7 ∧ n = 7 * n.tdiv 7 + n.tmod 7 :=
  ⟨by have h := Int.tmod_lt_of_pos (-n) (show (0 : Int) < 7 by omega); rw [Int.neg_tmod] at h; omega, Int.tmod_lt_of_pos n (by omega), (Int.mul_tdiv_add_tmod n 7).symm⟩
set_option maxHeartbeats 400000 in
theorem wday_any (n : Int) (w : World) :
    Calls Tryz.prog 56 #[.int .i64 n] w fun e w' => e = .returned (.int .i64 (wd n)) ∧ w = w' := by
  obtain ⟨t1, t2, t3⟩ := tmod7 n
  have T3 := Lib.hid t3; clear t3
  by_cases h1 : n < -1099511627776
  · have hw := Lib.hid (show wd n = 0 from by unfold wd; rw [if_pos (Or.inl h1)])
    go_enter Tryz.func56, Tryz.ntmps56
    go_wp2
    go_ret
    exact ⟨ret_int hw.out.symm, rfl⟩
  · by_cases h2 : 1099511627776 < n
    · have hw := Lib.hid (show wd n = 0 from by unfold wd; rw [if_pos (Or.inr h2)])
      go_enter Tryz.func56, Tryz.ntmps56
      go_wp2
      go_ret
      exact ⟨ret_int hw.out.symm, rfl⟩
    · have hw := Lib.hid (show wd n = (n + 4) % 7 from by unfold wd; rw [if_neg (by omega)])
      go_enter Tryz.func56, Tryz.ntmps56
      go_wp2
      go_ret
      exact ⟨ret_int (by rw [hw.out]; have := T3.out; omega), rfl⟩
def DatePost (n : Int) (w : World) (e : Ending) (w' : World) : Prop := ∃ y m d : Int, e = .returned (.tuple #[.int .i64 y, .int .i64 m, .int .i64 d, .int .i64 0]) ∧ okP y m d ∧ ord y m d = n ∧ Kept w w'
set_option maxHeartbeats 1000000 in
theorem date_yes (n : Int) (w : World) (h1 : -719162 ≤ n) (h2 : n ≤ 2932896) :
    Calls Tryz.prog 100 #[.int .i64 n] w (DatePost n w) := by
  go_enter Tryz.func100, Tryz.ntmps100
  go_wp2_with fail
  refine (yearOf_any _ _ (by omega) (by omega)).mono ?_
  rintro e w1 ⟨y, rfl, y1, y2, y3, y4, rfl⟩
  have hb := dby_bd y y1 (by omega)
  have hs := dby_succ y y1
  have hy4 : n - -719162 - dby y < 365 + lp y := by omega
  clear hs y4
  go_wp2_with fail
  refine (daysAhead_any _ _ (by omega) (by omega)).mono ?_
  rintro e w1 ⟨rfl, rfl⟩
  go_wp2_with fail
  refine (monthOf_any _ _ _ (by omega) (by omega)).mono ?_
  rintro e w1 ⟨m, d, rfl, d1, d2, hcd, hg⟩
  have HC := Lib.hid hcd; clear hcd
  go_wp2
  exact bodyPost_ret (v := .tuple #[.int .i64 y, .int .i64 m, .int .i64 d, .int .i64 0]) (by simp [results, Tryz.results100, go_sem]) rfl
    ⟨y, m, d, rfl, ⟨y1, y2, d1, d2⟩, by have := HC.out; unfold ord; omega, hg⟩
theorem date_not (n : Int) (w : World) (h : n < -719162 ∨ 2932896 < n) :
    Calls Tryz.prog 100 #[.int .i64 n] w fun e w' => e = .returned (.tuple #[.int .i64 0, .int .i64 0, .int .i64 0, .int .i64 1]) ∧ w = w' := by
  rcases h with h | h
  · go_enter Tryz.func100, Tryz.ntmps100
    go_wp2
    exact bodyPost_ret (v := .tuple #[.int .i64 0, .int .i64 0, .int .i64 0, .int .i64 1]) (by simp [results, Tryz.results100, go_sem]) rfl ⟨rfl, rfl⟩
  · have h' : ¬ n < -719162 := by omega
    go_enter Tryz.func100, Tryz.ntmps100
    go_wp2
    exact bodyPost_ret (v := .tuple #[.int .i64 0, .int .i64 0, .int .i64 0, .int .i64 1]) (by simp [results, Tryz.results100, go_sem]) rfl ⟨rfl, rfl⟩
end Go.Proofs.YtjlpkgipdkjfhaaGreatDoor
namespace Go.Proofs.YtjlpkgipdkjfhaaGreatDoor.Civ
def dig : Nat → Nat → List UInt8
  | 0, _ => []
  | k + 1, n => dig k (n / 10) ++ [UInt8.ofNat (48 + n % 10)]
theorem dig_length (k n : Nat) : (dig k n).length = k := by
  induction k generalizing n with
  | zero => rfl
  | succ k ih => simp [dig, ih]
theorem rep_eq (k : Nat) : Lib.repeatL [48] k = List.replicate k 48 := by
  induction k with
  | zero => rfl
  | succ k ih => simp [Lib.repeatL, ih, List.replicate_succ]
theorem dig_zero (k : Nat) : dig k 0 = List.replicate k 48 := by
  induction k with
  | zero => rfl
  | succ k ih => rw [dig, Nat.zero_div, ih, List.replicate_succ']; rfl
theorem dig_pad (k n : Nat) (hk : 1 ≤ k) (h : n < 10 ^ k) : Lib.repeatL [48] (k - (Lib.decDigits n).length) ++ Lib.decDigits n = dig k n := by
  rw [rep_eq]
  induction k generalizing n with
  | zero => omega
  | succ k ih =>
    by_cases h10 : n < 10
    · rw [Lib.decDigits_one h10, dig, Nat.div_eq_of_lt h10, dig_zero, Nat.mod_eq_of_lt h10]
      simp
    · have hlt : n / 10 < 10 ^ k := by rw [Nat.pow_succ] at h; omega
      have hk1 : 1 ≤ k := by
        rcases k with _ | k
        · simp at hlt; omega
        · omega
      have := ih (n / 10) hk1 hlt
      rw [Lib.decDigits, dif_neg h10, dig, ← this]
      simp only [List.length_append, List.length_cons, List.length_nil, List.append_assoc]
      rw [show k + 1 - ((Lib.decDigits (n / 10)).length + (0 + 1)) = k - (Lib.decDigits (n / 10)).length by omega]
theorem dec_len (k n : Nat) (hk : 1 ≤ k) (h : n < 10 ^ k) : (Lib.decDigits n).length ≤ k := by
  have := congrArg List.length (dig_pad k n hk h)
  rw [List.length_append, dig_length] at this
  omega
theorem dig_front (k n : Nat) : dig (k + 1) n = UInt8.ofNat (48 + n / 10 ^ k % 10) :: dig k n := by
  induction k generalizing n with
  | zero => simp [dig]
  | succ k ih => rw [dig, ih, dig, Nat.div_div_eq_div_mul, Nat.pow_succ, Nat.mul_comm 10]; rfl
end Go.Proofs.YtjlpkgipdkjfhaaGreatDoor.Civ
namespace Go.Proofs.YtjlpkgipdkjfhaaGreatDoor.Sm
open Go.ChangeShapes Go.WideShapes Go.ChangeAt Go.RowKit
open Civ
def Tab (w : World) : Prop := Lib.TabIs Tryz.prog w "internal/strconv.uint64pow10" .u64 Lib.pow10Tab
theorem tab_of {w w' : World} (h : Kept w w') (t : Tab w) : Tab w' := Kept.tab h t
theorem itoa_nat (n : Nat) (w : World) (hn : n ≤ 9223372036854775807) (htab : Tab w) :
    Calls Tryz.prog 41 #[.int .i64 n] w fun e w' => e = .returned (.string ⟨(Lib.decDigits n).toArray⟩) ∧ Kept w w' := by
  refine (Tryz.strconv_Itoa n (by omega) (by omega) w htab).mono ?_
  rintro e w1 ⟨rfl, k, os, rfl⟩
  rw [Lib.itoa_nonneg]
  exact ⟨rfl, ((Kept.refl w).drewN k).grow os⟩
theorem repeat_0 (c : Nat) (w : World) (hc : c ≤ 100) :
    Calls Tryz.prog 101 #[.string ⟨#[48]⟩, .int .i64 c] w fun e w' => e = .returned (.string ⟨(Lib.repeatL [48] c).toArray⟩) ∧ Kept w w' := by
  refine (Tryz.strings_Repeat ⟨#[48]⟩ c w (by omega) (by show 1 * c ≤ _; omega)).mono ?_
  rintro e w1 ⟨rfl, hb⟩
  exact ⟨rfl, Kept.of_below hb⟩
theorem digits_any (n k : Nat) (w : World) (hk : 1 ≤ k) (hk4 : k ≤ 4) (hn : n < 10 ^ k) (htab : Tab w) :
    Calls Tryz.prog 57 #[.int .i64 n, .int .i64 k] w fun e w' => e = .returned (.string ⟨(dig k n).toArray⟩) ∧ Kept w w' := by
  have hl := dec_len k n hk hn
  have hp := Lib.hid (dig_pad k n hk hn)
  have hn2 : n ≤ 9223372036854775807 := by
    have : 10 ^ k ≤ 10 ^ 4 := Nat.pow_le_pow_right (by omega) hk4
    omega
  have hmax : max 0 ((k : Int) - ((Lib.decDigits n).length : Int)) = ((k - (Lib.decDigits n).length : Nat) : Int) := by omega
  have HM := Lib.hid hmax; clear hmax
  have hno : ¬ 9223372036854775807 < (Lib.repeatL [48] (k - (Lib.decDigits n).length)).length + (Lib.decDigits n).length := by
    rw [Lib.repeatL_length]; simp only [List.length_cons, List.length_nil]; omega
  go_enter Tryz.func57, Tryz.ntmps57
  go_wp2_with fail
  refine (itoa_nat n _ hn2 htab).mono ?_
  rintro e w1 ⟨rfl, k1⟩
  go_wp2_with fail
  rw [HM.out]
  refine (repeat_0 (k - (Lib.decDigits n).length) _ (by omega)).mono ?_
  rintro e w2 ⟨rfl, k2⟩
  go_wp2_with fail
  go_ret
  rw [ByteArray.mk_append_mk, hp.out]
  exact ⟨rfl, k1.trans k2⟩
theorem tmod86400 (n : Int) : -86400 < n.tmod 86400 ∧ n.tmod 86400 < 86400 ∧ n = 86400 * n.tdiv 86400 + n.tmod 86400 :=
  ⟨by have h := Int.tmod_lt_of_pos (-n) (show (0 : Int) < 86400 by omega); rw [Int.neg_tmod] at h; omega, Int.tmod_lt_of_pos n (by omega), (Int.mul_tdiv_add_tmod n 86400).symm⟩
theorem split_any (t : Int) (w : World) (h1 : -9223372036854775808 ≤ t) (h2 : t ≤ 9223372036854775807) :
    Calls Tryz.prog 54 #[.int .i64 t] w fun e w' => e = .returned (.tuple #[.int .i64 (t / 86400), .int .i64 (t % 86400)]) ∧ w = w' := by
  obtain ⟨t1, t2, t3⟩ := tmod86400 t
  have b1 : -106751991167301 ≤ t.tdiv 86400 := by omega
  have b2 : t.tdiv 86400 ≤ 106751991167301 := by omega
  have T3 := Lib.hid t3; clear t3
  by_cases h : t.tmod 86400 < 0
  · go_enter Tryz.func54, Tryz.ntmps54
    go_wp2
    go_ret2
    have := T3.out
    exact ⟨by rw [show t / 86400 = t.tdiv 86400 - 1 by omega, show t % 86400 = t.tmod 86400 + 86400 by omega]; rfl, rfl⟩
  · go_enter Tryz.func54, Tryz.ntmps54
    go_wp2
    go_ret2
    have := T3.out
    exact ⟨by rw [show t / 86400 = t.tdiv 86400 by omega, show t % 86400 = t.tmod 86400 by omega]; rfl, rfl⟩
abbrev civ (y m d h i s : Int) : Value := .agg #[.int .i64 y, .int .i64 m, .int .i64 d, .int .i64 h, .int .i64 i, .int .i64 s]
open Classical in
noncomputable def ymd (n : Int) : Int × Int × Int := if h : ∃ x : Int × Int × Int, okP x.1 x.2.1 x.2.2 ∧ ord x.1 x.2.1 x.2.2 = n then h.choose else (0, 0, 0)
noncomputable def yr (n : Int) : Int := (ymd n).1
noncomputable def mo (n : Int) : Int := (ymd n).2.1
noncomputable def dy (n : Int) : Int := (ymd n).2.2
theorem ymd_of {n y m d : Int} (h : okP y m d) (e : ord y m d = n) : yr n = y ∧ mo n = m ∧ dy n = d := by
  have hx : ∃ x : Int × Int × Int, okP x.1 x.2.1 x.2.2 ∧ ord x.1 x.2.1 x.2.2 = n := ⟨(y, m, d), h, e⟩
  have hc := hx.choose_spec
  have : ymd n = hx.choose := by unfold ymd; rw [dif_pos hx]
  unfold yr mo dy
  rw [this]
  exact ord_inj hc.1 h (hc.2.trans e.symm)
def Day (n : Int) : Prop := okP (yr n) (mo n) (dy n) ∧ ord (yr n) (mo n) (dy n) = n
def DatePost' (n : Int) (w : World) (e : Ending) (w' : World) : Prop := Day n ∧ e = .returned (.tuple #[.int .i64 (yr n), .int .i64 (mo n), .int .i64 (dy n), .int .i64 0]) ∧ Kept w w'
theorem datePost {n : Int} {w : World} {e : Ending} {w' : World} (h : DatePost n w e w') : DatePost' n w e w' := by
  obtain ⟨y, m, d, rfl, h1, h2, h3⟩ := h
  obtain ⟨rfl, rfl, rfl⟩ := ymd_of h1 h2
  exact ⟨⟨h1, h2⟩, rfl, Kept.of_grown h3⟩
noncomputable abbrev cv (t : Int) : Value := civ (yr (t / 86400)) (mo (t / 86400)) (dy (t / 86400)) (t % 86400 / 3600) (t % 3600 / 60) (t % 60)
def AtPost (t : Int) (w : World) (e : Ending) (w' : World) : Prop := Day (t / 86400) ∧ e = .returned (.tuple #[cv t, .int .i64 0]) ∧ Kept w w'
def inCal (t : Int) : Prop := -62135596800 ≤ t ∧ t ≤ 253402300799
set_option maxHeartbeats 1000000 in
theorem at_yes (t : Int) (w : World) (h : inCal t) : Calls Tryz.prog 53 #[.int .i64 t] w (AtPost t w) := by
  obtain ⟨h1, h2⟩ := h
  have r1 : 0 ≤ t % 86400 := by omega
  have r2 : t % 86400 < 86400 := by omega
  have n1 : -719162 ≤ t / 86400 := by omega
  have n2 : t / 86400 ≤ 2932896 := by omega
  go_enter Tryz.func53, Tryz.ntmps53
  go_wp2_with fail
  refine (split_any t _ (by omega) (by omega)).mono ?_
  rintro e w1 ⟨rfl, rfl⟩
  go_wp2_with fail
  refine (date_yes _ _ n1 n2).mono ?_
  intro e w1 hd
  obtain ⟨hday, rfl, k1⟩ := datePost hd
  clear hd
  have HD := Lib.hid hday; clear hday
  have c0 := k1.new 0 rfl
  have c1 := k1.new 1 rfl
  have c2 := k1.new 2 rfl
  have c3 := k1.new 3 rfl
  have c4 := k1.new 4 rfl
  have c5 := k1.new 5 rfl
  have f0 := k1.newF
  have kb := k1.back; clear k1
  go_wp2
  exact bodyPost_ret (v := .tuple #[cv t, .int .i64 0]) (by simp [results, Tryz.results53, go_sem, *]) rfl ⟨HD.out, rfl, (((((kb.setCell (Nat.le_refl _) _).setCell (Nat.le_refl _) _).setCell (Nat.le_refl _) _).setCell (Nat.le_refl _) _).setCell (Nat.le_refl _) _).setCell (Nat.le_refl _) _⟩
set_option maxHeartbeats 1000000 in
theorem at_not (t : Int) (w : World) (h1 : -9223372036854775808 ≤ t) (h2 : t ≤ 9223372036854775807) (h : ¬ inCal t) :
    Calls Tryz.prog 53 #[.int .i64 t] w fun e w' => e = .returned (.tuple #[civ 0 0 0 0 0 0, .int .i64 1]) ∧ Kept w w' := by
  have n1 := Lib.hid (show t / 86400 < -719162 ∨ 2932896 < t / 86400 by unfold inCal at h; omega)
  clear h
  go_enter Tryz.func53, Tryz.ntmps53
  go_wp2_with fail
  refine (split_any t _ (by omega) (by omega)).mono ?_
  rintro e w1 ⟨rfl, rfl⟩
  go_wp2_with fail
  refine (date_not _ _ n1.out).mono ?_
  rintro e w1 ⟨rfl, rfl⟩
  go_wp2
  exact bodyPost_ret (v := .tuple #[civ 0 0 0 0 0 0, .int .i64 1]) (by simp [results, Tryz.results53, go_sem, *]) rfl ⟨rfl, by repeat (first | exact Kept.refl _ | apply Kept.drew | apply Kept.alloc)⟩
theorem digits_2 (n : Int) (w : World) (h0 : 0 ≤ n) (h1 : n < 100) :
    Calls Tryz.prog 57 #[.int .i64 n, .int .i64 2] w fun e w' => e = .returned (.string ⟨(dig 2 n.toNat).toArray⟩) ∧ w = w' := by
  obtain ⟨k, rfl⟩ := Int.eq_ofNat_of_zero_le h0
  have hk : k < 100 := by omega
  rw [show ((k : Nat) : Int).toNat = k by omega]
  by_cases h10 : k < 10
  · have hlen : (Lib.decDigits k).length = 1 := by rw [Lib.decDigits_one h10]; rfl
    have hp := dig_pad 2 k (by omega) (by omega)
    have HP := Lib.hid (show [48] ++ Lib.decDigits k = dig 2 k by rw [← hp, hlen]; rfl); clear hp
    clear h0 h1
    have HK := Lib.hid hk; clear hk
    have H10 := Lib.hid h10; clear h10
    go_enter Tryz.func57, Tryz.ntmps57
    go_wp2_with fail
    refine (Tryz.strconv_Itoa_small k HK.out _).mono ?_
    rintro e w1 ⟨rfl, rfl⟩
    go_wp2_with fail
    refine (Tryz.strings_Repeat_one ⟨#[48]⟩ _).mono ?_
    rintro e w2 ⟨rfl, rfl⟩
    go_wp2
    go_ret
    exact ⟨by rw [← HP.out, ← ByteArray.mk_append_mk]; rfl, rfl⟩
  · have hlen : (Lib.decDigits k).length = 2 := by rw [Lib.decDigits_two h10 hk]; rfl
    have hp := dig_pad 2 k (by omega) (by omega)
    have HP := Lib.hid (show [] ++ Lib.decDigits k = dig 2 k by rw [← hp, hlen]; rfl); clear hp
    clear h0 h1
    have HK := Lib.hid hk; clear hk
    have H10 := Lib.hid h10; clear h10
    go_enter Tryz.func57, Tryz.ntmps57
    go_wp2_with fail
    refine (Tryz.strconv_Itoa_small k HK.out _).mono ?_
    rintro e w1 ⟨rfl, rfl⟩
    go_wp2_with fail
    refine (Tryz.strings_Repeat_zero ⟨#[48]⟩ _).mono ?_
    rintro e w2 ⟨rfl, rfl⟩
    go_wp2
    go_ret
    exact ⟨by rw [← HP.out, ← ByteArray.mk_append_mk]; rfl, rfl⟩
theorem digits_4 (n : Int) (w : World) (h0 : 0 ≤ n) (h1 : n < 10000) (htab : Tab w) :
    Calls Tryz.prog 57 #[.int .i64 n, .int .i64 4] w fun e w' => e = .returned (.string ⟨(dig 4 n.toNat).toArray⟩) ∧ Kept w w' := by
  obtain ⟨k, rfl⟩ := Int.eq_ofNat_of_zero_le h0
  exact digits_any k 4 w (by omega) (by omega) (by omega) htab
def clk (h i s : Nat) : List UInt8 := dig 2 h ++ [58] ++ dig 2 i ++ [58] ++ dig 2 s
theorem clk_eq (h i s : Nat) : (⟨(dig 2 h).toArray⟩ ++ ⟨#[58]⟩ ++ ⟨(dig 2 i).toArray⟩ ++ ⟨#[58]⟩ ++ ⟨(dig 2 s).toArray⟩ : ByteArray) = ⟨(clk h i s).toArray⟩ := by
  apply ByteArray.ext; simp [ByteArray.data_append, clk]
theorem clk_length (h i s : Nat) : (clk h i s).length = 8 := by simp [clk, dig_length]
set_option maxRecDepth 100000 in
set_option maxHeartbeats 1000000 in
theorem clock_any (y m d h i s : Int) (w : World) (h0 : 0 ≤ h) (h1 : h < 100) (i0 : 0 ≤ i) (i1 : i < 100) (s0 : 0 ≤ s) (s1 : s < 100) :
    Calls Tryz.prog 58 #[civ y m d h i s] w fun e w' => e = .returned (.string ⟨(clk h.toNat i.toNat s.toNat).toArray⟩) ∧ Kept w w' := by
  have dl : ∀ k n, (dig k n).length = k := dig_length
  have hk := ((Kept.refl w).alloc (.cells #[.int .i64 y, .int .i64 m, .int .i64 d, .int .i64 h, .int .i64 i, .int .i64 s] 82))
  have c3 := (Kept.refl (w.alloc (.cells #[.int .i64 y, .int .i64 m, .int .i64 d, .int .i64 h, .int .i64 i, .int .i64 s] 82))).new 3 rfl
  have c4 := (Kept.refl (w.alloc (.cells #[.int .i64 y, .int .i64 m, .int .i64 d, .int .i64 h, .int .i64 i, .int .i64 s] 82))).new 4 rfl
  have c5 := (Kept.refl (w.alloc (.cells #[.int .i64 y, .int .i64 m, .int .i64 d, .int .i64 h, .int .i64 i, .int .i64 s] 82))).new 5 rfl
  go_enter Tryz.func58, Tryz.ntmps58
  go_wp2_with fail
  generalize hw : w.alloc (.cells #[.int .i64 y, .int .i64 m, .int .i64 d, .int .i64 h, .int .i64 i, .int .i64 s] 82) = W at *
  clear hw
  go_region_held3 (fun x => Kept w x ∧ x.cell? ⟨w.heap.size, 3, none⟩ = some (.int .i64 h) ∧ x.cell? ⟨w.heap.size, 4, none⟩ = some (.int .i64 i) ∧ x.cell? ⟨w.heap.size, 5, none⟩ = some (.int .i64 s)) (first | exact ⟨hk.drew, c3, c4, c5⟩ | assumption)
    (first | (go_at_call 57; refine (digits_2 _ _ (by omega) (by omega)).mono ?_; rintro e w' ⟨rfl, rfl⟩))
  go_wp2
  go_ret
  rw [clk_eq]
  exact ⟨rfl, hk.drew⟩
noncomputable def txt (t : Int) : List UInt8 :=
  dig 4 (yr (t / 86400)).toNat ++ [45] ++ dig 2 (mo (t / 86400)).toNat ++ [45] ++ dig 2 (dy (t / 86400)).toNat ++ [84] ++ clk (t % 86400 / 3600).toNat (t % 3600 / 60).toNat (t % 60).toNat ++ [90]
theorem held6 {W x x' : World} {b : Nat} {y m d h i s : Int} (k : Kept x x') (H : Kept W x ∧ x.cell? ⟨b, 0, none⟩ = some (.int .i64 y) ∧ x.cell? ⟨b, 1, none⟩ = some (.int .i64 m) ∧ x.cell? ⟨b, 2, none⟩ = some (.int .i64 d) ∧ x.cell? ⟨b, 3, none⟩ = some (.int .i64 h) ∧ x.cell? ⟨b, 4, none⟩ = some (.int .i64 i) ∧ x.cell? ⟨b, 5, none⟩ = some (.int .i64 s) ∧ Tab x) (hb : b < W.heap.size) :
    Kept W x' ∧ x'.cell? ⟨b, 0, none⟩ = some (.int .i64 y) ∧ x'.cell? ⟨b, 1, none⟩ = some (.int .i64 m) ∧ x'.cell? ⟨b, 2, none⟩ = some (.int .i64 d) ∧ x'.cell? ⟨b, 3, none⟩ = some (.int .i64 h) ∧ x'.cell? ⟨b, 4, none⟩ = some (.int .i64 i) ∧ x'.cell? ⟨b, 5, none⟩ = some (.int .i64 s) ∧ Tab x' := by
  obtain ⟨h0, h1, h2, h3, h4, h5, h6, h7⟩ := H
  have hb' : b < x.heap.size := Nat.lt_of_lt_of_le hb h0.size
  exact ⟨h0.trans k, (k.cell (a := ⟨b, 0, none⟩) hb').trans h1, (k.cell (a := ⟨b, 1, none⟩) hb').trans h2, (k.cell (a := ⟨b, 2, none⟩) hb').trans h3, (k.cell (a := ⟨b, 3, none⟩) hb').trans h4, (k.cell (a := ⟨b, 4, none⟩) hb').trans h5, (k.cell (a := ⟨b, 5, none⟩) hb').trans h6, tab_of k h7⟩
theorem day_bd {n : Int} (h : Day n) : 1 ≤ yr n ∧ yr n ≤ 9999 ∧ 1 ≤ mo n ∧ mo n ≤ 12 ∧ 1 ≤ dy n ∧ dy n ≤ 31 := by
  obtain ⟨⟨h1, h2, h3, h4⟩, _⟩ := h
  have := ok_month h3 h4
  have := dim_bd (yr n) (mo n)
  omega
theorem extract_mk (l : List UInt8) (a b : Nat) : (ByteArray.mk l.toArray).extract a b = ⟨((l.drop a).take (b - a)).toArray⟩ := by
  apply ByteArray.ext
  simp [ByteArray.data_extract, List.take_drop]
def nm (l : List UInt8) (i : Nat) : List UInt8 := (l.drop (3 * i)).take 3
theorem name_any (l : List UInt8) (i : Nat) (w : World) (hl : l.length ≤ 100) (hi : 3 * i + 3 ≤ l.length) :
    Calls Tryz.prog 55 #[.string ⟨l.toArray⟩, .int .i64 i] w fun e w' => e = .returned (.string ⟨(nm l i).toArray⟩) ∧ w = w' := by
  have h1 : (0 : Int) ≤ 3 * (i : Int) := by omega
  have h2 : 3 * (i : Int) + 3 ≤ (l.length : Int) := by omega
  have h3 : 3 * (i : Int) ≤ 3 * (i : Int) + 3 := by omega
  have h4 : (l.length : Int) ≤ 100 := by omega
  go_enter Tryz.func55, Tryz.ntmps55
  go_wp2
  go_ret
  rw [extract_mk, Nat.add_sub_cancel_left]
  exact ⟨rfl, rfl⟩
def dayNames : List UInt8 := [83, 117, 110, 77, 111, 110, 84, 117, 101, 87, 101, 100, 84, 104, 117, 70, 114, 105, 83, 97, 116]
def monNames : List UInt8 := [74, 97, 110, 70, 101, 98, 77, 97, 114, 65, 112, 114, 77, 97, 121, 74, 117, 110, 74, 117, 108, 65, 117, 103, 83, 101, 112, 79, 99, 116, 78, 111, 118, 68, 101, 99]
theorem nm_day (i : Nat) (h : i < 7) : (nm dayNames i).length = 3 := by
  simp only [nm, List.length_take, List.length_drop, show dayNames.length = 21 from rfl]; omega
theorem nm_mon (i : Nat) (h : i < 12) : (nm monNames i).length = 3 := by
  simp only [nm, List.length_take, List.length_drop, show monNames.length = 36 from rfl]; omega
theorem name_day (i : Int) (w : World) (h0 : 0 ≤ i) (h1 : i < 7) :
    Calls Tryz.prog 55 #[.string ⟨#[83, 117, 110, 77, 111, 110, 84, 117, 101, 87, 101, 100, 84, 104, 117, 70, 114, 105, 83, 97, 116]⟩, .int .i64 i] w fun e w' => e = .returned (.string ⟨(nm dayNames i.toNat).toArray⟩) ∧ w = w' := by
  obtain ⟨k, rfl⟩ := Int.eq_ofNat_of_zero_le h0
  exact name_any dayNames k w (by decide) (by show 3 * k + 3 ≤ 21; omega)
theorem name_mon (i : Int) (w : World) (h0 : 0 ≤ i) (h1 : i < 12) :
    Calls Tryz.prog 55 #[.string ⟨#[74, 97, 110, 70, 101, 98, 77, 97, 114, 65, 112, 114, 77, 97, 121, 74, 117, 110, 74, 117, 108, 65, 117, 103, 83, 101, 112, 79, 99, 116, 78, 111, 118, 68, 101, 99]⟩, .int .i64 i] w fun e w' => e = .returned (.string ⟨(nm monNames i.toNat).toArray⟩) ∧ w = w' := by
  obtain ⟨k, rfl⟩ := Int.eq_ofNat_of_zero_le h0
  exact name_any monNames k w (by decide) (by show 3 * k + 3 ≤ 36; omega)
def offs (o : Int) : List UInt8 := [if o < 0 then 45 else 43] ++ dig 2 (o.natAbs / 3600) ++ dig 2 (o.natAbs % 3600 / 60)
theorem offs_length (o : Int) : (offs o).length = 5 := by simp [offs, dig_length]
theorem offs_eq (c : UInt8) (a b : Nat) : (⟨#[c]⟩ ++ ⟨(dig 2 a).toArray⟩ ++ ⟨(dig 2 b).toArray⟩ : ByteArray) = ⟨([c] ++ dig 2 a ++ dig 2 b).toArray⟩ := by
  apply ByteArray.ext; simp [ByteArray.data_append]
set_option maxHeartbeats 1000000 in
theorem offset_any (o : Int) (w : World) (h0 : -93599 ≤ o) (h1 : o ≤ 93599) :
    Calls Tryz.prog 59 #[.int .i64 o] w fun e w' => e = .returned (.string ⟨(offs o).toArray⟩) ∧ w = w' := by
  have dl : ∀ k n, (dig k n).length = k := dig_length
  by_cases h : o < 0
  · obtain ⟨p, rfl⟩ : ∃ p, o = -p := ⟨-o, by omega⟩
    have q1 : 0 < p := by omega
    have q2 : p ≤ 93599 := by omega
    have e1 := Lib.hid (show (p / 3600).toNat = (-p).natAbs / 3600 by omega)
    have e2 := Lib.hid (show (p % 3600 / 60).toNat = (-p).natAbs % 3600 / 60 by omega)
    go_enter Tryz.func59, Tryz.ntmps59
    go_wp2_with fail
    refine (digits_2 _ _ (by omega) (by omega)).mono ?_
    rintro e w' ⟨rfl, rfl⟩
    go_wp2_with fail
    refine (digits_2 _ _ (by omega) (by omega)).mono ?_
    rintro e w' ⟨rfl, rfl⟩
    go_wp2
    go_ret
    rw [offs_eq]
    exact ⟨by rw [offs, if_pos (by omega), ← e1.out, ← e2.out]; rfl, rfl⟩
  · have e1 := Lib.hid (show (o / 3600).toNat = o.natAbs / 3600 by omega)
    have e2 := Lib.hid (show (o % 3600 / 60).toNat = o.natAbs % 3600 / 60 by omega)
    have q1 : 0 ≤ o := by omega
    go_enter Tryz.func59, Tryz.ntmps59
    go_wp2_with fail
    refine (digits_2 _ _ (by omega) (by omega)).mono ?_
    rintro e w' ⟨rfl, rfl⟩
    go_wp2_with fail
    refine (digits_2 _ _ (by omega) (by omega)).mono ?_
    rintro e w' ⟨rfl, rfl⟩
    go_wp2
    go_ret
    rw [offs_eq]
    exact ⟨by rw [offs, if_neg (by omega), ← e1.out, ← e2.out]; rfl, rfl⟩
noncomputable def mtx (u o : Int) : List UInt8 :=
  nm dayNames ((u / 86400 + 4) % 7).toNat ++ [44] ++ [32] ++ dig 2 (dy (u / 86400)).toNat ++ [32] ++ nm monNames ((mo (u / 86400)).toNat - 1) ++ [32] ++ dig 4 (yr (u / 86400)).toNat ++ [32] ++ clk (u % 86400 / 3600).toNat (u % 3600 / 60).toNat (u % 60).toNat ++ [32] ++ offs o
theorem join6 (a b c d e f : List UInt8) : Lib.join [a, b, c, d, e, f] [32] = a ++ [32] ++ b ++ [32] ++ c ++ [32] ++ d ++ [32] ++ e ++ [32] ++ f := by
  simp [Lib.join, List.intercalate]
theorem wd_cal (n : Int) (h1 : -719162 ≤ n) (h2 : n ≤ 2932896) : wd n = (n + 4) % 7 := by unfold wd; rw [if_neg (by omega)]
theorem wday_cal (n : Int) (w : World) (h1 : -719162 ≤ n) (h2 : n ≤ 2932896) :
    Calls Tryz.prog 56 #[.int .i64 n] w fun e w' => e = .returned (.int .i64 ((n + 4) % 7)) ∧ w = w' := by
  have := wday_any n w; rwa [wd_cal n h1 h2] at this
theorem join_six (a b c d e f : ByteArray) (w : World) (h : a.size + b.size + c.size + d.size + e.size + f.size ≤ 1000) :
    Calls Tryz.prog 60 #[.slice (some ⟨w.heap.size, 0, none⟩) 6 6, .string ⟨#[32]⟩] (w.alloc (.cells #[.string a, .string b, .string c, .string d, .string e, .string f] 9)) fun x w' => x = .returned (.string ⟨(a.data.toList ++ [32] ++ b.data.toList ++ [32] ++ c.data.toList ++ [32] ++ d.data.toList ++ [32] ++ e.data.toList ++ [32] ++ f.data.toList).toArray⟩) ∧ Kept (w.alloc (.cells #[.string a, .string b, .string c, .string d, .string e, .string f] 9)) w' := by
  have g0 := (Kept.refl (w.alloc (.cells #[.string a, .string b, .string c, .string d, .string e, .string f] 9)))
  have ej := join6 a.data.toList b.data.toList c.data.toList d.data.toList e.data.toList f.data.toList
  have hs : ∀ x : ByteArray, x.data.toList.length = x.size := fun x => rfl
  refine (Tryz.strings_Join w.heap.size 0 6 [a, b, c, d, e, f] ⟨#[32]⟩ _ ?_ (by simp) (by simp) (by simp) ?_).mono ?_
  · intro j x hj
    rw [Nat.zero_add]
    match j, hj with
    | 0, hj => cases hj; exact g0.new 0 rfl
    | 1, hj => cases hj; exact g0.new 1 rfl
    | 2, hj => cases hj; exact g0.new 2 rfl
    | 3, hj => cases hj; exact g0.new 3 rfl
    | 4, hj => cases hj; exact g0.new 4 rfl
    | 5, hj => cases hj; exact g0.new 5 rfl
    | n + 6, hj => simp at hj
  · show (Lib.join [a.data.toList, b.data.toList, c.data.toList, d.data.toList, e.data.toList, f.data.toList] [32]).length ≤ _
    rw [ej]
    simp only [List.length_append, hs, List.length_cons, List.length_nil]
    omega
  · rintro x w' ⟨rfl, hb⟩
    refine ⟨?_, Kept.of_below hb⟩
    show Ending.returned (.string ⟨(Lib.join [a.data.toList, b.data.toList, c.data.toList, d.data.toList, e.data.toList, f.data.toList] [32]).toArray⟩) = _
    rw [ej]
def MailPost (u o : Int) (w : World) (e : Ending) (w' : World) : Prop := Day (u / 86400) ∧ e = .returned (.tuple #[.string ⟨(mtx u o).toArray⟩, .int .i64 0]) ∧ Kept w w'
set_option maxRecDepth 100000 in
set_option maxHeartbeats 2000000 in
theorem mail_yes (t o : Int) (w : World) (h0 : -93599 ≤ o) (h1 : o ≤ 93599) (h : inCal (t + o)) (htab : Tab w) : Calls Tryz.prog 25 #[.int .i64 t, .int .i64 o] w (MailPost (t + o) o w) := by
  have dl : ∀ k n, (dig k n).length = k := dig_length
  have cl : ∀ h i s, (clk h i s).length = 8 := clk_length
  have ol : ∀ o, (offs o).length = 5 := offs_length
  have hc1 := h.1
  have hc2 := h.2
  have HC := Lib.hid h; clear h
  have HT := Lib.hid htab; clear htab
  have n1 : -719162 ≤ (t + o) / 86400 := by omega
  have n2 : (t + o) / 86400 ≤ 2932896 := by omega
  have hw3 := nm_day (((t + o) / 86400 + 4) % 7).toNat (by omega)
  go_enter Tryz.func25, Tryz.ntmps25
  go_wp2_with fail
  refine (at_yes (t + o) _ HC.out).mono ?_
  rintro e w1 ⟨hday, rfl, k1⟩
  generalize hu : t + o = u at *
  obtain ⟨b1, b2, b3, b4, b5, b6⟩ := day_bd hday
  have HD := Lib.hid hday; clear hday
  have q1 : 0 ≤ u % 86400 / 3600 ∧ u % 86400 / 3600 < 24 := by omega
  have q2 : 0 ≤ u % 3600 / 60 ∧ u % 3600 / 60 < 60 := by omega
  have q3 : 0 ≤ u % 60 ∧ u % 60 < 60 := by omega
  have hwm : IntKind.i64.wrap (mo (u / 86400) - 1) = mo (u / 86400) - 1 := by rw [IntKind.wrap_i64]; omega
  have hw4 := nm_mon (mo (u / 86400) - 1).toNat (by omega)
  have g0 := (Kept.refl (w1.alloc (.cells #[.int .i64 (yr (u / 86400)), .int .i64 (mo (u / 86400)), .int .i64 (dy (u / 86400)), .int .i64 (u % 86400 / 3600), .int .i64 (u % 3600 / 60), .int .i64 (u % 60)] 82)))
  have c0 := g0.new 0 rfl
  have c1 := g0.new 1 rfl
  have c2 := g0.new 2 rfl
  have c3 := g0.new 3 rfl
  have c4 := g0.new 4 rfl
  have c5 := g0.new 5 rfl
  have hb : w1.heap.size < (w1.alloc (.cells #[.int .i64 (yr (u / 86400)), .int .i64 (mo (u / 86400)), .int .i64 (dy (u / 86400)), .int .i64 (u % 86400 / 3600), .int .i64 (u % 3600 / 60), .int .i64 (u % 60)] 82)).heap.size := by simp
  have kw := k1.trans g0.back; clear k1 g0
  have ht := tab_of kw HT.out
  go_wp2_with fail
  refine (split_any u _ (by omega) (by omega)).mono ?_
  rintro e w2 ⟨rfl, rfl⟩
  go_wp2_with fail
  generalize w1.alloc (.cells #[.int .i64 (yr (u / 86400)), .int .i64 (mo (u / 86400)), .int .i64 (dy (u / 86400)), .int .i64 (u % 86400 / 3600), .int .i64 (u % 3600 / 60), .int .i64 (u % 60)] 82) = W at *
  go_region_held3 (fun x => Kept W x ∧ x.cell? ⟨w1.heap.size, 0, none⟩ = some (.int .i64 (yr (u / 86400))) ∧ x.cell? ⟨w1.heap.size, 1, none⟩ = some (.int .i64 (mo (u / 86400))) ∧ x.cell? ⟨w1.heap.size, 2, none⟩ = some (.int .i64 (dy (u / 86400))) ∧ x.cell? ⟨w1.heap.size, 3, none⟩ = some (.int .i64 (u % 86400 / 3600)) ∧ x.cell? ⟨w1.heap.size, 4, none⟩ = some (.int .i64 (u % 3600 / 60)) ∧ x.cell? ⟨w1.heap.size, 5, none⟩ = some (.int .i64 (u % 60)) ∧ Tab x)
    (first | exact held6 (by assumption) (by assumption) hb | exact held6 ((Kept.refl _).alloc _) (by assumption) hb | assumption | exact ⟨(Kept.refl W).drew, c0, c1, c2, c3, c4, c5, ht⟩)
    (first | (go_at_call_of 57 (Value.int IntKind.i64 4); refine (digits_4 _ _ (by omega) (by omega) (by go_split_ands; assumption)).mono ?_; rintro e w' ⟨rfl, hk'⟩)
           | (go_at_call 57; refine (digits_2 _ _ (by omega) (by omega)).mono ?_; rintro e w' ⟨rfl, rfl⟩)
           | (go_at_call 58; refine (clock_any _ _ _ _ _ _ _ (by omega) (by omega) (by omega) (by omega) (by omega) (by omega)).mono ?_; rintro e w' ⟨rfl, hk'⟩)
           | (go_at_call 56; refine (wday_cal _ _ (by omega) (by omega)).mono ?_; rintro e w' ⟨rfl, rfl⟩)
           | (go_at_call_of 55 (Value.string ⟨#[83, 117, 110, 77, 111, 110, 84, 117, 101, 87, 101, 100, 84, 104, 117, 70, 114, 105, 83, 97, 116]⟩); refine (name_day _ _ (by omega) (by omega)).mono ?_; rintro e w' ⟨rfl, rfl⟩)
           | (go_at_call 55; refine (name_mon _ _ (by omega) (by omega)).mono ?_; rintro e w' ⟨rfl, rfl⟩)
           | (go_at_call 59; refine (offset_any _ _ (by omega) (by omega)).mono ?_; rintro e w' ⟨rfl, rfl⟩))
  have hK := (‹Kept W _ ∧ _›).1
  go_wp2_with fail
  refine (join_six _ _ _ _ _ _ _ (by simp only [ByteArray.size_append', ByteArray.size_mk', List.size_toArray, dl, cl, ol, hw3, show (nm monNames ((mo (u / 86400)).toNat - 1)).length = 3 from nm_mon _ (by omega)]; decide)).mono ?_
  rintro e w2 ⟨rfl, k2⟩
  go_wp2
  go_ret2
  exact ⟨HD.out, by simp [mtx], (kw.trans hK).trans k2⟩
theorem mail_off (t o : Int) (w : World) (h : o < -93599 ∨ 93599 < o) :
    Calls Tryz.prog 25 #[.int .i64 t, .int .i64 o] w fun e w' => e = .returned (.tuple #[.string ⟨#[]⟩, .int .i64 1]) ∧ w = w' := by
  rcases h with h | h
  · go_enter Tryz.func25, Tryz.ntmps25
    go_wp2
    go_ret2
    exact ⟨rfl, rfl⟩
  · have h' : decide (o < -93599) = false := decide_eq_false (by omega)
    go_enter Tryz.func25, Tryz.ntmps25
    go_wp2
    go_ret2
    exact ⟨rfl, rfl⟩
theorem mail_not (t o : Int) (w : World) (h0 : -93599 ≤ o) (h1 : o ≤ 93599) (t0 : -9223372036854775808 ≤ t) (t1 : t ≤ 9223372036854775807) (h : ¬ inCal (t + o)) :
    Calls Tryz.prog 25 #[.int .i64 t, .int .i64 o] w fun e w' => e = .returned (.tuple #[.string ⟨#[]⟩, .int .i64 1]) ∧ Kept w w' := by
  have d0 : decide (o < -93599) = false := decide_eq_false (by omega)
  have d1 : decide (93599 < o) = false := decide_eq_false (by omega)
  have hx : ∃ u, wrap64 (t + o) = u ∧ -9223372036854775808 ≤ u ∧ u ≤ 9223372036854775807 ∧ ¬ inCal u := by
    refine ⟨_, rfl, ?_⟩
    unfold inCal at h ⊢
    unfold wrap64
    omega
  obtain ⟨u, hu, u0, u1, hn⟩ := hx
  have HC := Lib.hid hn; clear hn h
  clear t0 t1 h0 h1
  go_enter Tryz.func25, Tryz.ntmps25
  go_wp2_with fail
  refine (at_not u _ u0 u1 HC.out).mono ?_
  rintro e w1 ⟨rfl, k1⟩
  go_wp2
  go_ret2
  exact ⟨rfl, k1.alloc _⟩
end Go.Proofs.YtjlpkgipdkjfhaaGreatDoor.Sm
