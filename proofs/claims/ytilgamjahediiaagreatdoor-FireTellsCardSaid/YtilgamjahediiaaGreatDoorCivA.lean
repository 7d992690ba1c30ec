/- Several texts of this seat, one behind the other. -/
import Derived.KernelRfl
import Derived.Test.YtilgamjahediiaaGreatDoorChecked
import Derived.Test.YtilgamjahediiaaGreatDoorKept
import Derived.WalkKit
import Derived.ProofKit
import Derived.Lib.Hide
/- Plain mathematics of the calendar (years from 1 on): leap years, months' lengths, days ahead of a year or a month, and that a day is told by its number. It speaks of no program. -/
namespace Go.Proofs.YtilgamjahediiaaGreatDoor.Civ

def leap (y : Int) : Bool := (y.tmod 4 == 0 && y.tmod 100 != 0) || y.tmod 400 == 0
def lp (y : Int) : Int := if leap y = true then 1 else 0
def dim (y m : Int) : Int :=
  if m = 1 then 31 else if m = 2 then 28 + lp y else if m = 3 then 31 else if m = 4 then 30 else if m = 5 then 31 else if m = 6 then 30
  else if m = 7 then 31 else if m = 8 then 31 else if m = 9 then 30 else if m = 10 then 31 else if m = 11 then 30 else if m = 12 then 31 else 0
def cum (y m : Int) : Int :=
  if m = 1 then 0 else if m = 2 then 31 else if m = 3 then 59 + lp y else if m = 4 then 90 + lp y else if m = 5 then 120 + lp y else if m = 6 then 151 + lp y
  else if m = 7 then 181 + lp y else if m = 8 then 212 + lp y else if m = 9 then 243 + lp y else if m = 10 then 273 + lp y else if m = 11 then 304 + lp y else if m = 12 then 334 + lp y else if m = 13 then 365 + lp y else 0
def dby (y : Int) : Int := 365 * (y - 1) + (y - 1) / 4 - (y - 1) / 100 + (y - 1) / 400
def ord (y m d : Int) : Int := dby y - 719162 + cum y m + d - 1
def okP (y m d : Int) : Prop := 1 ≤ y ∧ y ≤ 9999 ∧ 1 ≤ d ∧ d ≤ dim y m
def okB (y m d : Int) : Bool := decide (1 ≤ y ∧ y ≤ 9999 ∧ 1 ≤ d ∧ d ≤ dim y m)

theorem okB_iff (y m d : Int) : okB y m d = true ↔ (1 ≤ y ∧ y ≤ 9999 ∧ 1 ≤ d ∧ d ≤ dim y m) := by unfold okB; simp
theorem okB_no (y m d : Int) : okB y m d = false ↔ ¬ (1 ≤ y ∧ y ≤ 9999 ∧ 1 ≤ d ∧ d ≤ dim y m) := by unfold okB; simp

theorem lp_01 (y : Int) : 0 ≤ lp y ∧ lp y ≤ 1 := by unfold lp; split <;> omega
theorem lp_true {y : Int} (h : leap y = true) : lp y = 1 := by unfold lp; rw [if_pos h]
theorem lp_false {y : Int} (h : leap y = false) : lp y = 0 := by unfold lp; rw [h]; rfl
theorem leap_pos (y : Int) (h : 0 ≤ y) : leap y = true ↔ ((y % 4 = 0 ∧ y % 100 ≠ 0) ∨ y % 400 = 0) := by
  unfold leap
  rw [Int.tmod_eq_emod_of_nonneg h, Int.tmod_eq_emod_of_nonneg h, Int.tmod_eq_emod_of_nonneg h]
  simp
theorem lp_eq (y : Int) (h : 0 ≤ y) : lp y = if (y % 4 = 0 ∧ y % 100 ≠ 0) ∨ y % 400 = 0 then 1 else 0 := by
  unfold lp
  by_cases g : leap y = true
  · rw [if_pos g, if_pos ((leap_pos y h).1 g)]
  · rw [if_neg g, if_neg (fun k => g ((leap_pos y h).2 k))]
theorem leap_400 (y : Int) (h : 0 ≤ y) : leap (y + 400) = leap y := by
  rw [Bool.eq_iff_iff, leap_pos y h, leap_pos (y + 400) (by omega)]; omega

theorem dby_succ (y : Int) (h : 1 ≤ y) : dby (y + 1) = dby y + 365 + lp y := by
  rw [lp_eq y (by omega)]; unfold dby; split <;> omega
theorem dby_bd (y : Int) (h0 : 1 ≤ y) (h : y ≤ 10001) : 0 ≤ dby y ∧ dby y ≤ 3652790 := by unfold dby; omega
theorem dby_step (y : Int) (h : 1 ≤ y) : dby y + 365 ≤ dby (y + 1) := by have := dby_succ y h; have := lp_01 y; omega
theorem dby_mono_nat (y : Int) (h : 1 ≤ y) (k : Nat) : dby y + 365 * k ≤ dby (y + k) := by
  induction k with
  | zero => simp
  | succ k ih => have := dby_step (y + k) (by omega); rw [show y + ((k + 1 : Nat) : Int) = y + k + 1 from by omega]; omega
theorem dby_mono (a b : Int) (h0 : 1 ≤ a) (h : a ≤ b) : dby a + 365 * (b - a) ≤ dby b := by
  obtain ⟨k, hk⟩ := Int.eq_ofNat_of_zero_le (show 0 ≤ b - a by omega)
  have := dby_mono_nat a h0 k
  rw [show b = a + k from by omega, show a + (k : Int) - a = k from by omega]; exact this
theorem dby_1 : dby 1 = 0 := by decide +kernel
theorem dby_10000 : dby 10000 = 3652059 := by decide +kernel
theorem dby_400 (y : Int) : dby (y + 400) = dby y + 146097 := by unfold dby; omega

theorem month_cases (m : Int) (h1 : 1 ≤ m) (h2 : m ≤ 12) : m = 1 ∨ m = 2 ∨ m = 3 ∨ m = 4 ∨ m = 5 ∨ m = 6 ∨ m = 7 ∨ m = 8 ∨ m = 9 ∨ m = 10 ∨ m = 11 ∨ m = 12 := by omega
theorem dim_in (y m : Int) (h1 : 1 ≤ m) (h2 : m ≤ 12) : 28 ≤ dim y m ∧ dim y m ≤ 31 := by
  have := lp_01 y
  rcases month_cases m h1 h2 with rfl | rfl | rfl | rfl | rfl | rfl | rfl | rfl | rfl | rfl | rfl | rfl <;> simp [dim] <;> omega
theorem dim_out (y m : Int) (h : m < 1 ∨ 12 < m) : dim y m = 0 := by
  unfold dim; repeat (rw [if_neg (by omega)])
theorem dim_bd (y m : Int) : 0 ≤ dim y m ∧ dim y m ≤ 31 := by
  by_cases h : 1 ≤ m ∧ m ≤ 12
  · have := dim_in y m h.1 h.2; omega
  · rw [dim_out y m (by omega)]; omega
theorem cum_succ (y m : Int) (h1 : 1 ≤ m) (h2 : m ≤ 12) : cum y (m + 1) = cum y m + dim y m := by
  have := lp_01 y
  rcases month_cases m h1 h2 with rfl | rfl | rfl | rfl | rfl | rfl | rfl | rfl | rfl | rfl | rfl | rfl <;> simp [cum, dim] <;> omega
theorem cum_bd (y m : Int) (h1 : 1 ≤ m) (h2 : m ≤ 13) : 0 ≤ cum y m ∧ cum y m ≤ 365 + lp y := by
  have := lp_01 y
  rcases (show m = 13 ∨ m ≤ 12 by omega) with rfl | h
  · simp [cum]; omega
  · rcases month_cases m h1 h with rfl | rfl | rfl | rfl | rfl | rfl | rfl | rfl | rfl | rfl | rfl | rfl <;> simp [cum] <;> omega
theorem cum_1 (y : Int) : cum y 1 = 0 := rfl
theorem cum_13 (y : Int) : cum y 13 = 365 + lp y := rfl
theorem cum_mono_nat (y m : Int) (h : 1 ≤ m) (k : Nat) (hk : m + k ≤ 13) : cum y m ≤ cum y (m + k) := by
  induction k with
  | zero => simp
  | succ k ih =>
    have := cum_succ y (m + k) (by omega) (by omega); have := dim_bd y (m + k); have := ih (by omega)
    rw [show m + ((k + 1 : Nat) : Int) = m + k + 1 from by omega]; omega
theorem cum_mono (y a b : Int) (h0 : 1 ≤ a) (h : a ≤ b) (h13 : b ≤ 13) : cum y a ≤ cum y b := by
  obtain ⟨k, hk⟩ := Int.eq_ofNat_of_zero_le (show 0 ≤ b - a by omega)
  have := cum_mono_nat y a h0 k (by omega)
  rw [show b = a + k from by omega]; exact this

theorem ok_month {y m d : Int} (h : 1 ≤ d) (h' : d ≤ dim y m) : 1 ≤ m ∧ m ≤ 12 := by
  by_cases g : 1 ≤ m ∧ m ≤ 12
  · exact g
  · rw [dim_out y m (by omega)] at h'; omega
theorem yd_bd {y m d : Int} (h : okP y m d) : 1 ≤ cum y m + d ∧ cum y m + d ≤ 365 + lp y := by
  obtain ⟨h1, h2, h3, h4⟩ := h
  obtain ⟨m1, m2⟩ := ok_month h3 h4
  have := cum_succ y m m1 m2; have := cum_mono y (m + 1) 13 (by omega) (by omega) (by omega); rw [cum_13] at this
  have := cum_bd y m m1 (by omega); omega

/-- A day is told by its number. -/
theorem ord_inj {y m d y' m' d' : Int} (h : okP y m d) (h' : okP y' m' d') (e : ord y m d = ord y' m' d') : y = y' ∧ m = m' ∧ d = d' := by
  have b := yd_bd h; have b' := yd_bd h'
  obtain ⟨h1, h2, h3, h4⟩ := h; obtain ⟨k1, k2, k3, k4⟩ := h'
  unfold ord at e
  have hy : y = y' := by
    rcases (show y < y' ∨ y = y' ∨ y' < y by omega) with g | g | g
    · have := dby_mono (y + 1) y' (by omega) (by omega); have := dby_succ y h1; omega
    · exact g
    · have := dby_mono (y' + 1) y (by omega) (by omega); have := dby_succ y' k1; omega
  subst hy
  obtain ⟨m1, m2⟩ := ok_month h3 h4; obtain ⟨n1, n2⟩ := ok_month k3 k4
  have hm : m = m' := by
    rcases (show m < m' ∨ m = m' ∨ m' < m by omega) with g | g | g
    · have := cum_mono y (m + 1) m' (by omega) (by omega) (by omega); have := cum_succ y m m1 m2; omega
    · exact g
    · have := cum_mono y (m' + 1) m (by omega) (by omega) (by omega); have := cum_succ y m' n1 n2; omega
  subst hm
  exact ⟨rfl, rfl, by omega⟩
theorem ord_bd {y m d : Int} (h : okP y m d) : -719162 ≤ ord y m d ∧ ord y m d ≤ 2932896 := by
  have b := yd_bd h
  obtain ⟨h1, h2, h3, h4⟩ := h
  have := dby_mono 1 y (by omega) h1; rw [dby_1] at this
  have := dby_mono (y + 1) 10000 (by omega) (by omega); rw [dby_10000] at this; have := dby_succ y h1
  unfold ord; omega

/-- The guess of a year by the mean length. -/
theorem guess_lo (l : Int) (h : 0 ≤ l) : dby (l * 400 / 146097 + 1) ≤ l := by
  generalize hq : l * 400 / 146097 = q
  have q0 : 146097 * q ≤ l * 400 := by omega
  have q1 : 0 ≤ q := by omega
  unfold dby; rw [show q + 1 - 1 = q from by omega]
  have e1 : q / 100 = q / 4 / 25 := by omega
  have e2 : q / 400 = q / 4 / 25 / 4 := by omega
  rw [e1, e2]
  clear e1 e2 hq
  generalize hu : q / 4 = u
  generalize hv : u / 25 = v
  generalize hx : v / 4 = x
  omega
theorem guess_hi (l : Int) : l < dby (l * 400 / 146097 + 3) := by
  generalize hq : l * 400 / 146097 = q
  have q0 : l * 400 < 146097 * (q + 1) := by omega
  unfold dby; rw [show q + 3 - 1 = q + 2 from by omega]
  omega
end Go.Proofs.YtilgamjahediiaaGreatDoor.Civ
/- What package civil's functions, and the document's own answers for it, come to, call by call (contracts): leap years and months' lengths. -/
namespace Go.Proofs.YtilgamjahediiaaGreatDoor
open Go.ChangeShapes Go.WideShapes Go.ChangeAt Go.RowKit
open Civ

theorem ret_int {k : IntKind} {a b : Int} (h : a = b) : Ending.returned (.int k a) = .returned (.int k b) := by rw [h]
theorem ret_bool {a b : Bool} (h : a = b) : Ending.returned (.bool a) = .returned (.bool b) := by rw [h]

set_option maxHeartbeats 400000 in
theorem leap_any (y : Int) (w : World) :
    Calls Tryz.prog 120 #[.int .i64 y] w fun e w' => e = .returned (.bool (leap y)) ∧ w = w' := by
  go_enter Tryz.func120, Tryz.ntmps120
  go_wp2
  all_goals (go_ret; exact ⟨ret_bool (by simp [leap, *]), rfl⟩)
theorem leap_yes (y : Int) (w : World) (h : leap y = true) :
    Calls Tryz.prog 120 #[.int .i64 y] w fun e w' => e = .returned (.bool true) ∧ w = w' := by
  have := leap_any y w; rwa [h] at this
theorem leap_no (y : Int) (w : World) (h : leap y = false) :
    Calls Tryz.prog 120 #[.int .i64 y] w fun e w' => e = .returned (.bool false) ∧ w = w' := by
  have := leap_any y w; rwa [h] at this

/-- The array of the months' lengths. -/
def lens (y : Int) : Array Value := #[.int .i64 0, .int .i64 31, .int .i64 (28 + lp y), .int .i64 31, .int .i64 30, .int .i64 31, .int .i64 30, .int .i64 31, .int .i64 31, .int .i64 30, .int .i64 31, .int .i64 30, .int .i64 31]
set_option maxHeartbeats 1000000 in
theorem lengths_yes (y : Int) (w : World) (h : leap y = true) :
    Calls Tryz.prog 113 #[.int .i64 y] w fun e w' => e = .returned (.agg (lens y)) ∧ Kept w w' := by
  have hl : lens y = #[.int .i64 0, .int .i64 31, .int .i64 29, .int .i64 31, .int .i64 30, .int .i64 31, .int .i64 30, .int .i64 31, .int .i64 31, .int .i64 30, .int .i64 31, .int .i64 30, .int .i64 31] := by
    unfold lens; rw [lp_true h]; rfl
  rw [hl]; clear hl
  have H := Lib.hid h; clear h
  go_enter Tryz.func113, Tryz.ntmps113
  go_wp2_with (first | (go_at_call 120; refine (leap_yes _ _ H.out).mono ?_; rintro e w' ⟨rfl, rfl⟩) | go_in)
  go_end0
  go_wp2
  exact bodyPost_ret (v := .agg #[.int .i64 0, .int .i64 31, .int .i64 29, .int .i64 31, .int .i64 30, .int .i64 31, .int .i64 30, .int .i64 31, .int .i64 31, .int .i64 30, .int .i64 31, .int .i64 30, .int .i64 31]) (by simp [results, Tryz.results113, go_sem]) rfl
    ⟨rfl, (((Kept.refl _).alloc _).alloc _).alloc _⟩
set_option maxHeartbeats 1000000 in
theorem lengths_no (y : Int) (w : World) (h : leap y = false) :
    Calls Tryz.prog 113 #[.int .i64 y] w fun e w' => e = .returned (.agg (lens y)) ∧ Kept w w' := by
  have hl : lens y = #[.int .i64 0, .int .i64 31, .int .i64 28, .int .i64 31, .int .i64 30, .int .i64 31, .int .i64 30, .int .i64 31, .int .i64 31, .int .i64 30, .int .i64 31, .int .i64 30, .int .i64 31] := by
    unfold lens; rw [lp_false h]; rfl
  rw [hl]; clear hl
  have H := Lib.hid h; clear h
  go_enter Tryz.func113, Tryz.ntmps113
  go_wp2_with (first | (go_at_call 120; refine (leap_no _ _ H.out).mono ?_; rintro e w' ⟨rfl, rfl⟩) | go_in)
  go_end0
  go_wp2
  exact bodyPost_ret (v := .agg #[.int .i64 0, .int .i64 31, .int .i64 28, .int .i64 31, .int .i64 30, .int .i64 31, .int .i64 30, .int .i64 31, .int .i64 31, .int .i64 30, .int .i64 31, .int .i64 30, .int .i64 31]) (by simp [results, Tryz.results113, go_sem]) rfl
    ⟨rfl, (((Kept.refl _).alloc _).alloc _).alloc _⟩
theorem lengths_any (y : Int) (w : World) :
    Calls Tryz.prog 113 #[.int .i64 y] w fun e w' => e = .returned (.agg (lens y)) ∧ Kept w w' := by
  cases h : leap y
  · exact lengths_no y w h
  · exact lengths_yes y w h
theorem lengths_lit (y : Int) (w : World) :
    Calls Tryz.prog 113 #[.int .i64 y] w fun e w' => e = .returned (.agg #[.int .i64 0, .int .i64 31, .int .i64 (28 + lp y), .int .i64 31, .int .i64 30, .int .i64 31, .int .i64 30, .int .i64 31, .int .i64 31, .int .i64 30, .int .i64 31, .int .i64 30, .int .i64 31]) ∧ Kept w w' := lengths_any y w

/-- An array by value, whose elements are integers, indexed within its length. -/
theorem run_index_arr {P : Program} (w : World) (t e : TypeId) (n : Nat) (cs : Array Value) (k : IntKind) (i : Int) {kk : IntKind} (v : Value)
    (h : P.underlying t = some (.array n e)) (he : P.underlying e = some (.int kk)) (hi : (P.info? e).isSome = true) (hc : P.cellsOf e = 1)
    (h0 : 0 ≤ i) (h1 : i < n) (hv : cs[i.toNat]? = some v) : (Instr.index t (.agg cs) (.int k i)).run P w = .ok v w := by
  obtain ⟨inf, hinf⟩ := Option.isSome_iff_exists.mp hi
  simp [Instr.index, run_underlying h, asIntOf, h0, h1, run_sizeOf _ hinf, hc, part, isAgg, run_underlying he, hv, go_sem]
theorem lens_at (y m : Int) (h1 : 1 ≤ m) (h2 : m ≤ 12) : (lens y)[m.toNat]? = some (.int .i64 (dim y m)) := by
  rcases month_cases m h1 h2 with rfl | rfl | rfl | rfl | rfl | rfl | rfl | rfl | rfl | rfl | rfl | rfl <;> simp [lens, dim]
theorem cells_int : Tryz.prog.cellsOf 3 = 1 := by kernel_rfl

set_option maxHeartbeats 1000000 in
theorem days_any (y m : Int) (w : World) :
    Calls Tryz.prog 117 #[.int .i64 y, .int .i64 m] w fun e w' => e = .returned (.int .i64 (dim y m)) ∧ Kept w w' := by
  by_cases h : 1 ≤ m ∧ m ≤ 12
  · obtain ⟨h1, h2⟩ := h
    have hx := fun W => run_index_arr (P := Tryz.prog) W 118 3 13 (lens y) .i64 m _ Tryz.underlying118 Tryz.underlying3 (by kernel_rfl) cells_int (by omega) (by omega) (lens_at y m h1 h2)
    go_enter Tryz.func117, Tryz.ntmps117
    go_wp2_with (go_at_call 113; refine (lengths_any _ _).mono ?_; rintro e w' ⟨rfl, hg⟩)
    go_ret
    exact ⟨rfl, hg⟩
  · have hd := Lib.hid (dim_out y m (by omega))
    rcases (show m < 1 ∨ (¬ m < 1 ∧ 12 < m) by omega) with h1 | ⟨h1, h2⟩
    all_goals
      clear h
      go_enter Tryz.func117, Tryz.ntmps117
      go_wp2_with fail
      go_ret
      exact ⟨ret_int hd.out.symm, Kept.refl _⟩

set_option maxHeartbeats 1000000 in
theorem isDay_any (y m d : Int) (w : World) :
    Calls Tryz.prog 98 #[.int .i64 y, .int .i64 m, .int .i64 d] w fun e w' => e = .returned (.bool (okB y m d)) ∧ Kept w w' := by
  by_cases h1 : 1 ≤ y
  · by_cases h2 : y ≤ 9999
    · by_cases h3 : 1 ≤ d
      · have hk := Lib.hid (show okB y m d = decide (d ≤ dim y m) from by simp [okB, h1, h2, h3])
        go_enter Tryz.func98, Tryz.ntmps98
        go_wp2_with (go_at_call 117; refine (days_any _ _ _).mono ?_; rintro e w' ⟨rfl, hg⟩)
        go_ret
        exact ⟨ret_bool hk.out.symm, hg⟩
      · have hk := Lib.hid (show okB y m d = false from by simp [okB, h3])
        go_enter Tryz.func98, Tryz.ntmps98
        go_wp2_with fail
        go_ret
        exact ⟨ret_bool hk.out.symm, Kept.refl _⟩
    · have hk := Lib.hid (show okB y m d = false from by simp [okB, h2])
      go_enter Tryz.func98, Tryz.ntmps98
      go_wp2_with fail
      go_ret
      exact ⟨ret_bool hk.out.symm, Kept.refl _⟩
  · have hk := Lib.hid (show okB y m d = false from by simp [okB, h1])
    go_enter Tryz.func98, Tryz.ntmps98
    go_wp2_with fail
    go_ret
    exact ⟨ret_bool hk.out.symm, Kept.refl _⟩

set_option maxHeartbeats 400000 in
theorem daysAhead_any (y : Int) (w : World) (h1 : 1 ≤ y) (h2 : y ≤ 10001) :
    Calls Tryz.prog 86 #[.int .i64 y] w fun e w' => e = .returned (.int .i64 (dby y)) ∧ w = w' := by
  go_enter Tryz.func86, Tryz.ntmps86
  go_wp2
  go_ret
  exact ⟨ret_int (by unfold dby; omega), rfl⟩
end Go.Proofs.YtilgamjahediiaaGreatDoor
/- What package civil's functions come to, call by call (contracts): days' numbers, days of the year and of the week, a number's day. -/
namespace Go.Proofs.YtilgamjahediiaaGreatDoor
open Go.ChangeShapes Go.WideShapes Go.ChangeAt Go.RowKit
open Civ
def la (y : Int) (j : Nat) : Int := if j = 0 then 0 else dim y j
def cs (y : Int) (j : Nat) : Int := if j = 0 then 0 else cum y j
theorem la_bd (y : Int) (j : Nat) : 0 ≤ la y j ∧ la y j ≤ 31 := by
  unfold la; split
  · omega
  · exact dim_bd y j
theorem cs_bd (y : Int) (j : Nat) (h : j ≤ 13) : 0 ≤ cs y j ∧ cs y j ≤ 366 := by
  have := lp_01 y
  unfold cs; split
  · omega
  · have := cum_bd y j (by omega) (by omega); omega
theorem cs_succ (y : Int) (j : Nat) (h : j ≤ 12) : cs y (j + 1) = cs y j + la y j := by
  unfold cs la
  by_cases h0 : j = 0
  · subst h0; rfl
  · rw [if_neg (by omega), if_neg h0, if_neg h0, show ((j + 1 : Nat) : Int) = (j : Int) + 1 from by omega]; exact cum_succ y j (by omega) (by omega)
theorem lens_cell (y : Int) (w : World) (t : TypeId) (j : Nat) (h : j < 13) : (w.alloc (.cells #[.int .i64 0, .int .i64 31, .int .i64 (28 + lp y), .int .i64 31, .int .i64 30, .int .i64 31, .int .i64 30, .int .i64 31, .int .i64 31, .int .i64 30, .int .i64 31, .int .i64 30, .int .i64 31] t)).cell? ⟨w.heap.size, j, none⟩ = some (.int .i64 (la y j)) := by
  have : j = 0 ∨ j = 1 ∨ j = 2 ∨ j = 3 ∨ j = 4 ∨ j = 5 ∨ j = 6 ∨ j = 7 ∨ j = 8 ∨ j = 9 ∨ j = 10 ∨ j = 11 ∨ j = 12 := by omega
  rcases this with rfl | rfl | rfl | rfl | rfl | rfl | rfl | rfl | rfl | rfl | rfl | rfl | rfl <;> simp [la, dim]
set_option maxHeartbeats 1000000 in
theorem doy_any (y m d : Int) (w : World) (h1 : 1 ≤ m) (h2 : m ≤ 12) (h3 : 1 ≤ d) (h4 : d ≤ 31) :
    Calls Tryz.prog 99 #[.int .i64 y, .int .i64 m, .int .i64 d] w fun e w' => e = .returned (.int .i64 (cum y m + d)) ∧ Kept w w' := by
  obtain ⟨k, rfl⟩ := Int.eq_ofNat_of_zero_le (show 0 ≤ m by omega)
  have hk : k ≤ 13 := by omega
  have hk' : (k : Int) ≤ 13 := by omega
  have hk0 : (0 : Int) ≤ (k : Int) := by omega
  go_enter Tryz.func99, Tryz.ntmps99
  go_wp2_with (go_at_call 113; refine (lengths_lit _ _).mono ?_; rintro e w' ⟨rfl, hg⟩)
  have hcell := fun j h => lens_cell y w' 118 j h
  have hG : Kept w (w'.alloc (.cells #[.int .i64 0, .int .i64 31, .int .i64 (28 + lp y), .int .i64 31, .int .i64 30, .int .i64 31, .int .i64 30, .int .i64 31, .int .i64 31, .int .i64 30, .int .i64 31, .int .i64 30, .int .i64 31] 118)) := hg.alloc _
  generalize (w'.alloc (.cells #[.int .i64 0, .int .i64 31, .int .i64 (28 + lp y), .int .i64 31, .int .i64 30, .int .i64 31, .int .i64 30, .int .i64 31, .int .i64 31, .int .i64 30, .int .i64 31, .int .i64 30, .int .i64 31] 118)) = W at hcell hG ⊢
  have HC := Lib.hid hcell; clear hcell
  go_loop [2, 15] (fun a i => ∃ j : Nat, j ≤ k ∧ i = .int .i64 j ∧ a = .int .i64 (d + cs y j)) (fun _ i => k - (intOf i).toNat)
  case atStart => exact ⟨0, Nat.zero_le _, rfl, by simp [cs]⟩
  case round =>
    obtain ⟨j, hj, rfl, rfl⟩ := hrel
    have hb := cs_bd y j (by omega)
    have hl := la_bd y j
    by_cases hlt : j < k
    · have hc := HC.out j (by omega)
      have HS := Lib.hid (cs_succ y j (by omega))
      go_wp2
      go_round
      case rel => exact ⟨j + 1, by omega, by go_num, by rw [HS.out]; go_num⟩
      case measure => simp [intOf]; omega
    · go_wp2
      go_ret
      exact ⟨ret_int (by rw [show j = k from by omega]; unfold cs; rw [if_neg (by omega)]; omega), hG⟩
def MonthPost (y l : Int) (w : World) (e : Ending) (w' : World) : Prop := ∃ m d : Int, e = .returned (.tuple #[.int .i64 m, .int .i64 d]) ∧ 1 ≤ d ∧ d ≤ dim y m ∧ cum y m + d = l + 1 ∧ Kept w w'
set_option maxHeartbeats 1000000 in
theorem monthOf_any (y l : Int) (w : World) (h1 : 0 ≤ l) (h2 : l < 365 + lp y) :
    Calls Tryz.prog 85 #[.int .i64 y, .int .i64 l] w (MonthPost y l w) := by
  have hlp := lp_01 y
  have hl3 : l ≤ 365 := by omega
  go_enter Tryz.func85, Tryz.ntmps85
  go_wp2_with (go_at_call 113; refine (lengths_lit _ _).mono ?_; rintro e w' ⟨rfl, hg⟩)
  have hcell := fun j h => lens_cell y w' 118 j h
  have hG : Kept w (w'.alloc (.cells #[.int .i64 0, .int .i64 31, .int .i64 (28 + lp y), .int .i64 31, .int .i64 30, .int .i64 31, .int .i64 30, .int .i64 31, .int .i64 31, .int .i64 30, .int .i64 31, .int .i64 30, .int .i64 31] 118)) := hg.alloc _
  generalize (w'.alloc (.cells #[.int .i64 0, .int .i64 31, .int .i64 (28 + lp y), .int .i64 31, .int .i64 30, .int .i64 31, .int .i64 30, .int .i64 31, .int .i64 31, .int .i64 30, .int .i64 31, .int .i64 30, .int .i64 31] 118)) = W at hcell hG ⊢
  have HC := Lib.hid hcell; clear hcell
  go_loop [1, 4] (fun r i => ∃ m : Nat, 1 ≤ m ∧ m ≤ 12 ∧ i = .int .i64 m ∧ r = .int .i64 (l - cum y m) ∧ cum y m ≤ l) (fun _ i => 12 - (intOf i).toNat)
  case atStart => exact ⟨1, by omega, by omega, rfl, by simp [cum], by simp [cum]; omega⟩
  case round =>
    obtain ⟨m, hm1, hm2, rfl, rfl, hle⟩ := hrel
    have cb := cum_bd y m (by omega) (by omega)
    have db := dim_bd y m
    have hc : W.cell? ⟨w'.heap.size, m, none⟩ = some (.int .i64 (dim y m)) := by
      have := HC.out m (by omega); unfold la at this; rwa [if_neg (by omega)] at this
    have CS := Lib.hid (cum_succ y m (by omega) (by omega))
    by_cases hm : m < 12
    · by_cases hd : dim y m ≤ l - cum y m
      · go_wp2
        go_round
        case rel => exact ⟨m + 1, by omega, by omega, by go_num, by rw [show ((m + 1 : Nat) : Int) = m + 1 from by omega, CS.out]; go_num, by rw [show ((m + 1 : Nat) : Int) = m + 1 from by omega, CS.out]; omega⟩
        case measure => simp [intOf]; omega
      · go_wp2
        go_ret2
        exact ⟨_, _, rfl, by omega, by omega, by omega, hG⟩
    · go_wp2
      go_ret2
      have e12 : m = 12 := by omega
      subst e12
      have c13 := CS.out
      rw [show ((12 : Nat) : Int) + 1 = 13 from rfl, cum_13] at c13
      exact ⟨_, _, rfl, by omega, by omega, by omega, hG⟩
def YearPost (l : Int) (w : World) (e : Ending) (w' : World) : Prop := ∃ y : Int, e = .returned (.int .i64 y) ∧ 1 ≤ y ∧ y ≤ 9999 ∧ dby y ≤ l ∧ l < dby (y + 1) ∧ w = w'
set_option maxHeartbeats 400000 in
theorem yearOf_any (l : Int) (w : World) (h1 : 0 ≤ l) (h2 : l ≤ 3652058) :
    Calls Tryz.prog 84 #[.int .i64 l] w (YearPost l w) := by
  have g1 := guess_lo l h1
  have g2 := guess_hi l
  have q1 : 0 ≤ l * 400 / 146097 := by omega
  have q2 : l * 400 / 146097 ≤ 9998 := by omega
  by_cases hc : dby (l * 400 / 146097 + 1 + 1) ≤ l
  · have hq9 : l * 400 / 146097 + 2 ≤ 9999 := by
      rcases (show l * 400 / 146097 + 2 ≤ 9999 ∨ l * 400 / 146097 = 9998 by omega) with h | h
      · exact h
      · rw [h, show (9998 : Int) + 1 + 1 = 10000 from rfl, dby_10000] at hc; omega
    go_enter Tryz.func84, Tryz.ntmps84
    go_wp2_with (go_at_call 86; refine (daysAhead_any _ _ (by omega) (by omega)).mono ?_; rintro e w' ⟨rfl, rfl⟩)
    go_ret
    exact ⟨_, rfl, by omega, by omega, hc, by rw [show l * 400 / 146097 + 1 + 1 + 1 = l * 400 / 146097 + 3 from by omega]; exact g2, rfl⟩
  · go_enter Tryz.func84, Tryz.ntmps84
    go_wp2_with (go_at_call 86; refine (daysAhead_any _ _ (by omega) (by omega)).mono ?_; rintro e w' ⟨rfl, rfl⟩)
    go_ret
    exact ⟨_, rfl, by omega, by omega, g1, by omega, rfl⟩

set_option maxHeartbeats 400000 in
theorem ord_yes (y m d : Int) (w : World) (h : okP y m d) :
    Calls Tryz.prog 75 #[.int .i64 y, .int .i64 m, .int .i64 d] w fun e w' => e = .returned (.tuple #[.int .i64 (ord y m d), .int .i64 0]) ∧ Kept w w' := by
  have hk := Lib.hid ((okB_iff y m d).2 h)
  have hb := dby_bd y h.1 (by have := h.2.1; omega)
  have hyb := yd_bd h
  have hlp := lp_01 y
  obtain ⟨h1, h2, h3, h4⟩ := h
  obtain ⟨m1, m2⟩ := ok_month h3 h4
  have hdm := dim_bd y m
  go_enter Tryz.func75, Tryz.ntmps75
  go_wp2_with fail
  refine (isDay_any _ _ _ _).mono ?_
  rintro e w1 ⟨rfl, hg1⟩
  rw [hk.out]
  go_wp2_with (first | (go_at_call 86; refine (daysAhead_any _ _ (by omega) (by omega)).mono ?_; rintro e w' ⟨rfl, rfl⟩) | (go_at_call 99; refine (doy_any _ _ _ _ (by omega) (by omega) (by omega) (by omega)).mono ?_; rintro e w2 ⟨rfl, hg2⟩))
  go_ret2
  exact ⟨by unfold ord; go_num, Kept.trans hg1 hg2⟩
theorem ord_not (y m d : Int) (w : World) (h : ¬ okP y m d) :
    Calls Tryz.prog 75 #[.int .i64 y, .int .i64 m, .int .i64 d] w fun e w' => e = .returned (.tuple #[.int .i64 0, .int .i64 1]) ∧ Kept w w' := by
  have hk := Lib.hid ((okB_no y m d).2 h)
  clear h
  go_enter Tryz.func75, Tryz.ntmps75
  go_wp2_with fail
  refine (isDay_any _ _ _ _).mono ?_
  rintro e w1 ⟨rfl, hg1⟩
  rw [hk.out]
  go_wp2
  go_ret2
  exact ⟨rfl, hg1⟩
def wd (n : Int) : Int := if n < -1099511627776 ∨ 1099511627776 < n then 0 else (n + 4) % 7
theorem tmod7 (n : Int) : -7 < n.tmod 7 ∧ n.tmod 7 < 7 ∧ n = 7 * n.tdiv 7 + n.tmod 7 :=
  ⟨by have h := Int.tmod_lt_of_pos (-n) (show (0 : Int) < 7 by omega); rw [Int.neg_tmod] at h; omega, Int.tmod_lt_of_pos n (by omega), (Int.mul_tdiv_add_tmod n 7).symm⟩
set_option maxHeartbeats 400000 in
theorem wday_any (n : Int) (w : World) :
    Calls Tryz.prog 79 #[.int .i64 n] w fun e w' => e = .returned (.int .i64 (wd n)) ∧ w = w' := by
  obtain ⟨t1, t2, t3⟩ := tmod7 n
  have T3 := Lib.hid t3; clear t3
  by_cases h1 : n < -1099511627776
  · have hw := Lib.hid (show wd n = 0 from by unfold wd; rw [if_pos (Or.inl h1)])
    go_enter Tryz.func79, Tryz.ntmps79
    go_wp2
    go_ret
    exact ⟨ret_int hw.out.symm, rfl⟩
  · by_cases h2 : 1099511627776 < n
    · have hw := Lib.hid (show wd n = 0 from by unfold wd; rw [if_pos (Or.inr h2)])
      go_enter Tryz.func79, Tryz.ntmps79
      go_wp2
      go_ret
      exact ⟨ret_int hw.out.symm, rfl⟩
    · have hw := Lib.hid (show wd n = (n + 4) % 7 from by unfold wd; rw [if_neg (by omega)])
      go_enter Tryz.func79, Tryz.ntmps79
      go_wp2
      go_ret
      exact ⟨ret_int (by rw [hw.out]; have := T3.out; omega), rfl⟩
def DatePost (n : Int) (w : World) (e : Ending) (w' : World) : Prop := ∃ y m d : Int, e = .returned (.tuple #[.int .i64 y, .int .i64 m, .int .i64 d, .int .i64 0]) ∧ okP y m d ∧ ord y m d = n ∧ Kept w w'
set_option maxHeartbeats 1000000 in
theorem date_yes (n : Int) (w : World) (h1 : -719162 ≤ n) (h2 : n ≤ 2932896) :
    Calls Tryz.prog 57 #[.int .i64 n] w (DatePost n w) := by
  go_enter Tryz.func57, Tryz.ntmps57
  go_wp2_with fail
  refine (yearOf_any _ _ (by omega) (by omega)).mono ?_
  rintro e w1 ⟨y, rfl, y1, y2, y3, y4, rfl⟩
  have hb := dby_bd y y1 (by omega)
  have hs := dby_succ y y1
  have hy4 : n - -719162 - dby y < 365 + lp y := by omega
  clear hs y4
  go_wp2_with fail
  refine (daysAhead_any _ _ (by omega) (by omega)).mono ?_
  rintro e w1 ⟨rfl, rfl⟩
  go_wp2_with fail
  refine (monthOf_any _ _ _ (by omega) (by omega)).mono ?_
  rintro e w1 ⟨m, d, rfl, d1, d2, hcd, hg⟩
  have HC := Lib.hid hcd; clear hcd
  go_wp2
  exact bodyPost_ret (v := .tuple #[.int .i64 y, .int .i64 m, .int .i64 d, .int .i64 0]) (by simp [results, Tryz.results57, go_sem]) rfl
    ⟨y, m, d, rfl, ⟨y1, y2, d1, d2⟩, by have := HC.out; unfold ord; omega, hg⟩
theorem date_not (n : Int) (w : World) (h : n < -719162 ∨ 2932896 < n) :
    Calls Tryz.prog 57 #[.int .i64 n] w fun e w' => e = .returned (.tuple #[.int .i64 0, .int .i64 0, .int .i64 0, .int .i64 1]) ∧ w = w' := by
  rcases h with h | h
  · go_enter Tryz.func57, Tryz.ntmps57
    go_wp2
    exact bodyPost_ret (v := .tuple #[.int .i64 0, .int .i64 0, .int .i64 0, .int .i64 1]) (by simp [results, Tryz.results57, go_sem]) rfl ⟨rfl, rfl⟩
  · have h' : ¬ n < -719162 := by omega
    go_enter Tryz.func57, Tryz.ntmps57
    go_wp2
    exact bodyPost_ret (v := .tuple #[.int .i64 0, .int .i64 0, .int .i64 0, .int .i64 1]) (by simp [results, Tryz.results57, go_sem]) rfl ⟨rfl, rfl⟩
end Go.Proofs.YtilgamjahediiaaGreatDoor
/- What the document's own answers for package civil come to, call by call (contracts). -/
namespace Go.Proofs.YtilgamjahediiaaGreatDoor
open Go.ChangeShapes Go.WideShapes Go.ChangeAt Go.RowKit
open Civ
/-! ### The document's own answers -/
set_option maxHeartbeats 400000 in
theorem rleap_any (y : Int) (w : World) :
    Calls Tryz.prog 115 #[.int .i64 y] w fun e w' => e = .returned (.bool (leap y)) ∧ w = w' := by
  go_enter Tryz.func115, Tryz.ntmps115
  go_wp2
  all_goals (go_ret; exact ⟨ret_bool (by simp [leap, *]), rfl⟩)
set_option maxHeartbeats 1000000 in
theorem rdays_any (y m : Int) (w : World) :
    Calls Tryz.prog 90 #[.int .i64 y, .int .i64 m] w fun e w' => e = .returned (.int .i64 (dim y m)) ∧ w = w' := by
  by_cases h : 1 ≤ m ∧ m ≤ 12
  · rcases month_cases m h.1 h.2 with rfl | rfl | rfl | rfl | rfl | rfl | rfl | rfl | rfl | rfl | rfl | rfl
    case inr.inl =>
      clear h
      have hd : Hid (dim y 2 = 28 + lp y) := Lib.hid rfl
      cases hl : leap y
      · have H := Lib.hid hl; clear hl
        go_enter Tryz.func90, Tryz.ntmps90
        go_wp2_with (go_at_call 115; refine (rleap_any _ _).mono ?_; rintro e w' ⟨rfl, rfl⟩; rw [H.out])
        go_ret
        exact ⟨ret_int (by rw [hd.out, lp_false H.out]; rfl), rfl⟩
      · have H := Lib.hid hl; clear hl
        go_enter Tryz.func90, Tryz.ntmps90
        go_wp2_with (go_at_call 115; refine (rleap_any _ _).mono ?_; rintro e w' ⟨rfl, rfl⟩; rw [H.out])
        go_ret
        exact ⟨ret_int (by rw [hd.out, lp_true H.out]; rfl), rfl⟩
    all_goals
      clear h
      go_enter Tryz.func90, Tryz.ntmps90
      go_wp2_with fail
      go_ret
      exact ⟨ret_int (by simp [dim]), rfl⟩
  · have hd := Lib.hid (dim_out y m (by omega))
    have n1 : (m == 1) = false := beq_eq_false_iff_ne.2 (by omega)
    have n2 : (m == 2) = false := beq_eq_false_iff_ne.2 (by omega)
    have n3 : (m == 3) = false := beq_eq_false_iff_ne.2 (by omega)
    have n4 : (m == 4) = false := beq_eq_false_iff_ne.2 (by omega)
    have n5 : (m == 5) = false := beq_eq_false_iff_ne.2 (by omega)
    have n6 : (m == 6) = false := beq_eq_false_iff_ne.2 (by omega)
    have n7 : (m == 7) = false := beq_eq_false_iff_ne.2 (by omega)
    have n8 : (m == 8) = false := beq_eq_false_iff_ne.2 (by omega)
    have n9 : (m == 9) = false := beq_eq_false_iff_ne.2 (by omega)
    have n10 : (m == 10) = false := beq_eq_false_iff_ne.2 (by omega)
    have n11 : (m == 11) = false := beq_eq_false_iff_ne.2 (by omega)
    have n12 : (m == 12) = false := beq_eq_false_iff_ne.2 (by omega)
    clear h
    go_enter Tryz.func90, Tryz.ntmps90
    go_wp2_with fail
    go_ret
    exact ⟨ret_int hd.out.symm, rfl⟩
set_option maxHeartbeats 400000 in
theorem rstart_any (y : Int) (w : World) (h1 : 1 ≤ y) (h2 : y ≤ 100000) :
    Calls Tryz.prog 89 #[.int .i64 y] w fun e w' => e = .returned (.int .i64 (dby y - 719162)) ∧ w = w' := by
  go_enter Tryz.func89, Tryz.ntmps89
  go_wp2
  go_ret
  exact ⟨ret_int (by unfold dby; omega), rfl⟩
set_option maxHeartbeats 1000000 in
theorem rord_yes (y m d : Int) (w : World) (h : okP y m d) :
    Calls Tryz.prog 91 #[.int .i64 y, .int .i64 m, .int .i64 d] w fun e w' => e = .returned (.tuple #[.int .i64 (ord y m d), .int .i64 0]) ∧ w = w' := by
  have hb := dby_bd y h.1 (by have := h.2.1; omega)
  have hlp := lp_01 y
  obtain ⟨h1, h2, h3, h4⟩ := h
  obtain ⟨m1, m2⟩ := ok_month h3 h4
  have hdm := dim_bd y m
  obtain ⟨k, rfl⟩ := Int.eq_ofNat_of_zero_le (show 0 ≤ m by omega)
  have k1 : 1 ≤ k := by omega
  have k2 : k ≤ 12 := by omega
  have b1 : decide (y < 1) = false := decide_eq_false (by omega)
  have b2 : decide (9999 < y) = false := decide_eq_false (by omega)
  have b3 : decide (d < 1) = false := decide_eq_false (by omega)
  have b4 : decide (dim y k < d) = false := decide_eq_false (by omega)
  go_enter Tryz.func91, Tryz.ntmps91
  go_wp2_with (first | (go_at_call 90; refine (rdays_any _ _ _).mono ?_; rintro e w' ⟨rfl, rfl⟩) | (go_at_call 89; refine (rstart_any _ _ (by omega) (by omega)).mono ?_; rintro e w' ⟨rfl, rfl⟩))
  go_loop [8, 9] (fun n i => ∃ j : Nat, 1 ≤ j ∧ j ≤ k ∧ i = .int .i64 j ∧ n = .int .i64 (dby y - 719162 + cum y j)) (fun _ i => k - (intOf i).toNat)
  case atStart => exact ⟨1, by omega, by omega, rfl, by simp [cum]⟩
  case round =>
    obtain ⟨j, j1, j2, rfl, rfl⟩ := hrel
    have cb := cum_bd y j (by omega) (by omega)
    have db := dim_bd y j
    by_cases hlt : j < k
    · have CS := Lib.hid (cum_succ y j (by omega) (by omega))
      go_wp2_with (go_at_call 90; refine (rdays_any _ _ _).mono ?_; rintro e w' ⟨rfl, rfl⟩)
      go_round
      case rel => exact ⟨j + 1, by omega, by omega, by go_num, by rw [show ((j + 1 : Nat) : Int) = j + 1 from by omega, CS.out]; go_num⟩
      case measure => simp [intOf]; omega
    · obtain rfl : j = k := by omega
      go_wp2
      go_ret2
      exact ⟨by unfold ord; go_num, rfl⟩
set_option maxHeartbeats 1000000 in
theorem rord_not (y m d : Int) (w : World) (h : ¬ okP y m d) :
    Calls Tryz.prog 91 #[.int .i64 y, .int .i64 m, .int .i64 d] w fun e w' => e = .returned (.tuple #[.int .i64 0, .int .i64 1]) ∧ w = w' := by
  unfold okP at h
  by_cases h1 : y < 1
  · clear h
    go_enter Tryz.func91, Tryz.ntmps91
    go_wp2_with fail
    go_ret2
    exact ⟨rfl, rfl⟩
  · by_cases h2 : 9999 < y
    · clear h
      go_enter Tryz.func91, Tryz.ntmps91
      go_wp2_with fail
      go_ret2
      exact ⟨rfl, rfl⟩
    · by_cases h3 : d < 1
      · clear h
        go_enter Tryz.func91, Tryz.ntmps91
        go_wp2_with fail
        go_ret2
        exact ⟨rfl, rfl⟩
      · have h4 : dim y m < d := by omega
        clear h
        go_enter Tryz.func91, Tryz.ntmps91
        go_wp2_with (go_at_call 90; refine (rdays_any _ _ _).mono ?_; rintro e w' ⟨rfl, rfl⟩)
        go_ret2
        exact ⟨rfl, rfl⟩
set_option maxHeartbeats 400000 in
theorem rwday_any (n : Int) (w : World) :
    Calls Tryz.prog 92 #[.int .i64 n] w fun e w' => e = .returned (.int .i64 (wd n)) ∧ w = w' := by
  obtain ⟨t1, t2, t3⟩ := tmod7 (n + 4)
  have T3 := Lib.hid t3; clear t3
  by_cases h1 : n < -1099511627776
  · have hw := Lib.hid (show wd n = 0 from by unfold wd; rw [if_pos (Or.inl h1)])
    go_enter Tryz.func92, Tryz.ntmps92
    go_wp2
    go_ret
    exact ⟨ret_int hw.out.symm, rfl⟩
  · by_cases h2 : 1099511627776 < n
    · have hw := Lib.hid (show wd n = 0 from by unfold wd; rw [if_pos (Or.inr h2)])
      go_enter Tryz.func92, Tryz.ntmps92
      go_wp2
      go_ret
      exact ⟨ret_int hw.out.symm, rfl⟩
    · have hw := Lib.hid (show wd n = (n + 4) % 7 from by unfold wd; rw [if_neg (by omega)])
      by_cases h3 : (n + 4).tmod 7 < 0
      · go_enter Tryz.func92, Tryz.ntmps92
        go_wp2
        go_ret
        exact ⟨ret_int (by rw [hw.out]; have := T3.out; omega), rfl⟩
      · go_enter Tryz.func92, Tryz.ntmps92
        go_wp2
        go_ret
        exact ⟨ret_int (by rw [hw.out]; have := T3.out; omega), rfl⟩
theorem rstart_1 (w : World) : Calls Tryz.prog 89 #[.int .i64 1] w fun e w' => e = .returned (.int .i64 (-719162)) ∧ w = w' := by
  have := rstart_any 1 w (by omega) (by omega); rwa [dby_1] at this
theorem rstart_10000 (w : World) : Calls Tryz.prog 89 #[.int .i64 10000] w fun e w' => e = .returned (.int .i64 2932897) ∧ w = w' := by
  have := rstart_any 10000 w (by omega) (by omega); rwa [dby_10000] at this
theorem two_half (k : Nat) : (2 : Nat) ^ (k + 1) / 2 = 2 ^ k := by rw [Nat.pow_succ]; omega
/-- half of what is a power of two, or nothing at last -/
def st (k : Nat) : Int := ((2 ^ k / 2 : Nat) : Int)
theorem st_0 : st 0 = 0 := rfl
theorem st_succ (k : Nat) : st (k + 1) = 2 ^ k := by unfold st; rw [two_half]; simp
theorem st_half (k : Nat) : st (k + 1) / 2 = st k := by unfold st; rw [two_half]; generalize 2 ^ k = x; omega
theorem st_bd (k : Nat) (h : k ≤ 14) : 0 ≤ st k ∧ st k ≤ 8192 := by
  unfold st; have h2 : 2 ^ k ≤ 2 ^ 14 := Nat.pow_le_pow_right (by omega) h; generalize 2 ^ k = x at *; omega
theorem st_pos (k : Nat) : 1 ≤ st (k + 1) := by unfold st; rw [two_half]; have h2 : 1 ≤ 2 ^ k := Nat.one_le_two_pow; generalize 2 ^ k = x at *; omega
def Hi (n y : Int) (k : Nat) : Prop := 9999 < y + 2 ^ k ∨ n < dby (y + 2 ^ k) - 719162
set_option maxHeartbeats 1000000 in
theorem rdate_yes (n : Int) (w : World) (h1 : -719162 ≤ n) (h2 : n ≤ 2932896) :
    Calls Tryz.prog 63 #[.int .i64 n] w (DatePost n w) := by
  have b1 : decide (n < -719162) = false := decide_eq_false (by omega)
  have b2 : decide (2932897 ≤ n) = false := decide_eq_false (by omega)
  go_enter Tryz.func63, Tryz.ntmps63
  go_wp2_with fail
  refine (rstart_1 _).mono ?_
  rintro e w1 ⟨rfl, rfl⟩
  go_wp2_with fail
  refine (rstart_10000 _).mono ?_
  rintro e w1 ⟨rfl, rfl⟩
  go_wp2_with fail
  go_loop [6, 7] (fun a s => ∃ (y : Int) (k : Nat), k ≤ 14 ∧ 1 ≤ y ∧ y ≤ 9999 ∧ a = .int .i64 y ∧ s = .int .i64 (st k) ∧ dby y - 719162 ≤ n ∧ Hi n y k) (fun _ s => (intOf s).toNat)
  case atStart => exact ⟨1, 14, by omega, by omega, by omega, rfl, rfl, by rw [dby_1]; omega, Or.inl (by decide +kernel)⟩
  case round =>
    obtain ⟨y, k, hk, y1, y2, rfl, rfl, hlo, hhi⟩ := hrel
    cases k with
    | zero =>
      have hhi' : n < dby (y + 1) - 719162 := by
        rcases hhi with h | h
        · have e : y = 9999 := by have : (2 : Int) ^ 0 = 1 := rfl; omega
          subst e; rw [show (9999 : Int) + 1 = 10000 from rfl, dby_10000]; omega
        · exact h
      clear hhi
      have hs := dby_succ y y1
      have hn : n - (dby y - 719162) < 365 + lp y := by omega
      have hdb := dby_bd y y1 (by omega)
      have hlp := lp_01 y
      clear hs hhi'
      rw [st_0]
      go_wp2_with (go_at_call 89; refine (rstart_any _ _ (by omega) (by omega)).mono ?_; rintro e w' ⟨rfl, rfl⟩)
      go_loop [0, 8] (fun r i => ∃ m : Nat, 1 ≤ m ∧ m ≤ 12 ∧ i = .int .i64 m ∧ r = .int .i64 (n - (dby y - 719162) - cum y m) ∧ cum y m ≤ n - (dby y - 719162)) (fun _ i => 12 - (intOf i).toNat)
      case atStart => exact ⟨1, by omega, by omega, rfl, by simp [cum], by simp [cum]; omega⟩
      case round =>
        obtain ⟨m, hm1, hm2, rfl, rfl, hle⟩ := hrel
        have cb := cum_bd y m (by omega) (by omega)
        have db := dim_bd y m
        have CS := Lib.hid (cum_succ y m (by omega) (by omega))
        by_cases hd : dim y m ≤ n - (dby y - 719162) - cum y m
        · have hm : m < 12 := by
            rcases (show m < 12 ∨ m = 12 by omega) with h | h
            · exact h
            · subst h; have c13 := CS.out; rw [show ((12 : Nat) : Int) + 1 = 13 from rfl, cum_13] at c13; omega
          go_wp2_with (go_at_call 90; refine (rdays_any _ _ _).mono ?_; rintro e w' ⟨rfl, rfl⟩)
          go_round
          case rel => exact ⟨m + 1, by omega, by omega, by go_num, by rw [show ((m + 1 : Nat) : Int) = m + 1 from by omega, CS.out]; go_num, by rw [show ((m + 1 : Nat) : Int) = m + 1 from by omega, CS.out]; omega⟩
          case measure => simp [intOf]; omega
        · go_wp2_with (go_at_call 90; refine (rdays_any _ _ _).mono ?_; rintro e w' ⟨rfl, rfl⟩)
          exact bodyPost_ret (v := .tuple #[.int .i64 y, .int .i64 m, .int .i64 (n - (dby y - 719162) - cum y m + 1), .int .i64 0]) (by simp [results, Tryz.results63, go_sem]) rfl
            ⟨y, m, _, rfl, ⟨y1, y2, by omega, by omega⟩, by unfold ord; omega, Kept.refl _⟩
    | succ k =>
      have p1 := st_pos k
      have p2 := st_bd (k + 1) hk
      have hst := st_succ k
      have HH := Lib.hid (st_half k)
      have HM : Hid (st k < st (k + 1)) := Lib.hid (by have := st_half k; omega)
      by_cases hc1 : y + st (k + 1) ≤ 9999
      · by_cases hc2 : dby (y + st (k + 1)) - 719162 ≤ n
        · have hhi' : Hi n (y + st (k + 1)) k := by
            rw [hst]; unfold Hi at hhi ⊢; rw [show y + 2 ^ k + 2 ^ k = y + 2 ^ (k + 1) from by rw [Int.pow_succ]; omega]; exact hhi
          clear hst hhi
          generalize st (k + 1) = s at *
          go_wp2_with (go_at_call 89; refine (rstart_any _ _ (by omega) (by omega)).mono ?_; rintro e w' ⟨rfl, rfl⟩)
          go_round
          case rel => exact ⟨y + s, k, by omega, by omega, by omega, rfl, by rw [HH.out], hc2, hhi'⟩
          case measure => have := HM.out; rw [← HH.out] at this; simp [intOf]; omega
        · have hhi' : Hi n y k := by unfold Hi; rw [← hst]; omega
          clear hst hhi
          generalize st (k + 1) = s at *
          go_wp2_with (go_at_call 89; refine (rstart_any _ _ (by omega) (by omega)).mono ?_; rintro e w' ⟨rfl, rfl⟩)
          go_round
          case rel => exact ⟨y, k, by omega, by omega, by omega, rfl, by rw [HH.out], hlo, hhi'⟩
          case measure => have := HM.out; rw [← HH.out] at this; simp [intOf]; omega
      · have hhi' : Hi n y k := by unfold Hi; rw [← hst]; omega
        clear hst hhi
        generalize st (k + 1) = s at *
        go_wp2_with (go_at_call 89; refine (rstart_any _ _ (by omega) (by omega)).mono ?_; rintro e w' ⟨rfl, rfl⟩)
        go_round
        case rel => exact ⟨y, k, by omega, by omega, by omega, rfl, by rw [HH.out], hlo, hhi'⟩
        case measure => have := HM.out; rw [← HH.out] at this; simp [intOf]; omega
theorem rdate_not (n : Int) (w : World) (h : n < -719162 ∨ 2932896 < n) :
    Calls Tryz.prog 63 #[.int .i64 n] w fun e w' => e = .returned (.tuple #[.int .i64 0, .int .i64 0, .int .i64 0, .int .i64 1]) ∧ w = w' := by
  rcases h with h | h
  · go_enter Tryz.func63, Tryz.ntmps63
    go_wp2_with (go_at_call 89; refine (rstart_1 _).mono ?_; rintro e w' ⟨rfl, rfl⟩)
    exact bodyPost_ret (v := .tuple #[.int .i64 0, .int .i64 0, .int .i64 0, .int .i64 1]) (by simp [results, Tryz.results63, go_sem]) rfl ⟨rfl, rfl⟩
  · have h' : ¬ n < -719162 := by omega
    have h'' : 2932897 ≤ n := by omega
    go_enter Tryz.func63, Tryz.ntmps63
    go_wp2_with fail
    refine (rstart_1 _).mono ?_
    rintro e w1 ⟨rfl, rfl⟩
    go_wp2_with fail
    refine (rstart_10000 _).mono ?_
    rintro e w1 ⟨rfl, rfl⟩
    go_wp2_with fail
    exact bodyPost_ret (v := .tuple #[.int .i64 0, .int .i64 0, .int .i64 0, .int .i64 1]) (by simp [results, Tryz.results63, go_sem]) rfl ⟨rfl, rfl⟩
end Go.Proofs.YtilgamjahediiaaGreatDoor
