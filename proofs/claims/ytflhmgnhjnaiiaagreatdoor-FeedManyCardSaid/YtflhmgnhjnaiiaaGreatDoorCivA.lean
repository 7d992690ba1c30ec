/- Several texts of this seat, one behind the other. -/
import Derived.KernelRfl
import Derived.Test.YtflhmgnhjnaiiaaGreatDoorChecked
import Derived.Test.YtflhmgnhjnaiiaaGreatDoorKept
import Derived.WalkKit
import Derived.ProofKit
import Derived.Lib.Hide
set_option linter.unusedSimpArgs false
set_option linter.unusedVariables false
/- Plain mathematics of the calendar (years from 1 on): leap years, months' lengths, days ahead of a year or a month, and that a day is told by its number. It speaks of no program. -/
namespace Go.Proofs.YtflhmgnhjnaiiaaGreatDoor.Civ

def leap (y : Int) : Bool := (y.tmod 4 == 0 && y.tmod 100 != 0) || y.tmod 400 == 0
def lp (y : Int) : Int := if leap y = true then 1 else 0
def dim (y m : Int) : Int :=
  if m = 1 then 31 else if m = 2 then 28 + lp y else if m = 3 then 31 else if m = 4 then 30 else if m = 5 then 31 else if m = 6 then 30
  else if m = 7 then 31 else if m = 8 then 31 else if m = 9 then 30 else if m = 10 then 31 else if m = 11 then 30 else if m = 12 then 31 else 0
def cum (y m : Int) : Int :=
  if m = 1 then 0 else if m = 2 then 31 else if m = 3 then 59 + lp y else if m = 4 then 90 + lp y else if m = 5 then 120 + lp y else if m = 6 then 151 + lp y
  else if m = 7 then 181 + lp y else if m = 8 then 212 + lp y else if m = 9 then 243 + lp y else if m = 10 then 273 + lp y else if m = 11 then 304 + lp y else if m = 12 then 334 + lp y else if m = 13 then 365 + lp y else 0
def dby (y : Int) : Int := 365 * (y - 1) + (y - 1) / 4 - (y - 1) / 100 + (y - 1) / 400
def ord (y m d : Int) : Int := dby y - 719162 + cum y m + d - 1
def okP (y m d : Int) : Prop := 1 ≤ y ∧ y ≤ 9999 ∧ 1 ≤ d ∧ d ≤ dim y m
def okB (y m d : Int) : Bool := decide (1 ≤ y ∧ y ≤ 9999 ∧ 1 ≤ d ∧ d ≤ dim y m)

theorem okB_iff (y m d : Int) : okB y m d = true ↔ (1 ≤ y ∧ y ≤ 9999 ∧ 1 ≤ d ∧ d ≤ dim y m) := by unfold okB; simp
theorem okB_no (y m d : Int) : okB y m d = false ↔ ¬ (1 ≤ y ∧ y ≤ 9999 ∧ 1 ≤ d ∧ d ≤ dim y m) := by unfold okB; simp

theorem lp_01 (y : Int) : 0 ≤ lp y ∧ lp y ≤ 1 := by unfold lp; split <;> omega
theorem lp_true {y : Int} (h : leap y = true) : lp y = 1 := by unfold lp; rw [if_pos h]
theorem lp_false {y : Int} (h : leap y = false) : lp y = 0 := by unfold lp; rw [h]; rfl
theorem leap_pos (y : Int) (h : 0 ≤ y) : leap y = true ↔ ((y % 4 = 0 ∧ y % 100 ≠ 0) ∨ y % 400 = 0) := by
  unfold leap
  rw [Int.tmod_eq_emod_of_nonneg h, Int.tmod_eq_emod_of_nonneg h, Int.tmod_eq_emod_of_nonneg h]
  simp
theorem lp_eq (y : Int) (h : 0 ≤ y) : lp y = if (y % 4 = 0 ∧ y % 100 ≠ 0) ∨ y % 400 = 0 then 1 else 0 := by
  unfold lp
  by_cases g : leap y = true
  · rw [if_pos g, if_pos ((leap_pos y h).1 g)]
  · rw [if_neg g, if_neg (fun k => g ((leap_pos y h).2 k))]
theorem leap_400 (y : Int) (h : 0 ≤ y) : leap (y + 400) = leap y := by
  rw [Bool.eq_iff_iff, leap_pos y h, leap_pos (y + 400) (by omega)]; omega

theorem dby_succ (y : Int) (h : 1 ≤ y) : dby (y + 1) = dby y + 365 + lp y := by
  rw [lp_eq y (by omega)]; unfold dby; split <;> omega
theorem dby_bd (y : Int) (h0 : 1 ≤ y) (h : y ≤ 10001) : 0 ≤ dby y ∧ dby y ≤ 3652790 := by unfold dby; omega
theorem dby_step (y : Int) (h : 1 ≤ y) : dby y + 365 ≤ dby (y + 1) := by have := dby_succ y h; have := lp_01 y; omega
theorem dby_mono_nat (y : Int) (h : 1 ≤ y) (k : Nat) : dby y + 365 * k ≤ dby (y + k) := by
  induction k with
  | zero => simp
  | succ k ih => have := dby_step (y + k) (by omega); rw [show y + ((k + 1 : Nat) : Int) = y + k + 1 from by omega]; omega
theorem dby_mono (a b : Int) (h0 : 1 ≤ a) (h : a ≤ b) : dby a + 365 * (b - a) ≤ dby b := by
  obtain ⟨k, hk⟩ := Int.eq_ofNat_of_zero_le (show 0 ≤ b - a by omega)
  have := dby_mono_nat a h0 k
  rw [show b = a + k from by omega, show a + (k : Int) - a = k from by omega]; exact this
theorem dby_1 : dby 1 = 0 := by decide +kernel
theorem dby_10000 : dby 10000 = 3652059 := by decide +kernel
theorem dby_400 (y : Int) : dby (y + 400) = dby y + 146097 := by unfold dby; omega

theorem month_cases (m : Int) (h1 : 1 ≤ m) (h2 : m ≤ 12) : m = 1 ∨ m = 2 ∨ m = 3 ∨ m = 4 ∨ m = 5 ∨ m = 6 ∨ m = 7 ∨ m = 8 ∨ m = 9 ∨ m = 10 ∨ m = 11 ∨ m = 12 := by omega
theorem dim_in (y m : Int) (h1 : 1 ≤ m) (h2 : m ≤ 12) : 28 ≤ dim y m ∧ dim y m ≤ 31 := by
  have := lp_01 y
  rcases month_cases m h1 h2 with rfl | rfl | rfl | rfl | rfl | rfl | rfl | rfl | rfl | rfl | rfl | rfl <;> simp [dim] <;> omega
theorem dim_out (y m : Int) (h : m < 1 ∨ 12 < m) : dim y m = 0 := by
  unfold dim; repeat (rw [if_neg (by omega)])
theorem dim_bd (y m : Int) : 0 ≤ dim y m ∧ dim y m ≤ 31 := by
  by_cases h : 1 ≤ m ∧ m ≤ 12
  · have := dim_in y m h.1 h.2; omega
  · rw [dim_out y m (by omega)]; omega
theorem cum_succ (y m : Int) (h1 : 1 ≤ m) (h2 : m ≤ 12) : cum y (m + 1) = cum y m + dim y m := by
  have := lp_01 y
  rcases month_cases m h1 h2 with rfl | rfl | rfl | rfl | rfl | rfl | rfl | rfl | rfl | rfl | rfl | rfl <;> simp [cum, dim] <;> omega
theorem cum_bd (y m : Int) (h1 : 1 ≤ m) (h2 : m ≤ 13) : 0 ≤ cum y m ∧ cum y m ≤ 365 + lp y := by
  have := lp_01 y
  rcases (show m = 13 ∨ m ≤ 12 by omega) with rfl | h
  · simp [cum]; omega
  · rcases month_cases m h1 h with rfl | rfl | rfl | rfl | rfl | rfl | rfl | rfl | rfl | rfl | rfl | rfl <;> simp [cum] <;> omega
theorem cum_1 (y : Int) : cum y 1 = 0 := rfl
theorem cum_13 (y : Int) : cum y 13 = 365 + lp y := rfl
theorem cum_mono_nat (y m : Int) (h : 1 ≤ m) (k : Nat) (hk : m + k ≤ 13) : cum y m ≤ cum y (m + k) := by
  induction k with
  | zero => simp
  | succ k ih =>
    have := cum_succ y (m + k) (by omega) (by omega); have := dim_bd y (m + k); have := ih (by omega)
    rw [show m + ((k + 1 : Nat) : Int) = m + k + 1 from by omega]; omega
theorem cum_mono (y a b : Int) (h0 : 1 ≤ a) (h : a ≤ b) (h13 : b ≤ 13) : cum y a ≤ cum y b := by
  obtain ⟨k, hk⟩ := Int.eq_ofNat_of_zero_le (show 0 ≤ b - a by omega)
  have := cum_mono_nat y a h0 k (by omega)
  rw [show b = a + k from by omega]; exact this

theorem ok_month {y m d : Int} (h : 1 ≤ d) (h' : d ≤ dim y m) : 1 ≤ m ∧ m ≤ 12 := by
  by_cases g : 1 ≤ m ∧ m ≤ 12
  · exact g
  · rw [dim_out y m (by omega)] at h'; omega
theorem yd_bd {y m d : Int} (h : okP y m d) : 1 ≤ cum y m + d ∧ cum y m + d ≤ 365 + lp y := by
  obtain ⟨h1, h2, h3, h4⟩ := h
  obtain ⟨m1, m2⟩ := ok_month h3 h4
  have := cum_succ y m m1 m2; have := cum_mono y (m + 1) 13 (by omega) (by omega) (by omega); rw [cum_13] at this
  have := cum_bd y m m1 (by omega); omega

/-- A day is told by its number. -/
theorem ord_inj {y m d y' m' d' : Int} (h : okP y m d) (h' : okP y' m' d') (e : ord y m d = ord y' m' d') : y = y' ∧ m = m' ∧ d = d' := by
  have b := yd_bd h; have b' := yd_bd h'
  obtain ⟨h1, h2, h3, h4⟩ := h; obtain ⟨k1, k2, k3, k4⟩ := h'
  unfold ord at e
  have hy : y = y' := by
    rcases (show y < y' ∨ y = y' ∨ y' < y by omega) with g | g | g
    · have := dby_mono (y + 1) y' (by omega) (by omega); have := dby_succ y h1; omega
    · exact g
    · have := dby_mono (y' + 1) y (by omega) (by omega); have := dby_succ y' k1; omega
  subst hy
  obtain ⟨m1, m2⟩ := ok_month h3 h4; obtain ⟨n1, n2⟩ := ok_month k3 k4
  have hm : m = m' := by
    rcases (show m < m' ∨ m = m' ∨ m' < m by omega) with g | g | g
    · have := cum_mono y (m + 1) m' (by omega) (by omega) (by omega); have := cum_succ y m m1 m2; omega
    · exact g
    · have := cum_mono y (m' + 1) m (by omega) (by omega) (by omega); have := cum_succ y m' n1 n2; omega
  subst hm
  exact ⟨rfl, rfl, by omega⟩
theorem ord_bd {y m d : Int} (h : okP y m d) : -719162 ≤ ord y m d ∧ ord y m d ≤ 2932896 := by
  have b := yd_bd h
  obtain ⟨h1, h2, h3, h4⟩ := h
  have := dby_mono 1 y (by omega) h1; rw [dby_1] at this
  have := dby_mono (y + 1) 10000 (by omega) (by omega); rw [dby_10000] at this; have := dby_succ y h1
  unfold ord; omega

/-- The guess of a year by the mean length. -/
theorem guess_lo (l : Int) (h : 0 ≤ l) : dby (l * 400 / 146097 + 1) ≤ l := by
  generalize hq : l * 400 / 146097 = q
  have q0 : 146097 * q ≤ l * 400 := by omega
  have q1 : 0 ≤ q := by omega
  unfold dby; rw [show q + 1 - 1 = q from by omega]
  have e1 : q / 100 = q / 4 / 25 := by omega
  have e2 : q / 400 = q / 4 / 25 / 4 := by omega
  rw [e1, e2]
  clear e1 e2 hq
  generalize hu : q / 4 = u
  generalize hv : u / 25 = v
  generalize hx : v / 4 = x
  omega
theorem guess_hi (l : Int) : l < dby (l * 400 / 146097 + 3) := by
  generalize hq : l * 400 / 146097 = q
  have q0 : l * 400 < 146097 * (q + 1) := by omega
  unfold dby; rw [show q + 3 - 1 = q + 2 from by omega]
  omega
end Go.Proofs.YtflhmgnhjnaiiaaGreatDoor.Civ
/- What package civil's functions, and the document's own answers for it, come to, call by call (contracts): leap years and months' lengths. -/
namespace Go.Proofs.YtflhmgnhjnaiiaaGreatDoor
open Go.ChangeShapes Go.WideShapes Go.ChangeAt Go.RowKit
open Civ

theorem ret_int {k : IntKind} {a b : Int} (h : a = b) : Ending.returned (.int k a) = .returned (.int k b) := by rw [h]
theorem ret_bool {a b : Bool} (h : a = b) : Ending.returned (.bool a) = .returned (.bool b) := by rw [h]

set_option maxHeartbeats 400000 in
theorem leap_any (y : Int) (w : World) :
    Calls Tryz.prog 172 #[.int .i64 y] w fun e w' => e = .returned (.bool (leap y)) ∧ w = w' := by
  go_enter Tryz.func172, Tryz.ntmps172
  go_wp2
  all_goals (go_ret; exact ⟨ret_bool (by simp [leap, *]), rfl⟩)
theorem leap_yes (y : Int) (w : World) (h : leap y = true) :
    Calls Tryz.prog 172 #[.int .i64 y] w fun e w' => e = .returned (.bool true) ∧ w = w' := by
  have := leap_any y w; rwa [h] at this
theorem leap_no (y : Int) (w : World) (h : leap y = false) :
    Calls Tryz.prog 172 #[.int .i64 y] w fun e w' => e = .returned (.bool false) ∧ w = w' := by
  have := leap_any y w; rwa [h] at this

/-- The array of the months' lengths. -/
def lens (y : Int) : Array Value := #[.int .i64 0, .int .i64 31, .int .i64 (28 + lp y), .int .i64 31, .int .i64 30, .int .i64 31, .int .i64 30, .int .i64 31, .int .i64 31, .int .i64 30, .int .i64 31, .int .i64 30, .int .i64 31]
set_option maxHeartbeats 1000000 in
theorem lengths_yes (y : Int) (w : World) (h : leap y = true) :
    Calls Tryz.prog 168 #[.int .i64 y] w fun e w' => e = .returned (.agg (lens y)) ∧ Kept w w' := by
  have hl : lens y = #[.int .i64 0, .int .i64 31, .int .i64 29, .int .i64 31, .int .i64 30, .int .i64 31, .int .i64 30, .int .i64 31, .int .i64 31, .int .i64 30, .int .i64 31, .int .i64 30, .int .i64 31] := by
    unfold lens; rw [lp_true h]; rfl
  rw [hl]; clear hl
  have H := Lib.hid h; clear h
  go_enter Tryz.func168, Tryz.ntmps168
  go_wp2_with (first | (go_at_call 172; refine (leap_yes _ _ H.out).mono ?_; rintro e w' ⟨rfl, rfl⟩) | go_in)
  go_end0
  go_wp2
  exact bodyPost_ret (v := .agg #[.int .i64 0, .int .i64 31, .int .i64 29, .int .i64 31, .int .i64 30, .int .i64 31, .int .i64 30, .int .i64 31, .int .i64 31, .int .i64 30, .int .i64 31, .int .i64 30, .int .i64 31]) (by simp [results, Tryz.results168, go_sem]) rfl
    ⟨rfl, (((Kept.refl _).alloc _).alloc _).alloc _⟩
set_option maxHeartbeats 1000000 in
theorem lengths_no (y : Int) (w : World) (h : leap y = false) :
    Calls Tryz.prog 168 #[.int .i64 y] w fun e w' => e = .returned (.agg (lens y)) ∧ Kept w w' := by
  have hl : lens y = #[.int .i64 0, .int .i64 31, .int .i64 28, .int .i64 31, .int .i64 30, .int .i64 31, .int .i64 30, .int .i64 31, .int .i64 31, .int .i64 30, .int .i64 31, .int .i64 30, .int .i64 31] := by
    unfold lens; rw [lp_false h]; rfl
  rw [hl]; clear hl
  have H := Lib.hid h; clear h
  go_enter Tryz.func168, Tryz.ntmps168
  go_wp2_with (first | (go_at_call 172; refine (leap_no _ _ H.out).mono ?_; rintro e w' ⟨rfl, rfl⟩) | go_in)
  go_end0
  go_wp2
  exact bodyPost_ret (v := .agg #[.int .i64 0, .int .i64 31, .int .i64 28, .int .i64 31, .int .i64 30, .int .i64 31, .int .i64 30, .int .i64 31, .int .i64 31, .int .i64 30, .int .i64 31, .int .i64 30, .int .i64 31]) (by simp [results, Tryz.results168, go_sem]) rfl
    ⟨rfl, (((Kept.refl _).alloc _).alloc _).alloc _⟩
theorem lengths_any (y : Int) (w : World) :
    Calls Tryz.prog 168 #[.int .i64 y] w fun e w' => e = .returned (.agg (lens y)) ∧ Kept w w' := by
  cases h : leap y
  · exact lengths_no y w h
  · exact lengths_yes y w h
theorem lengths_lit (y : Int) (w : World) :
    Calls Tryz.prog 168 #[.int .i64 y] w fun e w' => e = .returned (.agg #[.int .i64 0, .int .i64 31, .int .i64 (28 + lp y), .int .i64 31, .int .i64 30, .int .i64 31, .int .i64 30, .int .i64 31, .int .i64 31, .int .i64 30, .int .i64 31, .int .i64 30, .int .i64 31]) ∧ Kept w w' := lengths_any y w

/-- An array by value, whose elements are integers, indexed within its length. -/
theorem run_index_arr {P : Program} (w : World) (t e : TypeId) (n : Nat) (cs : Array Value) (k : IntKind) (i : Int) {kk : IntKind} (v : Value)
    (h : P.underlying t = some (.array n e)) (he : P.underlying e = some (.int kk)) (hi : (P.info? e).isSome = true) (hc : P.cellsOf e = 1)
    (h0 : 0 ≤ i) (h1 : i < n) (hv : cs[i.toNat]? = some v) : (Instr.index t (.agg cs) (.int k i)).run P w = .ok v w := by
  obtain ⟨inf, hinf⟩ := Option.isSome_iff_exists.mp hi
  simp [Instr.index, run_underlying h, asIntOf, h0, h1, run_sizeOf _ hinf, hc, part, isAgg, run_underlying he, hv, go_sem]
theorem lens_at (y m : Int) (h1 : 1 ≤ m) (h2 : m ≤ 12) : (lens y)[m.toNat]? = some (.int .i64 (dim y m)) := by
  rcases month_cases m h1 h2 with rfl | rfl | rfl | rfl | rfl | rfl | rfl | rfl | rfl | rfl | rfl | rfl <;> simp [lens, dim]
theorem cells_int : Tryz.prog.cellsOf 3 = 1 := by kernel_rfl

set_option maxHeartbeats 1000000 in
theorem days_any (y m : Int) (w : World) :
    Calls Tryz.prog 167 #[.int .i64 y, .int .i64 m] w fun e w' => e = .returned (.int .i64 (dim y m)) ∧ Kept w w' := by
  by_cases h : 1 ≤ m ∧ m ≤ 12
  · obtain ⟨h1, h2⟩ := h
    have hx := fun W => run_index_arr (P := Tryz.prog) W 206 3 13 (lens y) .i64 m _ Tryz.underlying206 Tryz.underlying3 (by kernel_rfl) cells_int (by omega) (by omega) (lens_at y m h1 h2)
    go_enter Tryz.func167, Tryz.ntmps167
    go_wp2_with (go_at_call 168; refine (lengths_any _ _).mono ?_; rintro e w' ⟨rfl, hg⟩)
    go_ret
    exact ⟨rfl, hg⟩
  · have hd := Lib.hid (dim_out y m (by omega))
    rcases (show m < 1 ∨ (¬ m < 1 ∧ 12 < m) by omega) with h1 | ⟨h1, h2⟩
    all_goals
      clear h
      go_enter Tryz.func167, Tryz.ntmps167
      go_wp2_with fail
      go_ret
      exact ⟨ret_int hd.out.symm, Kept.refl _⟩

set_option maxHeartbeats 1000000 in
theorem isDay_any (y m d : Int) (w : World) :
    Calls Tryz.prog 160 #[.int .i64 y, .int .i64 m, .int .i64 d] w fun e w' => e = .returned (.bool (okB y m d)) ∧ Kept w w' := by
  by_cases h1 : 1 ≤ y
  · by_cases h2 : y ≤ 9999
    · by_cases h3 : 1 ≤ d
      · have hk := Lib.hid (show okB y m d = decide (d ≤ dim y m) from by simp [okB, h1, h2, h3])
        go_enter Tryz.func160, Tryz.ntmps160
        go_wp2_with (go_at_call 167; refine (days_any _ _ _).mono ?_; rintro e w' ⟨rfl, hg⟩)
        go_ret
        exact ⟨ret_bool hk.out.symm, hg⟩
      · have hk := Lib.hid (show okB y m d = false from by simp [okB, h3])
        go_enter Tryz.func160, Tryz.ntmps160
        go_wp2_with fail
        go_ret
        exact ⟨ret_bool hk.out.symm, Kept.refl _⟩
    · have hk := Lib.hid (show okB y m d = false from by simp [okB, h2])
      go_enter Tryz.func160, Tryz.ntmps160
      go_wp2_with fail
      go_ret
      exact ⟨ret_bool hk.out.symm, Kept.refl _⟩
  · have hk := Lib.hid (show okB y m d = false from by simp [okB, h1])
    go_enter Tryz.func160, Tryz.ntmps160
    go_wp2_with fail
    go_ret
    exact ⟨ret_bool hk.out.symm, Kept.refl _⟩

set_option maxHeartbeats 400000 in
theorem daysAhead_any (y : Int) (w : World) (h1 : 1 ≤ y) (h2 : y ≤ 10001) :
    Calls Tryz.prog 161 #[.int .i64 y] w fun e w' => e = .returned (.int .i64 (dby y)) ∧ w = w' := by
  go_enter Tryz.func161, Tryz.ntmps161
  go_wp2
  go_ret
  exact ⟨ret_int (by unfold dby; omega), rfl⟩
end Go.Proofs.YtflhmgnhjnaiiaaGreatDoor
/- What package civil's functions come to, call by call (contracts): days' numbers, days of the year and of the week, a number's day. -/
namespace Go.Proofs.YtflhmgnhjnaiiaaGreatDoor
open Go.ChangeShapes Go.WideShapes Go.ChangeAt Go.RowKit
open Civ
def la (y : Int) (j : Nat) : Int := if j = 0 then 0 else dim y j
def cs (y : Int) (j : Nat) : Int := if j = 0 then 0 else cum y j
theorem la_bd (y : Int) (j : Nat) : 0 ≤ la y j ∧ la y j ≤ 31 := by
  unfold la; split
  · omega
  · exact dim_bd y j
theorem cs_bd (y : Int) (j : Nat) (h : j ≤ 13) : 0 ≤ cs y j ∧ cs y j ≤ 366 := by
  have := lp_01 y
  unfold cs; split
  · omega
  · have := cum_bd y j (by omega) (by omega); omega
theorem cs_succ (y : Int) (j : Nat) (h : j ≤ 12) : cs y (j + 1) = cs y j + la y j := by
  unfold cs la
  by_cases h0 : j = 0
  · subst h0; rfl
  · rw [if_neg (by omega), if_neg h0, if_neg h0, show ((j + 1 : Nat) : Int) = (j : Int) + 1 from by omega]; exact cum_succ y j (by omega) (by omega)
theorem lens_cell (y : Int) (w : World) (t : TypeId) (j : Nat) (h : j < 13) : (w.alloc (.cells #[.int .i64 0, .int .i64 31, .int .i64 (28 + lp y), .int .i64 31, .int .i64 30, .int .i64 31, .int .i64 30, .int .i64 31, .int .i64 31, .int .i64 30, .int .i64 31, .int .i64 30, .int .i64 31] t)).cell? ⟨w.heap.size, j, none⟩ = some (.int .i64 (la y j)) := by
  have : j = 0 ∨ j = 1 ∨ j = 2 ∨ j = 3 ∨ j = 4 ∨ j = 5 ∨ j = 6 ∨ j = 7 ∨ j = 8 ∨ j = 9 ∨ j = 10 ∨ j = 11 ∨ j = 12 := by omega
  rcases this with rfl | rfl | rfl | rfl | rfl | rfl | rfl | rfl | rfl | rfl | rfl | rfl | rfl <;> simp [la, dim]
set_option maxHeartbeats 1000000 in
theorem doy_any (y m d : Int) (w : World) (h1 : 1 ≤ m) (h2 : m ≤ 12) (h3 : 1 ≤ d) (h4 : d ≤ 31) :
    Calls Tryz.prog 162 #[.int .i64 y, .int .i64 m, .int .i64 d] w fun e w' => e = .returned (.int .i64 (cum y m + d)) ∧ Kept w w' := by
  obtain ⟨k, rfl⟩ := Int.eq_ofNat_of_zero_le (show 0 ≤ m by omega)
  have hk : k ≤ 13 := by omega
  have hk' : (k : Int) ≤ 13 := by omega
  have hk0 : (0 : Int) ≤ (k : Int) := by omega
  go_enter Tryz.func162, Tryz.ntmps162
  go_wp2_with (go_at_call 168; refine (lengths_lit _ _).mono ?_; rintro e w' ⟨rfl, hg⟩)
  have hcell := fun j h => lens_cell y w' 206 j h
  have hG : Kept w (w'.alloc (.cells #[.int .i64 0, .int .i64 31, .int .i64 (28 + lp y), .int .i64 31, .int .i64 30, .int .i64 31, .int .i64 30, .int .i64 31, .int .i64 31, .int .i64 30, .int .i64 31, .int .i64 30, .int .i64 31] 206)) := hg.alloc _
  generalize (w'.alloc (.cells #[.int .i64 0, .int .i64 31, .int .i64 (28 + lp y), .int .i64 31, .int .i64 30, .int .i64 31, .int .i64 30, .int .i64 31, .int .i64 31, .int .i64 30, .int .i64 31, .int .i64 30, .int .i64 31] 206)) = W at hcell hG ⊢
  have HC := Lib.hid hcell; clear hcell
  go_loop [2, 15] (fun a i => ∃ j : Nat, j ≤ k ∧ i = .int .i64 j ∧ a = .int .i64 (d + cs y j)) (fun _ i => k - (intOf i).toNat)
  case atStart => exact ⟨0, Nat.zero_le _, rfl, by simp [cs]⟩
  case round =>
    obtain ⟨j, hj, rfl, rfl⟩ := hrel
    have hb := cs_bd y j (by omega)
    have hl := la_bd y j
    by_cases hlt : j < k
    · have hc := HC.out j (by omega)
      have HS := Lib.hid (cs_succ y j (by omega))
      go_wp2
      go_round
      case rel => exact ⟨j + 1, by omega, by go_num, by rw [HS.out]; go_num⟩
      case measure => simp [intOf]; omega
    · go_wp2
      go_ret
      exact ⟨ret_int (by rw [show j = k from by omega]; unfold cs; rw [if_neg (by omega)]; omega), hG⟩
def MonthPost (y l : Int) (w : World) (e : Ending) (w' : World) : Prop := ∃ m d : Int, e = .returned (.tuple #[.int .i64 m, .int .i64 d]) ∧ 1 ≤ d ∧ d ≤ dim y m ∧ cum y m + d = l + 1 ∧ Kept w w'
def YearPost (l : Int) (w : World) (e : Ending) (w' : World) : Prop := ∃ y : Int, e = .returned (.int .i64 y) ∧ 1 ≤ y ∧ y ≤ 9999 ∧ dby y ≤ l ∧ l < dby (y + 1) ∧ w = w'
set_option maxHeartbeats 400000 in
theorem ord_yes (y m d : Int) (w : World) (h : okP y m d) :
    Calls Tryz.prog 155 #[.int .i64 y, .int .i64 m, .int .i64 d] w fun e w' => e = .returned (.tuple #[.int .i64 (ord y m d), .int .i64 0]) ∧ Kept w w' := by
  have hk := Lib.hid ((okB_iff y m d).2 h)
  have hb := dby_bd y h.1 (by have := h.2.1; omega)
  have hyb := yd_bd h
  have hlp := lp_01 y
  obtain ⟨h1, h2, h3, h4⟩ := h
  obtain ⟨m1, m2⟩ := ok_month h3 h4
  have hdm := dim_bd y m
  go_enter Tryz.func155, Tryz.ntmps155
  go_wp2_with fail
  refine (isDay_any _ _ _ _).mono ?_
  rintro e w1 ⟨rfl, hg1⟩
  rw [hk.out]
  go_wp2_with (first | (go_at_call 161; refine (daysAhead_any _ _ (by omega) (by omega)).mono ?_; rintro e w' ⟨rfl, rfl⟩) | (go_at_call 162; refine (doy_any _ _ _ _ (by omega) (by omega) (by omega) (by omega)).mono ?_; rintro e w2 ⟨rfl, hg2⟩))
  go_ret2
  exact ⟨by unfold ord; go_num, Kept.trans hg1 hg2⟩
theorem ord_not (y m d : Int) (w : World) (h : ¬ okP y m d) :
    Calls Tryz.prog 155 #[.int .i64 y, .int .i64 m, .int .i64 d] w fun e w' => e = .returned (.tuple #[.int .i64 0, .int .i64 1]) ∧ Kept w w' := by
  have hk := Lib.hid ((okB_no y m d).2 h)
  clear h
  go_enter Tryz.func155, Tryz.ntmps155
  go_wp2_with fail
  refine (isDay_any _ _ _ _).mono ?_
  rintro e w1 ⟨rfl, hg1⟩
  rw [hk.out]
  go_wp2
  go_ret2
  exact ⟨rfl, hg1⟩
def wd (n : Int) : Int := if n < -1099511627776 ∨ 1099511627776 < n then 0 else (n + 4) % 7
theorem tmod7 (n : Int) : -7 < n.tmod 7 ∧ n.tmod 7 < 7 ∧ n = 7 * n.tdiv 7 + n.tmod 7 :=
  ⟨by have h := Int.tmod_lt_of_pos (-n) (show (0 : Int) < 7 by omega); rw [Int.neg_tmod] at h; omega, Int.tmod_lt_of_pos n (by omega), (Int.mul_tdiv_add_tmod n 7).symm⟩
def DatePost (n : Int) (w : World) (e : Ending) (w' : World) : Prop := ∃ y m d : Int, e = .returned (.tuple #[.int .i64 y, .int .i64 m, .int .i64 d, .int .i64 0]) ∧ okP y m d ∧ ord y m d = n ∧ Kept w w'
end Go.Proofs.YtflhmgnhjnaiiaaGreatDoor
