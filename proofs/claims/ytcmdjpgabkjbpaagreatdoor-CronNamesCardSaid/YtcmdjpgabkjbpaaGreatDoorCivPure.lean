/- Plain mathematics of the calendar (years from 1 on): leap years, months' lengths, days ahead of a year or a month, and that a day is told by its number. It speaks of no program. -/
import Derived.KernelRfl
namespace Go.Proofs.YtcmdjpgabkjbpaaGreatDoor.Civ

def leap (y : Int) : Bool := (y.tmod 4 == 0 && y.tmod 100 != 0) || y.tmod 400 == 0
def lp (y : Int) : Int := if leap y = true then 1 else 0
def dim (y m : Int) : Int :=
  if m = 1 then 31 else if m = 2 then 28 + lp y else if m = 3 then 31 else if m = 4 then 30 else if m = 5 then 31 else if m = 6 then 30
  else if m = 7 then 31 else if m = 8 then 31 else if m = 9 then 30 else if m = 10 then 31 else if m = 11 then 30 else if m = 12 then 31 else 0
def cum (y m : Int) : Int :=
  if m = 1 then 0 else if m = 2 then 31 else if m = 3 then 59 + lp y else if m = 4 then 90 + lp y else if m = 5 then 120 + lp y else if m = 6 then 151 + lp y
  else if m = 7 then 181 + lp y else if m = 8 then 212 + lp y else if m = 9 then 243 + lp y else if m = 10 then 273 + lp y else if m = 11 then 304 + lp y else if m = 12 then 334 + lp y else if m = 13 then 365 + lp y else 0
def dby (y : Int) : Int := 365 * (y - 1) + (y - 1) / 4 - (y - 1) / 100 + (y - 1) / 400
def ord (y m d : Int) : Int := dby y - 719162 + cum y m + d - 1
def okP (y m d : Int) : Prop := 1 ≤ y ∧ y ≤ 9999 ∧ 1 ≤ d ∧ d ≤ dim y m
def okB (y m d : Int) : Bool := decide (1 ≤ y ∧ y ≤ 9999 ∧ 1 ≤ d ∧ d ≤ dim y m)

theorem okB_iff (y m d : Int) : okB y m d = true ↔ (1 ≤ y ∧ y ≤ 9999 ∧ 1 ≤ d ∧ d ≤ dim y m) := by unfold okB; simp
theorem okB_no (y m d : Int) : okB y m d = false ↔ ¬ (1 ≤ y ∧ y ≤ 9999 ∧ 1 ≤ d ∧ d ≤ dim y m) := by unfold okB; simp

theorem lp_01 (y : Int) : 0 ≤ lp y ∧ lp y ≤ 1 := by unfold lp; split <;> omega
theorem lp_true {y : Int} (h : leap y = true) : lp y = 1 := by unfold lp; rw [if_pos h]
theorem lp_false {y : Int} (h : leap y = false) : lp y = 0 := by unfold lp; rw [h]; rfl
theorem leap_pos (y : Int) (h : 0 ≤ y) : leap y = true ↔ ((y % 4 = 0 ∧ y % 100 ≠ 0) ∨ y % 400 = 0) := by
  unfold leap
  rw [Int.tmod_eq_emod_of_nonneg h, Int.tmod_eq_emod_of_nonneg h, Int.tmod_eq_emod_of_nonneg h]
  simp
theorem lp_eq (y : Int) (h : 0 ≤ y) : lp y = if (y % 4 = 0 ∧ y % 100 ≠ 0) ∨ y % 400 = 0 then 1 else 0 := by
  unfold lp
  by_cases g : leap y = true
  · rw [if_pos g, if_pos ((leap_pos y h).1 g)]
  · rw [if_neg g, if_neg (fun k => g ((leap_pos y h).2 k))]
theorem leap_400 (y : Int) (h : 0 ≤ y) : leap (y + 400) = leap y := by
  rw [Bool.eq_iff_iff, leap_pos y h, leap_pos (y + 400) (by omega)]; omega

theorem dby_succ (y : Int) (h : 1 ≤ y) : dby (y + 1) = dby y + 365 + lp y := by
  rw [lp_eq y (by omega)]; unfold dby; split <;> omega
theorem dby_bd (y : Int) (h0 : 1 ≤ y) (h : y ≤ 10001) : 0 ≤ dby y ∧ dby y ≤ 3652790 := by unfold dby; omega
theorem dby_step (y : Int) (h : 1 ≤ y) : dby y + 365 ≤ dby (y + 1) := by have := dby_succ y h; have := lp_01 y; omega
theorem dby_mono_nat (y : Int) (h : 1 ≤ y) (k : Nat) : dby y + 365 * k ≤ dby (y + k) := by
  induction k with
  | zero => simp
  | succ k ih => have := dby_step (y + k) (by omega); rw [show y + ((k + 1 : Nat) : Int) = y + k + 1 from by omega]; omega
theorem dby_mono (a b : Int) (h0 : 1 ≤ a) (h : a ≤ b) : dby a + 365 * (b - a) ≤ dby b := by
  obtain ⟨k, hk⟩ := Int.eq_ofNat_of_zero_le (show 0 ≤ b - a by omega)
  have := dby_mono_nat a h0 k
  rw [show b = a + k from by omega, show a + (k : Int) - a = k from by omega]; exact this
theorem dby_1 : dby 1 = 0 := by decide +kernel
theorem dby_10000 : dby 10000 = 3652059 := by decide +kernel
theorem dby_400 (y : Int) : dby (y + 400) = dby y + 146097 := by unfold dby; omega

theorem month_cases (m : Int) (h1 : 1 ≤ m) (h2 : m ≤ 12) : m = 1 ∨ m = 2 ∨ m = 3 ∨ m = 4 ∨ m = 5 ∨ m = 6 ∨ m = 7 ∨ m = 8 ∨ m = 9 ∨ m = 10 ∨ m = 11 ∨ m = 12 := by omega
theorem dim_in (y m : Int) (h1 : 1 ≤ m) (h2 : m ≤ 12) : 28 ≤ dim y m ∧ dim y m ≤ 31 := by
  have := lp_01 y
  rcases month_cases m h1 h2 with rfl | rfl | rfl | rfl | rfl | rfl | rfl | rfl | rfl | rfl | rfl | rfl <;> simp [dim] <;> omega
theorem dim_out (y m : Int) (h : m < 1 ∨ 12 < m) : dim y m = 0 := by
  unfold dim; repeat (rw [if_neg (by omega)])
theorem dim_bd (y m : Int) : 0 ≤ dim y m ∧ dim y m ≤ 31 := by
  by_cases h : 1 ≤ m ∧ m ≤ 12
  · have := dim_in y m h.1 h.2; omega
  · rw [dim_out y m (by omega)]; omega
theorem cum_succ (y m : Int) (h1 : 1 ≤ m) (h2 : m ≤ 12) : cum y (m + 1) = cum y m + dim y m := by
  have := lp_01 y
  rcases month_cases m h1 h2 with rfl | rfl | rfl | rfl | rfl | rfl | rfl | rfl | rfl | rfl | rfl | rfl <;> simp [cum, dim] <;> omega
theorem cum_bd (y m : Int) (h1 : 1 ≤ m) (h2 : m ≤ 13) : 0 ≤ cum y m ∧ cum y m ≤ 365 + lp y := by
  have := lp_01 y
  rcases (show m = 13 ∨ m ≤ 12 by omega) with rfl | h
  · simp [cum]; omega
  · rcases month_cases m h1 h with rfl | rfl | rfl | rfl | rfl | rfl | rfl | rfl | rfl | rfl | rfl | rfl <;> simp [cum] <;> omega
theorem cum_1 (y : Int) : cum y 1 = 0 := rfl
theorem cum_13 (y : Int) : cum y 13 = 365 + lp y := rfl
theorem cum_mono_nat (y m : Int) (h : 1 ≤ m) (k : Nat) (hk : m + k ≤ 13) : cum y m ≤ cum y (m + k) := by
  induction k with
  | zero => simp
  | succ k ih =>
    have := cum_succ y (m + k) (by omega) (by omega); have := dim_bd y (m + k); have := ih (by omega)
    rw [show m + ((k + 1 : Nat) : Int) = m + k + 1 from by omega]; omega
theorem cum_mono (y a b : Int) (h0 : 1 ≤ a) (h : a ≤ b) (h13 : b ≤ 13) : cum y a ≤ cum y b := by
  obtain ⟨k, hk⟩ := Int.eq_ofNat_of_zero_le (show 0 ≤ b - a by omega)
  have := cum_mono_nat y a h0 k (by omega)
  rw [show b = a + k from by omega]; exact this

theorem ok_month {y m d : Int} (h : 1 ≤ d) (h' : d ≤ dim y m) : 1 ≤ m ∧ m ≤ 12 := by
  by_cases g : 1 ≤ m ∧ m ≤ 12
  · exact g
  · rw [dim_out y m (by omega)] at h'; omega
theorem yd_bd {y m d : Int} (h : okP y m d) : 1 ≤ cum y m + d ∧ cum y m + d ≤ 365 + lp y := by
  obtain ⟨h1, h2, h3, h4⟩ := h
  obtain ⟨m1, m2⟩ := ok_month h3 h4
  have := cum_succ y m m1 m2; have := cum_mono y (m + 1) 13 (by omega) (by omega) (by omega); rw [cum_13] at this
  have := cum_bd y m m1 (by omega); omega

/-- A day is told by its number. -/
theorem ord_inj {y m d y' m' d' : Int} (h : okP y m d) (h' : okP y' m' d') (e : ord y m d = ord y' m' d') : y = y' ∧ m = m' ∧ d = d' := by
  have b := yd_bd h; have b' := yd_bd h'
  obtain ⟨h1, h2, h3, h4⟩ := h; obtain ⟨k1, k2, k3, k4⟩ := h'
  unfold ord at e
  have hy : y = y' := by
    rcases (show y < y' ∨ y = y' ∨ y' < y by omega) with g | g | g
    · have := dby_mono (y + 1) y' (by omega) (by omega); have := dby_succ y h1; omega
    · exact g
    · have := dby_mono (y' + 1) y (by omega) (by omega); have := dby_succ y' k1; omega
  subst hy
  obtain ⟨m1, m2⟩ := ok_month h3 h4; obtain ⟨n1, n2⟩ := ok_month k3 k4
  have hm : m = m' := by
    rcases (show m < m' ∨ m = m' ∨ m' < m by omega) with g | g | g
    · have := cum_mono y (m + 1) m' (by omega) (by omega) (by omega); have := cum_succ y m m1 m2; omega
    · exact g
    · have := cum_mono y (m' + 1) m (by omega) (by omega) (by omega); have := cum_succ y m' n1 n2; omega
  subst hm
  exact ⟨rfl, rfl, by omega⟩
theorem ord_bd {y m d : Int} (h : okP y m d) : -719162 ≤ ord y m d ∧ ord y m d ≤ 2932896 := by
  have b := yd_bd h
  obtain ⟨h1, h2, h3, h4⟩ := h
  have := dby_mono 1 y (by omega) h1; rw [dby_1] at this
  have := dby_mono (y + 1) 10000 (by omega) (by omega); rw [dby_10000] at this; have := dby_succ y h1
  unfold ord; omega

/-- The guess of a year by the mean length. -/
theorem guess_lo (l : Int) (h : 0 ≤ l) : dby (l * 400 / 146097 + 1) ≤ l := by
  generalize hq : l * 400 / 146097 = q
  have q0 : 146097 * q ≤ l * 400 := by omega
  have q1 : 0 ≤ q := by omega
  unfold dby; rw [show q + 1 - 1 = q from by omega]
  have e1 : q / 100 = q / 4 / 25 := by omega
  have e2 : q / 400 = q / 4 / 25 / 4 := by omega
  rw [e1, e2]
  clear e1 e2 hq
  generalize hu : q / 4 = u
  generalize hv : u / 25 = v
  generalize hx : v / 4 = x
  omega
theorem guess_hi (l : Int) : l < dby (l * 400 / 146097 + 3) := by
  generalize hq : l * 400 / 146097 = q
  have q0 : l * 400 < 146097 * (q + 1) := by omega
  unfold dby; rw [show q + 3 - 1 = q + 2 from by omega]
  omega
end Go.Proofs.YtcmdjpgabkjbpaaGreatDoor.Civ
