/- Plain mathematics of rules' days, turns, and how far a zone's time is ahead. -/
import Derived.Test.YtcgmefojokndhaaCivPure
import Derived.Test.YtcgmefojokndhaaBsZnPure
namespace Go.Proofs.Ytcgmefojokndhaa.Lc
open Civ Zn
def first (y m : Int) : Int := dby y - 719162 + cum y m
def nth (F L w d : Int) : Int := if F + (d - (F + 4) % 7 + 7) % 7 + (w - 1) * 7 ≥ F + L then F + (d - (F + 4) % 7 + 7) % 7 + (w - 1) * 7 - 7 else F + (d - (F + 4) % 7 + 7) % 7 + (w - 1) * 7
def julian (y d : Int) : Int := first y 1 + (if leap y = true ∧ 60 ≤ d then d + 1 else d) - 1
def dayN (r : Ru) (y : Int) : Int := if r.k = 0 then julian y r.d else if r.k = 2 then nth (first y r.m) (dim y r.m) r.w r.d else first y 1 + r.d
def fromT (z : Zo) (y : Int) : Int := dayN z.fr y * 86400 + z.fr.a - z.off
def uptoT (z : Zo) (y : Int) : Int := dayN z.to y * 86400 + z.to.a - z.ahead
def lst (f : Int → Int) (t y : Int) : Int := if f (y + 1) ≤ t then f (y + 1) else if f y ≤ t then f y else if f (y - 1) ≤ t then f (y - 1) else f (y - 2)
def offY (z : Zo) (t y : Int) : Int := if z.has = true then (if lst (uptoT z) t y < lst (fromT z) t y then z.ahead else z.off) else z.off

theorem first_next (y : Int) (h : 1 ≤ y) : first (y + 1) 1 = first y 1 + 365 + lp y := by
  unfold first; rw [cum_1, cum_1, dby_succ y h]; omega
theorem first_step (y m : Int) (h : 1 ≤ y) (h1 : 1 ≤ m) (h2 : m ≤ 13) : first y m + 365 ≤ first (y + 1) m ∧ first (y + 1) m ≤ first y m + 366 := by
  have a := dby_succ y h; have b := lp_01 y; have c := lp_01 (y + 1)
  unfold first cum
  rcases (by omega : m = 1 ∨ m = 2 ∨ m = 3 ∨ m = 4 ∨ m = 5 ∨ m = 6 ∨ m = 7 ∨ m = 8 ∨ m = 9 ∨ m = 10 ∨ m = 11 ∨ m = 12 ∨ m = 13) with e | e | e | e | e | e | e | e | e | e | e | e | e <;> subst e <;> simp <;> omega
theorem first_dim (y m : Int) (h1 : 1 ≤ m) (h2 : m ≤ 12) : first y (m + 1) = first y m + dim y m := by
  unfold first; rw [cum_succ y m h1 h2]; omega
theorem first_in (y m : Int) (h1 : 1 ≤ m) (h2 : m ≤ 13) : first y 1 ≤ first y m ∧ first y m ≤ first y 1 + 365 + lp y := by
  have a := cum_bd y m h1 h2; have b := cum_1 y
  unfold first; omega
theorem first_bd (y m : Int) (h : 1960 ≤ y) (h' : y ≤ 10010) (h1 : 1 ≤ m) (h2 : m ≤ 13) : -3653 ≤ first y m ∧ first y m ≤ 2936916 := by
  have a := cum_bd y m h1 h2; have b := lp_01 y
  have c := dby_mono 1960 y (by omega) h
  have d := dby_mono y 10010 (by omega) h'
  have e : dby 1960 = 715509 := by decide +kernel
  have f : dby 10010 = 3655712 := by decide +kernel
  unfold first
  by_cases hy : y = 10010
  · subst hy
    have g : lp 10010 = 0 := by decide +kernel
    omega
  · omega
theorem first_400 (y m : Int) (h : 0 ≤ y) : first (y + 400) m = first y m + 146097 := by
  unfold first cum lp; rw [dby_400, leap_400 y h]; omega
theorem nth_in (F L w d : Int) (hL1 : 28 ≤ L) (hL2 : L ≤ 31) (hw1 : 1 ≤ w) (hw2 : w ≤ 5) (hd1 : 0 ≤ d) (hd2 : d ≤ 6) :
    (nth F L w d + 4) % 7 = d ∧ F ≤ nth F L w d ∧ nth F L w d < F + L ∧ (w ≤ 4 → nth F L w d = F + (d - (F + 4) % 7 + 7) % 7 + (w - 1) * 7) ∧ (w = 5 → F + L ≤ nth F L w d + 7) := by
  unfold nth
  split <;> refine ⟨?_, ?_, ?_, ?_, ?_⟩ <;> omega
theorem nth_step (F L F' L' w d : Int) (h1 : 28 ≤ L) (h2 : L ≤ 31) (h3 : 28 ≤ L') (h4 : L' ≤ 31) (hF : F + 365 ≤ F' ∧ F' ≤ F + 366) (hE : F + L + 365 ≤ F' + L' ∧ F' + L' ≤ F + L + 366) (hw1 : 1 ≤ w) (hw2 : w ≤ 5) (hd1 : 0 ≤ d) (hd2 : d ≤ 6) :
    nth F L w d + 364 ≤ nth F' L' w d ∧ nth F' L' w d ≤ nth F L w d + 371 := by
  obtain ⟨a1, a2, a3, a4, a5⟩ := nth_in F L w d h1 h2 hw1 hw2 hd1 hd2
  obtain ⟨b1, b2, b3, b4, b5⟩ := nth_in F' L' w d h3 h4 hw1 hw2 hd1 hd2
  by_cases h : w ≤ 4
  · have := a4 h; have := b4 h
    omega
  · have := a5 (by omega); have := b5 (by omega)
    omega
theorem may_day {r : Ru} (h : mayR r = true) : -604799 ≤ r.a ∧ r.a ≤ 604799 ∧ (r.k = 0 ∧ 1 ≤ r.d ∧ r.d ≤ 365 ∨ r.k = 1 ∧ 0 ≤ r.d ∧ r.d ≤ 365 ∨ r.k = 2 ∧ 1 ≤ r.m ∧ r.m ≤ 12 ∧ 1 ≤ r.w ∧ r.w ≤ 5 ∧ 0 ≤ r.d ∧ r.d ≤ 6) := by
  simp only [mayR, decide_eq_true_eq] at h
  omega
theorem julian_step (y d : Int) (h : 1 ≤ y) : julian y d + 365 ≤ julian (y + 1) d ∧ julian (y + 1) d ≤ julian y d + 366 := by
  have a := first_next y h
  unfold julian
  cases hl : leap y with
  | true =>
    have b := lp_true hl
    have hn : leap (y + 1) = false := by
      have h1 := leap_pos y (by omega); have h2 := leap_pos (y + 1) (by omega)
      cases hh : leap (y + 1) with
      | false => rfl
      | true => rw [hl] at h1; rw [hh] at h2; simp at h1 h2; omega
    rw [hn]
    by_cases h60 : 60 ≤ d
    · simp [h60]; omega
    · simp [h60]; omega
  | false =>
    have b := lp_false hl
    by_cases h60 : 60 ≤ d
    · by_cases hn : leap (y + 1) = true
      · simp [h60, hn]; omega
      · simp [h60, hn]; omega
    · simp [h60]; omega
theorem day_step {r : Ru} (hr : mayR r = true) (y : Int) (h : 1 ≤ y) : dayN r y + 364 ≤ dayN r (y + 1) ∧ dayN r (y + 1) ≤ dayN r y + 371 := by
  obtain ⟨_, _, h0 | h1 | h2⟩ := may_day hr
  · have := julian_step y r.d h
    simp only [dayN, h0.1, if_true]
    omega
  · have a := first_next y h; have b := lp_01 y
    simp only [dayN, h1.1, show ¬ (1 : Int) = 0 by decide, show ¬ (1 : Int) = 2 by decide, if_false]
    omega
  · obtain ⟨k, m1, m2, w1, w2, d1, d2⟩ := h2
    have a := dim_in y r.m m1 m2; have b := dim_in (y + 1) r.m m1 m2
    have e1 := first_dim y r.m m1 m2; have e2 := first_dim (y + 1) r.m m1 m2
    have s1 := first_step y r.m h m1 (by omega); have s2 := first_step y (r.m + 1) h (by omega) (by omega)
    have := nth_step (first y r.m) (dim y r.m) (first (y + 1) r.m) (dim (y + 1) r.m) r.w r.d a.1 a.2 b.1 b.2 s1 (by omega) w1 w2 d1 d2
    simp only [dayN, k, show ¬ (2 : Int) = 0 by decide, if_false, if_true]
    exact this
theorem day_in {r : Ru} (hr : mayR r = true) (y : Int) : first y 1 ≤ dayN r y ∧ dayN r y ≤ first y 1 + 365 := by
  obtain ⟨_, _, h0 | h1 | h2⟩ := may_day hr
  · simp only [dayN, h0.1, if_true, julian]
    split <;> omega
  · simp only [dayN, h1.1, show ¬ (1 : Int) = 0 by decide, show ¬ (1 : Int) = 2 by decide, if_false]
    omega
  · obtain ⟨k, m1, m2, w1, w2, d1, d2⟩ := h2
    have a := dim_in y r.m m1 m2
    have e1 := first_dim y r.m m1 m2
    have i1 := first_in y r.m m1 (by omega); have i2 := first_in y (r.m + 1) (by omega) (by omega)
    have b := lp_01 y
    have := nth_in (first y r.m) (dim y r.m) r.w r.d a.1 a.2 w1 w2 d1 d2
    simp only [dayN, k, show ¬ (2 : Int) = 0 by decide, if_false, if_true]
    omega
/-- a turn: a day's number, and seconds -/
structure Turn (f : Int → Int) : Prop where
  step : ∀ y, 1 ≤ y → f y + 364 * 86400 ≤ f (y + 1) ∧ f (y + 1) ≤ f y + 371 * 86400
  lo : ∀ y, 1 ≤ y → 86400 * first y 1 - 700000 ≤ f y
  hi : ∀ y, 1 ≤ y → f y ≤ 86400 * (first y 1 + 365) + 700000
theorem may_T {z : Zo} (h : mayZ z = true) (hh : z.has = true) : mayR z.fr = true ∧ mayR z.to = true ∧ -89999 ≤ z.off ∧ z.off ≤ 89999 ∧ -89999 ≤ z.ahead ∧ z.ahead ≤ 93599 := by
  simp only [mayZ, hh, if_true, Bool.and_eq_true, Bool.or_eq_true, offB, decide_eq_true_eq] at h
  obtain ⟨⟨_, ho⟩, ⟨⟨_, ha⟩, h1⟩, h2⟩ := h
  refine ⟨h1, h2, ho.1, ho.2, ?_, ?_⟩ <;> rcases ha with ha | ha <;> omega
theorem may_off {z : Zo} (h : mayZ z = true) : -89999 ≤ z.off ∧ z.off ≤ 89999 := by
  simp only [mayZ, Bool.and_eq_true, offB, decide_eq_true_eq] at h
  exact h.1.2
theorem turn_from {z : Zo} (h : mayZ z = true) (hh : z.has = true) : Turn (fromT z) := by
  obtain ⟨h1, h2, o1, o2, a1, a2⟩ := may_T h hh
  have ma := may_day h1
  refine ⟨fun y hy => ?_, fun y hy => ?_, fun y hy => ?_⟩ <;> unfold fromT
  · have := day_step h1 y hy; omega
  · have := day_in h1 y; omega
  · have := day_in h1 y; omega
theorem turn_upto {z : Zo} (h : mayZ z = true) (hh : z.has = true) : Turn (uptoT z) := by
  obtain ⟨h1, h2, o1, o2, a1, a2⟩ := may_T h hh
  have ma := may_day h2
  refine ⟨fun y hy => ?_, fun y hy => ?_, fun y hy => ?_⟩ <;> unfold uptoT
  · have := day_step h2 y hy; omega
  · have := day_in h2 y; omega
  · have := day_in h2 y; omega
theorem Turn.mono_nat {f : Int → Int} (T : Turn f) (y : Int) (h : 1 ≤ y) (k : Nat) : f y + k ≤ f (y + k) := by
  induction k with
  | zero => simp
  | succ k ih =>
    have := (T.step (y + k) (by omega)).1
    rw [show y + ((k + 1 : Nat) : Int) = y + k + 1 by omega]
    omega
theorem Turn.mono {f : Int → Int} (T : Turn f) {a b : Int} (h : 1 ≤ a) (hab : a ≤ b) : f a ≤ f b := by
  have := T.mono_nat a h (b - a).toNat
  rw [show a + ((b - a).toNat : Int) = b by omega] at this
  omega
/-- the second is of the year -/
def Of (t y : Int) : Prop := 1 ≤ y ∧ 86400 * first y 1 ≤ t ∧ t < 86400 * first (y + 1) 1
theorem Turn.behind {f : Int → Int} (T : Turn f) {t y : Int} (h : Of t y) (h3 : 3 ≤ y) : f (y - 2) ≤ t := by
  have a := T.hi (y - 2) (by omega)
  have b := first_next (y - 1) (by omega); have c := first_next (y - 2) (by omega)
  have d := lp_01 (y - 1); have e := lp_01 (y - 2)
  have := h.2.1
  rw [show y - 1 + 1 = y by omega] at b
  rw [show y - 2 + 1 = y - 1 by omega] at c
  omega
theorem Turn.ahead {f : Int → Int} (T : Turn f) {t y : Int} (h : Of t y) : t < f (y + 2) := by
  have a := T.lo (y + 2) (by have := h.1; omega)
  have b := first_next (y + 1) (by have := h.1; omega)
  have d := lp_01 (y + 1)
  have := h.2.2
  rw [show y + 1 + 1 = y + 2 by omega] at b
  omega
/-- the last of all turns not above the second -/
theorem Turn.lst_is {f : Int → Int} (T : Turn f) {t y : Int} (h : Of t y) (h3 : 3 ≤ y) {k : Int} (hk : 1 ≤ k) (h1 : f k ≤ t) (h2 : t < f (k + 1)) : lst f t y = f k := by
  have b := T.behind h h3; have a := T.ahead h
  have k1 : y - 2 ≤ k := by
    by_cases hh : y - 2 ≤ k
    · exact hh
    · have := T.mono (a := k + 1) (b := y - 2) (by omega) (by omega); omega
  have k2 : k ≤ y + 1 := by
    by_cases hh : k ≤ y + 1
    · exact hh
    · have := T.mono (a := y + 2) (b := k) (by omega) (by omega); omega
  unfold lst
  rcases (by omega : k = y - 2 ∨ k = y - 1 ∨ k = y ∨ k = y + 1) with e | e | e | e
  · rw [show k + 1 = y - 1 by omega] at h2; rw [e]
    have m1 := T.mono (a := y - 1) (b := y) (by omega) (by omega)
    have m2 := T.mono (a := y) (b := y + 1) (by omega) (by omega)
    rw [if_neg (by omega), if_neg (by omega), if_neg (by omega)]
  · rw [show k + 1 = y by omega] at h2; rw [e] at h1 ⊢
    have m2 := T.mono (a := y) (b := y + 1) (by omega) (by omega)
    rw [if_neg (by omega), if_neg (by omega), if_pos h1]
  · rw [e] at h1 h2 ⊢
    rw [if_neg (by omega), if_pos h1]
  · rw [e] at h1 ⊢
    rw [if_pos h1]
end Go.Proofs.Ytcgmefojokndhaa.Lc
