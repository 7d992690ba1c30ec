/- Several texts of this seat, one behind the other. -/
import Derived.Test.YtilgamjahediiaaGreatDoorCivA
import Derived.Test.YtilgamjahediiaaGreatDoorBsZnPure
import Derived.Test.YtilgamjahediiaaGreatDoorBsZn
import Derived.Test.YtilgamjahediiaaGreatDoorBsSt
/- Plain mathematics of rules' days, turns, and how far a zone's time is ahead. -/
namespace Go.Proofs.YtilgamjahediiaaGreatDoor.Lc
open Civ Zn
def first (y m : Int) : Int := dby y - 719162 + cum y m
def nth (F L w d : Int) : Int := if F + (d - (F + 4) % 7 + 7) % 7 + (w - 1) * 7 ≥ F + L then F + (d - (F + 4) % 7 + 7) % 7 + (w - 1) * 7 - 7 else F + (d - (F + 4) % 7 + 7) % 7 + (w - 1) * 7
def julian (y d : Int) : Int := first y 1 + (if leap y = true ∧ 60 ≤ d then d + 1 else d) - 1
def dayN (r : Ru) (y : Int) : Int := if r.k = 0 then julian y r.d else if r.k = 2 then nth (first y r.m) (dim y r.m) r.w r.d else first y 1 + r.d
def fromT (z : Zo) (y : Int) : Int := dayN z.fr y * 86400 + z.fr.a - z.off
def uptoT (z : Zo) (y : Int) : Int := dayN z.to y * 86400 + z.to.a - z.ahead
def lst (f : Int → Int) (t y : Int) : Int := if f (y + 1) ≤ t then f (y + 1) else if f y ≤ t then f y else if f (y - 1) ≤ t then f (y - 1) else f (y - 2)
def offY (z : Zo) (t y : Int) : Int := if z.has = true then (if lst (uptoT z) t y < lst (fromT z) t y then z.ahead else z.off) else z.off

theorem first_next (y : Int) (h : 1 ≤ y) : first (y + 1) 1 = first y 1 + 365 + lp y := by
  unfold first; rw [cum_1, cum_1, dby_succ y h]; omega
theorem first_step (y m : Int) (h : 1 ≤ y) (h1 : 1 ≤ m) (h2 : m ≤ 13) : first y m + 365 ≤ first (y + 1) m ∧ first (y + 1) m ≤ first y m + 366 := by
  have a := dby_succ y h; have b := lp_01 y; have c := lp_01 (y + 1)
  unfold first cum
  rcases (by omega : m = 1 ∨ m = 2 ∨ m = 3 ∨ m = 4 ∨ m = 5 ∨ m = 6 ∨ m = 7 ∨ m = 8 ∨ m = 9 ∨ m = 10 ∨ m = 11 ∨ m = 12 ∨ m = 13) with e | e | e | e | e | e | e | e | e | e | e | e | e <;> subst e <;> simp <;> omega
theorem first_dim (y m : Int) (h1 : 1 ≤ m) (h2 : m ≤ 12) : first y (m + 1) = first y m + dim y m := by
  unfold first; rw [cum_succ y m h1 h2]; omega
theorem first_in (y m : Int) (h1 : 1 ≤ m) (h2 : m ≤ 13) : first y 1 ≤ first y m ∧ first y m ≤ first y 1 + 365 + lp y := by
  have a := cum_bd y m h1 h2; have b := cum_1 y
  unfold first; omega
theorem first_bd (y m : Int) (h : 1960 ≤ y) (h' : y ≤ 10010) (h1 : 1 ≤ m) (h2 : m ≤ 13) : -3653 ≤ first y m ∧ first y m ≤ 2936916 := by
  have a := cum_bd y m h1 h2; have b := lp_01 y
  have c := dby_mono 1960 y (by omega) h
  have d := dby_mono y 10010 (by omega) h'
  have e : dby 1960 = 715509 := by decide +kernel
  have f : dby 10010 = 3655712 := by decide +kernel
  unfold first
  by_cases hy : y = 10010
  · subst hy
    have g : lp 10010 = 0 := by decide +kernel
    omega
  · omega
theorem first_400 (y m : Int) (h : 0 ≤ y) : first (y + 400) m = first y m + 146097 := by
  unfold first cum lp; rw [dby_400, leap_400 y h]; omega
theorem nth_in (F L w d : Int) (hL1 : 28 ≤ L) (hL2 : L ≤ 31) (hw1 : 1 ≤ w) (hw2 : w ≤ 5) (hd1 : 0 ≤ d) (hd2 : d ≤ 6) :
    (nth F L w d + 4) % 7 = d ∧ F ≤ nth F L w d ∧ nth F L w d < F + L ∧ (w ≤ 4 → nth F L w d = F + (d - (F + 4) % 7 + 7) % 7 + (w - 1) * 7) ∧ (w = 5 → F + L ≤ nth F L w d + 7) := by
  unfold nth
  split <;> refine ⟨?_, ?_, ?_, ?_, ?_⟩ <;> omega
theorem nth_step (F L F' L' w d : Int) (h1 : 28 ≤ L) (h2 : L ≤ 31) (h3 : 28 ≤ L') (h4 : L' ≤ 31) (hF : F + 365 ≤ F' ∧ F' ≤ F + 366) (hE : F + L + 365 ≤ F' + L' ∧ F' + L' ≤ F + L + 366) (hw1 : 1 ≤ w) (hw2 : w ≤ 5) (hd1 : 0 ≤ d) (hd2 : d ≤ 6) :
    nth F L w d + 364 ≤ nth F' L' w d ∧ nth F' L' w d ≤ nth F L w d + 371 := by
  obtain ⟨a1, a2, a3, a4, a5⟩ := nth_in F L w d h1 h2 hw1 hw2 hd1 hd2
  obtain ⟨b1, b2, b3, b4, b5⟩ := nth_in F' L' w d h3 h4 hw1 hw2 hd1 hd2
  by_cases h : w ≤ 4
  · have := a4 h; have := b4 h
    omega
  · have := a5 (by omega); have := b5 (by omega)
    omega
theorem may_day {r : Ru} (h : mayR r = true) : -604799 ≤ r.a ∧ r.a ≤ 604799 ∧ (r.k = 0 ∧ 1 ≤ r.d ∧ r.d ≤ 365 ∨ r.k = 1 ∧ 0 ≤ r.d ∧ r.d ≤ 365 ∨ r.k = 2 ∧ 1 ≤ r.m ∧ r.m ≤ 12 ∧ 1 ≤ r.w ∧ r.w ≤ 5 ∧ 0 ≤ r.d ∧ r.d ≤ 6) := by
  simp only [mayR, decide_eq_true_eq] at h
  omega
theorem julian_step (y d : Int) (h : 1 ≤ y) : julian y d + 365 ≤ julian (y + 1) d ∧ julian (y + 1) d ≤ julian y d + 366 := by
  have a := first_next y h
  unfold julian
  cases hl : leap y with
  | true =>
    have b := lp_true hl
    have hn : leap (y + 1) = false := by
      have h1 := leap_pos y (by omega); have h2 := leap_pos (y + 1) (by omega)
      cases hh : leap (y + 1) with
      | false => rfl
      | true => rw [hl] at h1; rw [hh] at h2; simp at h1 h2; omega
    rw [hn]
    by_cases h60 : 60 ≤ d
    · simp [h60]; omega
    · simp [h60]; omega
  | false =>
    have b := lp_false hl
    by_cases h60 : 60 ≤ d
    · by_cases hn : leap (y + 1) = true
      · simp [h60, hn]; omega
      · simp [h60, hn]; omega
    · simp [h60]; omega
theorem day_step {r : Ru} (hr : mayR r = true) (y : Int) (h : 1 ≤ y) : dayN r y + 364 ≤ dayN r (y + 1) ∧ dayN r (y + 1) ≤ dayN r y + 371 := by
  obtain ⟨_, _, h0 | h1 | h2⟩ := may_day hr
  · have := julian_step y r.d h
    simp only [dayN, h0.1, if_true]
    omega
  · have a := first_next y h; have b := lp_01 y
    simp only [dayN, h1.1, show ¬ (1 : Int) = 0 by decide, show ¬ (1 : Int) = 2 by decide, if_false]
    omega
  · obtain ⟨k, m1, m2, w1, w2, d1, d2⟩ := h2
    have a := dim_in y r.m m1 m2; have b := dim_in (y + 1) r.m m1 m2
    have e1 := first_dim y r.m m1 m2; have e2 := first_dim (y + 1) r.m m1 m2
    have s1 := first_step y r.m h m1 (by omega); have s2 := first_step y (r.m + 1) h (by omega) (by omega)
    have := nth_step (first y r.m) (dim y r.m) (first (y + 1) r.m) (dim (y + 1) r.m) r.w r.d a.1 a.2 b.1 b.2 s1 (by omega) w1 w2 d1 d2
    simp only [dayN, k, show ¬ (2 : Int) = 0 by decide, if_false, if_true]
    exact this
theorem day_in {r : Ru} (hr : mayR r = true) (y : Int) : first y 1 ≤ dayN r y ∧ dayN r y ≤ first y 1 + 365 := by
  obtain ⟨_, _, h0 | h1 | h2⟩ := may_day hr
  · simp only [dayN, h0.1, if_true, julian]
    split <;> omega
  · simp only [dayN, h1.1, show ¬ (1 : Int) = 0 by decide, show ¬ (1 : Int) = 2 by decide, if_false]
    omega
  · obtain ⟨k, m1, m2, w1, w2, d1, d2⟩ := h2
    have a := dim_in y r.m m1 m2
    have e1 := first_dim y r.m m1 m2
    have i1 := first_in y r.m m1 (by omega); have i2 := first_in y (r.m + 1) (by omega) (by omega)
    have b := lp_01 y
    have := nth_in (first y r.m) (dim y r.m) r.w r.d a.1 a.2 w1 w2 d1 d2
    simp only [dayN, k, show ¬ (2 : Int) = 0 by decide, if_false, if_true]
    omega
/-- a turn: a day's number, and seconds -/
structure Turn (f : Int → Int) : Prop where
  step : ∀ y, 1 ≤ y → f y + 364 * 86400 ≤ f (y + 1) ∧ f (y + 1) ≤ f y + 371 * 86400
  lo : ∀ y, 1 ≤ y → 86400 * first y 1 - 700000 ≤ f y
  hi : ∀ y, 1 ≤ y → f y ≤ 86400 * (first y 1 + 365) + 700000
theorem may_T {z : Zo} (h : mayZ z = true) (hh : z.has = true) : mayR z.fr = true ∧ mayR z.to = true ∧ -89999 ≤ z.off ∧ z.off ≤ 89999 ∧ -89999 ≤ z.ahead ∧ z.ahead ≤ 93599 := by
  simp only [mayZ, hh, if_true, Bool.and_eq_true, Bool.or_eq_true, offB, decide_eq_true_eq] at h
  obtain ⟨⟨_, ho⟩, ⟨⟨_, ha⟩, h1⟩, h2⟩ := h
  refine ⟨h1, h2, ho.1, ho.2, ?_, ?_⟩ <;> rcases ha with ha | ha <;> omega
theorem may_off {z : Zo} (h : mayZ z = true) : -89999 ≤ z.off ∧ z.off ≤ 89999 := by
  simp only [mayZ, Bool.and_eq_true, offB, decide_eq_true_eq] at h
  exact h.1.2
theorem turn_from {z : Zo} (h : mayZ z = true) (hh : z.has = true) : Turn (fromT z) := by
  obtain ⟨h1, h2, o1, o2, a1, a2⟩ := may_T h hh
  have ma := may_day h1
  refine ⟨fun y hy => ?_, fun y hy => ?_, fun y hy => ?_⟩ <;> unfold fromT
  · have := day_step h1 y hy; omega
  · have := day_in h1 y; omega
  · have := day_in h1 y; omega
theorem turn_upto {z : Zo} (h : mayZ z = true) (hh : z.has = true) : Turn (uptoT z) := by
  obtain ⟨h1, h2, o1, o2, a1, a2⟩ := may_T h hh
  have ma := may_day h2
  refine ⟨fun y hy => ?_, fun y hy => ?_, fun y hy => ?_⟩ <;> unfold uptoT
  · have := day_step h2 y hy; omega
  · have := day_in h2 y; omega
  · have := day_in h2 y; omega
theorem Turn.mono_nat {f : Int → Int} (T : Turn f) (y : Int) (h : 1 ≤ y) (k : Nat) : f y + k ≤ f (y + k) := by
  induction k with
  | zero => simp
  | succ k ih =>
    have := (T.step (y + k) (by omega)).1
    rw [show y + ((k + 1 : Nat) : Int) = y + k + 1 by omega]
    omega
theorem Turn.mono {f : Int → Int} (T : Turn f) {a b : Int} (h : 1 ≤ a) (hab : a ≤ b) : f a ≤ f b := by
  have := T.mono_nat a h (b - a).toNat
  rw [show a + ((b - a).toNat : Int) = b by omega] at this
  omega
/-- the second is of the year -/
def Of (t y : Int) : Prop := 1 ≤ y ∧ 86400 * first y 1 ≤ t ∧ t < 86400 * first (y + 1) 1
theorem Turn.behind {f : Int → Int} (T : Turn f) {t y : Int} (h : Of t y) (h3 : 3 ≤ y) : f (y - 2) ≤ t := by
  have a := T.hi (y - 2) (by omega)
  have b := first_next (y - 1) (by omega); have c := first_next (y - 2) (by omega)
  have d := lp_01 (y - 1); have e := lp_01 (y - 2)
  have := h.2.1
  rw [show y - 1 + 1 = y by omega] at b
  rw [show y - 2 + 1 = y - 1 by omega] at c
  omega
theorem Turn.ahead {f : Int → Int} (T : Turn f) {t y : Int} (h : Of t y) : t < f (y + 2) := by
  have a := T.lo (y + 2) (by have := h.1; omega)
  have b := first_next (y + 1) (by have := h.1; omega)
  have d := lp_01 (y + 1)
  have := h.2.2
  rw [show y + 1 + 1 = y + 2 by omega] at b
  omega
/-- the last of all turns not above the second -/
theorem Turn.lst_is {f : Int → Int} (T : Turn f) {t y : Int} (h : Of t y) (h3 : 3 ≤ y) {k : Int} (hk : 1 ≤ k) (h1 : f k ≤ t) (h2 : t < f (k + 1)) : lst f t y = f k := by
  have b := T.behind h h3; have a := T.ahead h
  have k1 : y - 2 ≤ k := by
    by_cases hh : y - 2 ≤ k
    · exact hh
    · have := T.mono (a := k + 1) (b := y - 2) (by omega) (by omega); omega
  have k2 : k ≤ y + 1 := by
    by_cases hh : k ≤ y + 1
    · exact hh
    · have := T.mono (a := y + 2) (b := k) (by omega) (by omega); omega
  unfold lst
  rcases (by omega : k = y - 2 ∨ k = y - 1 ∨ k = y ∨ k = y + 1) with e | e | e | e
  · rw [show k + 1 = y - 1 by omega] at h2; rw [e]
    have m1 := T.mono (a := y - 1) (b := y) (by omega) (by omega)
    have m2 := T.mono (a := y) (b := y + 1) (by omega) (by omega)
    rw [if_neg (by omega), if_neg (by omega), if_neg (by omega)]
  · rw [show k + 1 = y by omega] at h2; rw [e] at h1 ⊢
    have m2 := T.mono (a := y) (b := y + 1) (by omega) (by omega)
    rw [if_neg (by omega), if_neg (by omega), if_pos h1]
  · rw [e] at h1 h2 ⊢
    rw [if_neg (by omega), if_pos h1]
  · rw [e] at h1 ⊢
    rw [if_pos h1]
end Go.Proofs.YtilgamjahediiaaGreatDoor.Lc
/- Contracts of package local: which years, rules and seconds; the first day of a month; a rule's day. -/
namespace Go.Proofs.YtilgamjahediiaaGreatDoor
open Go.ChangeShapes Go.WideShapes Go.ChangeAt Go.RowKit
open Civ Zn Lc
def yrB (y : Int) : Bool := decide (1960 ≤ y ∧ y ≤ 10010)
def scB (t : Int) : Bool := decide (0 ≤ t ∧ t ≤ 253402300799)
theorem isYear_any (y : Int) (w : World) :
    Calls Tryz.prog 53 #[.int .i64 y] w fun e w' => e = .returned (.bool (yrB y)) ∧ w = w' := by
  go_enter Tryz.func53, Tryz.ntmps53
  go_wp2
  all_goals (go_ret; refine ⟨ret_bool ?_, rfl⟩; first | (simp [yrB, *]; done) | (simp [yrB, *]; intros; omega))
theorem isSecond_any (t : Int) (w : World) :
    Calls Tryz.prog 42 #[.int .i64 t] w fun e w' => e = .returned (.bool (scB t)) ∧ w = w' := by
  go_enter Tryz.func42, Tryz.ntmps42
  go_wp2
  all_goals (go_ret; refine ⟨ret_bool ?_, rfl⟩; first | (simp [scB, *]; done) | (simp [scB, *]; intros; omega))
/-- a rule in a block of its own -/
def Br (b : Nat) (r : Ru) (x : World) : Prop := x.heap[b]? = some (.cells #[.int .i64 r.k, .int .i64 r.m, .int .i64 r.w, .int .i64 r.d, .int .i64 r.a] 23)
theorem Br.lt {b : Nat} {r : Ru} {x : World} (h : Br b r x) : b < x.heap.size := (Array.getElem?_eq_some_iff.1 h).1
theorem Br.kept {b : Nat} {r : Ru} {x x' : World} (h : Br b r x) (k : Kept x x') : Br b r x' := (k.block b h.lt).trans h
theorem Br.c0 {b : Nat} {r : Ru} {x : World} (h : Br b r x) : x.cell? ⟨b, 0, none⟩ = some (.int .i64 r.k) := by unfold Br at h; simp [World.cell?, h]
theorem Br.c1 {b : Nat} {r : Ru} {x : World} (h : Br b r x) : x.cell? ⟨b, 1, none⟩ = some (.int .i64 r.m) := by unfold Br at h; simp [World.cell?, h]
theorem Br.c2 {b : Nat} {r : Ru} {x : World} (h : Br b r x) : x.cell? ⟨b, 2, none⟩ = some (.int .i64 r.w) := by unfold Br at h; simp [World.cell?, h]
theorem Br.c3 {b : Nat} {r : Ru} {x : World} (h : Br b r x) : x.cell? ⟨b, 3, none⟩ = some (.int .i64 r.d) := by unfold Br at h; simp [World.cell?, h]
theorem Br.c4 {b : Nat} {r : Ru} {x : World} (h : Br b r x) : x.cell? ⟨b, 4, none⟩ = some (.int .i64 r.a) := by unfold Br at h; simp [World.cell?, h]
theorem br_new (w : World) (r : Ru) : Br w.heap.size r (w.alloc (.cells #[.int .i64 r.k, .int .i64 r.m, .int .i64 r.w, .int .i64 r.d, .int .i64 r.a] 23)) := by
  show (w.heap.push _)[w.heap.size]? = _
  simp
theorem may_of_rule (r : Ru) : mayZ ⟨[83, 84, 68], 0, true, [68, 83, 84], 0, r, ⟨1, 0, 0, 0, 0⟩⟩ = mayR r := by
  have h1 : mayN [83, 84, 68] = true := by decide
  have h2 : mayN [68, 83, 84] = true := by decide
  have h3 : mayR ⟨1, 0, 0, 0, 0⟩ = true := by decide
  unfold mayZ
  simp only [h1, h2, h3]
  simp [offB]
end Go.Proofs.YtilgamjahediiaaGreatDoor
/- Contracts of package local: a rule's day, a year's turns. -/
namespace Go.Proofs.YtilgamjahediiaaGreatDoor
open Go.ChangeShapes Go.WideShapes Go.ChangeAt Go.RowKit
open Civ Zn Lc
theorem ord_first (y m : Int) : ord y m 1 = first y m := by unfold ord first; omega
theorem first_ok (y m : Int) (h1 : 1 ≤ y) (h2 : y ≤ 9999) (h3 : 1 ≤ m) (h4 : m ≤ 12) : okP y m 1 := by
  have := dim_in y m h3 h4
  exact ⟨h1, h2, by omega, by omega⟩
theorem firstDay_in (y m : Int) (w : World) (h1 : 1 ≤ y) (h2 : y ≤ 9999) (h3 : 1 ≤ m) (h4 : m ≤ 12) :
    Calls Tryz.prog 108 #[.int .i64 y, .int .i64 m] w fun e w' => e = .returned (.int .i64 (first y m)) ∧ Kept w w' := by
  have hok := first_ok y m h1 h2 h3 h4
  have ho := Lib.hid (ord_first y m)
  go_enter Tryz.func108, Tryz.ntmps108
  go_wp2_with fail
  refine (ord_yes _ _ _ _ hok).mono ?_
  rintro e w1 ⟨rfl, k1⟩
  rw [ho.out]
  go_wp2
  go_ret
  exact ⟨rfl, Kept.of_grown k1⟩
theorem firstDay_any (y m : Int) (w : World) (h1 : 1960 ≤ y) (h2 : y ≤ 10010) (h3 : 1 ≤ m) (h4 : m ≤ 12) :
    Calls Tryz.prog 108 #[.int .i64 y, .int .i64 m] w fun e w' => e = .returned (.int .i64 (first y m)) ∧ Kept w w' := by
  by_cases hy : y ≤ 9999
  · exact firstDay_in y m w (by omega) hy h3 h4
  · have e1 := Lib.hid (show first (y - 400) m + 146097 = first y m by
      have := first_400 (y - 400) m (by omega)
      rw [show y - 400 + 400 = y by omega] at this
      exact this.symm)
    have e2 := first_bd y m h1 h2 h3 (by omega)
    go_enter Tryz.func108, Tryz.ntmps108
    go_wp2_with fail
    refine (firstDay_in _ _ _ (by omega) (by omega) h3 h4).mono ?_
    rintro e w1 ⟨rfl, k1⟩
    go_wp2
    go_ret
    exact ⟨by rw [show wrap64 (first (y - 400) m + 146097) = first y m by have h := e1.out; unfold wrap64; omega]; rfl, k1⟩
theorem julianDay_any (y d : Int) (w : World) (h1 : 1960 ≤ y) (h2 : y ≤ 10010) (h3 : 1 ≤ d) (h4 : d ≤ 365) :
    Calls Tryz.prog 106 #[.int .i64 y, .int .i64 d] w fun e w' => e = .returned (.int .i64 (julian y d)) ∧ Kept w w' := by
  have e2 := first_bd y 1 h1 h2 (by omega) (by omega)
  cases hl : leap y with
  | true =>
    by_cases h60 : 60 ≤ d
    · have hj := Lib.hid (show julian y d = first y 1 + (d + 1) - 1 by simp [julian, hl, h60])
      go_enter Tryz.func106, Tryz.ntmps106
      go_wp2_with fail
      refine (leap_yes y _ hl).mono ?_
      rintro e w1 ⟨rfl, rfl⟩
      go_wp2_with fail
      refine (firstDay_any y 1 _ h1 h2 (by omega) (by omega)).mono ?_
      rintro e w1 ⟨rfl, k1⟩
      go_wp2
      go_ret
      exact ⟨by rw [hj.out]; go_num, k1⟩
    · have hj := Lib.hid (show julian y d = first y 1 + d - 1 by simp [julian, h60])
      go_enter Tryz.func106, Tryz.ntmps106
      go_wp2_with fail
      refine (leap_yes y _ hl).mono ?_
      rintro e w1 ⟨rfl, rfl⟩
      go_wp2_with fail
      refine (firstDay_any y 1 _ h1 h2 (by omega) (by omega)).mono ?_
      rintro e w1 ⟨rfl, k1⟩
      go_wp2
      go_ret
      exact ⟨by rw [hj.out]; go_num, k1⟩
  | false =>
    have hj := Lib.hid (show julian y d = first y 1 + d - 1 by simp [julian, hl])
    go_enter Tryz.func106, Tryz.ntmps106
    go_wp2_with fail
    refine (leap_no y _ hl).mono ?_
    rintro e w1 ⟨rfl, rfl⟩
    go_wp2_with fail
    refine (firstDay_any y 1 _ h1 h2 (by omega) (by omega)).mono ?_
    rintro e w1 ⟨rfl, k1⟩
    go_wp2
    go_ret
    exact ⟨by rw [hj.out]; go_num, k1⟩
set_option maxHeartbeats 1000000 in
theorem nthDay_any (r : Ru) (y : Int) (w : World) (h1 : 1960 ≤ y) (h2 : y ≤ 10010) (m1 : 1 ≤ r.m) (m2 : r.m ≤ 12) (w1 : 1 ≤ r.w) (w2 : r.w ≤ 5) (d1 : 0 ≤ r.d) (d2 : r.d ≤ 6) :
    Calls Tryz.prog 107 #[ruV r, .int .i64 y] w fun e w' => e = .returned (.int .i64 (nth (first y r.m) (dim y r.m) r.w r.d)) ∧ Kept w w' := by
  have e2 := first_bd y r.m h1 h2 m1 (by omega)
  have hd := dim_in y r.m m1 m2
  have hn := nth_in (first y r.m) (dim y r.m) r.w r.d hd.1 hd.2 w1 w2 d1 d2
  have hw : wd (first y r.m) = (first y r.m + 4) % 7 := by unfold wd; rw [if_neg (by omega)]
  have B0 := br_new w r
  have K0 := (Kept.refl w).alloc (.cells #[.int .i64 r.k, .int .i64 r.m, .int .i64 r.w, .int .i64 r.d, .int .i64 r.a] 23)
  go_enter Tryz.func107, Tryz.ntmps107
  go_upto_region 1 with (fail)
  generalize w.alloc (.cells #[.int .i64 r.k, .int .i64 r.m, .int .i64 r.w, .int .i64 r.d, .int .i64 r.a] 23) = x at *
  have c1 := B0.c1
  go_wp2_with fail
  refine (firstDay_any y r.m _ h1 h2 m1 m2).mono ?_
  rintro e x1 ⟨rfl, k1⟩
  have B1 := B0.kept k1
  have K1 := K0.trans k1
  clear c1 B0 K0 k1
  have c1 := B1.c1
  have c2 := B1.c2
  have c3 := B1.c3
  go_wp2_with fail
  go_region_held3 (fun y => y = x1.drew ∧ y.cell? ⟨w.heap.size, 3, none⟩ = some (.int .i64 r.d)) (first | exact ⟨rfl, c3⟩ | assumption)
    (first | (go_at_call 79; refine (wday_any _ _).mono ?_; rintro e w' ⟨rfl, rfl⟩))
  rw [show IntKind.i64.wrap (IntKind.i64.wrap (r.d - (first y r.m + 4) % 7) + 7) = r.d - (first y r.m + 4) % 7 + 7 by simp only [IntKind.wrap_i64]; omega, Int.tmod_eq_emod_of_nonneg (by omega)]
  have A := Lib.hid (show 0 ≤ (r.d - (first y r.m + 4) % 7 + 7) % 7 ∧ (r.d - (first y r.m + 4) % 7 + 7) % 7 ≤ 6 by omega)
  have HN := Lib.hid (show nth (first y r.m) (dim y r.m) r.w r.d = if first y r.m + (r.d - (first y r.m + 4) % 7 + 7) % 7 + (r.w - 1) * 7 ≥ first y r.m + dim y r.m then first y r.m + (r.d - (first y r.m + 4) % 7 + 7) % 7 + (r.w - 1) * 7 - 7 else first y r.m + (r.d - (first y r.m + 4) % 7 + 7) % 7 + (r.w - 1) * 7 from rfl)
  clear hn hw
  generalize (r.d - (first y r.m + 4) % 7 + 7) % 7 = a at *
  have B2 : Br w.heap.size r x1.drew := B1
  have K2 := K1.drew
  generalize x1.drew = x2 at *
  clear c1 c2 c3 B1 K1
  have c1 := B2.c1
  have c2 := B2.c2
  have A' := A.out
  go_wp2_with fail
  refine (days_any _ _ _).mono ?_
  rintro e x3 ⟨rfl, k3⟩
  have K3 := K2.trans (Kept.of_grown k3)
  clear c1 c2
  by_cases hc : first y r.m + a + (r.w - 1) * 7 ≥ first y r.m + dim y r.m
  · rw [if_pos hc] at HN
    go_wp2
    go_ret
    exact ⟨by rw [HN.out]; rfl, K3⟩
  · rw [if_neg hc] at HN
    go_wp2
    go_ret
    exact ⟨by rw [HN.out]; rfl, K3⟩
theorem heldR {w x x' : World} {b : Nat} {r : Ru} (k : Kept x x') (H : Kept w x ∧ Br b r x ∧ x.cell? ⟨b, 3, none⟩ = some (.int .i64 r.d)) : Kept w x' ∧ Br b r x' ∧ x'.cell? ⟨b, 3, none⟩ = some (.int .i64 r.d) :=
  ⟨H.1.trans k, H.2.1.kept k, (H.2.1.kept k).c3⟩
theorem dayOf_any (r : Ru) (y : Int) (w : World) (h1 : 1960 ≤ y) (h2 : y ≤ 10010) (hr : mayR r = true) :
    Calls Tryz.prog 82 #[ruV r, .int .i64 y] w fun e w' => e = .returned (.int .i64 (dayN r y)) ∧ Kept w w' := by
  have B0 := Lib.hid (br_new w r)
  have K0 := Lib.hid ((Kept.refl w).alloc (.cells #[.int .i64 r.k, .int .i64 r.m, .int .i64 r.w, .int .i64 r.d, .int .i64 r.a] 23))
  obtain ⟨_, _, h0 | h0 | h0⟩ := may_day hr
  · obtain ⟨k0, d1, d2⟩ := h0
    have HD := Lib.hid (show dayN r y = julian y r.d by simp only [dayN, k0, if_true])
    have KK := Lib.hid k0; clear k0 hr
    go_enter Tryz.func82, Tryz.ntmps82
    go_upto_region 1 with (fail)
    generalize w.alloc (.cells #[.int .i64 r.k, .int .i64 r.m, .int .i64 r.w, .int .i64 r.d, .int .i64 r.a] 23) = x at *
    have c0 := B0.out.c0
    rw [KK.out] at c0
    have c3 := B0.out.c3
    go_wp2_with fail
    refine (julianDay_any y r.d _ h1 h2 d1 d2).mono ?_
    rintro e x1 ⟨rfl, k1⟩
    go_wp2
    go_ret
    exact ⟨by rw [HD.out]; rfl, K0.out.trans k1⟩
  · obtain ⟨k0, d1, d2⟩ := h0
    have HD := Lib.hid (show dayN r y = first y 1 + r.d by simp [dayN, k0])
    have e2 := first_bd y 1 h1 h2 (by omega) (by omega)
    have KK := Lib.hid k0; clear k0 hr
    go_enter Tryz.func82, Tryz.ntmps82
    go_upto_region 1 with (fail)
    generalize w.alloc (.cells #[.int .i64 r.k, .int .i64 r.m, .int .i64 r.w, .int .i64 r.d, .int .i64 r.a] 23) = x at *
    have c0 := B0.out.c0
    rw [KK.out] at c0
    have c3 := B0.out.c3
    go_wp2_with fail
    go_region_held3 (fun z => Kept w z ∧ Br w.heap.size r z ∧ z.cell? ⟨w.heap.size, 3, none⟩ = some (.int .i64 r.d)) (first | exact heldR (by assumption) (by assumption) | exact ⟨K0.out.drew, B0.out, c3⟩ | assumption)
      (first | (go_at_call 108; refine (firstDay_any y 1 _ h1 h2 (by omega) (by omega)).mono ?_; rintro e w' ⟨rfl, hk⟩))
    go_wp2
    go_ret
    exact ⟨by rw [HD.out, show IntKind.i64.wrap (first y 1 + r.d) = first y 1 + r.d by simp only [IntKind.wrap_i64]; omega]; rfl, (by assumption : Kept w _ ∧ _).1⟩
  · obtain ⟨k0, m1, m2, w1, w2, d1, d2⟩ := h0
    have HD := Lib.hid (show dayN r y = nth (first y r.m) (dim y r.m) r.w r.d by simp [dayN, k0])
    have KK := Lib.hid k0; clear k0 hr
    go_enter Tryz.func82, Tryz.ntmps82
    go_upto_region 1 with (fail)
    generalize w.alloc (.cells #[.int .i64 r.k, .int .i64 r.m, .int .i64 r.w, .int .i64 r.d, .int .i64 r.a] 23) = x at *
    have c0 := B0.out.c0
    rw [KK.out] at c0
    have c1 := B0.out.c1
    have c2 := B0.out.c2
    have c3 := B0.out.c3
    have c4 := B0.out.c4
    go_wp2_with fail
    refine (nthDay_any ⟨2, r.m, r.w, r.d, r.a⟩ y _ h1 h2 m1 m2 w1 w2 d1 d2).mono ?_
    rintro e x1 ⟨rfl, k1⟩
    generalize nth (first y r.m) (dim y r.m) r.w r.d = v at *
    go_wp2
    go_ret
    exact ⟨by rw [HD.out]; rfl, K0.out.trans k1⟩
theorem heldF {w x x' : World} {b : Nat} {z : Zo} (k : Kept x x') (H : Kept w x ∧ Bz b z x ∧ x.cell? ⟨b, 1, none⟩ = some (.int .i64 z.off) ∧ x.cell? ⟨b, 5, none⟩ = some (.int .i64 z.fr.k) ∧ x.cell? ⟨b, 6, none⟩ = some (.int .i64 z.fr.m) ∧ x.cell? ⟨b, 7, none⟩ = some (.int .i64 z.fr.w) ∧ x.cell? ⟨b, 8, none⟩ = some (.int .i64 z.fr.d) ∧ x.cell? ⟨b, 9, none⟩ = some (.int .i64 z.fr.a)) : Kept w x' ∧ Bz b z x' ∧ x'.cell? ⟨b, 1, none⟩ = some (.int .i64 z.off) ∧ x'.cell? ⟨b, 5, none⟩ = some (.int .i64 z.fr.k) ∧ x'.cell? ⟨b, 6, none⟩ = some (.int .i64 z.fr.m) ∧ x'.cell? ⟨b, 7, none⟩ = some (.int .i64 z.fr.w) ∧ x'.cell? ⟨b, 8, none⟩ = some (.int .i64 z.fr.d) ∧ x'.cell? ⟨b, 9, none⟩ = some (.int .i64 z.fr.a) :=
  have B := H.2.1.kept k
  ⟨H.1.trans k, B, B.cs.c1, B.cs.c5, B.cs.c6, B.cs.c7, B.cs.c8, B.cs.c9⟩
theorem heldU {w x x' : World} {b : Nat} {z : Zo} (k : Kept x x') (H : Kept w x ∧ Bz b z x ∧ x.cell? ⟨b, 4, none⟩ = some (.int .i64 z.ahead) ∧ x.cell? ⟨b, 10, none⟩ = some (.int .i64 z.to.k) ∧ x.cell? ⟨b, 11, none⟩ = some (.int .i64 z.to.m) ∧ x.cell? ⟨b, 12, none⟩ = some (.int .i64 z.to.w) ∧ x.cell? ⟨b, 13, none⟩ = some (.int .i64 z.to.d) ∧ x.cell? ⟨b, 14, none⟩ = some (.int .i64 z.to.a)) : Kept w x' ∧ Bz b z x' ∧ x'.cell? ⟨b, 4, none⟩ = some (.int .i64 z.ahead) ∧ x'.cell? ⟨b, 10, none⟩ = some (.int .i64 z.to.k) ∧ x'.cell? ⟨b, 11, none⟩ = some (.int .i64 z.to.m) ∧ x'.cell? ⟨b, 12, none⟩ = some (.int .i64 z.to.w) ∧ x'.cell? ⟨b, 13, none⟩ = some (.int .i64 z.to.d) ∧ x'.cell? ⟨b, 14, none⟩ = some (.int .i64 z.to.a) :=
  have B := H.2.1.kept k
  ⟨H.1.trans k, B, B.cs.c4, B.cs.c10, B.cs.c11, B.cs.c12, B.cs.c13, B.cs.c14⟩
theorem day_bd {r : Ru} (hr : mayR r = true) {y : Int} (h1 : 1960 ≤ y) (h2 : y ≤ 10010) : -3653 ≤ dayN r y ∧ dayN r y ≤ 2937281 := by
  have := day_in hr y; have := first_bd y 1 h1 h2 (by omega) (by omega); omega
set_option maxHeartbeats 2000000 in
theorem turnsOf_any (z : Zo) (y : Int) (w : World) (h1 : 1960 ≤ y) (h2 : y ≤ 10010) (hz : mayZ z = true) (hh : z.has = true) :
    Calls Tryz.prog 54 #[zoV z, .int .i64 y] w fun e w' => e = .returned (.tuple #[.int .i64 (fromT z y), .int .i64 (uptoT z y)]) ∧ Kept w w' := by
  obtain ⟨r1, r2, o1, o2, a1, a2⟩ := may_T hz hh
  have q1 := may_day r1; have q2 := may_day r2
  have p1 := day_bd r1 h1 h2; have p2 := day_bd r2 h1 h2
  have HF := Lib.hid (show fromT z y = dayN z.fr y * 86400 + z.fr.a - z.off from rfl)
  have HU := Lib.hid (show uptoT z y = dayN z.to y * 86400 + z.to.a - z.ahead from rfl)
  have R1 := Lib.hid r1; have R2 := Lib.hid r2
  have B0 := Lib.hid (bz_new w z)
  have K0 := Lib.hid ((Kept.refl w).alloc (.cells (zo15 z.std z.off z.has z.dst z.ahead z.fr.k z.fr.m z.fr.w z.fr.d z.fr.a z.to.k z.to.m z.to.w z.to.d z.to.a) 25))
  replace q1 : -604799 ≤ z.fr.a ∧ z.fr.a ≤ 604799 := ⟨q1.1, q1.2.1⟩
  replace q2 : -604799 ≤ z.to.a ∧ z.to.a ≤ 604799 := ⟨q2.1, q2.2.1⟩
  clear hz hh r1 r2
  go_enter Tryz.func54, Tryz.ntmps54
  go_upto_region 1 with (fail)
  generalize w.alloc (.cells (zo15 z.std z.off z.has z.dst z.ahead z.fr.k z.fr.m z.fr.w z.fr.d z.fr.a z.to.k z.to.m z.to.w z.to.d z.to.a) 25) = x at *
  have c1 := B0.out.cs.c1
  have c5 := B0.out.cs.c5
  have c6 := B0.out.cs.c6
  have c7 := B0.out.cs.c7
  have c8 := B0.out.cs.c8
  have c9 := B0.out.cs.c9
  go_region_held3 (fun y => Kept w y ∧ Bz w.heap.size z y ∧ y.cell? ⟨w.heap.size, 1, none⟩ = some (.int .i64 z.off) ∧ y.cell? ⟨w.heap.size, 5, none⟩ = some (.int .i64 z.fr.k) ∧ y.cell? ⟨w.heap.size, 6, none⟩ = some (.int .i64 z.fr.m) ∧ y.cell? ⟨w.heap.size, 7, none⟩ = some (.int .i64 z.fr.w) ∧ y.cell? ⟨w.heap.size, 8, none⟩ = some (.int .i64 z.fr.d) ∧ y.cell? ⟨w.heap.size, 9, none⟩ = some (.int .i64 z.fr.a)) (first | exact heldF (by assumption) (by assumption) | exact ⟨K0.out.drew, B0.out, c1, c5, c6, c7, c8, c9⟩ | assumption)
    (first | (go_at_call 82; refine (dayOf_any z.fr y _ h1 h2 R1.out).mono ?_; rintro e w' ⟨rfl, hk⟩))
  have H1 := Lib.hid (by assumption : Kept w _ ∧ Bz w.heap.size z _ ∧ _)
  rename_i x1 _ _
  have K1 := Lib.hid H1.out.1
  have B1 := Lib.hid H1.out.2.1
  rw [show IntKind.i64.wrap (IntKind.i64.wrap (IntKind.i64.wrap (dayN z.fr y * 86400) + z.fr.a) - z.off) = fromT z y by rw [HF.out]; simp only [IntKind.wrap_i64]; omega]
  clear H1
  clear c1 c5 c6 c7 c8 c9
  have c4 := B1.out.cs.c4
  have c10 := B1.out.cs.c10
  have c11 := B1.out.cs.c11
  have c12 := B1.out.cs.c12
  have c13 := B1.out.cs.c13
  have c14 := B1.out.cs.c14
  go_wp2_with fail
  go_region_held3 (fun y => Kept w y ∧ Bz w.heap.size z y ∧ y.cell? ⟨w.heap.size, 4, none⟩ = some (.int .i64 z.ahead) ∧ y.cell? ⟨w.heap.size, 10, none⟩ = some (.int .i64 z.to.k) ∧ y.cell? ⟨w.heap.size, 11, none⟩ = some (.int .i64 z.to.m) ∧ y.cell? ⟨w.heap.size, 12, none⟩ = some (.int .i64 z.to.w) ∧ y.cell? ⟨w.heap.size, 13, none⟩ = some (.int .i64 z.to.d) ∧ y.cell? ⟨w.heap.size, 14, none⟩ = some (.int .i64 z.to.a)) (first | exact heldU (by assumption) (by assumption) | exact ⟨K1.out.drew, B1.out, c4, c10, c11, c12, c13, c14⟩ | assumption)
    (first | (go_at_call 82; refine (dayOf_any z.to y _ h1 h2 R2.out).mono ?_; rintro e w' ⟨rfl, hk⟩))
  rw [show IntKind.i64.wrap (IntKind.i64.wrap (IntKind.i64.wrap (dayN z.to y * 86400) + z.to.a) - z.ahead) = uptoT z y by rw [HU.out]; simp only [IntKind.wrap_i64]; omega]
  go_wp2
  go_ret2
  exact ⟨rfl, (by assumption : Kept w _ ∧ Bz w.heap.size z _ ∧ _).1⟩
set_option maxRecDepth 100000 in
set_option maxHeartbeats 2000000 in
theorem turns_yes (z : Zo) (y : Int) (w : World) (hy : yrB y = true) (hz : mayZ z = true) (hh : z.has = true) :
    Calls Tryz.prog 22 #[zoV z, .int .i64 y] w fun e w' => e = .returned (.tuple #[.int .i64 (fromT z y), .int .i64 (uptoT z y), .int .i64 0]) ∧ Kept w w' := by
  have hb : 1960 ≤ y ∧ y ≤ 10010 := by simpa [yrB] using hy
  have HY := Lib.hid hy; clear hy
  have HZ := Lib.hid hz; clear hz
  have HH := Lib.hid hh; clear hh
  have B0 := Lib.hid (bz_new w z)
  have K0 := Lib.hid ((Kept.refl w).alloc (.cells (zo15 z.std z.off z.has z.dst z.ahead z.fr.k z.fr.m z.fr.w z.fr.d z.fr.a z.to.k z.to.m z.to.w z.to.d z.to.a) 25))
  go_enter Tryz.func22, Tryz.ntmps22
  go_upto_region 1 with (fail)
  generalize w.alloc (.cells (zo15 z.std z.off z.has z.dst z.ahead z.fr.k z.fr.m z.fr.w z.fr.d z.fr.a z.to.k z.to.m z.to.w z.to.d z.to.a) 25) = x at *
  go_wp2_with (refine wpList_load_row rfl 25 _ rfl w.heap.size rfl 25 _ (0, 0) _ B0.out Tryz.underlying25 rfl (by kernel_rfl) ?_)
  refine (zMay_any z _).mono ?_
  rintro e w1 ⟨rfl, k1⟩
  rw [HZ.out]
  have B1 := Lib.hid (B0.out.kept k1)
  have K1 := Lib.hid (K0.out.trans k1)
  clear B0 K0 k1
  have c2 := B1.out.cs.c2
  rw [HH.out] at c2
  go_wp2_with fail
  refine (isYear_any y _).mono ?_
  rintro e w2 ⟨rfl, rfl⟩
  rw [HY.out]
  go_wp2_with (refine wpList_load_row rfl 25 _ rfl w.heap.size rfl 25 _ (0, 0) _ B1.out Tryz.underlying25 rfl (by kernel_rfl) ?_)
  refine (turnsOf_any z y _ hb.1 hb.2 HZ.out HH.out).mono ?_
  rintro e w2 ⟨rfl, k2⟩
  go_wp2
  refine bodyPost_ret (v := .tuple #[.int .i64 (fromT z y), .int .i64 (uptoT z y), .int .i64 0]) (by simp [results, Tryz.results22, go_sem, *]) rfl ⟨rfl, K1.out.trans k2⟩
set_option maxRecDepth 100000 in
set_option maxHeartbeats 2000000 in
theorem turns_not (z : Zo) (y : Int) (w : World) (h : (mayZ z && z.has && yrB y) = false) :
    Calls Tryz.prog 22 #[zoV z, .int .i64 y] w fun e w' => e = .returned (.tuple #[.int .i64 0, .int .i64 0, .int .i64 1]) ∧ Kept w w' := by
  have HN := Lib.hid h; clear h
  have B0 := Lib.hid (bz_new w z)
  have K0 := Lib.hid ((Kept.refl w).alloc (.cells (zo15 z.std z.off z.has z.dst z.ahead z.fr.k z.fr.m z.fr.w z.fr.d z.fr.a z.to.k z.to.m z.to.w z.to.d z.to.a) 25))
  go_enter Tryz.func22, Tryz.ntmps22
  go_upto_region 1 with (fail)
  generalize w.alloc (.cells (zo15 z.std z.off z.has z.dst z.ahead z.fr.k z.fr.m z.fr.w z.fr.d z.fr.a z.to.k z.to.m z.to.w z.to.d z.to.a) 25) = x at *
  go_wp2_with (refine wpList_load_row rfl 25 _ rfl w.heap.size rfl 25 _ (0, 0) _ B0.out Tryz.underlying25 rfl (by kernel_rfl) ?_)
  refine (zMay_any z _).mono ?_
  rintro e w1 ⟨rfl, k1⟩
  have B1 := Lib.hid (B0.out.kept k1)
  have K1 := Lib.hid (K0.out.trans k1)
  clear B0 K0 k1
  cases hz : mayZ z with
  | false =>
    clear hz
    go_wp2
    refine bodyPost_ret (v := .tuple #[.int .i64 0, .int .i64 0, .int .i64 1]) (by simp [results, Tryz.results22, go_sem, *]) rfl ⟨rfl, K1.out⟩
  | true =>
    have c2 := B1.out.cs.c2
    cases hh : z.has with
    | false =>
      rw [hh] at c2
      clear hz hh
      go_wp2
      refine bodyPost_ret (v := .tuple #[.int .i64 0, .int .i64 0, .int .i64 1]) (by simp [results, Tryz.results22, go_sem, *]) rfl ⟨rfl, K1.out⟩
    | true =>
      rw [hh] at c2
      have hy : yrB y = false := by have := HN.out; rw [hz, hh] at this; simpa using this
      have HY := Lib.hid hy; clear hz hh hy
      go_wp2_with fail
      refine (isYear_any y _).mono ?_
      rintro e w2 ⟨rfl, rfl⟩
      rw [HY.out]
      go_wp2
      refine bodyPost_ret (v := .tuple #[.int .i64 0, .int .i64 0, .int .i64 1]) (by simp [results, Tryz.results22, go_sem, *]) rfl ⟨rfl, K1.out⟩
end Go.Proofs.YtilgamjahediiaaGreatDoor
