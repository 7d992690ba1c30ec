/- The law LocalDays, walked. -/
import Derived.Test.YtcgmefojokndhaaLcAll
namespace Go.Proofs.Ytcgmefojokndhaa
open Go.ChangeShapes Go.WideShapes Go.ChangeAt Go.RowKit
open Civ Zn Lc
/-- a number within a year is a day of it -/
theorem year_of {n y y' m d : Int} (hk : okP y' m d) (ho : ord y' m d = n) (hy : 1 ≤ y) (h1 : first y 1 ≤ n) (h2 : n < first (y + 1) 1) : y' = y ∧ cum y m + d = n - first y 1 + 1 := by
  have a := yd_bd hk
  have b := first_next y' hk.1
  have c : first y' 1 + cum y' m + d - 1 = n := by rw [← ho]; unfold first ord; rw [cum_1]; omega
  have f : ∀ q : Int, first q 1 = dby q - 719162 := fun q => by unfold first; rw [cum_1]; omega
  have e : y' = y := by
    rcases (by omega : y' < y ∨ y' = y ∨ y < y') with h | h | h
    · have := dby_mono (y' + 1) y (by have := hk.1; omega) (by omega)
      have := f (y' + 1); have := f y
      omega
    · exact h
    · have := dby_mono (y + 1) y' (by omega) (by omega)
      have := f (y + 1); have := f y'
      omega
  subst e
  exact ⟨rfl, by omega⟩
theorem cum_3 (y : Int) : cum y 3 = 59 + lp y := rfl
theorem julian_in (y d : Int) (h : 1 ≤ y) (d1 : 1 ≤ d) (d2 : d ≤ 365) : first y 1 ≤ julian y d ∧ julian y d < first (y + 1) 1 := by
  have a := first_next y h
  unfold julian
  split
  · rename_i q
    have := lp_true q.1
    omega
  · have := lp_01 y; omega
theorem julian_is {y m d e : Int} (hk : okP y m e) (d1 : 1 ≤ d) (hj : cum y m + e = julian y d - first y 1 + 1) : ¬ (m = 2 ∧ e = 29) ∧ (leap y = true ∧ 2 < m → cum y m + e = d + 1) ∧ (¬ (leap y = true ∧ 2 < m) → cum y m + e = d) := by
  obtain ⟨m1, m2⟩ := ok_month hk.2.2.1 hk.2.2.2
  have hlt : 2 < m → cum y 3 ≤ cum y m := fun h => cum_mono y 3 m (by omega) (by omega) (by omega)
  have hle : m ≤ 2 → cum y m + e ≤ cum y 3 := fun h => by
    have a := cum_succ y m m1 m2
    have b := cum_mono y (m + 1) 3 (by omega) (by omega) (by omega)
    have := hk.2.2.2
    omega
  have h3 := cum_3 y
  have h22 : cum y 2 = 31 := rfl
  have e1 := hk.2.2.1
  unfold julian at hj
  cases hl : leap y with
  | true =>
    have hp := lp_true hl
    simp only [hl, true_and] at hj
    by_cases h60 : 60 ≤ d
    · rw [if_pos h60] at hj
      refine ⟨?_, ?_, ?_⟩
      · rintro ⟨rfl, rfl⟩; omega
      · rintro ⟨_, q⟩; omega
      · intro q
        have : m ≤ 2 := by by_cases g : 2 < m; exact absurd ⟨rfl, g⟩ q; omega
        have := hle this; omega
    · rw [if_neg h60] at hj
      refine ⟨?_, ?_, ?_⟩
      · rintro ⟨rfl, rfl⟩; omega
      · rintro ⟨_, q⟩; have := hlt q; omega
      · intro _; omega
  | false =>
    have hp := lp_false hl
    simp only [hl, Bool.false_eq_true, false_and, if_false] at hj
    refine ⟨?_, ?_, ?_⟩
    · rintro ⟨rfl, rfl⟩
      have : dim y 2 = 28 + lp y := rfl
      have := hk.2.2.2
      omega
    · rintro ⟨q, _⟩; cases q
    · intro _; omega
theorem nth_is {y m e F L w d : Int} (mm : Int) (m1 : 1 ≤ mm) (m2 : mm ≤ 12) (hy1 : 1 ≤ y) (hy2 : y ≤ 9999) (hF : F = first y mm) (hL : L = dim y mm) (w1 : 1 ≤ w) (w2 : w ≤ 5) (d1 : 0 ≤ d) (d2 : d ≤ 6) {y' : Int} (hk : okP y' m e) (ho : ord y' m e = nth F L w d) :
    y' = y ∧ m = mm ∧ ((e - 1) / 7 = w - 1 ∨ ¬ (e - 1) / 7 = w - 1 ∧ w = 5 ∧ L < e + 7) := by
  have hd := dim_in y mm m1 m2
  have hn := nth_in F L w d (by omega) (by omega) w1 w2 d1 d2
  have hk' : okP y mm (nth F L w d - F + 1) := ⟨hy1, hy2, by omega, by omega⟩
  have ho' : ord y mm (nth F L w d - F + 1) = nth F L w d := by rw [hF]; unfold ord first; omega
  obtain ⟨rfl, rfl, rfl⟩ := ord_inj hk hk' (ho.trans ho'.symm)
  refine ⟨rfl, rfl, ?_⟩
  obtain ⟨_, _, _, n4, n5⟩ := hn
  by_cases h : w ≤ 4
  · have := n4 h; left; omega
  · have := n5 (by omega)
    by_cases q : (nth F L w d - F + 1 - 1) / 7 = w - 1
    · exact Or.inl q
    · exact Or.inr ⟨q, by omega, by omega⟩
theorem day_of' (n : Int) (w : World) (h1 : -719162 ≤ n) (h2 : n ≤ 2932896) : ∃ y m d : Int, okP y m d ∧ ord y m d = n := day_of n w h1 h2
set_option maxRecDepth 100000 in
set_option maxHeartbeats 4000000 in
theorem days_zero (r : Ru) (y : Int) (w : World) (hy : yrB y = true) (hr : mayR r = true) (h9 : y ≤ 9999) (hk : r.k = 1) (d1 : 0 ≤ r.d) (d2 : r.d ≤ 365) :
    Calls Try.prog 7 #[ruV r, .int .i64 y] w fun e w' => e = .returned (.bool true) ∧ Kept w w' := by
  have HD := Lib.hid (show dayN r y = first y 1 + r.d by simp [dayN, hk])
  have HK := Lib.hid hk; clear hk
  have HY := Lib.hid hy; have HR := Lib.hid hr
  have hb : 1960 ≤ y ∧ y ≤ 10010 := by simpa [yrB] using hy
  have B0 := Lib.hid (br_new w r)
  have K0 := Lib.hid ((Kept.refl w).alloc (.cells #[.int .i64 r.k, .int .i64 r.m, .int .i64 r.w, .int .i64 r.d, .int .i64 r.a] 23))
  clear hy hr
  go_enter Try.func7, Try.ntmps7
  go_upto_region 1 with (fail)
  generalize w.alloc (.cells #[.int .i64 r.k, .int .i64 r.m, .int .i64 r.w, .int .i64 r.d, .int .i64 r.a] 23) = x at *
  go_wp2_with fail
  refine (awake_yes _).mono ?_
  rintro e w1 ⟨rfl, k1⟩
  have B1 := Lib.hid (B0.out.kept k1)
  have K1 := Lib.hid (K0.out.trans k1)
  clear B0 K0 k1
  go_wp2_with (refine wpList_load_row rfl 23 _ rfl w.heap.size rfl 23 _ (0, 0) _ B1.out Try.underlying23 rfl (by kernel_rfl) ?_)
  refine (day_yes r y _ HY.out HR.out).mono ?_
  rintro e w2 ⟨rfl, k2⟩
  have B2 := Lib.hid (B1.out.kept k2)
  have K2 := Lib.hid (K1.out.trans k2)
  clear B1 K1 k2
  have e2 := first_bd y 1 hb.1 hb.2 (by omega) (by omega)
  have OF := Lib.hid (ord_first y 1)
  rw [HD.out]
  have c0 := B2.out.c0
  rw [HK.out] at c0
  go_wp2_with fail
  refine (ord_yes y 1 1 _ (first_ok y 1 (by omega) h9 (by omega) (by omega))).mono ?_
  rintro e w3 ⟨rfl, k3⟩
  rw [OF.out]
  have B3 := Lib.hid (B2.out.kept k3)
  have K3 := Lib.hid (K2.out.trans k3)
  clear B2 K2 k3 c0
  have c3 := B3.out.c3
  go_wp2
  go_ret
  exact ⟨rfl, K3.out⟩
set_option maxRecDepth 100000 in
set_option maxHeartbeats 4000000 in
theorem days_out (r : Ru) (y : Int) (w : World) (h : (yrB y && mayR r) = false ∨ 9999 < y) :
    Calls Try.prog 7 #[ruV r, .int .i64 y] w fun e w' => e = .returned (.bool true) ∧ Kept w w' := by
  have HN := Lib.hid h; clear h
  have B0 := Lib.hid (br_new w r)
  have K0 := Lib.hid ((Kept.refl w).alloc (.cells #[.int .i64 r.k, .int .i64 r.m, .int .i64 r.w, .int .i64 r.d, .int .i64 r.a] 23))
  go_enter Try.func7, Try.ntmps7
  go_upto_region 1 with (fail)
  generalize w.alloc (.cells #[.int .i64 r.k, .int .i64 r.m, .int .i64 r.w, .int .i64 r.d, .int .i64 r.a] 23) = x at *
  go_wp2_with fail
  refine (awake_yes _).mono ?_
  rintro e w1 ⟨rfl, k1⟩
  have B1 := Lib.hid (B0.out.kept k1)
  have K1 := Lib.hid (K0.out.trans k1)
  clear B0 K0 k1
  go_wp2_with (refine wpList_load_row rfl 23 _ rfl w.heap.size rfl 23 _ (0, 0) _ B1.out Try.underlying23 rfl (by kernel_rfl) ?_)
  refine (day_any r y _).mono ?_
  rintro e w2 ⟨rfl, k2⟩
  have K2 := Lib.hid (K1.out.trans k2)
  clear B1 K1 k2
  by_cases h : (yrB y && mayR r) = true
  · have h9 : 9999 < y := HN.out.resolve_left (by simp [h])
    have HE := Lib.hid (show dE r y = 0 by unfold dE; rw [if_pos h])
    clear h
    rw [HE.out]
    go_wp2
    go_ret
    exact ⟨rfl, K2.out⟩
  · have HE := Lib.hid (show dE r y = 1 by unfold dE; rw [if_neg h])
    clear h
    rw [HE.out]
    go_wp2
    go_ret
    exact ⟨rfl, K2.out⟩
end Go.Proofs.Ytcgmefojokndhaa
