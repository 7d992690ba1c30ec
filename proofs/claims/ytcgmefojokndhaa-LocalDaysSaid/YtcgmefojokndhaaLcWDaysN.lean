/- The law LocalDays, walked: a Nth rule; all of it. -/
import Derived.Test.YtcgmefojokndhaaLcWDaysJ
namespace Go.Proofs.Ytcgmefojokndhaa
open Go.ChangeShapes Go.WideShapes Go.ChangeAt Go.RowKit
open Civ Zn Lc
set_option maxRecDepth 100000 in
set_option maxHeartbeats 8000000 in
theorem days_nth (r : Ru) (y : Int) (w : World) (hy : yrB y = true) (hr : mayR r = true) (h9 : y ≤ 9999) (hk : r.k = 2) (m1 : 1 ≤ r.m) (m2 : r.m ≤ 12) (x1 : 1 ≤ r.w) (x2 : r.w ≤ 5) (d1 : 0 ≤ r.d) (d2 : r.d ≤ 6) :
    Calls Try.prog 7 #[ruV r, .int .i64 y] w fun e w' => e = .returned (.bool true) ∧ Kept w w' := by
  have HD := Lib.hid (show dayN r y = nth (first y r.m) (dim y r.m) r.w r.d by simp [dayN, hk])
  have HK := Lib.hid hk; clear hk
  have HY := Lib.hid hy; have HR := Lib.hid hr
  have hb : 1960 ≤ y ∧ y ≤ 10010 := by simpa [yrB] using hy
  have B0 := Lib.hid (br_new w r)
  have K0 := Lib.hid ((Kept.refl w).alloc (.cells #[.int .i64 r.k, .int .i64 r.m, .int .i64 r.w, .int .i64 r.d, .int .i64 r.a] 23))
  clear hy hr
  go_enter Try.func7, Try.ntmps7
  go_upto_region 1 with (fail)
  generalize w.alloc (.cells #[.int .i64 r.k, .int .i64 r.m, .int .i64 r.w, .int .i64 r.d, .int .i64 r.a] 23) = x at *
  go_wp2_with fail
  refine (awake_yes _).mono ?_
  rintro e w1 ⟨rfl, k1⟩
  have B1 := Lib.hid (B0.out.kept k1)
  have K1 := Lib.hid (K0.out.trans k1)
  clear B0 K0 k1
  go_wp2_with (refine wpList_load_row rfl 23 _ rfl w.heap.size rfl 23 _ (0, 0) _ B1.out Try.underlying23 rfl (by kernel_rfl) ?_)
  refine (day_yes r y _ HY.out HR.out).mono ?_
  rintro e w2 ⟨rfl, k2⟩
  have B2 := Lib.hid (B1.out.kept k2)
  have K2 := Lib.hid (K1.out.trans k2)
  clear B1 K1 k2
  have hdm := dim_in y r.m m1 m2
  have hni := nth_in (first y r.m) (dim y r.m) r.w r.d hdm.1 hdm.2 x1 x2 d1 d2
  have e2 := first_bd y r.m hb.1 hb.2 m1 (by omega)
  have e3 := first_bd y (r.m + 1) hb.1 hb.2 (by omega) (by omega)
  have e5 := first_dim y r.m m1 m2
  have hwd : wd (nth (first y r.m) (dim y r.m) r.w r.d) = r.d := by unfold wd; rw [if_neg (by omega)]; exact hni.1
  have e4 : nth (first y r.m) (dim y r.m) r.w r.d ≤ 2932896 := by
    have a := first_in y (r.m + 1) (by omega) (by omega)
    have b := first_next y (by have := hb.1; omega)
    have f : ∀ q : Int, first q 1 = dby q - 719162 := fun q => by unfold first; rw [cum_1]; omega
    have := dby_mono (y + 1) 10000 (by omega) (by omega)
    have := f (y + 1); have := dby_10000
    omega
  rw [HD.out]
  have NI := Lib.hid (fun (yy mm ee : Int) (a : okP yy mm ee) (b : ord yy mm ee = nth (first y r.m) (dim y r.m) r.w r.d) => nth_is (y := y) r.m m1 m2 (by omega) h9 rfl rfl x1 x2 d1 d2 a b)
  have HW := Lib.hid hwd
  have NB := Lib.hid (show -719162 ≤ nth (first y r.m) (dim y r.m) r.w r.d ∧ nth (first y r.m) (dim y r.m) r.w r.d ≤ 2932896 by omega)
  generalize nth (first y r.m) (dim y r.m) r.w r.d = n at *
  clear hwd hni e3
  have c0 := B2.out.c0
  rw [HK.out] at c0
  go_wp2_with fail
  refine (date_yes n _ NB.out.1 NB.out.2).mono ?_
  rintro e w3 ⟨p, q, d, rfl, ho, hn, k3⟩
  obtain ⟨hp, hq, hor⟩ := NI.out p q d ho hn
  subst hp hq
  have B3 := Lib.hid (B2.out.kept k3)
  have K3 := Lib.hid (K2.out.trans k3)
  have dd : 1 ≤ d ∧ d ≤ 31 := ⟨ho.2.2.1, by have := ho.2.2.2; omega⟩
  have OR := Lib.hid hor
  clear B2 K2 k3 c0 NI ho hn hor
  have c0 := B3.out.c0
  rw [HK.out] at c0
  have c1 := B3.out.c1
  have c2 := B3.out.c2
  have c3 := B3.out.c3
  go_wp2_with fail
  go_region_held3 (fun y => Kept w3 y ∧ y.cell? ⟨w.heap.size, 1, none⟩ = some (.int .i64 r.m) ∧ y.cell? ⟨w.heap.size, 3, none⟩ = some (.int .i64 r.d)) (first | exact ⟨(Kept.refl w3).drew, c1, c3⟩ | assumption)
    (first | (go_at_call 27; refine (wday_any _ _).mono ?_; rintro e w' ⟨rfl, rfl⟩; rw [HW.out]))
  have c1' : w3.drew.cell? ⟨w.heap.size, 2, none⟩ = some (.int .i64 r.w) := c2
  clear c2
  rcases OR.out with h | ⟨h, h5, hL⟩
  · have hq : (d - 1).tdiv 7 = r.w - 1 := by rw [Int.tdiv_eq_ediv_of_nonneg (by omega)]; exact h
    clear h
    go_wp2
    go_ret
    exact ⟨rfl, K3.out.drew⟩
  · have H5 := Lib.hid h5
    rw [h5] at c1'
    clear h h5
    go_wp2_with fail
    all_goals first
      | (go_ret
         exact ⟨rfl, K3.out.drew⟩)
      | (refine (days_any _ _ _).mono ?_
         rintro e w5 ⟨rfl, k5⟩
         go_wp2
         go_ret
         exact ⟨rfl, K3.out.drew.trans k5⟩)
theorem walkDays (r : Ru) (y : Int) (w : World) (_ : -9223372036854775808 ≤ y) (_ : y ≤ 9223372036854775807) :
    Calls Try.prog 7 #[ruV r, .int .i64 y] w fun e w' => e = .returned (.bool true) ∧ Kept w w' := by
  by_cases h : (yrB y && mayR r) = true
  · by_cases h9 : 9999 < y
    · exact days_out r y w (Or.inr h9)
    · rw [Bool.and_eq_true] at h
      obtain ⟨_, _, h0 | h0 | h0⟩ := may_day h.2
      · exact days_julian r y w h.1 h.2 (by omega) h0.1 h0.2.1 h0.2.2
      · exact days_zero r y w h.1 h.2 (by omega) h0.1 h0.2.1 h0.2.2
      · exact days_nth r y w h.1 h.2 (by omega) h0.1 h0.2.1 h0.2.2.1 h0.2.2.2.1 h0.2.2.2.2.1 h0.2.2.2.2.2.1 h0.2.2.2.2.2.2
  · exact days_out r y w (Or.inl (Bool.eq_false_iff.2 h))
end Go.Proofs.Ytcgmefojokndhaa
