/- Contracts of package local: a rule's day, a year's turns. -/
import Derived.Test.YtcgmefojokndhaaLcFns
namespace Go.Proofs.Ytcgmefojokndhaa
open Go.ChangeShapes Go.WideShapes Go.ChangeAt Go.RowKit
open Civ Zn Lc
theorem ord_first (y m : Int) : ord y m 1 = first y m := by unfold ord first; omega
theorem first_ok (y m : Int) (h1 : 1 ≤ y) (h2 : y ≤ 9999) (h3 : 1 ≤ m) (h4 : m ≤ 12) : okP y m 1 := by
  have := dim_in y m h3 h4
  exact ⟨h1, h2, by omega, by omega⟩
theorem firstDay_in (y m : Int) (w : World) (h1 : 1 ≤ y) (h2 : y ≤ 9999) (h3 : 1 ≤ m) (h4 : m ≤ 12) :
    Calls Try.prog 61 #[.int .i64 y, .int .i64 m] w fun e w' => e = .returned (.int .i64 (first y m)) ∧ Kept w w' := by
  have hok := first_ok y m h1 h2 h3 h4
  have ho := Lib.hid (ord_first y m)
  go_enter Try.func61, Try.ntmps61
  go_wp2_with fail
  refine (ord_yes _ _ _ _ hok).mono ?_
  rintro e w1 ⟨rfl, k1⟩
  rw [ho.out]
  go_wp2
  go_ret
  exact ⟨rfl, Kept.of_grown k1⟩
theorem firstDay_any (y m : Int) (w : World) (h1 : 1960 ≤ y) (h2 : y ≤ 10010) (h3 : 1 ≤ m) (h4 : m ≤ 12) :
    Calls Try.prog 61 #[.int .i64 y, .int .i64 m] w fun e w' => e = .returned (.int .i64 (first y m)) ∧ Kept w w' := by
  by_cases hy : y ≤ 9999
  · exact firstDay_in y m w (by omega) hy h3 h4
  · have e1 := Lib.hid (show first (y - 400) m + 146097 = first y m by
      have := first_400 (y - 400) m (by omega)
      rw [show y - 400 + 400 = y by omega] at this
      exact this.symm)
    have e2 := first_bd y m h1 h2 h3 (by omega)
    go_enter Try.func61, Try.ntmps61
    go_wp2_with fail
    refine (firstDay_in _ _ _ (by omega) (by omega) h3 h4).mono ?_
    rintro e w1 ⟨rfl, k1⟩
    go_wp2
    go_ret
    exact ⟨by rw [show wrap64 (first (y - 400) m + 146097) = first y m by have h := e1.out; unfold wrap64; omega]; rfl, k1⟩
theorem julianDay_any (y d : Int) (w : World) (h1 : 1960 ≤ y) (h2 : y ≤ 10010) (h3 : 1 ≤ d) (h4 : d ≤ 365) :
    Calls Try.prog 59 #[.int .i64 y, .int .i64 d] w fun e w' => e = .returned (.int .i64 (julian y d)) ∧ Kept w w' := by
  have e2 := first_bd y 1 h1 h2 (by omega) (by omega)
  cases hl : leap y with
  | true =>
    by_cases h60 : 60 ≤ d
    · have hj := Lib.hid (show julian y d = first y 1 + (d + 1) - 1 by simp [julian, hl, h60])
      go_enter Try.func59, Try.ntmps59
      go_wp2_with fail
      refine (leap_yes y _ hl).mono ?_
      rintro e w1 ⟨rfl, rfl⟩
      go_wp2_with fail
      refine (firstDay_any y 1 _ h1 h2 (by omega) (by omega)).mono ?_
      rintro e w1 ⟨rfl, k1⟩
      go_wp2
      go_ret
      exact ⟨by rw [hj.out]; go_num, k1⟩
    · have hj := Lib.hid (show julian y d = first y 1 + d - 1 by simp [julian, h60])
      go_enter Try.func59, Try.ntmps59
      go_wp2_with fail
      refine (leap_yes y _ hl).mono ?_
      rintro e w1 ⟨rfl, rfl⟩
      go_wp2_with fail
      refine (firstDay_any y 1 _ h1 h2 (by omega) (by omega)).mono ?_
      rintro e w1 ⟨rfl, k1⟩
      go_wp2
      go_ret
      exact ⟨by rw [hj.out]; go_num, k1⟩
  | false =>
    have hj := Lib.hid (show julian y d = first y 1 + d - 1 by simp [julian, hl])
    go_enter Try.func59, Try.ntmps59
    go_wp2_with fail
    refine (leap_no y _ hl).mono ?_
    rintro e w1 ⟨rfl, rfl⟩
    go_wp2_with fail
    refine (firstDay_any y 1 _ h1 h2 (by omega) (by omega)).mono ?_
    rintro e w1 ⟨rfl, k1⟩
    go_wp2
    go_ret
    exact ⟨by rw [hj.out]; go_num, k1⟩
set_option maxHeartbeats 1000000 in
theorem nthDay_any (r : Ru) (y : Int) (w : World) (h1 : 1960 ≤ y) (h2 : y ≤ 10010) (m1 : 1 ≤ r.m) (m2 : r.m ≤ 12) (w1 : 1 ≤ r.w) (w2 : r.w ≤ 5) (d1 : 0 ≤ r.d) (d2 : r.d ≤ 6) :
    Calls Try.prog 60 #[ruV r, .int .i64 y] w fun e w' => e = .returned (.int .i64 (nth (first y r.m) (dim y r.m) r.w r.d)) ∧ Kept w w' := by
  have e2 := first_bd y r.m h1 h2 m1 (by omega)
  have hd := dim_in y r.m m1 m2
  have hn := nth_in (first y r.m) (dim y r.m) r.w r.d hd.1 hd.2 w1 w2 d1 d2
  have hw : wd (first y r.m) = (first y r.m + 4) % 7 := by unfold wd; rw [if_neg (by omega)]
  have B0 := br_new w r
  have K0 := (Kept.refl w).alloc (.cells #[.int .i64 r.k, .int .i64 r.m, .int .i64 r.w, .int .i64 r.d, .int .i64 r.a] 23)
  go_enter Try.func60, Try.ntmps60
  go_upto_region 1 with (fail)
  generalize w.alloc (.cells #[.int .i64 r.k, .int .i64 r.m, .int .i64 r.w, .int .i64 r.d, .int .i64 r.a] 23) = x at *
  have c1 := B0.c1
  go_wp2_with fail
  refine (firstDay_any y r.m _ h1 h2 m1 m2).mono ?_
  rintro e x1 ⟨rfl, k1⟩
  have B1 := B0.kept k1
  have K1 := K0.trans k1
  clear c1 B0 K0 k1
  have c1 := B1.c1
  have c2 := B1.c2
  have c3 := B1.c3
  go_wp2_with fail
  go_region_held3 (fun y => y = x1.drew ∧ y.cell? ⟨w.heap.size, 3, none⟩ = some (.int .i64 r.d)) (first | exact ⟨rfl, c3⟩ | assumption)
    (first | (go_at_call 27; refine (wday_any _ _).mono ?_; rintro e w' ⟨rfl, rfl⟩))
  rw [show IntKind.i64.wrap (IntKind.i64.wrap (r.d - (first y r.m + 4) % 7) + 7) = r.d - (first y r.m + 4) % 7 + 7 by simp only [IntKind.wrap_i64]; omega, Int.tmod_eq_emod_of_nonneg (by omega)]
  have A := Lib.hid (show 0 ≤ (r.d - (first y r.m + 4) % 7 + 7) % 7 ∧ (r.d - (first y r.m + 4) % 7 + 7) % 7 ≤ 6 by omega)
  have HN := Lib.hid (show nth (first y r.m) (dim y r.m) r.w r.d = if first y r.m + (r.d - (first y r.m + 4) % 7 + 7) % 7 + (r.w - 1) * 7 ≥ first y r.m + dim y r.m then first y r.m + (r.d - (first y r.m + 4) % 7 + 7) % 7 + (r.w - 1) * 7 - 7 else first y r.m + (r.d - (first y r.m + 4) % 7 + 7) % 7 + (r.w - 1) * 7 from rfl)
  clear hn hw
  generalize (r.d - (first y r.m + 4) % 7 + 7) % 7 = a at *
  have B2 : Br w.heap.size r x1.drew := B1
  have K2 := K1.drew
  generalize x1.drew = x2 at *
  clear c1 c2 c3 B1 K1
  have c1 := B2.c1
  have c2 := B2.c2
  have A' := A.out
  go_wp2_with fail
  refine (days_any _ _ _).mono ?_
  rintro e x3 ⟨rfl, k3⟩
  have K3 := K2.trans (Kept.of_grown k3)
  clear c1 c2
  by_cases hc : first y r.m + a + (r.w - 1) * 7 ≥ first y r.m + dim y r.m
  · rw [if_pos hc] at HN
    go_wp2
    go_ret
    exact ⟨by rw [HN.out]; rfl, K3⟩
  · rw [if_neg hc] at HN
    go_wp2
    go_ret
    exact ⟨by rw [HN.out]; rfl, K3⟩
theorem heldR {w x x' : World} {b : Nat} {r : Ru} (k : Kept x x') (H : Kept w x ∧ Br b r x ∧ x.cell? ⟨b, 3, none⟩ = some (.int .i64 r.d)) : Kept w x' ∧ Br b r x' ∧ x'.cell? ⟨b, 3, none⟩ = some (.int .i64 r.d) :=
  ⟨H.1.trans k, H.2.1.kept k, (H.2.1.kept k).c3⟩
theorem dayOf_any (r : Ru) (y : Int) (w : World) (h1 : 1960 ≤ y) (h2 : y ≤ 10010) (hr : mayR r = true) :
    Calls Try.prog 33 #[ruV r, .int .i64 y] w fun e w' => e = .returned (.int .i64 (dayN r y)) ∧ Kept w w' := by
  have B0 := Lib.hid (br_new w r)
  have K0 := Lib.hid ((Kept.refl w).alloc (.cells #[.int .i64 r.k, .int .i64 r.m, .int .i64 r.w, .int .i64 r.d, .int .i64 r.a] 23))
  obtain ⟨_, _, h0 | h0 | h0⟩ := may_day hr
  · obtain ⟨k0, d1, d2⟩ := h0
    have HD := Lib.hid (show dayN r y = julian y r.d by simp only [dayN, k0, if_true])
    have KK := Lib.hid k0; clear k0 hr
    go_enter Try.func33, Try.ntmps33
    go_upto_region 1 with (fail)
    generalize w.alloc (.cells #[.int .i64 r.k, .int .i64 r.m, .int .i64 r.w, .int .i64 r.d, .int .i64 r.a] 23) = x at *
    have c0 := B0.out.c0
    rw [KK.out] at c0
    have c3 := B0.out.c3
    go_wp2_with fail
    refine (julianDay_any y r.d _ h1 h2 d1 d2).mono ?_
    rintro e x1 ⟨rfl, k1⟩
    go_wp2
    go_ret
    exact ⟨by rw [HD.out]; rfl, K0.out.trans k1⟩
  · obtain ⟨k0, d1, d2⟩ := h0
    have HD := Lib.hid (show dayN r y = first y 1 + r.d by simp [dayN, k0])
    have e2 := first_bd y 1 h1 h2 (by omega) (by omega)
    have KK := Lib.hid k0; clear k0 hr
    go_enter Try.func33, Try.ntmps33
    go_upto_region 1 with (fail)
    generalize w.alloc (.cells #[.int .i64 r.k, .int .i64 r.m, .int .i64 r.w, .int .i64 r.d, .int .i64 r.a] 23) = x at *
    have c0 := B0.out.c0
    rw [KK.out] at c0
    have c3 := B0.out.c3
    go_wp2_with fail
    go_region_held3 (fun z => Kept w z ∧ Br w.heap.size r z ∧ z.cell? ⟨w.heap.size, 3, none⟩ = some (.int .i64 r.d)) (first | exact heldR (by assumption) (by assumption) | exact ⟨K0.out.drew, B0.out, c3⟩ | assumption)
      (first | (go_at_call 61; refine (firstDay_any y 1 _ h1 h2 (by omega) (by omega)).mono ?_; rintro e w' ⟨rfl, hk⟩))
    go_wp2
    go_ret
    exact ⟨by rw [HD.out, show IntKind.i64.wrap (first y 1 + r.d) = first y 1 + r.d by simp only [IntKind.wrap_i64]; omega]; rfl, (by assumption : Kept w _ ∧ _).1⟩
  · obtain ⟨k0, m1, m2, w1, w2, d1, d2⟩ := h0
    have HD := Lib.hid (show dayN r y = nth (first y r.m) (dim y r.m) r.w r.d by simp [dayN, k0])
    have KK := Lib.hid k0; clear k0 hr
    go_enter Try.func33, Try.ntmps33
    go_upto_region 1 with (fail)
    generalize w.alloc (.cells #[.int .i64 r.k, .int .i64 r.m, .int .i64 r.w, .int .i64 r.d, .int .i64 r.a] 23) = x at *
    have c0 := B0.out.c0
    rw [KK.out] at c0
    have c1 := B0.out.c1
    have c2 := B0.out.c2
    have c3 := B0.out.c3
    have c4 := B0.out.c4
    go_wp2_with fail
    refine (nthDay_any ⟨2, r.m, r.w, r.d, r.a⟩ y _ h1 h2 m1 m2 w1 w2 d1 d2).mono ?_
    rintro e x1 ⟨rfl, k1⟩
    generalize nth (first y r.m) (dim y r.m) r.w r.d = v at *
    go_wp2
    go_ret
    exact ⟨by rw [HD.out]; rfl, K0.out.trans k1⟩
theorem heldF {w x x' : World} {b : Nat} {z : Zo} (k : Kept x x') (H : Kept w x ∧ Bz b z x ∧ x.cell? ⟨b, 1, none⟩ = some (.int .i64 z.off) ∧ x.cell? ⟨b, 5, none⟩ = some (.int .i64 z.fr.k) ∧ x.cell? ⟨b, 6, none⟩ = some (.int .i64 z.fr.m) ∧ x.cell? ⟨b, 7, none⟩ = some (.int .i64 z.fr.w) ∧ x.cell? ⟨b, 8, none⟩ = some (.int .i64 z.fr.d) ∧ x.cell? ⟨b, 9, none⟩ = some (.int .i64 z.fr.a)) : Kept w x' ∧ Bz b z x' ∧ x'.cell? ⟨b, 1, none⟩ = some (.int .i64 z.off) ∧ x'.cell? ⟨b, 5, none⟩ = some (.int .i64 z.fr.k) ∧ x'.cell? ⟨b, 6, none⟩ = some (.int .i64 z.fr.m) ∧ x'.cell? ⟨b, 7, none⟩ = some (.int .i64 z.fr.w) ∧ x'.cell? ⟨b, 8, none⟩ = some (.int .i64 z.fr.d) ∧ x'.cell? ⟨b, 9, none⟩ = some (.int .i64 z.fr.a) :=
  have B := H.2.1.kept k
  ⟨H.1.trans k, B, B.cs.c1, B.cs.c5, B.cs.c6, B.cs.c7, B.cs.c8, B.cs.c9⟩
theorem heldU {w x x' : World} {b : Nat} {z : Zo} (k : Kept x x') (H : Kept w x ∧ Bz b z x ∧ x.cell? ⟨b, 4, none⟩ = some (.int .i64 z.ahead) ∧ x.cell? ⟨b, 10, none⟩ = some (.int .i64 z.to.k) ∧ x.cell? ⟨b, 11, none⟩ = some (.int .i64 z.to.m) ∧ x.cell? ⟨b, 12, none⟩ = some (.int .i64 z.to.w) ∧ x.cell? ⟨b, 13, none⟩ = some (.int .i64 z.to.d) ∧ x.cell? ⟨b, 14, none⟩ = some (.int .i64 z.to.a)) : Kept w x' ∧ Bz b z x' ∧ x'.cell? ⟨b, 4, none⟩ = some (.int .i64 z.ahead) ∧ x'.cell? ⟨b, 10, none⟩ = some (.int .i64 z.to.k) ∧ x'.cell? ⟨b, 11, none⟩ = some (.int .i64 z.to.m) ∧ x'.cell? ⟨b, 12, none⟩ = some (.int .i64 z.to.w) ∧ x'.cell? ⟨b, 13, none⟩ = some (.int .i64 z.to.d) ∧ x'.cell? ⟨b, 14, none⟩ = some (.int .i64 z.to.a) :=
  have B := H.2.1.kept k
  ⟨H.1.trans k, B, B.cs.c4, B.cs.c10, B.cs.c11, B.cs.c12, B.cs.c13, B.cs.c14⟩
theorem day_bd {r : Ru} (hr : mayR r = true) {y : Int} (h1 : 1960 ≤ y) (h2 : y ≤ 10010) : -3653 ≤ dayN r y ∧ dayN r y ≤ 2937281 := by
  have := day_in hr y; have := first_bd y 1 h1 h2 (by omega) (by omega); omega
set_option maxHeartbeats 2000000 in
theorem turnsOf_any (z : Zo) (y : Int) (w : World) (h1 : 1960 ≤ y) (h2 : y ≤ 10010) (hz : mayZ z = true) (hh : z.has = true) :
    Calls Try.prog 39 #[zoV z, .int .i64 y] w fun e w' => e = .returned (.tuple #[.int .i64 (fromT z y), .int .i64 (uptoT z y)]) ∧ Kept w w' := by
  obtain ⟨r1, r2, o1, o2, a1, a2⟩ := may_T hz hh
  have q1 := may_day r1; have q2 := may_day r2
  have p1 := day_bd r1 h1 h2; have p2 := day_bd r2 h1 h2
  have HF := Lib.hid (show fromT z y = dayN z.fr y * 86400 + z.fr.a - z.off from rfl)
  have HU := Lib.hid (show uptoT z y = dayN z.to y * 86400 + z.to.a - z.ahead from rfl)
  have R1 := Lib.hid r1; have R2 := Lib.hid r2
  have B0 := Lib.hid (bz_new w z)
  have K0 := Lib.hid ((Kept.refl w).alloc (.cells (zo15 z.std z.off z.has z.dst z.ahead z.fr.k z.fr.m z.fr.w z.fr.d z.fr.a z.to.k z.to.m z.to.w z.to.d z.to.a) 25))
  replace q1 : -604799 ≤ z.fr.a ∧ z.fr.a ≤ 604799 := ⟨q1.1, q1.2.1⟩
  replace q2 : -604799 ≤ z.to.a ∧ z.to.a ≤ 604799 := ⟨q2.1, q2.2.1⟩
  clear hz hh r1 r2
  go_enter Try.func39, Try.ntmps39
  go_upto_region 1 with (fail)
  generalize w.alloc (.cells (zo15 z.std z.off z.has z.dst z.ahead z.fr.k z.fr.m z.fr.w z.fr.d z.fr.a z.to.k z.to.m z.to.w z.to.d z.to.a) 25) = x at *
  have c1 := B0.out.cs.c1
  have c5 := B0.out.cs.c5
  have c6 := B0.out.cs.c6
  have c7 := B0.out.cs.c7
  have c8 := B0.out.cs.c8
  have c9 := B0.out.cs.c9
  go_region_held3 (fun y => Kept w y ∧ Bz w.heap.size z y ∧ y.cell? ⟨w.heap.size, 1, none⟩ = some (.int .i64 z.off) ∧ y.cell? ⟨w.heap.size, 5, none⟩ = some (.int .i64 z.fr.k) ∧ y.cell? ⟨w.heap.size, 6, none⟩ = some (.int .i64 z.fr.m) ∧ y.cell? ⟨w.heap.size, 7, none⟩ = some (.int .i64 z.fr.w) ∧ y.cell? ⟨w.heap.size, 8, none⟩ = some (.int .i64 z.fr.d) ∧ y.cell? ⟨w.heap.size, 9, none⟩ = some (.int .i64 z.fr.a)) (first | exact heldF (by assumption) (by assumption) | exact ⟨K0.out.drew, B0.out, c1, c5, c6, c7, c8, c9⟩ | assumption)
    (first | (go_at_call 33; refine (dayOf_any z.fr y _ h1 h2 R1.out).mono ?_; rintro e w' ⟨rfl, hk⟩))
  have H1 := Lib.hid (by assumption : Kept w _ ∧ Bz w.heap.size z _ ∧ _)
  rename_i x1 _ _
  have K1 := Lib.hid H1.out.1
  have B1 := Lib.hid H1.out.2.1
  rw [show IntKind.i64.wrap (IntKind.i64.wrap (IntKind.i64.wrap (dayN z.fr y * 86400) + z.fr.a) - z.off) = fromT z y by rw [HF.out]; simp only [IntKind.wrap_i64]; omega]
  clear H1
  clear c1 c5 c6 c7 c8 c9
  have c4 := B1.out.cs.c4
  have c10 := B1.out.cs.c10
  have c11 := B1.out.cs.c11
  have c12 := B1.out.cs.c12
  have c13 := B1.out.cs.c13
  have c14 := B1.out.cs.c14
  go_wp2_with fail
  go_region_held3 (fun y => Kept w y ∧ Bz w.heap.size z y ∧ y.cell? ⟨w.heap.size, 4, none⟩ = some (.int .i64 z.ahead) ∧ y.cell? ⟨w.heap.size, 10, none⟩ = some (.int .i64 z.to.k) ∧ y.cell? ⟨w.heap.size, 11, none⟩ = some (.int .i64 z.to.m) ∧ y.cell? ⟨w.heap.size, 12, none⟩ = some (.int .i64 z.to.w) ∧ y.cell? ⟨w.heap.size, 13, none⟩ = some (.int .i64 z.to.d) ∧ y.cell? ⟨w.heap.size, 14, none⟩ = some (.int .i64 z.to.a)) (first | exact heldU (by assumption) (by assumption) | exact ⟨K1.out.drew, B1.out, c4, c10, c11, c12, c13, c14⟩ | assumption)
    (first | (go_at_call 33; refine (dayOf_any z.to y _ h1 h2 R2.out).mono ?_; rintro e w' ⟨rfl, hk⟩))
  rw [show IntKind.i64.wrap (IntKind.i64.wrap (IntKind.i64.wrap (dayN z.to y * 86400) + z.to.a) - z.ahead) = uptoT z y by rw [HU.out]; simp only [IntKind.wrap_i64]; omega]
  go_wp2
  go_ret2
  exact ⟨rfl, (by assumption : Kept w _ ∧ Bz w.heap.size z _ ∧ _).1⟩
theorem day_yes (r : Ru) (y : Int) (w : World) (hy : yrB y = true) (hr : mayR r = true) :
    Calls Try.prog 11 #[ruV r, .int .i64 y] w fun e w' => e = .returned (.tuple #[.int .i64 (dayN r y), .int .i64 0]) ∧ Kept w w' := by
  have hb : 1960 ≤ y ∧ y ≤ 10010 := by simpa [yrB] using hy
  have HY := Lib.hid hy; clear hy
  have HR := Lib.hid hr; clear hr
  have B0 := Lib.hid (br_new w r)
  have K0 := Lib.hid ((Kept.refl w).alloc (.cells #[.int .i64 r.k, .int .i64 r.m, .int .i64 r.w, .int .i64 r.d, .int .i64 r.a] 23))
  go_enter Try.func11, Try.ntmps11
  go_upto_region 1 with (fail)
  generalize w.alloc (.cells #[.int .i64 r.k, .int .i64 r.m, .int .i64 r.w, .int .i64 r.d, .int .i64 r.a] 23) = x at *
  go_wp2_with fail
  refine (isYear_any y _).mono ?_
  rintro e w1 ⟨rfl, rfl⟩
  rw [HY.out]
  have c0 := B0.out.c0
  have c1 := B0.out.c1
  have c2 := B0.out.c2
  have c3 := B0.out.c3
  have c4 := B0.out.c4
  go_wp2_with fail
  refine (lRule_any r _).mono ?_
  rintro e w1 ⟨rfl, k1⟩
  rw [HR.out]
  have B1 := Lib.hid (B0.out.kept k1)
  have K1 := Lib.hid (K0.out.trans k1)
  clear c0 c1 c2 c3 c4 B0 K0 k1
  have c0 := B1.out.c0
  have c1 := B1.out.c1
  have c2 := B1.out.c2
  have c3 := B1.out.c3
  have c4 := B1.out.c4
  go_wp2_with fail
  refine (dayOf_any r y _ hb.1 hb.2 HR.out).mono ?_
  rintro e w2 ⟨rfl, k2⟩
  go_wp2
  go_ret2
  exact ⟨rfl, K1.out.trans k2⟩
theorem day_not (r : Ru) (y : Int) (w : World) (h : (yrB y && mayR r) = false) :
    Calls Try.prog 11 #[ruV r, .int .i64 y] w fun e w' => e = .returned (.tuple #[.int .i64 0, .int .i64 1]) ∧ Kept w w' := by
  have HH := Lib.hid h; clear h
  have B0 := Lib.hid (br_new w r)
  have K0 := Lib.hid ((Kept.refl w).alloc (.cells #[.int .i64 r.k, .int .i64 r.m, .int .i64 r.w, .int .i64 r.d, .int .i64 r.a] 23))
  go_enter Try.func11, Try.ntmps11
  go_upto_region 1 with (fail)
  generalize w.alloc (.cells #[.int .i64 r.k, .int .i64 r.m, .int .i64 r.w, .int .i64 r.d, .int .i64 r.a] 23) = x at *
  go_wp2_with fail
  refine (isYear_any y _).mono ?_
  rintro e w1 ⟨rfl, rfl⟩
  cases hy : yrB y with
  | false =>
    clear hy
    go_wp2
    go_ret2
    exact ⟨rfl, K0.out⟩
  | true =>
    have hr : mayR r = false := by have := HH.out; rw [hy] at this; simpa using this
    have HR := Lib.hid hr; clear hy hr
    have c0 := B0.out.c0
    have c1 := B0.out.c1
    have c2 := B0.out.c2
    have c3 := B0.out.c3
    have c4 := B0.out.c4
    go_wp2_with fail
    refine (lRule_any r _).mono ?_
    rintro e w1 ⟨rfl, k1⟩
    rw [HR.out]
    go_wp2
    go_ret2
    exact ⟨rfl, K0.out.trans k1⟩
set_option maxRecDepth 100000 in
set_option maxHeartbeats 2000000 in
theorem turns_yes (z : Zo) (y : Int) (w : World) (hy : yrB y = true) (hz : mayZ z = true) (hh : z.has = true) :
    Calls Try.prog 13 #[zoV z, .int .i64 y] w fun e w' => e = .returned (.tuple #[.int .i64 (fromT z y), .int .i64 (uptoT z y), .int .i64 0]) ∧ Kept w w' := by
  have hb : 1960 ≤ y ∧ y ≤ 10010 := by simpa [yrB] using hy
  have HY := Lib.hid hy; clear hy
  have HZ := Lib.hid hz; clear hz
  have HH := Lib.hid hh; clear hh
  have B0 := Lib.hid (bz_new w z)
  have K0 := Lib.hid ((Kept.refl w).alloc (.cells (zo15 z.std z.off z.has z.dst z.ahead z.fr.k z.fr.m z.fr.w z.fr.d z.fr.a z.to.k z.to.m z.to.w z.to.d z.to.a) 25))
  go_enter Try.func13, Try.ntmps13
  go_upto_region 1 with (fail)
  generalize w.alloc (.cells (zo15 z.std z.off z.has z.dst z.ahead z.fr.k z.fr.m z.fr.w z.fr.d z.fr.a z.to.k z.to.m z.to.w z.to.d z.to.a) 25) = x at *
  go_wp2_with (refine wpList_load_row rfl 25 _ rfl w.heap.size rfl 25 _ (0, 0) _ B0.out Try.underlying25 rfl (by kernel_rfl) ?_)
  refine (zMay_any z _).mono ?_
  rintro e w1 ⟨rfl, k1⟩
  rw [HZ.out]
  have B1 := Lib.hid (B0.out.kept k1)
  have K1 := Lib.hid (K0.out.trans k1)
  clear B0 K0 k1
  have c2 := B1.out.cs.c2
  rw [HH.out] at c2
  go_wp2_with fail
  refine (isYear_any y _).mono ?_
  rintro e w2 ⟨rfl, rfl⟩
  rw [HY.out]
  go_wp2_with (refine wpList_load_row rfl 25 _ rfl w.heap.size rfl 25 _ (0, 0) _ B1.out Try.underlying25 rfl (by kernel_rfl) ?_)
  refine (turnsOf_any z y _ hb.1 hb.2 HZ.out HH.out).mono ?_
  rintro e w2 ⟨rfl, k2⟩
  go_wp2
  refine bodyPost_ret (v := .tuple #[.int .i64 (fromT z y), .int .i64 (uptoT z y), .int .i64 0]) (by simp [results, Try.results13, go_sem, *]) rfl ⟨rfl, K1.out.trans k2⟩
set_option maxRecDepth 100000 in
set_option maxHeartbeats 2000000 in
theorem turns_not (z : Zo) (y : Int) (w : World) (h : (mayZ z && z.has && yrB y) = false) :
    Calls Try.prog 13 #[zoV z, .int .i64 y] w fun e w' => e = .returned (.tuple #[.int .i64 0, .int .i64 0, .int .i64 1]) ∧ Kept w w' := by
  have HN := Lib.hid h; clear h
  have B0 := Lib.hid (bz_new w z)
  have K0 := Lib.hid ((Kept.refl w).alloc (.cells (zo15 z.std z.off z.has z.dst z.ahead z.fr.k z.fr.m z.fr.w z.fr.d z.fr.a z.to.k z.to.m z.to.w z.to.d z.to.a) 25))
  go_enter Try.func13, Try.ntmps13
  go_upto_region 1 with (fail)
  generalize w.alloc (.cells (zo15 z.std z.off z.has z.dst z.ahead z.fr.k z.fr.m z.fr.w z.fr.d z.fr.a z.to.k z.to.m z.to.w z.to.d z.to.a) 25) = x at *
  go_wp2_with (refine wpList_load_row rfl 25 _ rfl w.heap.size rfl 25 _ (0, 0) _ B0.out Try.underlying25 rfl (by kernel_rfl) ?_)
  refine (zMay_any z _).mono ?_
  rintro e w1 ⟨rfl, k1⟩
  have B1 := Lib.hid (B0.out.kept k1)
  have K1 := Lib.hid (K0.out.trans k1)
  clear B0 K0 k1
  cases hz : mayZ z with
  | false =>
    clear hz
    go_wp2
    refine bodyPost_ret (v := .tuple #[.int .i64 0, .int .i64 0, .int .i64 1]) (by simp [results, Try.results13, go_sem, *]) rfl ⟨rfl, K1.out⟩
  | true =>
    have c2 := B1.out.cs.c2
    cases hh : z.has with
    | false =>
      rw [hh] at c2
      clear hz hh
      go_wp2
      refine bodyPost_ret (v := .tuple #[.int .i64 0, .int .i64 0, .int .i64 1]) (by simp [results, Try.results13, go_sem, *]) rfl ⟨rfl, K1.out⟩
    | true =>
      rw [hh] at c2
      have hy : yrB y = false := by have := HN.out; rw [hz, hh] at this; simpa using this
      have HY := Lib.hid hy; clear hz hh hy
      go_wp2_with fail
      refine (isYear_any y _).mono ?_
      rintro e w2 ⟨rfl, rfl⟩
      rw [HY.out]
      go_wp2
      refine bodyPost_ret (v := .tuple #[.int .i64 0, .int .i64 0, .int .i64 1]) (by simp [results, Try.results13, go_sem, *]) rfl ⟨rfl, K1.out⟩
end Go.Proofs.Ytcgmefojokndhaa
