/- Contracts of the document's answer for layer 4: a rule's day, a year's turns. -/
import Derived.Test.YtcgmefojokndhaaLcRef
import Derived.Test.YtcgmefojokndhaaLcDay
namespace Go.Proofs.Ytcgmefojokndhaa
open Go.ChangeShapes Go.WideShapes Go.ChangeAt Go.RowKit
open Civ Zn Lc
theorem dby_first (y : Int) : dby y - 719162 = first y 1 := by unfold first; rw [cum_1]; omega
set_option maxHeartbeats 1000000 in
theorem rDay_zero (r : Ru) (y : Int) (w : World) (h1 : 1960 ≤ y) (h2 : y ≤ 10010) (hr : mayR r = true) (k1 : r.k = 1) (d1 : 0 ≤ r.d) (d2 : r.d ≤ 365) :
    Calls Try.prog 12 #[ruV r, .int .i64 y] w fun e w' => e = .returned (.tuple #[.int .i64 (first y 1 + r.d), .int .i64 0]) ∧ Kept w w' := by
  have HR := Lib.hid hr; have HK := Lib.hid k1; clear hr k1
  have B0 := Lib.hid (br_new w r)
  have K0 := Lib.hid ((Kept.refl w).alloc (.cells #[.int .i64 r.k, .int .i64 r.m, .int .i64 r.w, .int .i64 r.d, .int .i64 r.a] 23))
  go_enter Try.func12, Try.ntmps12
  go_upto_region 1 with (fail)
  generalize w.alloc (.cells #[.int .i64 r.k, .int .i64 r.m, .int .i64 r.w, .int .i64 r.d, .int .i64 r.a] 23) = x at *
  have c0 := B0.out.c0
  have c1 := B0.out.c1
  have c2 := B0.out.c2
  have c3 := B0.out.c3
  have c4 := B0.out.c4
  go_wp2_with fail
  refine (rRule_any r _).mono ?_
  rintro e x1 ⟨rfl, k1⟩
  rw [HR.out]
  have B1 := B0.out.kept k1
  have K1 := Lib.hid (K0.out.trans k1)
  clear c0 c1 c2 c3 c4 B0 K0 k1
  have c0 := B1.c0
  rw [HK.out] at c0
  have c3 := B1.c3
  go_wp2_with fail
  refine (rstart_any y _ (by omega) (by omega)).mono ?_
  rintro e w' ⟨rfl, rfl⟩
  go_wp2_with fail
  refine (rleap_any y _).mono ?_
  rintro e w' ⟨rfl, rfl⟩
  have e2 := first_bd y 1 h1 h2 (by omega) (by omega)
  rw [dby_first]
  go_wp2
  go_ret2
  exact ⟨rfl, K1.out⟩
set_option maxHeartbeats 1000000 in
theorem rDay_julian (r : Ru) (y : Int) (w : World) (h1 : 1960 ≤ y) (h2 : y ≤ 10010) (hr : mayR r = true) (k1 : r.k = 0) (d1 : 1 ≤ r.d) (d2 : r.d ≤ 365) :
    Calls Try.prog 12 #[ruV r, .int .i64 y] w fun e w' => e = .returned (.tuple #[.int .i64 (julian y r.d), .int .i64 0]) ∧ Kept w w' := by
  have HR := Lib.hid hr; have HK := Lib.hid k1; clear hr k1
  have B0 := Lib.hid (br_new w r)
  have K0 := Lib.hid ((Kept.refl w).alloc (.cells #[.int .i64 r.k, .int .i64 r.m, .int .i64 r.w, .int .i64 r.d, .int .i64 r.a] 23))
  go_enter Try.func12, Try.ntmps12
  go_upto_region 1 with (fail)
  generalize w.alloc (.cells #[.int .i64 r.k, .int .i64 r.m, .int .i64 r.w, .int .i64 r.d, .int .i64 r.a] 23) = x at *
  have c0 := B0.out.c0
  have c1 := B0.out.c1
  have c2 := B0.out.c2
  have c3 := B0.out.c3
  have c4 := B0.out.c4
  go_wp2_with fail
  refine (rRule_any r _).mono ?_
  rintro e x1 ⟨rfl, k1⟩
  rw [HR.out]
  have B1 := B0.out.kept k1
  have K1 := Lib.hid (K0.out.trans k1)
  clear c0 c1 c2 c3 c4 B0 K0 k1
  have c0 := B1.c0
  rw [HK.out] at c0
  have c3 := B1.c3
  go_wp2_with fail
  refine (rstart_any y _ (by omega) (by omega)).mono ?_
  rintro e w' ⟨rfl, rfl⟩
  go_wp2_with fail
  refine (rleap_any y _).mono ?_
  rintro e w' ⟨rfl, rfl⟩
  have e2 := first_bd y 1 h1 h2 (by omega) (by omega)
  rw [dby_first]
  cases hl : leap y with
  | true =>
    by_cases h60 : 60 ≤ r.d
    · have HJ := Lib.hid (show julian y r.d = first y 1 + r.d by simp only [julian, hl, h60]; simp; omega)
      clear hl
      go_wp2
      go_ret2
      exact ⟨by rw [HJ.out]; rfl, K1.out⟩
    · have HJ := Lib.hid (show julian y r.d = first y 1 + r.d - 1 by simp [julian, h60])
      clear hl
      go_wp2
      go_ret2
      exact ⟨by rw [HJ.out]; rfl, K1.out⟩
  | false =>
    have HJ := Lib.hid (show julian y r.d = first y 1 + r.d - 1 by simp [julian, hl])
    clear hl
    go_wp2
    go_ret2
    exact ⟨by rw [HJ.out]; rfl, K1.out⟩
theorem rDay_yes (r : Ru) (y : Int) (w : World) (hy : yrB y = true) (hr : mayR r = true) :
    Calls Try.prog 12 #[ruV r, .int .i64 y] w fun e w' => e = .returned (.tuple #[.int .i64 (dayN r y), .int .i64 0]) ∧ Kept w w' := by
  have hb : 1960 ≤ y ∧ y ≤ 10010 := by simpa [yrB] using hy
  obtain ⟨_, _, h0 | h0 | h0⟩ := may_day hr
  · rw [show dayN r y = julian y r.d by simp only [dayN, h0.1, if_true]]
    exact rDay_julian r y w hb.1 hb.2 hr h0.1 h0.2.1 h0.2.2
  · rw [show dayN r y = first y 1 + r.d by simp [dayN, h0.1]]
    exact rDay_zero r y w hb.1 hb.2 hr h0.1 h0.2.1 h0.2.2
  · obtain ⟨k, m1, m2, w1, w2, d1, d2⟩ := h0
    rw [show dayN r y = nth (first y r.m) (dim y r.m) r.w r.d by simp [dayN, k]]
    exact rDay_nth r y w hb.1 hb.2 hr k m1 m2 w1 w2 d1 d2
set_option maxHeartbeats 1000000 in
theorem rDay_not (r : Ru) (y : Int) (w : World) (h : (yrB y && mayR r) = false) :
    Calls Try.prog 12 #[ruV r, .int .i64 y] w fun e w' => e = .returned (.tuple #[.int .i64 0, .int .i64 1]) ∧ Kept w w' := by
  have HH := Lib.hid h; clear h
  have B0 := Lib.hid (br_new w r)
  have K0 := Lib.hid ((Kept.refl w).alloc (.cells #[.int .i64 r.k, .int .i64 r.m, .int .i64 r.w, .int .i64 r.d, .int .i64 r.a] 23))
  go_enter Try.func12, Try.ntmps12
  go_upto_region 1 with (fail)
  generalize w.alloc (.cells #[.int .i64 r.k, .int .i64 r.m, .int .i64 r.w, .int .i64 r.d, .int .i64 r.a] 23) = x at *
  have c0 := B0.out.c0
  have c1 := B0.out.c1
  have c2 := B0.out.c2
  have c3 := B0.out.c3
  have c4 := B0.out.c4
  go_wp2_with fail
  refine (rRule_any r _).mono ?_
  rintro e x1 ⟨rfl, k1⟩
  cases hr : mayR r with
  | false =>
    clear hr
    go_wp2
    go_ret2
    exact ⟨rfl, K0.out.trans k1⟩
  | true =>
    have hy : yrB y = false := by have := HH.out; rw [hr] at this; simpa using this
    have hn : ¬ (1960 ≤ y ∧ y ≤ 10010) := by simpa [yrB] using hy
    clear hr hy
    by_cases h1 : y < 1960
    · clear hn
      go_wp2
      go_ret2
      exact ⟨rfl, K0.out.trans k1⟩
    · have h2 : 10010 < y := by omega
      clear hn
      go_wp2
      go_ret2
      exact ⟨rfl, K0.out.trans k1⟩
set_option maxRecDepth 100000 in
set_option maxHeartbeats 2000000 in
theorem rTurns_yes (z : Zo) (y : Int) (w : World) (l1 : z.std.length ≤ 1000) (l2 : z.dst.length ≤ 1000) (hy : yrB y = true) (hz : mayZ z = true) (hh : z.has = true) :
    Calls Try.prog 14 #[zoV z, .int .i64 y] w fun e w' => e = .returned (.tuple #[.int .i64 (fromT z y), .int .i64 (uptoT z y), .int .i64 0]) ∧ Kept w w' := by
  have hb : 1960 ≤ y ∧ y ≤ 10010 := by simpa [yrB] using hy
  obtain ⟨r1, r2, o1, o2, a1, a2⟩ := may_T hz hh
  have q1 := may_day r1; have q2 := may_day r2
  have p1 := day_bd r1 hb.1 hb.2; have p2 := day_bd r2 hb.1 hb.2
  replace q1 : -604799 ≤ z.fr.a ∧ z.fr.a ≤ 604799 := ⟨q1.1, q1.2.1⟩
  replace q2 : -604799 ≤ z.to.a ∧ z.to.a ≤ 604799 := ⟨q2.1, q2.2.1⟩
  have HF := Lib.hid (show fromT z y = 86400 * dayN z.fr y + z.fr.a - z.off by unfold fromT; omega)
  have HU := Lib.hid (show uptoT z y = 86400 * dayN z.to y + z.to.a - z.ahead by unfold uptoT; omega)
  have R1 := Lib.hid r1; have R2 := Lib.hid r2
  have HY := Lib.hid hy; clear hy r1 r2
  have HZ := Lib.hid hz; clear hz
  have HH := Lib.hid hh; clear hh
  have B0 := Lib.hid (bz_new w z)
  have K0 := Lib.hid ((Kept.refl w).alloc (.cells (zo15 z.std z.off z.has z.dst z.ahead z.fr.k z.fr.m z.fr.w z.fr.d z.fr.a z.to.k z.to.m z.to.w z.to.d z.to.a) 25))
  go_enter Try.func14, Try.ntmps14
  go_upto_region 1 with (fail)
  generalize w.alloc (.cells (zo15 z.std z.off z.has z.dst z.ahead z.fr.k z.fr.m z.fr.w z.fr.d z.fr.a z.to.k z.to.m z.to.w z.to.d z.to.a) 25) = x at *
  go_wp2_with (refine wpList_load_row rfl 25 _ rfl w.heap.size rfl 25 _ (0, 0) _ B0.out Try.underlying25 rfl (by kernel_rfl) ?_)
  refine (rMay_any z _ (by omega) (by omega)).mono ?_
  rintro e w1 ⟨rfl, k1⟩
  have B1 := Lib.hid (B0.out.kept k1)
  have K1 := Lib.hid (K0.out.trans k1)
  clear B0 K0 k1
  rw [HZ.out]
  have c2 := B1.out.cs.c2
  rw [HH.out] at c2
  have c5 := B1.out.cs.c5
  have c6 := B1.out.cs.c6
  have c7 := B1.out.cs.c7
  have c8 := B1.out.cs.c8
  have c9 := B1.out.cs.c9
  go_wp2_with fail
  refine (rDay_yes z.fr y _ HY.out R1.out).mono ?_
  rintro e w2 ⟨rfl, k2⟩
  have B2 := Lib.hid (B1.out.kept k2)
  have K2 := Lib.hid (K1.out.trans k2)
  clear B1 K1 k2 c2 c5 c6 c7 c8 c9
  have c10 := B2.out.cs.c10
  have c11 := B2.out.cs.c11
  have c12 := B2.out.cs.c12
  have c13 := B2.out.cs.c13
  have c14 := B2.out.cs.c14
  go_wp2_with fail
  refine (rDay_yes z.to y _ HY.out R2.out).mono ?_
  rintro e w3 ⟨rfl, k3⟩
  have B3 := Lib.hid (B2.out.kept k3)
  have K3 := Lib.hid (K2.out.trans k3)
  clear B2 K2 k3 c10 c11 c12 c13 c14
  have c1 := B3.out.cs.c1
  have c4 := B3.out.cs.c4
  have c9 := B3.out.cs.c9
  have c14 := B3.out.cs.c14
  generalize dayN z.fr y = a at *
  generalize dayN z.to y = b at *
  go_wp2_with fail
  go_region_held3 (fun y => Kept w y ∧ y.cell? ⟨w.heap.size, 1, none⟩ = some (.int .i64 z.off) ∧ y.cell? ⟨w.heap.size, 4, none⟩ = some (.int .i64 z.ahead) ∧ y.cell? ⟨w.heap.size, 9, none⟩ = some (.int .i64 z.fr.a) ∧ y.cell? ⟨w.heap.size, 14, none⟩ = some (.int .i64 z.to.a)) (first | exact ⟨K3.out.drew, c1, c4, c9, c14⟩ | assumption) (fail)
  rw [show IntKind.i64.wrap (IntKind.i64.wrap (IntKind.i64.wrap (86400 * a) + z.fr.a) - z.off) = fromT z y by rw [HF.out]; simp only [IntKind.wrap_i64]; omega, show IntKind.i64.wrap (IntKind.i64.wrap (IntKind.i64.wrap (86400 * b) + z.to.a) - z.ahead) = uptoT z y by rw [HU.out]; simp only [IntKind.wrap_i64]; omega]
  have KK := (by assumption : Kept w _ ∧ _).1
  go_wp2
  exact bodyPost_ret (v := .tuple #[.int .i64 (fromT z y), .int .i64 (uptoT z y), .int .i64 0]) (by simp [results, Try.results14, go_sem, *]) rfl ⟨rfl, KK⟩
set_option maxRecDepth 100000 in
set_option maxHeartbeats 2000000 in
theorem rTurns_not (z : Zo) (y : Int) (w : World) (l1 : z.std.length ≤ 1000) (l2 : z.dst.length ≤ 1000) (h : (mayZ z && z.has && yrB y) = false) :
    Calls Try.prog 14 #[zoV z, .int .i64 y] w fun e w' => e = .returned (.tuple #[.int .i64 0, .int .i64 0, .int .i64 1]) ∧ Kept w w' := by
  have HN := Lib.hid h; clear h
  have B0 := Lib.hid (bz_new w z)
  have K0 := Lib.hid ((Kept.refl w).alloc (.cells (zo15 z.std z.off z.has z.dst z.ahead z.fr.k z.fr.m z.fr.w z.fr.d z.fr.a z.to.k z.to.m z.to.w z.to.d z.to.a) 25))
  go_enter Try.func14, Try.ntmps14
  go_upto_region 1 with (fail)
  generalize w.alloc (.cells (zo15 z.std z.off z.has z.dst z.ahead z.fr.k z.fr.m z.fr.w z.fr.d z.fr.a z.to.k z.to.m z.to.w z.to.d z.to.a) 25) = x at *
  go_wp2_with (refine wpList_load_row rfl 25 _ rfl w.heap.size rfl 25 _ (0, 0) _ B0.out Try.underlying25 rfl (by kernel_rfl) ?_)
  refine (rMay_any z _ (by omega) (by omega)).mono ?_
  rintro e w1 ⟨rfl, k1⟩
  have B1 := Lib.hid (B0.out.kept k1)
  have K1 := Lib.hid (K0.out.trans k1)
  clear B0 K0 k1
  cases hz : mayZ z with
  | false =>
    clear hz
    go_wp2
    exact bodyPost_ret (v := .tuple #[.int .i64 0, .int .i64 0, .int .i64 1]) (by simp [results, Try.results14, go_sem, *]) rfl ⟨rfl, K1.out⟩
  | true =>
    have c2 := B1.out.cs.c2
    cases hh : z.has with
    | false =>
      rw [hh] at c2
      clear hz hh
      go_wp2
      exact bodyPost_ret (v := .tuple #[.int .i64 0, .int .i64 0, .int .i64 1]) (by simp [results, Try.results14, go_sem, *]) rfl ⟨rfl, K1.out⟩
    | true =>
      rw [hh] at c2
      have hy : yrB y = false := by have := HN.out; rw [hz, hh] at this; simpa using this
      have hn : ¬ (1960 ≤ y ∧ y ≤ 10010) := by simpa [yrB] using hy
      clear hz hh hy
      by_cases h1 : y < 1960
      · clear hn
        go_wp2
        exact bodyPost_ret (v := .tuple #[.int .i64 0, .int .i64 0, .int .i64 1]) (by simp [results, Try.results14, go_sem, *]) rfl ⟨rfl, K1.out⟩
      · have h2 : 10010 < y := by omega
        clear hn
        go_wp2
        exact bodyPost_ret (v := .tuple #[.int .i64 0, .int .i64 0, .int .i64 1]) (by simp [results, Try.results14, go_sem, *]) rfl ⟨rfl, K1.out⟩
end Go.Proofs.Ytcgmefojokndhaa
