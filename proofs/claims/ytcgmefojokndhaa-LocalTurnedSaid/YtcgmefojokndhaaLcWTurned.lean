/- The law LocalTurned, walked. -/
import Derived.Test.YtcgmefojokndhaaLcAll
namespace Go.Proofs.Ytcgmefojokndhaa
open Go.ChangeShapes Go.WideShapes Go.ChangeAt Go.RowKit
open Civ Zn Lc
theorem turned_is {z : Zo} {y : Int} (w : World) (hz : mayZ z = true) (hh : z.has = true) (y1 : 1971 ≤ y) (y2 : y ≤ 9998) (h1 : 2678400 ≤ uptoT z y - fromT z y) (h2 : uptoT z y - fromT z y ≤ 28512000) :
    (scB (fromT z y) = true ∧ scB (fromT z y - 1) = true ∧ scB (uptoT z y - 1) = true ∧ scB (uptoT z y) = true) ∧ offP z (fromT z y) = z.ahead ∧ offP z (fromT z y - 1) = z.off ∧ offP z (uptoT z y - 1) = z.ahead ∧ offP z (uptoT z y) = z.off := by
  have T := turn_from hz hh; have U := turn_upto hz hh
  have f : ∀ q : Int, first q 1 = dby q - 719162 := fun q => by unfold first; rw [cum_1]; omega
  have l1 := T.lo y (by omega)
  have u1 := U.hi y (by omega)
  have g1 := dby_mono 1971 y (by omega) y1
  have g2 := dby_mono y 9998 (by omega) y2
  have g3 : dby 1971 = 719527 := by decide +kernel
  have g4 : dby 9998 = 3651329 := by decide +kernel
  have g5 := f y
  have s1 := T.step y (by omega); have s2 := T.step (y - 1) (by omega)
  have s3 := U.step y (by omega); have s4 := U.step (y - 1) (by omega)
  rw [show y - 1 + 1 = y by omega] at s2 s4
  have R : ∀ t : Int, fromT z y - 1 ≤ t → t ≤ uptoT z y → scB t = true := fun t a b => by simp [scB]; omega
  have P : ∀ t k j : Int, scB t = true → 1 ≤ k → 1 ≤ j → fromT z k ≤ t → t < fromT z (k + 1) → uptoT z j ≤ t → t < uptoT z (j + 1) → offP z t = if uptoT z j < fromT z k then z.ahead else z.off := fun t k j ht hk hj a1 a2 b1 b2 => by
    obtain ⟨hY, q1, _⟩ := of_year t w ht
    unfold offP offY
    rw [if_pos hh, T.lst_is hY (by omega) hk a1 a2, U.lst_is hY (by omega) hj b1 b2]
  have e : y - 1 + 1 = y := by omega
  refine ⟨⟨R _ (by omega) (by omega), R _ (by omega) (by omega), R _ (by omega) (by omega), R _ (by omega) (by omega)⟩, ?_, ?_, ?_, ?_⟩
  · rw [P _ y (y - 1) (R _ (by omega) (by omega)) (by omega) (by omega) (by omega) (by omega) (by omega) (by rw [e]; omega), if_pos (by omega)]
  · rw [P _ (y - 1) (y - 1) (R _ (by omega) (by omega)) (by omega) (by omega) (by omega) (by rw [e]; omega) (by omega) (by rw [e]; omega), if_neg (by omega)]
  · rw [P _ y (y - 1) (R _ (by omega) (by omega)) (by omega) (by omega) (by omega) (by omega) (by omega) (by rw [e]; omega), if_pos (by omega)]
  · rw [P _ y y (R _ (by omega) (by omega)) (by omega) (by omega) (by omega) (by omega) (by omega) (by omega), if_neg (by omega)]
set_option maxRecDepth 100000 in
set_option maxHeartbeats 4000000 in
theorem walkTurned (z : Zo) (y : Int) (w : World) (f1 : z.std.length ≤ maxLen) (f2 : z.dst.length ≤ maxLen) (_ : -9223372036854775808 ≤ y) (_ : y ≤ 9223372036854775807) :
    Calls Try.prog 8 #[zoV z, .int .i64 y] w fun e w' => e = .returned (.bool true) ∧ Kept w w' := by
  have B0 := Lib.hid (bz_new w z)
  have K0 := Lib.hid ((Kept.refl w).alloc (.cells (zo15 z.std z.off z.has z.dst z.ahead z.fr.k z.fr.m z.fr.w z.fr.d z.fr.a z.to.k z.to.m z.to.w z.to.d z.to.a) 25))
  go_enter Try.func8, Try.ntmps8
  go_upto_region 1 with (fail)
  generalize w.alloc (.cells (zo15 z.std z.off z.has z.dst z.ahead z.fr.k z.fr.m z.fr.w z.fr.d z.fr.a z.to.k z.to.m z.to.w z.to.d z.to.a) 25) = w0 at *
  go_wp2_with fail
  refine (awake_yes _).mono ?_
  rintro e w1 ⟨rfl, k1⟩
  have B1 := Lib.hid (B0.out.kept k1)
  have K1 := Lib.hid (K0.out.trans k1)
  clear B0 K0 k1
  go_wp2_with (refine wpList_load_row rfl 25 _ rfl w.heap.size rfl 25 _ (0, 0) _ B1.out Try.underlying25 rfl (by kernel_rfl) ?_)
  refine (short_any z _ f1 f2).mono ?_
  rintro e w2 ⟨rfl, k2⟩
  have B2 := Lib.hid (B1.out.kept k2)
  have K2 := Lib.hid (K1.out.trans k2)
  clear B1 K1 k2
  cases hs : shB z with
  | false =>
    clear hs
    go_wp2
    go_ret
    exact ⟨rfl, K2.out⟩
  | true =>
    clear hs
    by_cases y1 : y < 1971
    · go_wp2
      go_ret
      exact ⟨rfl, K2.out⟩
    by_cases y2 : 9998 < y
    · go_wp2
      go_ret
      exact ⟨rfl, K2.out⟩
    have c0 := B2.out.cs.c0
    have c1 := B2.out.cs.c1
    have c2 := B2.out.cs.c2
    have c3 := B2.out.cs.c3
    have c4 := B2.out.cs.c4
    have c5 := B2.out.cs.c5
    have c6 := B2.out.cs.c6
    have c7 := B2.out.cs.c7
    have c8 := B2.out.cs.c8
    have c9 := B2.out.cs.c9
    have c10 := B2.out.cs.c10
    have c11 := B2.out.cs.c11
    have c12 := B2.out.cs.c12
    have c13 := B2.out.cs.c13
    have c14 := B2.out.cs.c14
    go_wp2_with fail
    refine (zMay_any z _).mono ?_
    rintro e w3 ⟨rfl, k3⟩
    clear c0 c1 c2 c3 c4 c5 c6 c7 c8 c9 c10 c11 c12 c13 c14
    have B3 := Lib.hid (B2.out.kept k3)
    have K3 := Lib.hid (K2.out.trans k3)
    clear B2 K2 k3
    cases hz : mayZ z with
    | false =>
      clear hz
      go_wp2
      go_ret
      exact ⟨rfl, K3.out⟩
    | true =>
      have c1 := B3.out.cs.c1
      have c2 := B3.out.cs.c2
      have c4 := B3.out.cs.c4
      cases hh : z.has with
      | false =>
        rw [hh] at c2
        clear hz hh
        go_wp2
        go_ret
        exact ⟨rfl, K3.out⟩
      | true =>
        rw [hh] at c2
        have HZ := Lib.hid hz; have HH := Lib.hid hh
        clear hz hh
        by_cases he : z.ahead = z.off
        · go_wp2
          go_ret
          exact ⟨rfl, K3.out⟩
        have hbe : (z.ahead == z.off) = false := by simp [he]
        have HT := Lib.hid (turned_is (z := z) (y := y) w HZ.out HH.out (by omega) (by omega))
        have HYB := Lib.hid (show yrB y = true by simp [yrB]; omega)
        go_wp2_with (refine wpList_load_row rfl 25 _ rfl w.heap.size rfl 25 _ (0, 0) _ B3.out Try.underlying25 rfl (by kernel_rfl) ?_)
        refine (turns_yes z y _ HYB.out HZ.out HH.out).mono ?_
        rintro e w4 ⟨rfl, k4⟩
        clear c1 c2 c4
        have B4 := Lib.hid (B3.out.kept k4)
        have K4 := Lib.hid (K3.out.trans k4)
        clear B3 K3 k4
        have tb := turn_from HZ.out HH.out; have ub := turn_upto HZ.out HH.out
        have fb : -3653 ≤ dayN z.fr y ∧ dayN z.fr y ≤ 2937281 := day_bd (may_T HZ.out HH.out).1 (by omega) (by omega)
        have gb : -3653 ≤ dayN z.to y ∧ dayN z.to y ≤ 2937281 := day_bd (may_T HZ.out HH.out).2.1 (by omega) (by omega)
        have mb := may_T HZ.out HH.out
        have qa := may_day mb.1; have qb := may_day mb.2.1
        have FB : -400000000000 ≤ fromT z y ∧ fromT z y ≤ 400000000000 := by unfold fromT; omega
        have UB : -400000000000 ≤ uptoT z y ∧ uptoT z y ≤ 400000000000 := by unfold uptoT; omega
        clear tb ub fb gb mb qa qb
        generalize fromT z y = a at *
        generalize uptoT z y = b at *
        by_cases h1 : b - a < 2678400
        · go_wp2
          go_ret
          exact ⟨rfl, K4.out⟩
        by_cases h2 : 28512000 < b - a
        · go_wp2
          go_ret
          exact ⟨rfl, K4.out⟩
        have HW := Lib.hid (HT.out (by omega) (by omega))
        clear HT
        go_wp2_with (refine wpList_load_row rfl 25 _ rfl w.heap.size rfl 25 _ (0, 0) _ B4.out Try.underlying25 rfl (by kernel_rfl) ?_)
        refine (off_yes z (a) _ HZ.out HW.out.1.1).mono ?_
        rintro e w5 ⟨rfl, k5⟩
        rw [HW.out.2.1]
        have B5 := Lib.hid (B4.out.kept k5)
        have K5 := Lib.hid (K4.out.trans k5)
        clear B4 K4 k5
        go_wp2_with (refine wpList_load_row rfl 25 _ rfl w.heap.size rfl 25 _ (0, 0) _ B5.out Try.underlying25 rfl (by kernel_rfl) ?_)
        refine (off_yes z (a - 1) _ HZ.out HW.out.1.2.1).mono ?_
        rintro e w6 ⟨rfl, k6⟩
        rw [HW.out.2.2.1]
        have B6 := Lib.hid (B5.out.kept k6)
        have K6 := Lib.hid (K5.out.trans k6)
        clear B5 K5 k6
        go_wp2_with (refine wpList_load_row rfl 25 _ rfl w.heap.size rfl 25 _ (0, 0) _ B6.out Try.underlying25 rfl (by kernel_rfl) ?_)
        refine (off_yes z (b - 1) _ HZ.out HW.out.1.2.2.1).mono ?_
        rintro e w7 ⟨rfl, k7⟩
        rw [HW.out.2.2.2.1]
        have B7 := Lib.hid (B6.out.kept k7)
        have K7 := Lib.hid (K6.out.trans k7)
        clear B6 K6 k7
        go_wp2_with (refine wpList_load_row rfl 25 _ rfl w.heap.size rfl 25 _ (0, 0) _ B7.out Try.underlying25 rfl (by kernel_rfl) ?_)
        refine (off_yes z (b) _ HZ.out HW.out.1.2.2.2).mono ?_
        rintro e w8 ⟨rfl, k8⟩
        rw [HW.out.2.2.2.2]
        have B8 := Lib.hid (B7.out.kept k8)
        have K8 := Lib.hid (K7.out.trans k8)
        clear B7 K7 k8
        have c1 := B8.out.cs.c1
        have c4 := B8.out.cs.c4
        go_wp2
        go_ret
        exact ⟨rfl, K8.out⟩
end Go.Proofs.Ytcgmefojokndhaa
