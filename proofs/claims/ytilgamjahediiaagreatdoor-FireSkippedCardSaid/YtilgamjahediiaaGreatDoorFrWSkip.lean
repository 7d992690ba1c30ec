/- The law FireSkipped, walked (given the contracts of package fire). -/
import Derived.Test.YtilgamjahediiaaGreatDoorFrA
import Derived.Test.YtilgamjahediiaaGreatDoorFrP
set_option linter.unusedVariables false
namespace Go.Proofs.YtilgamjahediiaaGreatDoor
open Go.ChangeShapes Go.WideShapes Go.ChangeAt Go.RowKit
open Civ Zn Lc Crn
theorem from_rng {z : Zo} {y : Int} (hz : mayZ z = true) (hh : z.has = true) (h1 : 1971 ≤ y) (h2 : y ≤ 9997) : 86400 ≤ fromT z y ∧ fromT z y ≤ 253402214400 := by
  obtain ⟨r1, _, o1, o2, _, _⟩ := may_T hz hh
  obtain ⟨d1, d2⟩ := day_in r1 y
  obtain ⟨a1, a2, _⟩ := may_day r1
  have e1 := dby_mono 1971 y (by omega) (by omega)
  have e2 := dby_mono y 9997 (by omega) (by omega)
  have g1 : dby 1971 = 719527 := by decide +kernel
  have g2 : dby 9997 = 3650964 := by decide +kernel
  have k : first y 1 = dby y - 719162 := by unfold first; rw [cum_1]; omega
  unfold fromT
  omega
theorem gC_bd (z : Zo) (t : Int) : (0 ≤ (gC z t).h ∧ (gC z t).h ≤ 23) ∧ (0 ≤ (gC z t).i ∧ (gC z t).i ≤ 59) := by
  have q : ∀ T, (0 ≤ (seS T).h ∧ (seS T).h ≤ 23) ∧ (0 ≤ (seS T).i ∧ (seS T).i ≤ 59) := by
    intro T
    unfold seS
    by_cases h : inCal T
    · rw [if_pos h]
      show (0 ≤ T % 86400 / 3600 ∧ T % 86400 / 3600 ≤ 23) ∧ (0 ≤ T % 3600 / 60 ∧ T % 3600 / 60 ≤ 59)
      omega
    · rw [if_neg h]
      show (0 ≤ (0 : Int) ∧ (0 : Int) ≤ 23) ∧ (0 ≤ (0 : Int) ∧ (0 : Int) ≤ 59)
      omega
  unfold gC
  by_cases h : gYes z t
  · rw [if_pos h]; exact q _
  · rw [if_neg h]
    show (0 ≤ (0 : Int) ∧ (0 : Int) ≤ 23) ∧ (0 ≤ (0 : Int) ∧ (0 : Int) ≤ 59)
    omega
set_option maxRecDepth 100000 in
set_option maxHeartbeats 4000000 in
theorem skipped6_walk (hG : GapC) (hF : FiresC) (hN : NextC) (z : Zo) (c : CR) (sl : Nat → Value) (y m : Int) (w : World) (h1 : z.std.length ≤ maxLen) (h2 : z.dst.length ≤ maxLen) (hc : Cr w sl c.L) (_ : -9223372036854775808 ≤ y) (_ : y ≤ 9223372036854775807) (_ : -9223372036854775808 ≤ m) (_ : m ≤ 9223372036854775807) (htab : Tab w) : Calls Tryz.prog 7 #[zoV z, crV sl c.st, .int .i64 y, .int .i64 m] w fun e w' => e = .returned (.bool true) ∧ Kept w w' := by
  have k0 := (Kept.refl w).alloc (.cells (zo15 z.std z.off z.has z.dst z.ahead z.fr.k z.fr.m z.fr.w z.fr.d z.fr.a z.to.k z.to.m z.to.w z.to.d z.to.a) 25)
  have b0 := bz_new w z
  have T0 := Tb.start htab
  have HC0 := Lib.hid hc; have HG := Lib.hid hG; have HF := Lib.hid hF; have HN := Lib.hid hN
  clear hG hF hN htab
  go_enter Tryz.func7, Tryz.ntmps7
  go_upto_region 1 with (fail)
  generalize hx : w.alloc (.cells (zo15 z.std z.off z.has z.dst z.ahead z.fr.k z.fr.m z.fr.w z.fr.d z.fr.a z.to.k z.to.m z.to.w z.to.d z.to.a) 25) = x at *
  have s1 : x.heap.size = w.heap.size + 1 := by rw [← hx]; simp
  clear hx
  have c1 : Cb (w.heap.size + 1) sl c.st (x.alloc (.cells (cr10 sl c.st) 30)) := by rw [← s1]; exact Cb.new sl c.st x
  have k1 := (Kept.refl x).alloc (.cells (cr10 sl c.st) 30)
  generalize x.alloc (.cells (cr10 sl c.st) 30) = x1 at *
  have Z1 := Lib.hid (b0.kept k1); have B1 := Lib.hid c1; have K1 := Lib.hid (k0.trans k1); have C1 := Lib.hid (hc.kept (k0.trans k1)); have T1 := Lib.hid (T0.kept (k0.trans k1))
  clear b0 k0 k1 c1 s1 hc T0
  go_wp2_with fail
  refine (awake6_any HG.out HF.out HN.out _ T1.out.tab).mono ?_
  rintro e x2 ⟨rfl, k2⟩
  have Z2 := Lib.hid (Z1.out.kept k2); have B2 := Lib.hid (B1.out.kept k2); have C2 := Lib.hid (C1.out.kept k2); have K2 := Lib.hid (K1.out.trans k2)
  clear k2 Z1 B1 C1 K1
  clear T1
  go_wp2_with (first | refine wpList_load_row rfl 25 _ rfl w.heap.size rfl 25 _ (0, 0) _ Z2.out Tryz.underlying25 rfl (by kernel_rfl) ?_ | refine wpList_load_row rfl 30 _ rfl (w.heap.size + 1) rfl 30 _ (0, 0) _ B2.out Tryz.underlying30 rfl (by kernel_rfl) ?_)
  refine (few6_any z c sl _ C2.out h1 h2).mono ?_
  rintro e x3 ⟨rfl, k3⟩
  have Z3 := Lib.hid (Z2.out.kept k3); have B3 := Lib.hid (B2.out.kept k3); have C3 := Lib.hid (C2.out.kept k3); have K3 := Lib.hid (K2.out.trans k3)
  clear k3 Z2 B2 C2 K2
  cases hs : shB z && decide (FewP c) with
  | false =>
    clear hs
    go_wp2
    go_ret
    exact ⟨rfl, K3.out⟩
  | true =>
    clear hs
    by_cases g1 : y < 1971
    · go_wp2
      go_ret
      exact ⟨rfl, K3.out⟩
    by_cases g2 : 9997 < y
    · go_wp2
      go_ret
      exact ⟨rfl, K3.out⟩
    have a0 := Z3.out.cs.c0; have a1 := Z3.out.cs.c1; have a2 := Z3.out.cs.c2; have a3 := Z3.out.cs.c3; have a4 := Z3.out.cs.c4; have a5 := Z3.out.cs.c5; have a6 := Z3.out.cs.c6; have a7 := Z3.out.cs.c7; have a8 := Z3.out.cs.c8; have a9 := Z3.out.cs.c9; have a10 := Z3.out.cs.c10; have a11 := Z3.out.cs.c11; have a12 := Z3.out.cs.c12; have a13 := Z3.out.cs.c13; have a14 := Z3.out.cs.c14
    go_wp2_with fail
    refine (zMay_any z _).mono ?_
    rintro e x4 ⟨rfl, k4⟩
    clear a0 a1 a2 a3 a4 a5 a6 a7 a8 a9 a10 a11 a12 a13 a14
    have Z4 := Lib.hid (Z3.out.kept k4); have B4 := Lib.hid (B3.out.kept k4); have C4 := Lib.hid (C3.out.kept k4); have K4 := Lib.hid (K3.out.trans k4)
    clear k4 Z3 B3 C3 K3
    have a2 := Z4.out.cs.c2
    cases hz : mayZ z with
    | false =>
      clear hz
      go_wp2
      go_ret
      exact ⟨rfl, K4.out⟩
    | true =>
      cases hh : z.has with
      | false =>
        rw [hh] at a2
        go_wp2
        go_ret
        exact ⟨rfl, K4.out⟩
      | true =>
        have HZZ := Lib.hid hz; have HHH := Lib.hid hh
        rw [hh] at a2
        clear hz hh
        obtain ⟨e0, e1, e2, e3, e4, e5, e6, e7, e8, e9⟩ := cells10 B4.out
        go_wp2_with fail
        refine (cmay_any c sl _ C4.out).mono ?_
        rintro e x5 ⟨rfl, k5⟩
        clear e0 e1 e2 e3 e4 e5 e6 e7 e8 e9
        clear a2
        have Z5 := Lib.hid (Z4.out.kept k5); have B5 := Lib.hid (B4.out.kept k5); have C5 := Lib.hid (C4.out.kept k5); have K5 := Lib.hid (K4.out.trans k5)
        clear k5 Z4 B4 C4 K4
        cases hm : mayC c with
        | false =>
          clear hm
          go_wp2
          go_ret
          exact ⟨rfl, K5.out⟩
        | true =>
          have HMM := Lib.hid hm; clear hm
          by_cases g3 : m < 0
          · go_wp2
            go_ret
            exact ⟨rfl, K5.out⟩
          by_cases g4 : 3000 < m
          · go_wp2
            go_ret
            exact ⟨rfl, K5.out⟩
          go_wp2_with (refine wpList_load_row rfl 25 _ rfl w.heap.size rfl 25 _ (0, 0) _ Z5.out Tryz.underlying25 rfl (by kernel_rfl) ?_)
          refine (turns_any z y _).mono ?_
          rintro e x6 ⟨rfl, k6⟩
          have Z6 := Lib.hid (Z5.out.kept k6); have B6 := Lib.hid (B5.out.kept k6); have C6 := Lib.hid (C5.out.kept k6); have K6 := Lib.hid (K5.out.trans k6)
          clear k6 Z5 B5 C5 K5
          have htf : tF z y = fromT z y := by unfold tF tOk; rw [HZZ.out, HHH.out, show yrB y = true by simp [yrB]; omega]; rfl
          obtain ⟨ra1, ra2⟩ := from_rng HZZ.out HHH.out (by omega) (by omega)
          rw [htf]
          clear htf
          generalize fromT z y = a at *
          generalize tU z y = tu at *
          generalize tE z y = te at *
          have BLT := Lib.hid B6.out.lt
          go_wp2_with (refine wpList_load_row rfl 25 _ rfl w.heap.size rfl 25 _ (0, 0) _ Z6.out Tryz.underlying25 rfl (by kernel_rfl) ?_)
          refine (HG.out z a _ (by omega) (by omega)).mono ?_
          rintro e x7 ⟨rfl, k7⟩
          have HY7 := Lib.hid (sbox_z x7)
          have hb7 := k7.size
          have k8 := k7.trans (sbox_k x7 (gC z a))
          have D8 := Lib.hid (show ((x7.alloc (.cells (six6 six0) 34)).setRow x7.heap.size (six6 (gC z a))).heap[x7.heap.size]? = some (.cells (six6 (gC z a)) 34) from setRow_heap _ _ _ _ _ _ (sbox_z x7))
          clear k7
          have hz7 : x6.heap.size ≤ x7.heap.size := hb7
          have KZ := Lib.hid (sbox_k x7 (gC z a))
          have Z8 := Lib.hid (Z6.out.kept k8); have B8 := Lib.hid (B6.out.kept k8); have C8 := Lib.hid (C6.out.kept k8); have K8 := Lib.hid (K6.out.trans k8)
          clear k8 Z6 B6 C6 K6
          have HSK := Lib.hid (fun q0 q1 q2 q3 q4 q5 => fire_skipped (z := z) (c := c) (a := a) (m := m) HZZ.out HMM.out ra1 ra2 q0 q1 q2 q3 q4 q5)
          obtain ⟨⟨gh1, gh2⟩, gi1, gi2⟩ := gC_bd z a
          obtain ⟨gn1, gn2⟩ := gN_bd z a
          generalize gC z a = gc at *
          generalize gN z a = gn at *
          go_upto_region 7 with (refine wpList_store_row rfl 34 _ _ rfl x7.heap.size _ rfl rfl 34 _ HY7.out (by kernel_rfl) rfl (by simp [Value.oneCell']) ?_)
          have hbz : w.heap.size + 1 < x7.heap.size := Nat.lt_of_lt_of_le BLT.out hz7
          clear KZ
          generalize (x7.alloc (.cells (six6 six0) 34)).setRow x7.heap.size (six6 gc) = x8 at *
          clear HY7 hb7 hz7 BLT
          generalize x7.heap.size = b1 at *
          have p0 := cell_of (j := 0) D8.out rfl
          have p1 := cell_of (j := 1) D8.out rfl
          have p2 := cell_of (j := 2) D8.out rfl
          have p3 := cell_of (j := 3) D8.out rfl
          have p4 := cell_of (j := 4) D8.out rfl
          have p5 := cell_of (j := 5) D8.out rfl
          by_cases n0 : gn = 0
          · subst n0
            go_wp2
            go_ret
            exact ⟨rfl, K8.out⟩
          by_cases n1 : gn ≤ 60 * m
          · go_wp2
            go_ret
            exact ⟨rfl, K8.out⟩
          by_cases n2 : gc.s = 0
          case neg =>
            have n2b : (gc.s != 0) = true := bne_iff_ne.2 n2
            go_wp2
            go_ret
            exact ⟨rfl, K8.out⟩
          have n2b : (gc.s != 0) = false := by rw [n2]; rfl
          have HN2 := Lib.hid n2; clear n2
          have fz : ∀ j, x8.frozen? ⟨b1, j, none⟩ = false := fun j => fro_of D8.out j
          have hbw : w.heap.size ≤ b1 := by omega
          have K9 := Lib.hid (show Kept w (((x8.setCell ⟨b1, 4, none⟩ (.int .i64 (gc.i + m))).setCell ⟨b1, 3, none⟩ (.int .i64 (gc.h + (gc.i + m) / 60))).setCell ⟨b1, 4, none⟩ (.int .i64 ((gc.i + m) % 60))) from ((K8.out.setCell hbw _).setCell hbw _).setCell hbw _)
          by_cases n3 : 23 < gc.h + (gc.i + m) / 60
          · go_wp2
            go_ret
            exact ⟨rfl, K9.out⟩
          have Z9 := Lib.hid (show Bz w.heap.size z (((x8.setCell ⟨b1, 4, none⟩ (.int .i64 (gc.i + m))).setCell ⟨b1, 3, none⟩ (.int .i64 (gc.h + (gc.i + m) / 60))).setCell ⟨b1, 4, none⟩ (.int .i64 ((gc.i + m) % 60))) from ((Z8.out.other (show w.heap.size ≠ b1 by omega) _).other (show w.heap.size ≠ b1 by omega) _).other (show w.heap.size ≠ b1 by omega) _)
          have hcb : ∀ (X : World) (j : Nat) (v : Value), Cb (w.heap.size + 1) sl c.st X → Cb (w.heap.size + 1) sl c.st (X.setCell ⟨b1, j, none⟩ v) := fun X j v h => (Below.heap_setCell _ _ _ _ (show w.heap.size + 1 ≠ b1 by omega)).trans h
          have B9 := Lib.hid (hcb _ 4 (.int .i64 ((gc.i + m) % 60)) (hcb _ 3 (.int .i64 (gc.h + (gc.i + m) / 60)) (hcb _ 4 (.int .i64 (gc.i + m)) B8.out)))
          have D9 := Lib.hid (show (((x8.setCell ⟨b1, 4, none⟩ (.int .i64 (gc.i + m))).setCell ⟨b1, 3, none⟩ (.int .i64 (gc.h + (gc.i + m) / 60))).setCell ⟨b1, 4, none⟩ (.int .i64 ((gc.i + m) % 60))).heap[b1]? = some (.cells (six6 ⟨gc.y, gc.m, gc.d, gc.h + (gc.i + m) / 60, (gc.i + m) % 60, gc.s⟩) 34) by have := block_set (j := 4) (block_set (j := 3) (block_set (j := 4) D8.out (.int .i64 (gc.i + m))) (.int .i64 (gc.h + (gc.i + m) / 60))) (.int .i64 ((gc.i + m) % 60)); simpa [six6] using this)
          clear hcb
          go_upto_region 14 with (fail)
          have C9 := Lib.hid (HC0.out.kept K9.out)
          generalize ((x8.setCell ⟨b1, 4, none⟩ (.int .i64 (gc.i + m))).setCell ⟨b1, 3, none⟩ (.int .i64 (gc.h + (gc.i + m) / 60))).setCell ⟨b1, 4, none⟩ (.int .i64 ((gc.i + m) % 60)) = x9 at *
          clear p0 p1 p2 p3 p4 p5 fz Z8 B8 C8 D8 K8
          have HSK2 := Lib.hid (fun hx => HSK.out n0 (by omega) (by omega) HN2.out (by omega) hx)
          go_wp2_with (first | refine wpList_load_row rfl 25 _ rfl w.heap.size rfl 25 _ (0, 0) _ Z9.out Tryz.underlying25 rfl (by kernel_rfl) ?_ | refine wpList_load_row rfl 34 _ rfl b1 rfl 34 _ (0, 0) _ D9.out Tryz.underlying34 rfl (by kernel_rfl) ?_)
          refine (of_any z ⟨gc.y, gc.m, gc.d, gc.h + (gc.i + m) / 60, (gc.i + m) % 60, gc.s⟩ _).mono ?_
          rintro e x10 ⟨ao, cap, rfl, -, k10⟩
          have D10 := Lib.hid ((k10.block _ (Array.getElem?_eq_some_iff.1 D9.out).1).trans D9.out)
          have Z10 := Lib.hid (Z9.out.kept k10); have B10 := Lib.hid (B9.out.kept k10); have C10 := Lib.hid (C9.out.kept k10); have K10 := Lib.hid (K9.out.trans k10)
          clear k10 Z9 B9 C9 K9
          clear D9
          generalize ofE z ⟨gc.y, gc.m, gc.d, gc.h + (gc.i + m) / 60, (gc.i + m) % 60, gc.s⟩ = oe at *
          generalize ofS z ⟨gc.y, gc.m, gc.d, gc.h + (gc.i + m) / 60, (gc.i + m) % 60, gc.s⟩ = ol at *
          by_cases m1 : oe = 0
          case neg =>
            have m1b : (oe != 0) = true := bne_iff_ne.2 m1
            go_wp2
            go_ret
            exact ⟨rfl, K10.out⟩
          subst m1
          by_cases m2 : 0 < ol.length
          · have m2i : (0 : Int) < (ol.length : Int) := by omega
            go_wp2
            go_ret
            exact ⟨rfl, K10.out⟩
          have m2i : ¬ (0 : Int) < (ol.length : Int) := by omega
          go_wp2_with (first | refine wpList_load_row rfl 30 _ rfl (w.heap.size + 1) rfl 30 _ (0, 0) _ B10.out Tryz.underlying30 rfl (by kernel_rfl) ?_ | refine wpList_load_row rfl 34 _ rfl b1 rfl 34 _ (0, 0) _ D10.out Tryz.underlying34 rfl (by kernel_rfl) ?_)
          refine (match_any c sl gc.y gc.m gc.d (gc.h + (gc.i + m) / 60) ((gc.i + m) % 60) gc.s _ C10.out).mono ?_
          rintro e x11 ⟨rfl, k11⟩
          have Z11 := Lib.hid (Z10.out.kept k11); have B11 := Lib.hid (B10.out.kept k11); have C11 := Lib.hid (C10.out.kept k11); have K11 := Lib.hid (K10.out.trans k11)
          clear k11 Z10 B10 C10 K10
          cases hmt : matchC c gc.y gc.m gc.d (gc.h + (gc.i + m) / 60) ((gc.i + m) % 60) gc.s with
          | false =>
            clear hmt
            go_wp2
            go_ret
            exact ⟨rfl, K11.out⟩
          | true =>
            have hfr := HSK2.out hmt
            have HFR := Lib.hid (fun x hx => HF.out z c sl a x (by omega) (by omega) hx)
            rw [hfr] at HFR
            clear hmt hfr
            have a0 := Z11.out.cs.c0; have a1 := Z11.out.cs.c1; have a2 := Z11.out.cs.c2; have a3 := Z11.out.cs.c3; have a4 := Z11.out.cs.c4; have a5 := Z11.out.cs.c5; have a6 := Z11.out.cs.c6; have a7 := Z11.out.cs.c7; have a8 := Z11.out.cs.c8; have a9 := Z11.out.cs.c9; have a10 := Z11.out.cs.c10; have a11 := Z11.out.cs.c11; have a12 := Z11.out.cs.c12; have a13 := Z11.out.cs.c13; have a14 := Z11.out.cs.c14
            obtain ⟨e0, e1, e2, e3, e4, e5, e6, e7, e8, e9⟩ := cells10 B11.out
            go_wp2_with fail
            refine (HFR.out _ C11.out).mono ?_
            rintro e x12 ⟨rfl, k12⟩
            have K12 := Lib.hid (K11.out.trans k12)
            clear a0 a1 a2 a3 a4 a5 a6 a7 a8 a9 a10 a11 a12 a13 a14
            clear e0 e1 e2 e3 e4 e5 e6 e7 e8 e9
            go_wp2
            go_ret
            exact ⟨rfl, K12.out⟩
end Go.Proofs.YtilgamjahediiaaGreatDoor
