/- The document's own answers of layer fire: whether a schedule fires at a second, and when it does next. -/
import Derived.Test.YtilgamjahediiaaGreatDoorFrRef
set_option linter.unusedVariables false
namespace Go.Proofs.YtilgamjahediiaaGreatDoor
open Go.ChangeShapes Go.WideShapes Go.ChangeAt Go.RowKit
open Civ Zn Lc Crn
set_option maxRecDepth 100000 in
set_option maxHeartbeats 4000000 in
theorem rfires_any (z : Zo) (c : CR) (sl : Nat → Value) (t : Int) (w : World) (hc : Cr w sl c.L) (l1 : z.std.length ≤ 1000) (l2 : z.dst.length ≤ 1000) : Calls Tryz.prog 14 #[zoV z, crV sl c.st, .int .i64 t] w fun e w' => e = .returned (.bool (frP z c t)) ∧ Kept w w' := by
  have k0 := (Kept.refl w).alloc (.cells (zo15 z.std z.off z.has z.dst z.ahead z.fr.k z.fr.m z.fr.w z.fr.d z.fr.a z.to.k z.to.m z.to.w z.to.d z.to.a) 25)
  have b0 := bz_new w z
  go_enter Tryz.func14, Tryz.ntmps14
  go_upto_region 1 with (fail)
  generalize hx : w.alloc (.cells (zo15 z.std z.off z.has z.dst z.ahead z.fr.k z.fr.m z.fr.w z.fr.d z.fr.a z.to.k z.to.m z.to.w z.to.d z.to.a) 25) = x at *
  have s1 : x.heap.size = w.heap.size + 1 := by rw [← hx]; simp
  clear hx
  have c1 : Cb (w.heap.size + 1) sl c.st (x.alloc (.cells (cr10 sl c.st) 30)) := by rw [← s1]; exact Cb.new sl c.st x
  have k1 := (Kept.refl x).alloc (.cells (cr10 sl c.st) 30)
  generalize x.alloc (.cells (cr10 sl c.st) 30) = x1 at *
  have Z1 := Lib.hid (b0.kept k1); have B1 := Lib.hid c1; have K1 := Lib.hid (k0.trans k1); have C1 := Lib.hid (hc.kept (k0.trans k1))
  clear b0 k0 k1 c1 s1 hc
  go_wp2_with (refine wpList_load_row rfl 25 _ rfl w.heap.size rfl 25 _ (0, 0) _ Z1.out Tryz.underlying25 rfl (by kernel_rfl) ?_)
  refine (rMay_any z _ l1 l2).mono ?_
  rintro e x2 ⟨rfl, k2⟩
  have Z2 := Lib.hid (Z1.out.kept k2); have B2 := Lib.hid (B1.out.kept k2); have C2 := Lib.hid (C1.out.kept k2); have K2 := Lib.hid (K1.out.trans k2)
  clear k2 Z1 B1 C1 K1
  go_wp2_with (refine wpList_load_row rfl 30 _ rfl (w.heap.size + 1) rfl 30 _ (0, 0) _ B2.out Tryz.underlying30 rfl (by kernel_rfl) ?_)
  refine (rcmay_any c sl _ C2.out).mono ?_
  rintro e x3 ⟨rfl, k3⟩
  have Z3 := Lib.hid (Z2.out.kept k3); have B3 := Lib.hid (B2.out.kept k3); have C3 := Lib.hid (C2.out.kept k3); have K3 := Lib.hid (K2.out.trans k3)
  clear k3 Z2 B2 C2 K2
  have HF := Lib.hid (show frP z c t = (mayZ z && mayC c && decide (86400 ≤ t ∧ t ≤ 253402214400) && ((decide (atE z t = 0) && mtS c (atS z t) && fsP z (atS z t) t) || (decide (gN z t ≠ 0) && skP c (t + oA z (t - 1)) (gN z t)))) from rfl)
  cases hz : mayZ z with
  | false =>
    have HR := Lib.hid (show frP z c t = false by rw [HF.out, hz]; rfl)
    clear hz HF
    cases mayC c
    all_goals
      go_wp2
      go_ret
      exact ⟨ret_bool HR.out.symm, K3.out⟩
  | true =>
    cases hm : mayC c with
    | false =>
      have HR := Lib.hid (show frP z c t = false by rw [HF.out, hz, hm]; rfl)
      clear hz hm HF
      go_wp2
      go_ret
      exact ⟨ret_bool HR.out.symm, K3.out⟩
    | true =>
      by_cases h1 : t < 86400
      · have HR := Lib.hid (show frP z c t = false by rw [HF.out, hz, hm, decide_eq_false (by omega)]; rfl)
        clear hz hm HF
        go_wp2
        go_ret
        exact ⟨ret_bool HR.out.symm, K3.out⟩
      by_cases h2 : 253402214400 < t
      · have HR := Lib.hid (show frP z c t = false by rw [HF.out, hz, hm, decide_eq_false (by omega)]; rfl)
        clear hz hm HF
        go_wp2
        go_ret
        exact ⟨ret_bool HR.out.symm, K3.out⟩
      have HA := Lib.hid (show frP z c t = ((decide (atE z t = 0) && mtS c (atS z t) && fsP z (atS z t) t) || (decide (gN z t ≠ 0) && skP c (t + oA z (t - 1)) (gN z t))) by rw [HF.out, hz, hm, decide_eq_true (by omega)]; rfl)
      clear hz hm HF
      go_wp2_with (refine wpList_load_row rfl 25 _ rfl w.heap.size rfl 25 _ (0, 0) _ Z3.out Tryz.underlying25 rfl (by kernel_rfl) ?_)
      refine (rAt_any z t _ l1 l2).mono ?_
      rintro e x4 ⟨rfl, k4, -⟩
      have HZ4 := Lib.hid (sbox_z x4)
      have k5 := k4.trans (sbox_k x4 (atS z t))
      have D5 := Lib.hid (sbox_b x4 (atS z t))
      clear k4
      have Z5 := Lib.hid (Z3.out.kept k5); have B5 := Lib.hid (B3.out.kept k5); have C5 := Lib.hid (C3.out.kept k5); have K5 := Lib.hid (K3.out.trans k5)
      clear k5 Z3 B3 C3 K3
      have HRF := Lib.hid (fun x => rfirst_any z (atS z t) t x l1 l2)
      have HMT := Lib.hid (fun x hx => rmatch_any c sl (atS z t).y (atS z t).m (atS z t).d (atS z t).h (atS z t).i (atS z t).s x hx (fun z hz => rcmay_any c sl z hz))
      have HA2 := Lib.hid (show frP z c t = ((decide (atE z t = 0) && matchC c (atS z t).y (atS z t).m (atS z t).d (atS z t).h (atS z t).i (atS z t).s && fsP z (atS z t) t) || (decide (gN z t ≠ 0) && skP c (t + oA z (t - 1)) (gN z t))) from HA.out)
      clear HA
      generalize atE z t = ae at *
      generalize fsP z (atS z t) t = fs at *
      generalize matchC c (atS z t).y (atS z t).m (atS z t).d (atS z t).h (atS z t).i (atS z t).s = mt at *
      generalize atS z t = ax at *
      go_upto_region 6 with (refine wpList_store_row rfl 34 _ _ rfl x4.heap.size _ rfl rfl 34 _ HZ4.out (by kernel_rfl) rfl (by simp [Value.oneCell']) ?_)
      generalize (x4.alloc (.cells (six6 six0) 34)).setRow x4.heap.size (six6 ax) = x5 at *
      clear HZ4
      generalize x4.heap.size = bk at *
      go_wp2_with (first | refine wpList_load_row rfl 30 _ rfl (w.heap.size + 1) rfl 30 _ (0, 0) _ B5.out Tryz.underlying30 rfl (by kernel_rfl) ?_ | refine wpList_load_row rfl 34 _ rfl bk rfl 34 _ (0, 0) _ D5.out Tryz.underlying34 rfl (by kernel_rfl) ?_)
      refine (HMT.out _ C5.out).mono ?_
      rintro e x6 ⟨rfl, k6⟩
      have Z6 := Lib.hid (Z5.out.kept k6); have B6 := Lib.hid (B5.out.kept k6); have C6 := Lib.hid (C5.out.kept k6); have D6 := Lib.hid (D5.out.kept k6); have K6 := Lib.hid (K5.out.trans k6)
      clear k6 Z5 B5 C5 K5 D5
      by_cases he : ae = 0
      · subst he
        cases mt with
        | false =>
          have HT := Lib.hid (show frP z c t = (decide (gN z t ≠ 0) && skP c (t + oA z (t - 1)) (gN z t)) by rw [HA2.out]; rfl)
          clear HA2 HRF HMT
          go_wp2_with (refine wpList_load_row rfl 25 _ rfl w.heap.size rfl 25 _ (0, 0) _ Z6.out Tryz.underlying25 rfl (by kernel_rfl) ?_)
          refine (rgap_any z t _ l1 l2).mono ?_
          rintro e y1 ⟨rfl, q1⟩
          have HY1 := Lib.hid (sbox_z y1)
          have q2 := q1.trans (sbox_k y1 (gC z t))
          have ZY := Lib.hid (Z6.out.kept q2); have BY := Lib.hid (B6.out.kept q2); have CY := Lib.hid (C6.out.kept q2); have KY := Lib.hid (K6.out.trans q2)
          clear q1 q2 Z6 B6 C6 K6
          have gb := gN_bd z t
          obtain ⟨gb1, gb2⟩ := gb
          generalize gC z t = gc at *
          generalize gN z t = gn at *
          go_upto_region 12 with (refine wpList_store_row rfl 34 _ _ rfl y1.heap.size _ rfl rfl 34 _ HY1.out (by kernel_rfl) rfl (by simp [Value.oneCell']) ?_)
          generalize (y1.alloc (.cells (six6 six0) 34)).setRow y1.heap.size (six6 gc) = y2 at *
          clear HY1
          by_cases hg : gn = 0
          · subst hg
            have HR := Lib.hid (show frP z c t = false by rw [HT.out]; simp)
            clear HT
            go_wp2
            go_ret
            exact ⟨ret_bool HR.out.symm, KY.out⟩
          · have hgb : (gn == 0) = false := beq_eq_false_iff_ne.2 hg
            have HR := Lib.hid (show frP z c t = skP c (t + oA z (t - 1)) gn by rw [HT.out, decide_eq_true hg]; rfl)
            clear HT
            go_wp2_with (refine wpList_load_row rfl 25 _ rfl w.heap.size rfl 25 _ (0, 0) _ ZY.out Tryz.underlying25 rfl (by kernel_rfl) ?_)
            refine (rOff_any z (t - 1) _ l1 l2).mono ?_
            rintro e y3 ⟨rfl, q3⟩
            have BZ := Lib.hid (BY.out.kept q3); have CZ := Lib.hid (CY.out.kept q3); have KZ := Lib.hid (KY.out.trans q3)
            clear q3 ZY BY CY KY
            obtain ⟨a1, a2⟩ := oA_bd z (t - 1)
            generalize oA z (t - 1) = oa at *
            generalize oE z (t - 1) = oe at *
            go_wp2_with (refine wpList_load_row rfl 30 _ rfl (w.heap.size + 1) rfl 30 _ (0, 0) _ BZ.out Tryz.underlying30 rfl (by kernel_rfl) ?_)
            refine (rskipped_any c sl (t + oa) gn _ CZ.out (by omega) (by omega) (by omega)).mono ?_
            rintro e y4 ⟨rfl, q4⟩
            rw [← HR.out]
            go_wp2
            go_ret
            exact ⟨rfl, KZ.out.trans q4⟩
        | true =>
          go_wp2_with (first | refine wpList_load_row rfl 25 _ rfl w.heap.size rfl 25 _ (0, 0) _ Z6.out Tryz.underlying25 rfl (by kernel_rfl) ?_ | refine wpList_load_row rfl 34 _ rfl bk rfl 34 _ (0, 0) _ D6.out Tryz.underlying34 rfl (by kernel_rfl) ?_)
          refine (HRF.out _).mono ?_
          rintro e x7 ⟨rfl, k7⟩
          have Z7 := Lib.hid (Z6.out.kept k7); have B7 := Lib.hid (B6.out.kept k7); have C7 := Lib.hid (C6.out.kept k7); have K7 := Lib.hid (K6.out.trans k7)
          clear k7 Z6 B6 C6 K6
          cases fs with
          | true =>
            have HR := Lib.hid (show frP z c t = true by rw [HA2.out]; rfl)
            clear HA2 HRF HMT
            go_wp2
            go_ret
            exact ⟨ret_bool HR.out.symm, K7.out⟩
          | false =>
            have HT := Lib.hid (show frP z c t = (decide (gN z t ≠ 0) && skP c (t + oA z (t - 1)) (gN z t)) by rw [HA2.out]; rfl)
            clear HA2 HRF HMT
            go_wp2_with (refine wpList_load_row rfl 25 _ rfl w.heap.size rfl 25 _ (0, 0) _ Z7.out Tryz.underlying25 rfl (by kernel_rfl) ?_)
            refine (rgap_any z t _ l1 l2).mono ?_
            rintro e y1 ⟨rfl, q1⟩
            have HY1 := Lib.hid (sbox_z y1)
            have q2 := q1.trans (sbox_k y1 (gC z t))
            have ZY := Lib.hid (Z7.out.kept q2); have BY := Lib.hid (B7.out.kept q2); have CY := Lib.hid (C7.out.kept q2); have KY := Lib.hid (K7.out.trans q2)
            clear q1 q2 Z7 B7 C7 K7
            have gb := gN_bd z t
            obtain ⟨gb1, gb2⟩ := gb
            generalize gC z t = gc at *
            generalize gN z t = gn at *
            go_upto_region 12 with (refine wpList_store_row rfl 34 _ _ rfl y1.heap.size _ rfl rfl 34 _ HY1.out (by kernel_rfl) rfl (by simp [Value.oneCell']) ?_)
            generalize (y1.alloc (.cells (six6 six0) 34)).setRow y1.heap.size (six6 gc) = y2 at *
            clear HY1
            by_cases hg : gn = 0
            · subst hg
              have HR := Lib.hid (show frP z c t = false by rw [HT.out]; simp)
              clear HT
              go_wp2
              go_ret
              exact ⟨ret_bool HR.out.symm, KY.out⟩
            · have hgb : (gn == 0) = false := beq_eq_false_iff_ne.2 hg
              have HR := Lib.hid (show frP z c t = skP c (t + oA z (t - 1)) gn by rw [HT.out, decide_eq_true hg]; rfl)
              clear HT
              go_wp2_with (refine wpList_load_row rfl 25 _ rfl w.heap.size rfl 25 _ (0, 0) _ ZY.out Tryz.underlying25 rfl (by kernel_rfl) ?_)
              refine (rOff_any z (t - 1) _ l1 l2).mono ?_
              rintro e y3 ⟨rfl, q3⟩
              have BZ := Lib.hid (BY.out.kept q3); have CZ := Lib.hid (CY.out.kept q3); have KZ := Lib.hid (KY.out.trans q3)
              clear q3 ZY BY CY KY
              obtain ⟨a1, a2⟩ := oA_bd z (t - 1)
              generalize oA z (t - 1) = oa at *
              generalize oE z (t - 1) = oe at *
              go_wp2_with (refine wpList_load_row rfl 30 _ rfl (w.heap.size + 1) rfl 30 _ (0, 0) _ BZ.out Tryz.underlying30 rfl (by kernel_rfl) ?_)
              refine (rskipped_any c sl (t + oa) gn _ CZ.out (by omega) (by omega) (by omega)).mono ?_
              rintro e y4 ⟨rfl, q4⟩
              rw [← HR.out]
              go_wp2
              go_ret
              exact ⟨rfl, KZ.out.trans q4⟩
      · have heb : (ae == 0) = false := beq_eq_false_iff_ne.2 he
        have HT := Lib.hid (show frP z c t = (decide (gN z t ≠ 0) && skP c (t + oA z (t - 1)) (gN z t)) by rw [HA2.out, decide_eq_false he]; rfl)
        clear HA2 HRF HMT he
        go_wp2_with (refine wpList_load_row rfl 25 _ rfl w.heap.size rfl 25 _ (0, 0) _ Z6.out Tryz.underlying25 rfl (by kernel_rfl) ?_)
        refine (rgap_any z t _ l1 l2).mono ?_
        rintro e y1 ⟨rfl, q1⟩
        have HY1 := Lib.hid (sbox_z y1)
        have q2 := q1.trans (sbox_k y1 (gC z t))
        have ZY := Lib.hid (Z6.out.kept q2); have BY := Lib.hid (B6.out.kept q2); have CY := Lib.hid (C6.out.kept q2); have KY := Lib.hid (K6.out.trans q2)
        clear q1 q2 Z6 B6 C6 K6
        have gb := gN_bd z t
        obtain ⟨gb1, gb2⟩ := gb
        generalize gC z t = gc at *
        generalize gN z t = gn at *
        go_upto_region 12 with (refine wpList_store_row rfl 34 _ _ rfl y1.heap.size _ rfl rfl 34 _ HY1.out (by kernel_rfl) rfl (by simp [Value.oneCell']) ?_)
        generalize (y1.alloc (.cells (six6 six0) 34)).setRow y1.heap.size (six6 gc) = y2 at *
        clear HY1
        by_cases hg : gn = 0
        · subst hg
          have HR := Lib.hid (show frP z c t = false by rw [HT.out]; simp)
          clear HT
          go_wp2
          go_ret
          exact ⟨ret_bool HR.out.symm, KY.out⟩
        · have hgb : (gn == 0) = false := beq_eq_false_iff_ne.2 hg
          have HR := Lib.hid (show frP z c t = skP c (t + oA z (t - 1)) gn by rw [HT.out, decide_eq_true hg]; rfl)
          clear HT
          go_wp2_with (refine wpList_load_row rfl 25 _ rfl w.heap.size rfl 25 _ (0, 0) _ ZY.out Tryz.underlying25 rfl (by kernel_rfl) ?_)
          refine (rOff_any z (t - 1) _ l1 l2).mono ?_
          rintro e y3 ⟨rfl, q3⟩
          have BZ := Lib.hid (BY.out.kept q3); have CZ := Lib.hid (CY.out.kept q3); have KZ := Lib.hid (KY.out.trans q3)
          clear q3 ZY BY CY KY
          obtain ⟨a1, a2⟩ := oA_bd z (t - 1)
          generalize oA z (t - 1) = oa at *
          generalize oE z (t - 1) = oe at *
          go_wp2_with (refine wpList_load_row rfl 30 _ rfl (w.heap.size + 1) rfl 30 _ (0, 0) _ BZ.out Tryz.underlying30 rfl (by kernel_rfl) ?_)
          refine (rskipped_any c sl (t + oa) gn _ CZ.out (by omega) (by omega) (by omega)).mono ?_
          rintro e y4 ⟨rfl, q4⟩
          rw [← HR.out]
          go_wp2
          go_ret
          exact ⟨rfl, KZ.out.trans q4⟩
theorem nxF_step {f : Int → Bool} {a b : Int} {k : Nat} (h : a + 1 + (k : Int) ≤ b) : nxF f ((b - a).toNat - k) (a + 1 + k) = if f (a + 1 + k) = true then some (a + 1 + k) else nxF f ((b - a).toNat - (k + 1)) (a + 1 + ((k + 1 : Nat) : Int)) := by
  rw [show (b - a).toNat - k = ((b - a).toNat - (k + 1)) + 1 by omega, nxF, show a + 1 + (k : Int) + 1 = a + 1 + ((k + 1 : Nat) : Int) by omega]
set_option maxRecDepth 100000 in
set_option maxHeartbeats 4000000 in
theorem rnext_any (z : Zo) (c : CR) (sl : Nat → Value) (a b : Int) (w : World) (hc : Cr w sl c.L) (l1 : z.std.length ≤ 1000) (l2 : z.dst.length ≤ 1000) (hb1 : -9223372036854775808 ≤ b - a) (hb2 : b - a ≤ 9223372036854775807) (ha : a ≤ 4611686018427387904) (hbb : b ≤ 4611686018427387904) : Calls Tryz.prog 17 #[zoV z, crV sl c.st, .int .i64 a, .int .i64 b] w fun e w' => e = .returned (.tuple #[.int .i64 ((nxP z c a b).getD 0), .bool (nxP z c a b).isSome]) ∧ Kept w w' := by
  have k0 := (Kept.refl w).alloc (.cells (zo15 z.std z.off z.has z.dst z.ahead z.fr.k z.fr.m z.fr.w z.fr.d z.fr.a z.to.k z.to.m z.to.w z.to.d z.to.a) 25)
  have b0 := bz_new w z
  go_enter Tryz.func17, Tryz.ntmps17
  go_upto_region 1 with (fail)
  generalize hx : w.alloc (.cells (zo15 z.std z.off z.has z.dst z.ahead z.fr.k z.fr.m z.fr.w z.fr.d z.fr.a z.to.k z.to.m z.to.w z.to.d z.to.a) 25) = x at *
  have s1 : x.heap.size = w.heap.size + 1 := by rw [← hx]; simp
  clear hx
  have c1 : Cb (w.heap.size + 1) sl c.st (x.alloc (.cells (cr10 sl c.st) 30)) := by rw [← s1]; exact Cb.new sl c.st x
  have k1 := (Kept.refl x).alloc (.cells (cr10 sl c.st) 30)
  generalize x.alloc (.cells (cr10 sl c.st) 30) = X at *
  have Z1 := Lib.hid (b0.kept k1); have B1 := Lib.hid c1; have K1 := Lib.hid (k0.trans k1); have C1 := Lib.hid (hc.kept (k0.trans k1))
  clear b0 k0 k1 c1 s1 hc
  have HP := Lib.hid (show nxP z c a b = if a < 0 ∨ 3456000 < b - a then none else nxF (frP z c) (b - a).toNat (a + 1) from rfl)
  by_cases h1 : a < 0
  · have HO := Lib.hid (show nxP z c a b = none by rw [HP.out, if_pos (Or.inl h1)])
    clear HP
    go_wp2
    go_ret2
    rw [HO.out]
    exact ⟨rfl, K1.out⟩
  by_cases h2 : 3456000 < b - a
  · have HO := Lib.hid (show nxP z c a b = none by rw [HP.out, if_pos (Or.inr h2)])
    clear HP
    go_wp2
    go_ret2
    rw [HO.out]
    exact ⟨rfl, K1.out⟩
  have HN := Lib.hid (show nxP z c a b = nxF (frP z c) (b - a).toNat (a + 1) by rw [HP.out, if_neg (by omega)])
  clear HP
  have HFR := Lib.hid (fun t x hx => rfires_any z c sl t x hx l1 l2)
  generalize frP z c = f at *
  go_wp2_with fail
  go_loopw [10, 11] (fun i _ y => Kept X y ∧ ∃ k : Nat, (k : Int) ≤ max (b - a) 0 ∧ i = .int .i64 (a + 1 + k) ∧ nxP z c a b = nxF f ((b - a).toNat - k) (a + 1 + k)) (fun i _ _ => (b + 1 - intOf i).toNat)
  case atStart => exact ⟨Kept.refl _, 0, by omega, by go_num, by rw [HN.out]; simp⟩
  case round =>
    obtain ⟨hk, k, hkn, rfl, hs⟩ := hrel
    have HK := Lib.hid hk; have HS := Lib.hid hs
    clear hk hs HN
    by_cases hlt : a + 1 + (k : Int) ≤ b
    · have HT := Lib.hid (HS.out.trans (nxF_step (f := f) hlt))
      have Z2 := Lib.hid (Z1.out.kept HK.out); have B2 := Lib.hid (B1.out.kept HK.out); have C2 := Lib.hid (C1.out.kept HK.out)
      clear HS
      go_wp2_with (first | refine wpList_load_row rfl 25 _ rfl w.heap.size rfl 25 _ (0, 0) _ Z2.out Tryz.underlying25 rfl (by kernel_rfl) ?_ | refine wpList_load_row rfl 30 _ rfl (w.heap.size + 1) rfl 30 _ (0, 0) _ B2.out Tryz.underlying30 rfl (by kernel_rfl) ?_)
      refine (HFR.out (a + 1 + k) _ C2.out).mono ?_
      rintro e x2 ⟨rfl, k2⟩
      have K2 := Lib.hid (HK.out.trans k2)
      clear k2 Z2 B2 C2
      cases hf : f (a + 1 + (k : Int)) with
      | true =>
        have HO := Lib.hid (show nxP z c a b = some (a + 1 + (k : Int)) by rw [HT.out, if_pos hf])
        clear HT hf
        go_wp2
        go_ret2
        rw [HO.out]
        exact ⟨rfl, K1.out.trans K2.out⟩
      | false =>
        have HO := Lib.hid (show nxP z c a b = nxF f ((b - a).toNat - (k + 1)) (a + 1 + ((k + 1 : Nat) : Int)) by rw [HT.out, if_neg (by rw [hf]; decide)])
        clear HT hf
        go_wp2
        go_roundw
        case rel => exact ⟨K2.out, k + 1, by omega, by go_num, HO.out⟩
        case measure => simp [intOf]; omega
    · have HO := Lib.hid (show nxP z c a b = none by rw [HS.out, show (b - a).toNat - k = 0 by omega]; rfl)
      go_wp2
      go_ret2
      rw [HO.out]
      exact ⟨rfl, K1.out.trans HK.out⟩
end Go.Proofs.YtilgamjahediiaaGreatDoor
