/- The document's own answers of layer fire: whether a second is the first one, whether what is skipped is one of a schedule. -/
import Derived.Test.YtilgamjahediiaaGreatDoorFrP
import Derived.Test.YtilgamjahediiaaGreatDoorCrRefF
import Derived.Test.YtilgamjahediiaaGreatDoorCrRefH
import Derived.Test.YtilgamjahediiaaGreatDoorCrB
set_option linter.unusedVariables false
namespace Go.Proofs.YtilgamjahediiaaGreatDoor
open Go.ChangeShapes Go.WideShapes Go.ChangeAt Go.RowKit
open Civ Zn Lc Crn
theorem rse_any (t : Int) (w : World) (h1 : -9223372036854775808 ≤ t) (h2 : t ≤ 9223372036854775807) : Calls Tryz.prog 31 #[.int .i64 t] w fun e w' => e = .returned (.tuple #[sixV (seS t), .int .i64 (seE t)]) ∧ Kept w w' := by
  unfold seS seE
  by_cases h : inCal t
  · rw [if_pos h, if_pos h]; exact (rat_yes t w h).mono fun e w' ⟨_, he, hk⟩ => ⟨he, hk⟩
  · rw [if_neg h, if_neg h]; exact rat_not t w h1 h2 h
set_option maxRecDepth 100000 in
set_option maxHeartbeats 4000000 in
theorem rfirst_any (z : Zo) (c : Six) (t : Int) (w : World) (l1 : z.std.length ≤ 1000) (l2 : z.dst.length ≤ 1000) : Calls Tryz.prog 35 #[zoV z, sixV c, .int .i64 t] w fun e w' => e = .returned (.bool (fsP z c t)) ∧ Kept w w' := by
  have B0 := Lib.hid (bz_new w z)
  have K0 := Lib.hid ((Kept.refl w).alloc (.cells (zo15 z.std z.off z.has z.dst z.ahead z.fr.k z.fr.m z.fr.w z.fr.d z.fr.a z.to.k z.to.m z.to.w z.to.d z.to.a) 25))
  go_enter Tryz.func35, Tryz.ntmps35
  go_upto_region 1 with (fail)
  generalize hx : w.alloc (.cells (zo15 z.std z.off z.has z.dst z.ahead z.fr.k z.fr.m z.fr.w z.fr.d z.fr.a z.to.k z.to.m z.to.w z.to.d z.to.a) 25) = x at *
  have s1 : x.heap.size = w.heap.size + 1 := by rw [← hx]; simp
  clear hx
  have b1 : Bc x.heap.size c.y c.m c.d c.h c.i c.s (x.alloc (.cells #[.int .i64 c.y, .int .i64 c.m, .int .i64 c.d, .int .i64 c.h, .int .i64 c.i, .int .i64 c.s] 34)) := new_block x _
  have k1 := (Kept.refl x).alloc (.cells #[.int .i64 c.y, .int .i64 c.m, .int .i64 c.d, .int .i64 c.h, .int .i64 c.i, .int .i64 c.s] 34)
  rw [s1] at b1
  generalize x.alloc (.cells #[.int .i64 c.y, .int .i64 c.m, .int .i64 c.d, .int .i64 c.h, .int .i64 c.i, .int .i64 c.s] 34) = x1 at *
  have B1 := Lib.hid (B0.out.kept k1)
  have C1 := Lib.hid b1
  have K1 := Lib.hid (K0.out.trans k1)
  clear B0 K0 k1 b1 s1
  have c0 : x1.cell? ⟨w.heap.size + 1, 0, none⟩ = some (.int .i64 c.y) := cell_of C1.out rfl
  by_cases hy : 9998 < c.y
  · have HS := Lib.hid (show fsP z c t = true by unfold fsP; rw [decide_eq_true hy]; rfl)
    go_wp2
    go_ret
    exact ⟨ret_bool HS.out.symm, K1.out⟩
  · have HS := Lib.hid (show fsP z c t = (decide (ofE z c = 0) && decide ((ofS z c)[0]? = some t)) by unfold fsP; rw [decide_eq_false hy]; rfl)
    go_wp2_with (first | refine wpList_load_row rfl 25 _ rfl w.heap.size rfl 25 _ (0, 0) _ B1.out Tryz.underlying25 rfl (by kernel_rfl) ?_ | refine wpList_load_row rfl 34 _ rfl (w.heap.size + 1) rfl 34 _ (0, 0) _ C1.out Tryz.underlying34 rfl (by kernel_rfl) ?_)
    refine (rOf_any z c _ l1 l2).mono ?_
    rintro e x2 ⟨ao, cap, rfl, ho, k2⟩
    have K2 := Lib.hid (K1.out.trans k2)
    clear c0 k2 B1 C1 K1
    generalize ofE z c = oe at *
    generalize ofS z c = l at *
    by_cases he : oe = 0
    · have he2 : ¬ oe ≠ 0 := by simpa using he
      by_cases hl : 0 < l.length
      · obtain ⟨b, o, cp, hs, -, hcell⟩ : ∃ b o cp, (Value.slice ao l.length cap) = .slice (some ⟨b, o, none⟩) l.length cp ∧ True ∧ x2.cell? ⟨b, o, none⟩ = some (.int .i64 (l.getD 0 0)) := by
          rcases ho.2 with ⟨h1, h2⟩ | ⟨g, cp, cur, h1, h2, h3, h4⟩
          · omega
          · refine ⟨g, 0, cp, h1, trivial, ?_⟩
            have hc := World.ownsRow.cells ho (g := g) (by rw [h1]; rfl) 0 (.int .i64 (l.getD 0 0)) (by cases l with | nil => simp at hl | cons a r => simp)
            simpa [Addr.add] using hc
        simp only [Value.slice.injEq] at hs
        obtain ⟨rfl, -, -⟩ := hs
        have hl0 : l[0]? = some (l.getD 0 0) := by cases l with | nil => simp at hl | cons a r => simp
        have HS2 := Lib.hid (show fsP z c t = decide (l.getD 0 0 = t) by rw [HS.out, decide_eq_true he, hl0]; simp)
        have hli : (0 : Int) < (l.length : Int) := by omega
        subst he
        clear he2 hl0
        generalize l.getD 0 0 = v at *
        by_cases hv : v = t
        · have HV := Lib.hid (show fsP z c t = true by rw [HS2.out, decide_eq_true hv])
          have hvb : (v == t) = true := beq_iff_eq.2 hv
          clear hv HS HS2
          go_wp2
          go_ret
          exact ⟨ret_bool HV.out.symm, K2.out⟩
        · have HV := Lib.hid (show fsP z c t = false by rw [HS2.out, decide_eq_false hv])
          have hvb : (v == t) = false := beq_eq_false_iff_ne.2 hv
          clear hv HS HS2
          go_wp2
          go_ret
          exact ⟨ret_bool HV.out.symm, K2.out⟩
      · obtain rfl : l = [] := List.length_eq_zero_iff.1 (by omega)
        have HV := Lib.hid (show fsP z c t = false by rw [HS.out]; simp)
        subst he
        go_wp2
        go_ret
        exact ⟨ret_bool HV.out.symm, K2.out⟩
    · have HV := Lib.hid (show fsP z c t = false by rw [HS.out, decide_eq_false he]; rfl)
      have heb : (oe == 0) = false := beq_eq_false_iff_ne.2 he
      go_wp2
      go_ret
      exact ⟨ret_bool HV.out.symm, K2.out⟩
abbrev six6 (c : Six) : Array Value := #[.int .i64 c.y, .int .i64 c.m, .int .i64 c.d, .int .i64 c.h, .int .i64 c.i, .int .i64 c.s]
theorem sbox_z (x : World) : (x.alloc (.cells (six6 six0) 34)).heap[x.heap.size]? = some (.cells (six6 six0) 34) := new_block x _
theorem sbox_k (x : World) (c : Six) : Kept x ((x.alloc (.cells (six6 six0) 34)).setRow x.heap.size (six6 c)) := ((Kept.refl x).alloc _).setRow (Nat.le_refl _) _
theorem sbox_b (x : World) (c : Six) : Bc x.heap.size c.y c.m c.d c.h c.i c.s ((x.alloc (.cells (six6 six0) 34)).setRow x.heap.size (six6 c)) := setRow_heap _ _ _ _ _ _ (sbox_z x)
theorem skF_step {c : CR} {t n : Int} {k : Nat} (h : (k : Int) < n) : skF c t (n.toNat - k) k = ((decide (seE (t + k) = 0) && mtS c (seS (t + k))) || skF c t (n.toNat - (k + 1)) ((k + 1 : Nat) : Int)) := by
  rw [show n.toNat - k = (n.toNat - (k + 1)) + 1 by omega, skF]; rfl
set_option maxRecDepth 100000 in
set_option maxHeartbeats 4000000 in
theorem rskipped_any (c : CR) (sl : Nat → Value) (t n : Int) (w : World) (hc : Cr w sl c.L) (hn : n ≤ 1000000) (ht1 : -1000000000000 ≤ t) (ht2 : t ≤ 1000000000000) : Calls Tryz.prog 36 #[crV sl c.st, .int .i64 t, .int .i64 n] w fun e w' => e = .returned (.bool (skP c t n)) ∧ Kept w w' := by
  have k0 := (Kept.refl w).alloc (.cells (cr10 sl c.st) 30)
  have B0 := Lib.hid (Cb.new sl c.st w)
  have C0 := Lib.hid (hc.kept k0)
  have K0 := Lib.hid k0
  clear hc k0
  go_enter Tryz.func36, Tryz.ntmps36
  go_upto_region 1 with (fail)
  generalize w.alloc (.cells (cr10 sl c.st) 30) = X at *
  go_wp2_with fail
  go_loopw [7, 8, 9, 10] (fun i _ _ _ y => Kept X y ∧ ∃ k : Nat, (k : Int) ≤ max n 0 ∧ i = .int .i64 k ∧ skP c t n = skF c t (n.toNat - k) k) (fun i _ _ _ _ => (n - intOf i).toNat)
  case atStart => exact ⟨Kept.refl _, 0, by omega, rfl, rfl⟩
  case round =>
    obtain ⟨hk, k, hkn, rfl, hs⟩ := hrel
    have HK := Lib.hid hk; have HS := Lib.hid hs
    clear hk hs
    by_cases hlt : (k : Int) < n
    · have HT := Lib.hid (HS.out.trans (skF_step (c := c) (t := t) hlt))
      clear HS
      by_cases h60 : (t + (k : Int)) % 60 = 0
      · have hm0 : (t + (k : Int)).tmod 60 = 0 := by rw [← Int.dvd_iff_tmod_eq_zero]; exact Int.dvd_of_emod_eq_zero h60
        have B1 := Lib.hid (B0.out.kept HK.out); have C1 := Lib.hid (C0.out.kept HK.out)
        have H60 := Lib.hid h60; clear h60
        go_wp2_with fail
        refine (rse_any (t + k) _ (by omega) (by omega)).mono ?_
        rintro e x2 ⟨rfl, k2⟩
        have HZ2 := Lib.hid (sbox_z x2)
        have k3 := k2.trans (sbox_k x2 (seS (t + k)))
        have D3 := Lib.hid (sbox_b x2 (seS (t + k)))
        have B3 := Lib.hid (B1.out.kept k3); have C3 := Lib.hid (C1.out.kept k3)
        have K3 := Lib.hid (HK.out.trans k3)
        clear k2 k3 B1 C1 hm0
        have HM := Lib.hid (show (decide (seE (t + (k : Int)) = 0) && mtS c (seS (t + (k : Int)))) = (decide (seE (t + (k : Int)) = 0) && mtS c (seS (t + (k : Int)))) from rfl)
        generalize hsx : seS (t + (k : Int)) = sx at *
        generalize hse : seE (t + (k : Int)) = se at *
        clear hsx hse HM
        go_upto_region 6 with (refine wpList_store_row rfl 34 _ _ rfl x2.heap.size _ rfl rfl 34 _ HZ2.out (by kernel_rfl) rfl (by simp [Value.oneCell']) ?_)
        generalize (x2.alloc (.cells (six6 six0) 34)).setRow x2.heap.size (six6 sx) = x3 at *
        clear HZ2
        go_wp2_with (first | refine wpList_load_row rfl 30 _ rfl w.heap.size rfl 30 _ (0, 0) _ B3.out Tryz.underlying30 rfl (by kernel_rfl) ?_ | refine wpList_load_row rfl 34 _ rfl x2.heap.size rfl 34 _ (0, 0) _ D3.out Tryz.underlying34 rfl (by kernel_rfl) ?_)
        refine (rmatch_any c sl sx.y sx.m sx.d sx.h sx.i sx.s _ C3.out (fun z hz => rcmay_any c sl z hz)).mono ?_
        rintro e x4 ⟨rfl, k4⟩
        have K4 := Lib.hid (K3.out.trans k4)
        clear k4 K3 C3 B3 D3
        have HT2 := Lib.hid (show skP c t n = ((decide (se = 0) && matchC c sx.y sx.m sx.d sx.h sx.i sx.s) || skF c t (n.toNat - (k + 1)) ((k + 1 : Nat) : Int)) from HT.out)
        clear HT
        generalize matchC c sx.y sx.m sx.d sx.h sx.i sx.s = mt at *
        by_cases he : se = 0
        · subst he
          cases mt with
          | true =>
            have HR := Lib.hid (show skP c t n = true by rw [HT2.out]; rfl)
            clear HT2
            go_wp2
            go_ret
            exact ⟨ret_bool HR.out.symm, K0.out.trans K4.out⟩
          | false =>
            have HR := Lib.hid (show skP c t n = skF c t (n.toNat - (k + 1)) ((k + 1 : Nat) : Int) by rw [HT2.out]; rfl)
            clear HT2
            go_wp2
            go_roundw
            case rel => exact ⟨K4.out, k + 1, by omega, by go_num, HR.out⟩
            case measure => simp [intOf]; omega
        · have heb : (se == 0) = false := beq_eq_false_iff_ne.2 he
          have HR := Lib.hid (show skP c t n = skF c t (n.toNat - (k + 1)) ((k + 1 : Nat) : Int) by rw [HT2.out, decide_eq_false he]; rfl)
          clear HT2 he
          go_wp2
          go_roundw
          case rel => exact ⟨K4.out, k + 1, by omega, by go_num, HR.out⟩
          case measure => simp [intOf]; omega
      · have hm0 : ¬ (t + (k : Int)).tmod 60 = 0 := fun e => h60 (Int.emod_eq_zero_of_dvd (Int.dvd_iff_tmod_eq_zero.2 e))
        have HR := Lib.hid (show skP c t n = skF c t (n.toNat - (k + 1)) ((k + 1 : Nat) : Int) by rw [HT.out, sk_skip h60]; rfl)
        clear HT
        go_wp2
        go_roundw
        case rel => exact ⟨HK.out, k + 1, by omega, by go_num, HR.out⟩
        case measure => simp [intOf]; omega
    · have HR := Lib.hid (show skP c t n = false by rw [HS.out, show n.toNat - k = 0 by omega]; rfl)
      go_wp2
      go_ret
      exact ⟨ret_bool HR.out.symm, K0.out.trans HK.out⟩
theorem gap_results (n : Nat) (c : Six) (e : Int) (tmps : Array Value) (x : World) (h4 : tmps[4]? = some (.int .i64 e)) (h5 : tmps[5]? = some (.pointer (some ⟨n, 0, none⟩))) (b0 : x.heap[n]? = some (.cells (six6 c) 34)) : (results Tryz.f13 tmps).run Tryz.prog x = .ok (.tuple #[.int .i64 e, sixV c]) x := by
  have d0 := cell_of (j := 0) b0 rfl
  have d1 := cell_of (j := 1) b0 rfl
  have d2 := cell_of (j := 2) b0 rfl
  have d3 := cell_of (j := 3) b0 rfl
  have d4 := cell_of (j := 4) b0 rfl
  have d5 := cell_of (j := 5) b0 rfl
  clear b0
  simp [results, Tryz.results13, go_sem, *]
set_option maxRecDepth 100000 in
set_option maxHeartbeats 4000000 in
theorem rgap_any (z : Zo) (t : Int) (w : World) (l1 : z.std.length ≤ 1000) (l2 : z.dst.length ≤ 1000) : Calls Tryz.prog 13 #[zoV z, .int .i64 t] w fun e w' => e = .returned (.tuple #[.int .i64 (gN z t), sixV (gC z t)]) ∧ Kept w w' := by
  have k0 := (Kept.refl w).alloc (.cells (zo15 z.std z.off z.has z.dst z.ahead z.fr.k z.fr.m z.fr.w z.fr.d z.fr.a z.to.k z.to.m z.to.w z.to.d z.to.a) 25)
  have b0 := bz_new w z
  go_enter Tryz.func13, Tryz.ntmps13
  go_upto_region 1 with (fail)
  generalize hx : w.alloc (.cells (zo15 z.std z.off z.has z.dst z.ahead z.fr.k z.fr.m z.fr.w z.fr.d z.fr.a z.to.k z.to.m z.to.w z.to.d z.to.a) 25) = x at *
  have s1 : x.heap.size = w.heap.size + 1 := by rw [← hx]; simp
  clear hx
  have d1 : (x.alloc (.cells (six6 six0) 34)).heap[w.heap.size + 1]? = some (.cells (six6 six0) 34) := by rw [← s1]; exact sbox_z x
  have k1 := (Kept.refl x).alloc (.cells (six6 six0) 34)
  generalize x.alloc (.cells (six6 six0) 34) = x1 at *
  have B1 := Lib.hid (b0.kept k1); have D1 := Lib.hid d1; have K1 := Lib.hid (k0.trans k1)
  clear b0 k0 k1 d1 s1
  go_wp2_with (refine wpList_load_row rfl 25 _ rfl w.heap.size rfl 25 _ (0, 0) _ B1.out Tryz.underlying25 rfl (by kernel_rfl) ?_)
  refine (rMay_any z _ l1 l2).mono ?_
  rintro e x2 ⟨rfl, k2⟩
  have B2 := Lib.hid (B1.out.kept k2); have D2 := Lib.hid ((k2.block _ (Array.getElem?_eq_some_iff.1 D1.out).1).trans D1.out); have K2 := Lib.hid (K1.out.trans k2)
  clear k2 B1 D1 K1
  have hno : gOk z t = false → gN z t = 0 ∧ gC z t = six0 := fun h => by
    have : ¬ gYes z t := fun q => by rw [q.1] at h; cases h
    unfold gN gC; rw [if_neg this, if_neg this]; exact ⟨rfl, rfl⟩
  have HNO := Lib.hid hno; clear hno
  have HG := Lib.hid (show gOk z t = (mayZ z && decide (1 ≤ t ∧ t ≤ 253402214400)) from rfl)
  by_cases hg : gOk z t = true
  · have hm : mayZ z = true ∧ (1 ≤ t ∧ t ≤ 253402214400) := by rw [HG.out, Bool.and_eq_true, decide_eq_true_eq] at hg; exact hg
    obtain ⟨hm, ht1, ht2⟩ := hm
    have HGK := Lib.hid hg; clear hg
    rw [hm]
    have HMZ := Lib.hid hm; clear hm
    go_wp2_with (refine wpList_load_row rfl 25 _ rfl w.heap.size rfl 25 _ (0, 0) _ B2.out Tryz.underlying25 rfl (by kernel_rfl) ?_)
    refine (rOff_any z (t - 1) _ l1 l2).mono ?_
    rintro e x3 ⟨rfl, k3⟩
    have B3 := Lib.hid (B2.out.kept k3); have D3 := Lib.hid ((k3.block _ (Array.getElem?_eq_some_iff.1 D2.out).1).trans D2.out); have K3 := Lib.hid (K2.out.trans k3)
    clear k3 B2 D2 K2
    go_wp2_with (refine wpList_load_row rfl 25 _ rfl w.heap.size rfl 25 _ (0, 0) _ B3.out Tryz.underlying25 rfl (by kernel_rfl) ?_)
    refine (rOff_any z t _ l1 l2).mono ?_
    rintro e x4 ⟨rfl, k4⟩
    have D4 := Lib.hid ((k4.block _ (Array.getElem?_eq_some_iff.1 D3.out).1).trans D3.out); have K4 := Lib.hid (K3.out.trans k4)
    clear k4 B3 D3 K3
    obtain ⟨a1, a2⟩ := oA_bd z (t - 1)
    obtain ⟨b1, b2⟩ := oA_bd z t
    have HY := Lib.hid (fun h : oA z (t - 1) < oA z t => show gN z t = oA z t - oA z (t - 1) ∧ gC z t = seS (t + oA z (t - 1)) from by
      have q : gYes z t := ⟨HGK.out, h⟩
      unfold gN gC; rw [if_pos q, if_pos q]; exact ⟨rfl, rfl⟩)
    have HN := Lib.hid (fun h : ¬ oA z (t - 1) < oA z t => show gN z t = 0 ∧ gC z t = six0 from by
      have q : ¬ gYes z t := fun q => h q.2
      unfold gN gC; rw [if_neg q, if_neg q]; exact ⟨rfl, rfl⟩)
    clear HG HNO HGK
    generalize oA z (t - 1) = a at *
    generalize oA z t = b at *
    generalize oE z (t - 1) = ea at *
    generalize oE z t = eb at *
    by_cases hab : a < b
    · obtain ⟨h1, h2⟩ := HY.out hab
      have H1 := Lib.hid h1; have H2 := Lib.hid h2
      clear h1 h2 HY HN
      go_wp2_with fail
      refine (rse_any (t + a) _ (by omega) (by omega)).mono ?_
      rintro e x5 ⟨rfl, k5⟩
      have HZ5 := Lib.hid (sbox_z x5)
      have k6 := k5.trans (sbox_k x5 (seS (t + a)))
      have E6 := Lib.hid (sbox_b x5 (seS (t + a)))
      have D6 := Lib.hid ((k6.block _ (Array.getElem?_eq_some_iff.1 D4.out).1).trans D4.out)
      have hne : x5.heap.size ≠ w.heap.size + 1 := by have := k5.size; have := (Array.getElem?_eq_some_iff.1 D4.out).1; omega
      have K6 := Lib.hid (K4.out.trans k6)
      clear k5 k6 D4 K4
      generalize seS (t + a) = sx at *
      generalize seE (t + a) = se at *
      go_upto_region 9 with (refine wpList_store_row rfl 34 _ _ rfl x5.heap.size _ rfl rfl 34 _ HZ5.out (by kernel_rfl) rfl (by simp [Value.oneCell']) ?_)
      generalize (x5.alloc (.cells (six6 six0) 34)).setRow x5.heap.size (six6 sx) = x6 at *
      clear HZ5
      generalize x5.heap.size = bk at *
      obtain ⟨u0, u1, u2, u3, u4, u5⟩ : x6.cell? ⟨bk, 0, none⟩ = some (.int .i64 sx.y) ∧ x6.cell? ⟨bk, 1, none⟩ = some (.int .i64 sx.m) ∧ x6.cell? ⟨bk, 2, none⟩ = some (.int .i64 sx.d) ∧ x6.cell? ⟨bk, 3, none⟩ = some (.int .i64 sx.h) ∧ x6.cell? ⟨bk, 4, none⟩ = some (.int .i64 sx.i) ∧ x6.cell? ⟨bk, 5, none⟩ = some (.int .i64 sx.s) :=
        ⟨cell_of E6.out rfl, cell_of E6.out rfl, cell_of E6.out rfl, cell_of E6.out rfl, cell_of E6.out rfl, cell_of E6.out rfl⟩
      have hw1 : IntKind.i64.wrap (b - a) = b - a := by simp only [IntKind.wrap_i64]; omega
      refine wp_region_held_drew (S := fun y => y.cell? ⟨bk, 0, none⟩ = some (.int .i64 sx.y) ∧ y.cell? ⟨bk, 1, none⟩ = some (.int .i64 sx.m) ∧ y.cell? ⟨bk, 2, none⟩ = some (.int .i64 sx.d) ∧ y.cell? ⟨bk, 3, none⟩ = some (.int .i64 sx.h) ∧ y.cell? ⟨bk, 4, none⟩ = some (.int .i64 sx.i) ∧ y.cell? ⟨bk, 5, none⟩ = some (.int .i64 sx.s)) (by kernel_rfl) ⟨u0, u1, u2, u3, u4, u5⟩ (fun hS0 => ?_)
      refine wpAnyH_take (i := 0) (oi := { dst := some 50, op := Go.Op.move (Go.Operand.tmp 9), type := 3, pos := "ref.go:24", after := #[], guard := none }) (v := ?vg0) rfl (by kernel_rfl) (by kernel_rfl) (by kernel_rfl) (fun _ _ _ h => h) (Or.inl ⟨by rfl, ?yg0⟩) (by assumption) ?rg0
      case yg0 => (intro wq hSw; (try dsimp only at hSw); go_simp; try with_reducible rfl)
      simp only [Act.put, List.setIfInBounds_toArray, List.set_cons_zero, List.set_cons_succ]
      refine wpAnyH_take (i := 1) (oi := { dst := some 51, op := Go.Op.move (Go.Operand.tmp 7), type := 3, pos := "ref.go:24", after := #[], guard := none }) (v := ?vg1) rfl (by kernel_rfl) (by kernel_rfl) (by kernel_rfl) (fun _ _ _ h => h) (Or.inl ⟨by rfl, ?yg1⟩) (by assumption) ?rg1
      case yg1 => (intro wq hSw; (try dsimp only at hSw); go_simp; try with_reducible rfl)
      simp only [Act.put, List.setIfInBounds_toArray, List.set_cons_zero, List.set_cons_succ]
      refine wpAnyH_take (i := 2) (oi := { dst := some 52, op := Go.Op.binOp Go.BinOp.sub 3 (Go.Operand.tmp 50) (Go.Operand.tmp 51) 3, type := 3, pos := "ref.go:24", after := #[{ on := 0, ground := Go.Ground.data }, { on := 1, ground := Go.Ground.data }], guard := none }) (v := ?vg2) rfl (by kernel_rfl) (by kernel_rfl) (by kernel_rfl) (fun _ _ _ h => h) (Or.inl ⟨by rfl, ?yg2⟩) (by assumption) ?rg2
      case yg2 => (intro wq hSw; (try dsimp only at hSw); go_simp; try with_reducible rfl)
      simp only [Act.put, List.setIfInBounds_toArray, List.set_cons_zero, List.set_cons_succ]
      refine wpAnyH_take (i := 3) (oi := { dst := some 53, op := Go.Op.load 34 (Go.Operand.tmp 11), type := 34, pos := "ref.go:24", after := #[{ on := 4, ground := Go.Ground.gcOnly Go.Departure.lateStores }], guard := none }) (v := ?vg3) rfl (by kernel_rfl) (by kernel_rfl) (by kernel_rfl) (fun _ _ _ h => h) (Or.inl ⟨by rfl, ?yg3⟩) (by assumption) ?rg3
      case yg3 => (intro wq hSw; (try dsimp only at hSw); go_simp; try with_reducible rfl)
      simp only [Act.put, List.setIfInBounds_toArray, List.set_cons_zero, List.set_cons_succ]
      refine wpAnyH_take (i := 4) (oi := { dst := some 4, op := Go.Op.assign (Go.Operand.tmp 52), type := 3, pos := "ref.go:24", after := #[{ on := 2, ground := Go.Ground.data }, { on := 0, ground := Go.Ground.phase }, { on := 1, ground := Go.Ground.phase }, { on := 2, ground := Go.Ground.phase }, { on := 3, ground := Go.Ground.textOnly Go.Departure.lateStores }], guard := none }) (v := ?vg4) rfl (by kernel_rfl) (by kernel_rfl) (by kernel_rfl) (fun _ _ _ h => h) (Or.inl ⟨by rfl, ?yg4⟩) (by assumption) ?rg4
      case yg4 => (intro wq hSw; (try dsimp only at hSw); go_simp; try with_reducible rfl)
      simp only [Act.put, List.setIfInBounds_toArray, List.set_cons_zero, List.set_cons_succ]
      refine wpAnyH_ready (rs := [5]) (by kernel_rfl) (by simp) (AllReadyH.cons (o := { dst := none, op := Go.Op.store 34 (Go.Operand.tmp 5) (Go.Operand.tmp 53), type := 0, pos := "ref.go:24", after := #[{ on := 3, ground := Go.Ground.data }, { on := 4, ground := Go.Ground.chain }, { on := 0, ground := Go.Ground.phase }, { on := 1, ground := Go.Ground.phase }, { on := 2, ground := Go.Ground.phase }, { on := 3, ground := Go.Ground.phase }, { on := 4, ground := Go.Ground.phase }], guard := none }) rfl (fun K hK => ?_) AllReadyH.nil)
      rw [if_pos (by rfl)]
      refine wp_store_row 34 _ _ rfl (w.heap.size + 1) (six6 sx) rfl rfl 34 (six6 six0) (show x6.drew.heap[w.heap.size + 1]? = _ from D6.out) (by kernel_rfl) rfl (by simp [Value.oneCell']) ?_
      have hset : ∀ j, (x6.drew.setRow (w.heap.size + 1) (six6 sx)).cell? ⟨bk, j, none⟩ = x6.cell? ⟨bk, j, none⟩ := fun j => cell_setRow_other _ _ _ _ hne
      refine Shut.out hK _ _ ⟨(hset 0).trans u0, (hset 1).trans u1, (hset 2).trans u2, (hset 3).trans u3, (hset 4).trans u4, (hset 5).trans u5⟩ (fun hSb => ?_)
      clear hK K
      try simp only [Act.put]
      refine wpAnyH_done (by kernel_rfl) ?_ _
      clear hS0 hSb
      go_wp2
      exact bodyPost_ret (v := .tuple #[.int .i64 (b - a), sixV sx]) (gap_results (w.heap.size + 1) sx (b - a) _ _ rfl rfl (setRow_heap _ _ _ _ _ _ (show x6.drew.heap[w.heap.size + 1]? = _ from D6.out))) rfl ⟨by rw [H1.out, H2.out], (K6.out.drew).setRow (by omega) _⟩
    · have hba : b ≤ a := by omega
      have HN0 := Lib.hid (HN.out hab)
      clear HN HY hab
      go_wp2_with (refine wpList_store_row rfl 34 _ _ rfl (w.heap.size + 1) _ rfl rfl 34 _ D4.out (by kernel_rfl) rfl (by simp [Value.oneCell']) ?_)
      exact bodyPost_ret (v := .tuple #[.int .i64 0, sixV six0]) (gap_results (w.heap.size + 1) six0 0 _ _ rfl rfl (setRow_heap _ _ _ _ _ _ D4.out)) rfl ⟨by rw [HN0.out.1, HN0.out.2], K4.out.setRow (by omega) _⟩
  · have HN0 := Lib.hid (HNO.out (Bool.eq_false_iff.2 hg))
    clear HNO
    cases hm : mayZ z with
    | false =>
      clear HG hg hm
      go_wp2_with (refine wpList_store_row rfl 34 _ _ rfl (w.heap.size + 1) _ rfl rfl 34 _ D2.out (by kernel_rfl) rfl (by simp [Value.oneCell']) ?_)
      exact bodyPost_ret (v := .tuple #[.int .i64 0, sixV six0]) (gap_results (w.heap.size + 1) six0 0 _ _ rfl rfl (setRow_heap _ _ _ _ _ _ D2.out)) rfl ⟨by rw [HN0.out.1, HN0.out.2], K2.out.setRow (by omega) _⟩
    | true =>
      have hgo : ¬ (1 ≤ t ∧ t ≤ 253402214400) := fun q => hg (by rw [HG.out, hm, decide_eq_true q]; rfl)
      clear HG hg hm
      by_cases ht1 : t < 1
      · clear hgo
        go_wp2_with (refine wpList_store_row rfl 34 _ _ rfl (w.heap.size + 1) _ rfl rfl 34 _ D2.out (by kernel_rfl) rfl (by simp [Value.oneCell']) ?_)
        exact bodyPost_ret (v := .tuple #[.int .i64 0, sixV six0]) (gap_results (w.heap.size + 1) six0 0 _ _ rfl rfl (setRow_heap _ _ _ _ _ _ D2.out)) rfl ⟨by rw [HN0.out.1, HN0.out.2], K2.out.setRow (by omega) _⟩
      · have ht2 : 253402214400 < t := by omega
        clear hgo
        go_wp2_with (refine wpList_store_row rfl 34 _ _ rfl (w.heap.size + 1) _ rfl rfl 34 _ D2.out (by kernel_rfl) rfl (by simp [Value.oneCell']) ?_)
        exact bodyPost_ret (v := .tuple #[.int .i64 0, sixV six0]) (gap_results (w.heap.size + 1) six0 0 _ _ rfl rfl (setRow_heap _ _ _ _ _ _ D2.out)) rfl ⟨by rw [HN0.out.1, HN0.out.2], K2.out.setRow (by omega) _⟩
end Go.Proofs.YtilgamjahediiaaGreatDoor
