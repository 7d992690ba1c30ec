/- Several texts of this seat, one behind the other. -/
import Derived.Test.YtilgamjahediiaaGreatDoorFrRef
/- Contracts of package fire: how far the clock is put forward. -/
set_option linter.unusedVariables false
namespace Go.Proofs.YtilgamjahediiaaGreatDoor
open Go.ChangeShapes Go.WideShapes Go.ChangeAt Go.RowKit
open Civ Zn Lc Crn
theorem six_block (b : Nat) (y : World) (h : y.heap[b]? = some (.cells (six6 six0) 34)) : (y.cell? ⟨b, 0, none⟩ = some (.int .i64 0) ∧ y.cell? ⟨b, 1, none⟩ = some (.int .i64 0) ∧ y.cell? ⟨b, 2, none⟩ = some (.int .i64 0) ∧ y.cell? ⟨b, 3, none⟩ = some (.int .i64 0) ∧ y.cell? ⟨b, 4, none⟩ = some (.int .i64 0) ∧ y.cell? ⟨b, 5, none⟩ = some (.int .i64 0)) ∧ ∀ j, y.frozen? ⟨b, j, none⟩ = false :=
  ⟨⟨cell_of h rfl, cell_of h rfl, cell_of h rfl, cell_of h rfl, cell_of h rfl, cell_of h rfl⟩, fun j => by simp [World.frozen?, h]⟩
theorem gap_out {z : Zo} {t : Int} (h : ¬ (1 ≤ t ∧ t ≤ 253402214400)) : gN z t = 0 ∧ gC z t = six0 := by
  have : ¬ gYes z t := fun q => by have := q.1; unfold gOk at this; rw [decide_eq_false h] at this; simp at this
  unfold gN gC
  rw [if_neg this, if_neg this]; exact ⟨rfl, rfl⟩
theorem gap_not {z : Zo} {t : Int} (h : oE z t ≠ 0 ∨ oA z t ≤ oA z (t - 1)) : gN z t = 0 ∧ gC z t = six0 := by
  have : ¬ gYes z t := fun q => by
    rcases h with h | h
    · refine h ?_
      have q1 := q.1
      unfold gOk at q1
      rw [Bool.and_eq_true, decide_eq_true_eq] at q1
      have hs : scB t = true := by simp [scB]; omega
      unfold oE oOk; rw [q1.1, hs]; rfl
    · have := q.2; omega
  unfold gN gC
  rw [if_neg this, if_neg this]; exact ⟨rfl, rfl⟩
theorem gap_yes {z : Zo} {t : Int} (h0 : 1 ≤ t ∧ t ≤ 253402214400) (h : oE z t = 0) (hlt : oA z (t - 1) < oA z t) : gN z t = oA z t - oA z (t - 1) ∧ gC z t = seS (t + oA z (t - 1)) := by
  have : gYes z t := by
    refine ⟨?_, hlt⟩
    unfold oE oOk at h
    have hs : scB t = true := by simp [scB]; omega
    rw [hs, Bool.and_true] at h
    unfold gOk
    rw [decide_eq_true h0, Bool.and_true]
    by_cases q : mayZ z = true
    · exact q
    · rw [if_neg q] at h; cases h
  unfold gN gC
  rw [if_pos this, if_pos this]; exact ⟨rfl, rfl⟩
set_option maxRecDepth 100000 in
set_option maxHeartbeats 4000000 in
theorem gap_any (z : Zo) (t : Int) (w : World) (h1 : -9223372036854775808 ≤ t) (h2 : t ≤ 9223372036854775807) : Calls Tryz.prog 12 #[zoV z, .int .i64 t] w fun e w' => e = .returned (.tuple #[.int .i64 (gN z t), sixV (gC z t)]) ∧ Kept w w' := by
  have B0 := Lib.hid (bz_new w z)
  have K0 := Lib.hid ((Kept.refl w).alloc (.cells (zo15 z.std z.off z.has z.dst z.ahead z.fr.k z.fr.m z.fr.w z.fr.d z.fr.a z.to.k z.to.m z.to.w z.to.d z.to.a) 25))
  go_enter Tryz.func12, Tryz.ntmps12
  go_upto_region 1 with (fail)
  generalize hx : w.alloc (.cells (zo15 z.std z.off z.has z.dst z.ahead z.fr.k z.fr.m z.fr.w z.fr.d z.fr.a z.to.k z.to.m z.to.w z.to.d z.to.a) 25) = x at *
  have s1 : x.heap.size = w.heap.size + 1 := by rw [← hx]; simp
  clear hx
  have b1 := sbox_z x
  have k1 := (Kept.refl x).alloc (.cells (six6 six0) 34)
  rw [s1] at b1
  simp only [six6] at b1 k1
  generalize x.alloc (.cells #[.int .i64 0, .int .i64 0, .int .i64 0, .int .i64 0, .int .i64 0, .int .i64 0] 34) = y at *
  have B1 := Lib.hid (B0.out.kept k1); have K1 := Lib.hid (K0.out.trans k1)
  have R1 := Lib.hid (show y.heap[w.heap.size + 1]? = some (.cells (six6 six0) 34) from b1)
  clear B0 K0 k1 b1 s1
  by_cases hr : 1 ≤ t ∧ t ≤ 253402214400
  · obtain ⟨r1, r2⟩ := hr
    go_wp2_with (refine wpList_load_row rfl 25 _ rfl w.heap.size rfl 25 _ (0, 0) _ B1.out Tryz.underlying25 rfl (by kernel_rfl) ?_)
    refine (off_any' z (t - 1) _).mono ?_
    rintro e y2 ⟨rfl, k2⟩
    have B2 := Lib.hid (B1.out.kept k2); have K2 := Lib.hid (K1.out.trans k2); have R2 := Lib.hid ((k2.block _ (Array.getElem?_eq_some_iff.1 R1.out).1).trans R1.out)
    clear B1 K1 R1 k2
    go_wp2_with (refine wpList_load_row rfl 25 _ rfl w.heap.size rfl 25 _ (0, 0) _ B2.out Tryz.underlying25 rfl (by kernel_rfl) ?_)
    refine (off_any' z t _).mono ?_
    rintro e y3 ⟨rfl, k3⟩
    have K3 := Lib.hid (K2.out.trans k3); have R3 := Lib.hid ((k3.block _ (Array.getElem?_eq_some_iff.1 R2.out).1).trans R2.out)
    clear B2 K2 R2 k3
    have HN := Lib.hid (@gap_not z t); have HY := Lib.hid (@gap_yes z t)
    obtain ⟨a1, a2⟩ := oA_bd z (t - 1); obtain ⟨a3, a4⟩ := oA_bd z t
    generalize oA z (t - 1) = oa at *
    generalize oA z t = ob at *
    generalize oE z t = oe at *
    generalize oE z (t - 1) = oe0 at *
    by_cases he : oe = 0
    · subst he
      by_cases hle : ob ≤ oa
      · obtain ⟨n1, n2⟩ := HN.out (Or.inr hle)
        have N1 := Lib.hid n1; have N2 := Lib.hid n2
        clear n1 n2 HN HY
        obtain ⟨⟨e0, e1, e2, e3, e4, e5⟩, f0⟩ := six_block _ _ R3.out
        have kb : Kept w y3 := K3.out
        clear R3 K3
        go_wp2
        exact bodyPost_ret (v := .tuple #[.int .i64 (gN z t), sixV (gC z t)]) (by rw [N1.out, N2.out]; simp [results, Tryz.results12, go_sem, *]) rfl ⟨rfl, (((((kb.setCell (Nat.le_succ _) _).setCell (Nat.le_succ _) _).setCell (Nat.le_succ _) _).setCell (Nat.le_succ _) _).setCell (Nat.le_succ _) _).setCell (Nat.le_succ _) _⟩
      · obtain ⟨n1, n2⟩ := HY.out ⟨r1, r2⟩ rfl (by omega)
        have N1 := Lib.hid n1; have N2 := Lib.hid n2
        clear n1 n2 HN HY
        go_wp2_with fail
        refine (se_any (t + oa) _ (by omega) (by omega)).mono ?_
        rintro e y4 ⟨rfl, k4⟩
        have K4 := Lib.hid (K3.out.trans k4); have R4 := Lib.hid ((k4.block _ (Array.getElem?_eq_some_iff.1 R3.out).1).trans R3.out)
        clear K3 R3 k4
        generalize seE (t + oa) = se at *
        generalize hss : seS (t + oa) = ss at *
        clear hss
        have hz4 := Lib.hid (sbox_z y4); have kk := Lib.hid (sbox_k y4 ss); have bb := Lib.hid (sbox_b y4 ss)
        go_upto_region 8 with (refine wpList_store_row rfl 34 _ _ rfl y4.heap.size _ rfl rfl 34 _ hz4.out (by kernel_rfl) rfl (by simp [Value.oneCell']) ?_)
        generalize (y4.alloc (.cells (six6 six0) 34)).setRow y4.heap.size (six6 ss) = y5 at *
        have R5 := Lib.hid ((kk.out.block _ (Array.getElem?_eq_some_iff.1 R4.out).1).trans R4.out)
        have K5 := Lib.hid (K4.out.trans kk.out)
        clear hz4 kk K4 R4
        have kb : Kept w y5 := K5.out
        obtain ⟨⟨e0, e1, e2, e3, e4, e5⟩, f0⟩ := six_block _ _ R5.out
        have u0 := cell_of bb.out (j := 0) rfl; have u1 := cell_of bb.out (j := 1) rfl; have u2 := cell_of bb.out (j := 2) rfl; have u3 := cell_of bb.out (j := 3) rfl; have u4 := cell_of bb.out (j := 4) rfl; have u5 := cell_of bb.out (j := 5) rfl
        generalize y4.heap.size = D at *
        clear bb R5 K5
        go_region
        go_wp2
        exact bodyPost_ret (v := .tuple #[.int .i64 (gN z t), sixV (gC z t)]) (by rw [N1.out, N2.out]; simp [results, Tryz.results12, go_sem, *]) rfl ⟨rfl, ((((((kb.setCell (Nat.le_succ _) _).setCell (Nat.le_succ _) _).setCell (Nat.le_succ _) _).setCell (Nat.le_succ _) _).setCell (Nat.le_succ _) _).setCell (Nat.le_succ _) _).drew⟩
    · have hen : (oe != 0) = true := bne_iff_ne.2 he
      obtain ⟨n1, n2⟩ := HN.out (Or.inl he)
      have N1 := Lib.hid n1; have N2 := Lib.hid n2
      clear n1 n2 HN HY he
      obtain ⟨⟨e0, e1, e2, e3, e4, e5⟩, f0⟩ := six_block _ _ R3.out
      have kb : Kept w y3 := K3.out
      clear R3 K3
      go_wp2
      exact bodyPost_ret (v := .tuple #[.int .i64 (gN z t), sixV (gC z t)]) (by rw [N1.out, N2.out]; simp [results, Tryz.results12, go_sem, *]) rfl ⟨rfl, (((((kb.setCell (Nat.le_succ _) _).setCell (Nat.le_succ _) _).setCell (Nat.le_succ _) _).setCell (Nat.le_succ _) _).setCell (Nat.le_succ _) _).setCell (Nat.le_succ _) _⟩
  · obtain ⟨n1, n2⟩ := gap_out (z := z) hr
    have N1 := Lib.hid n1; have N2 := Lib.hid n2
    clear n1 n2
    obtain ⟨⟨e0, e1, e2, e3, e4, e5⟩, f0⟩ := six_block _ _ R1.out
    have kb : Kept w y := K1.out
    clear R1 K1 B1
    by_cases r1 : t < 1
    · clear hr
      go_wp2
      exact bodyPost_ret (v := .tuple #[.int .i64 (gN z t), sixV (gC z t)]) (by rw [N1.out, N2.out]; simp [results, Tryz.results12, go_sem, *]) rfl ⟨rfl, (((((kb.setCell (Nat.le_succ _) _).setCell (Nat.le_succ _) _).setCell (Nat.le_succ _) _).setCell (Nat.le_succ _) _).setCell (Nat.le_succ _) _).setCell (Nat.le_succ _) _⟩
    · have r2 : 253402214400 < t := by omega
      clear hr
      go_wp2
      exact bodyPost_ret (v := .tuple #[.int .i64 (gN z t), sixV (gC z t)]) (by rw [N1.out, N2.out]; simp [results, Tryz.results12, go_sem, *]) rfl ⟨rfl, (((((kb.setCell (Nat.le_succ _) _).setCell (Nat.le_succ _) _).setCell (Nat.le_succ _) _).setCell (Nat.le_succ _) _).setCell (Nat.le_succ _) _).setCell (Nat.le_succ _) _⟩
end Go.Proofs.YtilgamjahediiaaGreatDoor
/- Contracts of package fire: whether a schedule fires as it is shown. -/
set_option linter.unusedVariables false
namespace Go.Proofs.YtilgamjahediiaaGreatDoor
open Go.ChangeShapes Go.WideShapes Go.ChangeAt Go.RowKit
open Civ Zn Lc Crn
theorem fsP_of (z : Zo) (x : Six) (t : Int) : fsP z x t = (decide (9998 < x.y) || decide ((ofS z x)[0]? = some t)) := by
  unfold fsP ofE ofS
  by_cases h : CivOk z x
  · rw [if_pos h, if_pos h]; simp
  · rw [if_neg h, if_neg h]; simp
set_option maxRecDepth 100000 in
set_option maxHeartbeats 4000000 in
theorem isFirst_any (z : Zo) (c : Six) (t : Int) (w : World) : Calls Tryz.prog 71 #[zoV z, sixV c, .int .i64 t] w fun e w' => e = .returned (.bool (fsP z c t)) ∧ Kept w w' := by
  have B0 := Lib.hid (bz_new w z)
  have K0 := Lib.hid ((Kept.refl w).alloc (.cells (zo15 z.std z.off z.has z.dst z.ahead z.fr.k z.fr.m z.fr.w z.fr.d z.fr.a z.to.k z.to.m z.to.w z.to.d z.to.a) 25))
  have HF := Lib.hid (fsP_of z c t)
  go_enter Tryz.func71, Tryz.ntmps71
  go_upto_region 1 with (fail)
  generalize hx : w.alloc (.cells (zo15 z.std z.off z.has z.dst z.ahead z.fr.k z.fr.m z.fr.w z.fr.d z.fr.a z.to.k z.to.m z.to.w z.to.d z.to.a) 25) = x at *
  have s1 : x.heap.size = w.heap.size + 1 := by rw [← hx]; simp
  clear hx
  have b1 : Bc x.heap.size c.y c.m c.d c.h c.i c.s (x.alloc (.cells #[.int .i64 c.y, .int .i64 c.m, .int .i64 c.d, .int .i64 c.h, .int .i64 c.i, .int .i64 c.s] 34)) := new_block x _
  have k1 := (Kept.refl x).alloc (.cells #[.int .i64 c.y, .int .i64 c.m, .int .i64 c.d, .int .i64 c.h, .int .i64 c.i, .int .i64 c.s] 34)
  rw [s1] at b1
  generalize x.alloc (.cells #[.int .i64 c.y, .int .i64 c.m, .int .i64 c.d, .int .i64 c.h, .int .i64 c.i, .int .i64 c.s] 34) = x1 at *
  have B1 := Lib.hid (B0.out.kept k1)
  have C1 := Lib.hid b1
  have K1 := Lib.hid (K0.out.trans k1)
  clear B0 K0 k1 b1 s1
  have c0 : x1.cell? ⟨w.heap.size + 1, 0, none⟩ = some (.int .i64 c.y) := cell_of C1.out rfl
  by_cases hy : 9998 < c.y
  · have HS := Lib.hid (show fsP z c t = true by rw [HF.out, decide_eq_true hy]; rfl)
    clear HF
    go_wp2
    go_ret
    exact ⟨ret_bool HS.out.symm, K1.out⟩
  · have HS := Lib.hid (show fsP z c t = decide ((ofS z c)[0]? = some t) by rw [HF.out, decide_eq_false hy]; rfl)
    clear HF
    go_wp2_with (first | refine wpList_load_row rfl 25 _ rfl w.heap.size rfl 25 _ (0, 0) _ B1.out Tryz.underlying25 rfl (by kernel_rfl) ?_ | refine wpList_load_row rfl 34 _ rfl (w.heap.size + 1) rfl 34 _ (0, 0) _ C1.out Tryz.underlying34 rfl (by kernel_rfl) ?_)
    refine (of_any z c _).mono ?_
    rintro e x2 ⟨ao, cap, rfl, ho, k2⟩
    have K2 := Lib.hid (K1.out.trans k2)
    clear c0 k2 B1 C1 K1
    generalize ofE z c = oe at *
    generalize ofS z c = l at *
    by_cases hl : 0 < l.length
    · obtain ⟨b, o, cp, hs, -, hcell⟩ : ∃ b o cp, (Value.slice ao l.length cap) = .slice (some ⟨b, o, none⟩) l.length cp ∧ True ∧ x2.cell? ⟨b, o, none⟩ = some (.int .i64 (l.getD 0 0)) := by
        rcases ho.2 with ⟨h1, h2⟩ | ⟨g, cp, cur, h1, h2, h3, h4⟩
        · omega
        · refine ⟨g, 0, cp, h1, trivial, ?_⟩
          have hc := World.ownsRow.cells ho (g := g) (by rw [h1]; rfl) 0 (.int .i64 (l.getD 0 0)) (by cases l with | nil => simp at hl | cons a r => simp)
          simpa [Addr.add] using hc
      simp only [Value.slice.injEq] at hs
      obtain ⟨rfl, -, -⟩ := hs
      have hl0 : l[0]? = some (l.getD 0 0) := by cases l with | nil => simp at hl | cons a r => simp
      have HS2 := Lib.hid (show fsP z c t = decide (l.getD 0 0 = t) by rw [HS.out, hl0]; simp)
      have hli : (0 : Int) < (l.length : Int) := by omega
      clear hl0
      generalize l.getD 0 0 = v at *
      by_cases hv : v = t
      · have HV := Lib.hid (show fsP z c t = true by rw [HS2.out, decide_eq_true hv])
        have hvb : (v == t) = true := beq_iff_eq.2 hv
        clear hv HS HS2
        go_wp2
        go_ret
        exact ⟨ret_bool HV.out.symm, K2.out⟩
      · have HV := Lib.hid (show fsP z c t = false by rw [HS2.out, decide_eq_false hv])
        have hvb : (v == t) = false := beq_eq_false_iff_ne.2 hv
        clear hv HS HS2
        go_wp2
        go_ret
        exact ⟨ret_bool HV.out.symm, K2.out⟩
    · obtain rfl : l = [] := List.length_eq_zero_iff.1 (by omega)
      have HV := Lib.hid (show fsP z c t = false by rw [HS.out]; simp)
      go_wp2
      go_ret
      exact ⟨ret_bool HV.out.symm, K2.out⟩
set_option maxRecDepth 100000 in
set_option maxHeartbeats 4000000 in
theorem asShown_any (z : Zo) (c : CR) (sl : Nat → Value) (t : Int) (w : World) (hc : Cr w sl c.L) : Calls Tryz.prog 37 #[zoV z, crV sl c.st, .int .i64 t] w fun e w' => e = .returned (.bool (decide (atE z t = 0) && mtS c (atS z t) && fsP z (atS z t) t)) ∧ Kept w w' := by
  generalize hR : (decide (atE z t = 0) && mtS c (atS z t) && fsP z (atS z t) t) = R
  have HF := Lib.hid hR
  clear hR
  have k0 := (Kept.refl w).alloc (.cells (zo15 z.std z.off z.has z.dst z.ahead z.fr.k z.fr.m z.fr.w z.fr.d z.fr.a z.to.k z.to.m z.to.w z.to.d z.to.a) 25)
  have b0 := bz_new w z
  go_enter Tryz.func37, Tryz.ntmps37
  go_upto_region 1 with (fail)
  generalize hx : w.alloc (.cells (zo15 z.std z.off z.has z.dst z.ahead z.fr.k z.fr.m z.fr.w z.fr.d z.fr.a z.to.k z.to.m z.to.w z.to.d z.to.a) 25) = x at *
  have s1 : x.heap.size = w.heap.size + 1 := by rw [← hx]; simp
  clear hx
  have c1 : Cb (w.heap.size + 1) sl c.st (x.alloc (.cells (cr10 sl c.st) 30)) := by rw [← s1]; exact Cb.new sl c.st x
  have k1 := (Kept.refl x).alloc (.cells (cr10 sl c.st) 30)
  generalize x.alloc (.cells (cr10 sl c.st) 30) = x1 at *
  have Z1 := Lib.hid (b0.kept k1); have B1 := Lib.hid c1; have K1 := Lib.hid (k0.trans k1); have C1 := Lib.hid (hc.kept (k0.trans k1))
  clear b0 k0 k1 c1 s1 hc
  go_wp2_with (refine wpList_load_row rfl 25 _ rfl w.heap.size rfl 25 _ (0, 0) _ Z1.out Tryz.underlying25 rfl (by kernel_rfl) ?_)
  refine (at_any' z t _).mono ?_
  rintro e x2 ⟨rfl, k2, -⟩
  have HZ2 := Lib.hid (sbox_z x2)
  have k3 := k2.trans (sbox_k x2 (atS z t))
  have D3 := Lib.hid (sbox_b x2 (atS z t))
  have Z3 := Lib.hid (Z1.out.kept k3); have B3 := Lib.hid (B1.out.kept k3); have C3 := Lib.hid (C1.out.kept k3); have K3 := Lib.hid (K1.out.trans k3)
  clear k2 k3 Z1 B1 C1 K1
  generalize atS z t = s at *
  generalize atE z t = ae at *
  go_upto_region 2 with (refine wpList_store_row rfl 34 _ _ rfl x2.heap.size _ rfl rfl 34 _ HZ2.out (by kernel_rfl) rfl (by simp [Value.oneCell']) ?_)
  generalize (x2.alloc (.cells (six6 six0) 34)).setRow x2.heap.size (six6 s) = x3 at *
  clear HZ2
  generalize x2.heap.size = bk at *
  by_cases he : ae = 0
  · have HM := Lib.hid (show (mtS c s && fsP z s t) = R by rw [← HF.out, decide_eq_true he, Bool.true_and])
    subst he
    clear HF
    obtain ⟨e0, e1, e2, e3, e4, e5, e6, e7, e8, e9⟩ := cells10 B3.out
    obtain ⟨u0, u1, u2, u3, u4, u5⟩ := cells6 D3.out
    go_wp2_with fail
    refine (match_any c sl s.y s.m s.d s.h s.i s.s _ C3.out).mono ?_
    rintro e x4 ⟨rfl, k4⟩
    have Z4 := Lib.hid (Z3.out.kept k4); have D4 := Lib.hid (D3.out.kept k4); have K4 := Lib.hid (K3.out.trans k4)
    clear e0 e1 e2 e3 e4 e5 e6 e7 e8 e9 u0 u1 u2 u3 u4 u5 k4 Z3 B3 C3 K3 D3
    have HM2 := Lib.hid (show (matchC c s.y s.m s.d s.h s.i s.s && fsP z s t) = R from HM.out)
    clear HM
    generalize matchC c s.y s.m s.d s.h s.i s.s = mt at *
    cases mt with
    | false =>
      have HR := Lib.hid (show R = false by rw [← HM2.out]; rfl)
      clear HM2
      go_wp2
      go_ret
      exact ⟨ret_bool HR.out.symm, K4.out⟩
    | true =>
      have HR := Lib.hid (show fsP z s t = R by rw [← HM2.out]; rfl)
      clear HM2
      obtain ⟨u0, u1, u2, u3, u4, u5⟩ := cells6 D4.out
      have c0 := Z4.out.cs.c0
      have c1 := Z4.out.cs.c1
      have c2 := Z4.out.cs.c2
      have c3 := Z4.out.cs.c3
      have c4 := Z4.out.cs.c4
      have c5 := Z4.out.cs.c5
      have c6 := Z4.out.cs.c6
      have c7 := Z4.out.cs.c7
      have c8 := Z4.out.cs.c8
      have c9 := Z4.out.cs.c9
      have c10 := Z4.out.cs.c10
      have c11 := Z4.out.cs.c11
      have c12 := Z4.out.cs.c12
      have c13 := Z4.out.cs.c13
      have c14 := Z4.out.cs.c14
      go_wp2_with fail
      refine (isFirst_any z s t _).mono ?_
      rintro e x5 ⟨rfl, k5⟩
      rw [HR.out]
      have K5 := Lib.hid (K4.out.trans k5)
      clear c0 c1 c2 c3 c4 c5 c6 c7 c8 c9 c10 c11 c12 c13 c14 u0 u1 u2 u3 u4 u5 k5
      go_wp2
      go_ret
      exact ⟨rfl, K5.out⟩
  · have heb : (ae == 0) = false := beq_eq_false_iff_ne.2 he
    have HR := Lib.hid (show R = false by rw [← HF.out, decide_eq_false he]; rfl)
    clear HF he
    go_wp2
    go_ret
    exact ⟨ret_bool HR.out.symm, K3.out⟩
end Go.Proofs.YtilgamjahediiaaGreatDoor
