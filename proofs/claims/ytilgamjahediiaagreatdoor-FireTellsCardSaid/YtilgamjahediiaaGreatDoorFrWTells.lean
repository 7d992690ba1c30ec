/- The law FireTells, walked (given the contracts of package fire). -/
import Derived.Test.YtilgamjahediiaaGreatDoorFrA
import Derived.Test.YtilgamjahediiaaGreatDoorFrRefB
set_option linter.unusedVariables false
namespace Go.Proofs.YtilgamjahediiaaGreatDoor
open Go.ChangeShapes Go.WideShapes Go.ChangeAt Go.RowKit
open Civ Zn Lc Crn
set_option maxRecDepth 100000 in
set_option maxHeartbeats 4000000 in
theorem tells6_walk (hG : GapC) (hF : FiresC) (hN : NextC) (z : Zo) (c : CR) (sl : Nat → Value) (t : Int) (w : World) (h1 : z.std.length ≤ maxLen) (h2 : z.dst.length ≤ maxLen) (hc : Cr w sl c.L) (t1 : -9223372036854775808 ≤ t) (t2 : t ≤ 9223372036854775807) (htab : Tab w) : Calls Tryz.prog 3 #[zoV z, crV sl c.st, .int .i64 t] w fun e w' => e = .returned (.bool true) ∧ Kept w w' := by
  have k0 := (Kept.refl w).alloc (.cells (zo15 z.std z.off z.has z.dst z.ahead z.fr.k z.fr.m z.fr.w z.fr.d z.fr.a z.to.k z.to.m z.to.w z.to.d z.to.a) 25)
  have b0 := bz_new w z
  have T0 := Tb.start htab
  have HG := Lib.hid hG; have HF := Lib.hid hF; have HN := Lib.hid hN
  clear hG hF hN htab
  go_enter Tryz.func3, Tryz.ntmps3
  go_upto_region 1 with (fail)
  generalize hx : w.alloc (.cells (zo15 z.std z.off z.has z.dst z.ahead z.fr.k z.fr.m z.fr.w z.fr.d z.fr.a z.to.k z.to.m z.to.w z.to.d z.to.a) 25) = x at *
  have s1 : x.heap.size = w.heap.size + 1 := by rw [← hx]; simp
  clear hx
  have c1 : Cb (w.heap.size + 1) sl c.st (x.alloc (.cells (cr10 sl c.st) 30)) := by rw [← s1]; exact Cb.new sl c.st x
  have k1 := (Kept.refl x).alloc (.cells (cr10 sl c.st) 30)
  generalize x.alloc (.cells (cr10 sl c.st) 30) = x1 at *
  have Z1 := Lib.hid (b0.kept k1); have B1 := Lib.hid c1; have K1 := Lib.hid (k0.trans k1); have C1 := Lib.hid (hc.kept (k0.trans k1)); have T1 := Lib.hid (T0.kept (k0.trans k1))
  clear b0 k0 k1 c1 s1 hc T0
  go_wp2_with fail
  refine (awake6_any HG.out HF.out HN.out _ T1.out.tab).mono ?_
  rintro e x2 ⟨rfl, k2⟩
  have Z2 := Lib.hid (Z1.out.kept k2); have B2 := Lib.hid (B1.out.kept k2); have C2 := Lib.hid (C1.out.kept k2); have K2 := Lib.hid (K1.out.trans k2)
  clear k2 Z1 B1 C1 K1
  clear T1
  go_wp2_with (first | refine wpList_load_row rfl 25 _ rfl w.heap.size rfl 25 _ (0, 0) _ Z2.out Tryz.underlying25 rfl (by kernel_rfl) ?_ | refine wpList_load_row rfl 30 _ rfl (w.heap.size + 1) rfl 30 _ (0, 0) _ B2.out Tryz.underlying30 rfl (by kernel_rfl) ?_)
  refine (few6_any z c sl _ C2.out h1 h2).mono ?_
  rintro e x3 ⟨rfl, k3⟩
  have Z3 := Lib.hid (Z2.out.kept k3); have B3 := Lib.hid (B2.out.kept k3); have C3 := Lib.hid (C2.out.kept k3); have K3 := Lib.hid (K2.out.trans k3)
  clear k3 Z2 B2 C2 K2
  cases hs : shB z && decide (FewP c) with
  | false =>
    clear hs
    go_wp2
    go_ret
    exact ⟨rfl, K3.out⟩
  | true =>
    have hl : z.std.length ≤ 100 ∧ z.dst.length ≤ 100 := by rw [Bool.and_eq_true] at hs; simpa [shB] using hs.1
    clear hs
    go_wp2_with (refine wpList_load_row rfl 25 _ rfl w.heap.size rfl 25 _ (0, 0) _ Z3.out Tryz.underlying25 rfl (by kernel_rfl) ?_)
    refine (HG.out z t _ t1 t2).mono ?_
    rintro e x4 ⟨rfl, k4⟩
    have HY4 := Lib.hid (sbox_z x4)
    have k5 := k4.trans (sbox_k x4 (gC z t))
    have D5 := Lib.hid (sbox_b x4 (gC z t))
    clear k4
    have Z5 := Lib.hid (Z3.out.kept k5); have B5 := Lib.hid (B3.out.kept k5); have C5 := Lib.hid (C3.out.kept k5); have K5 := Lib.hid (K3.out.trans k5)
    clear k5 Z3 B3 C3 K3
    have HGR := Lib.hid (fun x => rgap_any z t x (by omega) (by omega))
    generalize gC z t = gc at *
    generalize gN z t = gn at *
    go_upto_region 6 with (refine wpList_store_row rfl 34 _ _ rfl x4.heap.size _ rfl rfl 34 _ HY4.out (by kernel_rfl) rfl (by simp [Value.oneCell']) ?_)
    generalize (x4.alloc (.cells (six6 six0) 34)).setRow x4.heap.size (six6 gc) = x5 at *
    clear HY4
    generalize x4.heap.size = b1 at *
    go_wp2_with (refine wpList_load_row rfl 25 _ rfl w.heap.size rfl 25 _ (0, 0) _ Z5.out Tryz.underlying25 rfl (by kernel_rfl) ?_)
    refine (HGR.out _).mono ?_
    rintro e x6 ⟨rfl, k6⟩
    have HY6 := Lib.hid (sbox_z x6)
    have k7 := k6.trans (sbox_k x6 gc)
    have E7 := Lib.hid (sbox_b x6 gc)
    clear k6 HGR
    have Z7 := Lib.hid (Z5.out.kept k7); have B7 := Lib.hid (B5.out.kept k7); have C7 := Lib.hid (C5.out.kept k7); have D7 := Lib.hid (D5.out.kept k7); have K7 := Lib.hid (K5.out.trans k7)
    clear k7 Z5 B5 C5 D5 K5
    go_upto_region 7 with (refine wpList_store_row rfl 34 _ _ rfl x6.heap.size _ rfl rfl 34 _ HY6.out (by kernel_rfl) rfl (by simp [Value.oneCell']) ?_)
    generalize (x6.alloc (.cells (six6 six0) 34)).setRow x6.heap.size (six6 gc) = x7 at *
    clear HY6
    generalize x6.heap.size = b2 at *
    go_wp2_with (first | refine wpList_load_row rfl 25 _ rfl w.heap.size rfl 25 _ (0, 0) _ Z7.out Tryz.underlying25 rfl (by kernel_rfl) ?_ | refine wpList_load_row rfl 30 _ rfl (w.heap.size + 1) rfl 30 _ (0, 0) _ B7.out Tryz.underlying30 rfl (by kernel_rfl) ?_)
    refine (rfires_any z c sl t _ C7.out (by omega) (by omega)).mono ?_
    rintro e x8 ⟨rfl, k8⟩
    have Z8 := Lib.hid (Z7.out.kept k8); have B8 := Lib.hid (B7.out.kept k8); have C8 := Lib.hid (C7.out.kept k8); have D8 := Lib.hid (D7.out.kept k8); have E8 := Lib.hid (E7.out.kept k8); have K8 := Lib.hid (K7.out.trans k8)
    clear k8 Z7 B7 C7 D7 E7 K7
    have HFR := Lib.hid (fun x hx => HF.out z c sl t x t1 t2 hx)
    generalize frP z c t = fr at *
    have hE : ∀ W, (binOp .eql 34 (.agg #[.int .i64 gc.y, .int .i64 gc.m, .int .i64 gc.d, .int .i64 gc.h, .int .i64 gc.i, .int .i64 gc.s]) (.agg #[.int .i64 gc.y, .int .i64 gc.m, .int .i64 gc.d, .int .i64 gc.h, .int .i64 gc.i, .int .i64 gc.s])).run Tryz.prog W = .ok (.bool true) W := fun W => by
      have := eql_civ gc.y gc.m gc.d gc.h gc.i gc.s gc.y gc.m gc.d gc.h gc.i gc.s W
      rw [show cvE gc.y gc.m gc.d gc.h gc.i gc.s gc.y gc.m gc.d gc.h gc.i gc.s = true from cvE_iff.2 ⟨rfl, rfl, rfl, rfl, rfl, rfl⟩] at this
      exact this
    have p0 := cell_of (j := 0) D8.out rfl
    have q0 := cell_of (j := 0) E8.out rfl
    have p1 := cell_of (j := 1) D8.out rfl
    have q1 := cell_of (j := 1) E8.out rfl
    have p2 := cell_of (j := 2) D8.out rfl
    have q2 := cell_of (j := 2) E8.out rfl
    have p3 := cell_of (j := 3) D8.out rfl
    have q3 := cell_of (j := 3) E8.out rfl
    have p4 := cell_of (j := 4) D8.out rfl
    have q4 := cell_of (j := 4) E8.out rfl
    have p5 := cell_of (j := 5) D8.out rfl
    have q5 := cell_of (j := 5) E8.out rfl
    have a0 := Z8.out.cs.c0
    have a1 := Z8.out.cs.c1
    have a2 := Z8.out.cs.c2
    have a3 := Z8.out.cs.c3
    have a4 := Z8.out.cs.c4
    have a5 := Z8.out.cs.c5
    have a6 := Z8.out.cs.c6
    have a7 := Z8.out.cs.c7
    have a8 := Z8.out.cs.c8
    have a9 := Z8.out.cs.c9
    have a10 := Z8.out.cs.c10
    have a11 := Z8.out.cs.c11
    have a12 := Z8.out.cs.c12
    have a13 := Z8.out.cs.c13
    have a14 := Z8.out.cs.c14
    obtain ⟨e0, e1, e2, e3, e4, e5, e6, e7, e8, e9⟩ := cells10 B8.out
    go_wp2_with fail
    refine (HFR.out _ C8.out).mono ?_
    rintro e x9 ⟨rfl, k9⟩
    have K9 := Lib.hid (K8.out.trans k9)
    clear p0 q0 p1 q1 p2 q2 p3 q3 p4 q4 p5 q5 a0 a1 a2 a3 a4 a5 a6 a7 a8 a9 a10 a11 a12 a13 a14 e0 e1 e2 e3 e4 e5 e6 e7 e8 e9 k9 hE
    go_wp2
    go_ret
    exact ⟨rfl, K9.out⟩
end Go.Proofs.YtilgamjahediiaaGreatDoor
