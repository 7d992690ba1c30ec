/- The law ZoneTells, walked. -/
import Derived.Test.YtomnjdammfiadaaDoorZnRefW
namespace Go.Proofs.YtomnjdammfiadaaDoor
open Go.ChangeShapes Go.WideShapes Go.ChangeAt Go.RowKit
open Zn
set_option maxRecDepth 100000 in
set_option maxHeartbeats 4000000 in
theorem walkTells (z : Zo) (w : World) (htab : Tab w) :
    Calls Tryd.prog 3 #[zoV z] w fun e w' => e = .returned (.bool true) ∧ Kept w w' := by
  have HT := Lib.hid htab; clear htab
  have B0 := Lib.hid (bz_new w z)
  have KW := Lib.hid ((Kept.refl w).alloc (.cells (zo15 z.std z.off z.has z.dst z.ahead z.fr.k z.fr.m z.fr.w z.fr.d z.fr.a z.to.k z.to.m z.to.w z.to.d z.to.a) 25))
  go_enter Tryd.func3, Tryd.ntmps3
  go_upto_region 1 with (fail)
  generalize w.alloc (.cells (zo15 z.std z.off z.has z.dst z.ahead z.fr.k z.fr.m z.fr.w z.fr.d z.fr.a z.to.k z.to.m z.to.w z.to.d z.to.a) 25) = x at *
  go_wp2_with fail
  refine (awake_yes _ (KW.out.tab' HT.out)).mono ?_
  rintro e w1 ⟨rfl, k1⟩
  have B1 := Lib.hid (B0.out.kept k1)
  have c0 := B1.out.cs.c0
  have c3 := B1.out.cs.c3
  have K1 := Lib.hid (KW.out.trans k1)
  clear k1 KW B0
  by_cases h1 : 100 < z.std.length
  · go_wp2
    go_ret
    exact ⟨rfl, K1.out⟩
  by_cases h2 : 100 < z.dst.length
  · go_wp2
    go_ret
    exact ⟨rfl, K1.out⟩
  cases hz : mayZ z with
  | true =>
    have HZ := Lib.hid hz; clear hz
    go_wp2_with (refine wpList_load_row rfl 25 _ rfl w.heap.size rfl 25 _ (0, 0) _ B1.out Tryd.underlying25 rfl (by kernel_rfl) ?_)
    clear c0 c3
    refine (write_yes z _ HZ.out (K1.out.tab' HT.out)).mono ?_
    rintro e w2 ⟨rfl, k2⟩
    have B2 := Lib.hid (B1.out.kept k2)
    have K2 := Lib.hid (K1.out.trans k2)
    clear k2 B1 K1
    go_wp2_with (refine wpList_load_row rfl 25 _ rfl w.heap.size rfl 25 _ (0, 0) _ B2.out Tryd.underlying25 rfl (by kernel_rfl) ?_)
    refine (rWrite_yes z _ HZ.out (by omega)).mono ?_
    rintro e w3 ⟨rfl, k3⟩
    have B3 := Lib.hid (B2.out.kept k3)
    have K3 := Lib.hid (K2.out.trans k3)
    clear k3 B2 K2
    go_wp2_with (refine wpList_load_row rfl 25 _ rfl w.heap.size rfl 25 _ (0, 0) _ B3.out Tryd.underlying25 rfl (by kernel_rfl) ?_)
    refine (rMay_any z _ (by omega) (by omega)).mono ?_
    rintro e w4 ⟨rfl, k4⟩
    rw [HZ.out]
    have B4 := Lib.hid (B3.out.kept k4)
    have K4 := Lib.hid (K3.out.trans k4)
    clear k4 B3 K3
    have c0 := B4.out.cs.c0
    have c1 := B4.out.cs.c1
    have c2 := B4.out.cs.c2
    have c3 := B4.out.cs.c3
    have c4 := B4.out.cs.c4
    have c5 := B4.out.cs.c5
    have c6 := B4.out.cs.c6
    have c7 := B4.out.cs.c7
    have c8 := B4.out.cs.c8
    have c9 := B4.out.cs.c9
    have c10 := B4.out.cs.c10
    have c11 := B4.out.cs.c11
    have c12 := B4.out.cs.c12
    have c13 := B4.out.cs.c13
    have c14 := B4.out.cs.c14
    go_wp2_with fail
    refine (may_any z _).mono ?_
    rintro e w5 ⟨rfl, k5⟩
    rw [HZ.out]
    clear c0 c1 c2 c3 c4 c5 c6 c7 c8 c9 c10 c11 c12 c13 c14
    go_wp2
    go_ret
    exact ⟨rfl, K4.out.trans k5⟩
  | false =>
    have HZ := Lib.hid hz; clear hz
    go_wp2_with (refine wpList_load_row rfl 25 _ rfl w.heap.size rfl 25 _ (0, 0) _ B1.out Tryd.underlying25 rfl (by kernel_rfl) ?_)
    clear c0 c3
    refine (write_not z _ HZ.out).mono ?_
    rintro e w2 ⟨rfl, k2⟩
    have B2 := Lib.hid (B1.out.kept k2)
    have K2 := Lib.hid (K1.out.trans k2)
    clear k2 B1 K1
    go_wp2_with (refine wpList_load_row rfl 25 _ rfl w.heap.size rfl 25 _ (0, 0) _ B2.out Tryd.underlying25 rfl (by kernel_rfl) ?_)
    refine (rWrite_not z _ HZ.out (by omega) (by omega)).mono ?_
    rintro e w3 ⟨rfl, k3⟩
    have B3 := Lib.hid (B2.out.kept k3)
    have K3 := Lib.hid (K2.out.trans k3)
    clear k3 B2 K2
    go_wp2_with (refine wpList_load_row rfl 25 _ rfl w.heap.size rfl 25 _ (0, 0) _ B3.out Tryd.underlying25 rfl (by kernel_rfl) ?_)
    refine (rMay_any z _ (by omega) (by omega)).mono ?_
    rintro e w4 ⟨rfl, k4⟩
    rw [HZ.out]
    have B4 := Lib.hid (B3.out.kept k4)
    have K4 := Lib.hid (K3.out.trans k4)
    clear k4 B3 K3
    have c0 := B4.out.cs.c0
    have c1 := B4.out.cs.c1
    have c2 := B4.out.cs.c2
    have c3 := B4.out.cs.c3
    have c4 := B4.out.cs.c4
    have c5 := B4.out.cs.c5
    have c6 := B4.out.cs.c6
    have c7 := B4.out.cs.c7
    have c8 := B4.out.cs.c8
    have c9 := B4.out.cs.c9
    have c10 := B4.out.cs.c10
    have c11 := B4.out.cs.c11
    have c12 := B4.out.cs.c12
    have c13 := B4.out.cs.c13
    have c14 := B4.out.cs.c14
    go_wp2_with fail
    refine (may_any z _).mono ?_
    rintro e w5 ⟨rfl, k5⟩
    rw [HZ.out]
    clear c0 c1 c2 c3 c4 c5 c6 c7 c8 c9 c10 c11 c12 c13 c14
    go_wp2
    go_ret
    exact ⟨rfl, K4.out.trans k5⟩
end Go.Proofs.YtomnjdammfiadaaDoor
