/- The law LocalTells, walked. -/
import Derived.Test.YtcgmefojokndhaaLcAll
namespace Go.Proofs.Ytcgmefojokndhaa
open Go.ChangeShapes Go.WideShapes Go.ChangeAt Go.RowKit
open Civ Zn Lc
set_option maxRecDepth 100000 in
set_option maxHeartbeats 4000000 in
theorem walkTells (z : Zo) (t : Int) (c : Six) (w : World) (f1 : z.std.length ≤ maxLen) (f2 : z.dst.length ≤ maxLen) (_ : -9223372036854775808 ≤ t) (_ : t ≤ 9223372036854775807) :
    Calls Try.prog 4 #[zoV z, .int .i64 t, sixV c] w fun e w' => e = .returned (.bool true) ∧ Kept w w' := by
  have B0 := Lib.hid (bz_new w z)
  have K0 := Lib.hid ((Kept.refl w).alloc (.cells (zo15 z.std z.off z.has z.dst z.ahead z.fr.k z.fr.m z.fr.w z.fr.d z.fr.a z.to.k z.to.m z.to.w z.to.d z.to.a) 25))
  go_enter Try.func4, Try.ntmps4
  go_upto_region 1 with (fail)
  generalize hx : w.alloc (.cells (zo15 z.std z.off z.has z.dst z.ahead z.fr.k z.fr.m z.fr.w z.fr.d z.fr.a z.to.k z.to.m z.to.w z.to.d z.to.a) 25) = x at *
  have s1 : x.heap.size = w.heap.size + 1 := by rw [← hx]; simp
  clear hx
  have b1 : Bc x.heap.size c.y c.m c.d c.h c.i c.s (x.alloc (.cells #[.int .i64 c.y, .int .i64 c.m, .int .i64 c.d, .int .i64 c.h, .int .i64 c.i, .int .i64 c.s] 35)) := new_block x _
  have k1 := (Kept.refl x).alloc (.cells #[.int .i64 c.y, .int .i64 c.m, .int .i64 c.d, .int .i64 c.h, .int .i64 c.i, .int .i64 c.s] 35)
  rw [s1] at b1
  generalize x.alloc (.cells #[.int .i64 c.y, .int .i64 c.m, .int .i64 c.d, .int .i64 c.h, .int .i64 c.i, .int .i64 c.s] 35) = x1 at *
  have B1 := Lib.hid (B0.out.kept k1)
  have C1 := Lib.hid b1
  have K1 := Lib.hid (K0.out.trans k1)
  clear B0 K0 k1 b1 s1
  go_wp2_with fail
  refine (awake_yes _).mono ?_
  rintro e w2 ⟨rfl, k2⟩
  have B2 := Lib.hid (B1.out.kept k2)
  have C2 := Lib.hid (C1.out.kept k2)
  have K2 := Lib.hid (K1.out.trans k2)
  clear B1 C1 K1  k2
  go_wp2_with (refine wpList_load_row rfl 25 _ rfl w.heap.size rfl 25 _ (0, 0) _ B2.out Try.underlying25 rfl (by kernel_rfl) ?_)
  refine (short_any z _ f1 f2).mono ?_
  rintro e w3 ⟨rfl, k3⟩
  have B3 := Lib.hid (B2.out.kept k3)
  have C3 := Lib.hid (C2.out.kept k3)
  have K3 := Lib.hid (K2.out.trans k3)
  clear B2 C2 K2  k3
  cases hs : shB z with
  | false =>
    clear hs
    go_wp2
    go_ret
    exact ⟨rfl, K3.out⟩
  | true =>
    have hl : z.std.length ≤ 100 ∧ z.dst.length ≤ 100 := by simpa [shB] using hs
    clear hs
    go_wp2_with (refine wpList_load_row rfl 25 _ rfl w.heap.size rfl 25 _ (0, 0) _ B3.out Try.underlying25 rfl (by kernel_rfl) ?_)
    refine (off_any' z t _).mono ?_
    rintro e w4 ⟨rfl, k4⟩
    have B4 := Lib.hid (B3.out.kept k4)
    have C4 := Lib.hid (C3.out.kept k4)
    have K4 := Lib.hid (K3.out.trans k4)
    clear B3 C3 K3  k4
    go_wp2_with (refine wpList_load_row rfl 25 _ rfl w.heap.size rfl 25 _ (0, 0) _ B4.out Try.underlying25 rfl (by kernel_rfl) ?_)
    refine (rOff_any z t _ (by omega) (by omega)).mono ?_
    rintro e w5 ⟨rfl, k5⟩
    have B5 := Lib.hid (B4.out.kept k5)
    have C5 := Lib.hid (C4.out.kept k5)
    have K5 := Lib.hid (K4.out.trans k5)
    clear B4 C4 K4  k5
    generalize oA z t = oa at *
    generalize oE z t = oe at *
    go_wp2_with (refine wpList_load_row rfl 25 _ rfl w.heap.size rfl 25 _ (0, 0) _ B5.out Try.underlying25 rfl (by kernel_rfl) ?_)
    refine (at_any' z t _).mono ?_
    rintro e w6 ⟨rfl, k6, _⟩
    have B6 := Lib.hid (B5.out.kept k6)
    have C6 := Lib.hid (C5.out.kept k6)
    have K6 := Lib.hid (K5.out.trans k6)
    clear B5 C5 K5  k6
    generalize hp : atS z t = p at *
    generalize hq : atE z t = pe at *
    have HP := Lib.hid hp; have HQ := Lib.hid hq; clear hp hq
    go_upto_region 8 with (fail)
    have k7 := (Kept.refl w6).alloc (.cells #[.int .i64 p.y, .int .i64 p.m, .int .i64 p.d, .int .i64 p.h, .int .i64 p.i, .int .i64 p.s] 35)
    have n7 := new_block w6 (.cells #[.int .i64 p.y, .int .i64 p.m, .int .i64 p.d, .int .i64 p.h, .int .i64 p.i, .int .i64 p.s] 35)
    generalize w6.heap.size = q1 at *
    generalize w6.alloc (.cells #[.int .i64 p.y, .int .i64 p.m, .int .i64 p.d, .int .i64 p.h, .int .i64 p.i, .int .i64 p.s] 35) = w7 at *
    have X7 := Lib.hid n7; clear n7
    have B7 := Lib.hid (B6.out.kept k7)
    have C7 := Lib.hid (C6.out.kept k7)
    have K7 := Lib.hid (K6.out.trans k7)
    clear B6 C6 K6  k7
    go_wp2_with (refine wpList_load_row rfl 25 _ rfl w.heap.size rfl 25 _ (0, 0) _ B7.out Try.underlying25 rfl (by kernel_rfl) ?_)
    refine (rAt_any z t _ (by omega) (by omega)).mono ?_
    rintro e w8 ⟨rfl, k8, _⟩
    rw [HP.out, HQ.out]
    have X8 := Lib.hid ((k8.block _ (Array.getElem?_eq_some_iff.1 X7.out).1).trans X7.out)
    clear X7
    have B8 := Lib.hid (B7.out.kept k8)
    have C8 := Lib.hid (C7.out.kept k8)
    have K8 := Lib.hid (K7.out.trans k8)
    clear B7 C7 K7  k8
    go_upto_region 9 with (fail)
    have k9 := (Kept.refl w8).alloc (.cells #[.int .i64 p.y, .int .i64 p.m, .int .i64 p.d, .int .i64 p.h, .int .i64 p.i, .int .i64 p.s] 35)
    have n9 := new_block w8 (.cells #[.int .i64 p.y, .int .i64 p.m, .int .i64 p.d, .int .i64 p.h, .int .i64 p.i, .int .i64 p.s] 35)
    generalize w8.heap.size = q2 at *
    generalize w8.alloc (.cells #[.int .i64 p.y, .int .i64 p.m, .int .i64 p.d, .int .i64 p.h, .int .i64 p.i, .int .i64 p.s] 35) = w9 at *
    have Y9 := Lib.hid n9; clear n9
    have X9 := Lib.hid ((k9.block _ (Array.getElem?_eq_some_iff.1 X8.out).1).trans X8.out)
    clear X8
    have B9 := Lib.hid (B8.out.kept k9)
    have C9 := Lib.hid (C8.out.kept k9)
    have K9 := Lib.hid (K8.out.trans k9)
    clear B8 C8 K8  k9
    go_wp2_with (first | (refine wpList_load_row rfl 25 _ rfl w.heap.size rfl 25 _ (0, 0) _ B9.out Try.underlying25 rfl (by kernel_rfl) ?_) | (refine wpList_load_row rfl 35 _ rfl (w.heap.size + 1) rfl 35 _ (0, 0) _ C9.out Try.underlying35 rfl (by kernel_rfl) ?_))
    refine (of_any z c _).mono ?_
    rintro e w10 ⟨a1, cap1, rfl, o1, k10⟩
    have X10 := Lib.hid ((k10.block _ (Array.getElem?_eq_some_iff.1 X9.out).1).trans X9.out)
    have Y10 := Lib.hid ((k10.block _ (Array.getElem?_eq_some_iff.1 Y9.out).1).trans Y9.out)
    clear X9 Y9
    have B10 := Lib.hid (B9.out.kept k10)
    have C10 := Lib.hid (C9.out.kept k10)
    have K10 := Lib.hid (K9.out.trans k10)
    clear B9 C9 K9  k10
    have O10 := Lib.hid o1; clear o1
    go_wp2_with (first | (refine wpList_load_row rfl 25 _ rfl w.heap.size rfl 25 _ (0, 0) _ B10.out Try.underlying25 rfl (by kernel_rfl) ?_) | (refine wpList_load_row rfl 35 _ rfl (w.heap.size + 1) rfl 35 _ (0, 0) _ C10.out Try.underlying35 rfl (by kernel_rfl) ?_))
    refine (rOf_any z c _ (by omega) (by omega)).mono ?_
    rintro e w11 ⟨a2, cap2, rfl, o2, k11⟩
    have X11 := Lib.hid ((k11.block _ (Array.getElem?_eq_some_iff.1 X10.out).1).trans X10.out)
    have Y11 := Lib.hid ((k11.block _ (Array.getElem?_eq_some_iff.1 Y10.out).1).trans Y10.out)
    have O11 := Lib.hid (O10.out.kept' k11)
    have P11 := Lib.hid o2
    have K11 := Lib.hid (K10.out.trans k11)
    clear X10 Y10 O10 o2 K10 B10 C10 k11
    generalize ofS z c = L at *
    generalize ofE z c = le at *
    go_wp2_with fail
    refine (ints_yes _ O11.out P11.out).mono ?_
    rintro e w12 ⟨rfl, k12⟩
    have K12 := Lib.hid (K11.out.trans k12)
    have X12 := (k12.block _ (Array.getElem?_eq_some_iff.1 X11.out).1).trans X11.out
    have Y12 := (k12.block _ (Array.getElem?_eq_some_iff.1 Y11.out).1).trans Y11.out
    clear O11 P11 K11 X11 Y11 k12
    have d0 := cell_of X12 (j := 0) rfl
    have e0 := cell_of Y12 (j := 0) rfl
    have d1 := cell_of X12 (j := 1) rfl
    have e1 := cell_of Y12 (j := 1) rfl
    have d2 := cell_of X12 (j := 2) rfl
    have e2 := cell_of Y12 (j := 2) rfl
    have d3 := cell_of X12 (j := 3) rfl
    have e3 := cell_of Y12 (j := 3) rfl
    have d4 := cell_of X12 (j := 4) rfl
    have e4 := cell_of Y12 (j := 4) rfl
    have d5 := cell_of X12 (j := 5) rfl
    have e5 := cell_of Y12 (j := 5) rfl
    clear X12 Y12
    have hE : ∀ W, (binOp .eql 35 (.agg #[.int .i64 p.y, .int .i64 p.m, .int .i64 p.d, .int .i64 p.h, .int .i64 p.i, .int .i64 p.s]) (.agg #[.int .i64 p.y, .int .i64 p.m, .int .i64 p.d, .int .i64 p.h, .int .i64 p.i, .int .i64 p.s])).run Try.prog W = .ok (.bool true) W := fun W => by
      rw [eql_civ, cvE_iff.2 ⟨rfl, rfl, rfl, rfl, rfl, rfl⟩]
    go_wp2
    go_ret
    exact ⟨rfl, K12.out⟩
end Go.Proofs.Ytcgmefojokndhaa
