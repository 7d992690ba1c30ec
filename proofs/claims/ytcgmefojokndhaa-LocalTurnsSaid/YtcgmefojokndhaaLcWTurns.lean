/- The law LocalTurns, walked. -/
import Derived.Test.YtcgmefojokndhaaLcAll
namespace Go.Proofs.Ytcgmefojokndhaa
open Go.ChangeShapes Go.WideShapes Go.ChangeAt Go.RowKit
open Civ Zn Lc
set_option maxRecDepth 100000 in
set_option maxHeartbeats 4000000 in
theorem walkTurns (r : Ru) (z : Zo) (y : Int) (w : World) (f1 : z.std.length ≤ maxLen) (f2 : z.dst.length ≤ maxLen) (_ : -9223372036854775808 ≤ y) (_ : y ≤ 9223372036854775807) :
    Calls Try.prog 3 #[ruV r, zoV z, .int .i64 y] w fun e w' => e = .returned (.bool true) ∧ Kept w w' := by
  have R0 := Lib.hid (br_new w r)
  have K0 := Lib.hid ((Kept.refl w).alloc (.cells #[.int .i64 r.k, .int .i64 r.m, .int .i64 r.w, .int .i64 r.d, .int .i64 r.a] 23))
  go_enter Try.func3, Try.ntmps3
  go_upto_region 1 with (fail)
  generalize hx : w.alloc (.cells #[.int .i64 r.k, .int .i64 r.m, .int .i64 r.w, .int .i64 r.d, .int .i64 r.a] 23) = x at *
  have s1 : x.heap.size = w.heap.size + 1 := by rw [← hx]; simp
  clear hx
  have b1 := bz_new x z
  have k1 := (Kept.refl x).alloc (.cells (zo15 z.std z.off z.has z.dst z.ahead z.fr.k z.fr.m z.fr.w z.fr.d z.fr.a z.to.k z.to.m z.to.w z.to.d z.to.a) 25)
  rw [s1] at b1
  generalize x.alloc (.cells (zo15 z.std z.off z.has z.dst z.ahead z.fr.k z.fr.m z.fr.w z.fr.d z.fr.a z.to.k z.to.m z.to.w z.to.d z.to.a) 25) = x1 at *
  have B1 := Lib.hid b1
  have R1 := Lib.hid (R0.out.kept k1)
  have K1 := Lib.hid (K0.out.trans k1)
  clear R0 K0 k1 b1 s1
  go_wp2_with (first | (refine wpList_load_row rfl 25 _ rfl (w.heap.size + 1) rfl 25 _ (0, 0) _ B1.out Try.underlying25 rfl (by kernel_rfl) ?_) | (refine wpList_load_row rfl 23 _ rfl w.heap.size rfl 23 _ (0, 0) _ R1.out Try.underlying23 rfl (by kernel_rfl) ?_))
  refine (awake_yes _).mono ?_
  rintro e w2 ⟨rfl, k2⟩
  have B2 := Lib.hid (B1.out.kept k2)
  have R2 := Lib.hid (R1.out.kept k2)
  have K2 := Lib.hid (K1.out.trans k2)
  clear B1 R1 K1 k2
  go_wp2_with (first | (refine wpList_load_row rfl 25 _ rfl (w.heap.size + 1) rfl 25 _ (0, 0) _ B2.out Try.underlying25 rfl (by kernel_rfl) ?_) | (refine wpList_load_row rfl 23 _ rfl w.heap.size rfl 23 _ (0, 0) _ R2.out Try.underlying23 rfl (by kernel_rfl) ?_))
  refine (short_any z _ f1 f2).mono ?_
  rintro e w3 ⟨rfl, k3⟩
  have B3 := Lib.hid (B2.out.kept k3)
  have R3 := Lib.hid (R2.out.kept k3)
  have K3 := Lib.hid (K2.out.trans k3)
  clear B2 R2 K2 k3
  cases hs : shB z with
  | false =>
    clear hs
    go_wp2
    go_ret
    exact ⟨rfl, K3.out⟩
  | true =>
    have hl : z.std.length ≤ 100 ∧ z.dst.length ≤ 100 := by simpa [shB] using hs
    clear hs
    go_wp2_with (first | (refine wpList_load_row rfl 25 _ rfl (w.heap.size + 1) rfl 25 _ (0, 0) _ B3.out Try.underlying25 rfl (by kernel_rfl) ?_) | (refine wpList_load_row rfl 23 _ rfl w.heap.size rfl 23 _ (0, 0) _ R3.out Try.underlying23 rfl (by kernel_rfl) ?_))
    refine (day_any r y _).mono ?_
    rintro e w4 ⟨rfl, k4⟩
    have B4 := Lib.hid (B3.out.kept k4)
    have R4 := Lib.hid (R3.out.kept k4)
    have K4 := Lib.hid (K3.out.trans k4)
    clear B3 R3 K3 k4
    go_wp2_with (first | (refine wpList_load_row rfl 25 _ rfl (w.heap.size + 1) rfl 25 _ (0, 0) _ B4.out Try.underlying25 rfl (by kernel_rfl) ?_) | (refine wpList_load_row rfl 23 _ rfl w.heap.size rfl 23 _ (0, 0) _ R4.out Try.underlying23 rfl (by kernel_rfl) ?_))
    refine (rDay_any r y _).mono ?_
    rintro e w5 ⟨rfl, k5⟩
    have B5 := Lib.hid (B4.out.kept k5)
    have R5 := Lib.hid (R4.out.kept k5)
    have K5 := Lib.hid (K4.out.trans k5)
    clear B4 R4 K4 k5
    go_wp2_with (first | (refine wpList_load_row rfl 25 _ rfl (w.heap.size + 1) rfl 25 _ (0, 0) _ B5.out Try.underlying25 rfl (by kernel_rfl) ?_) | (refine wpList_load_row rfl 23 _ rfl w.heap.size rfl 23 _ (0, 0) _ R5.out Try.underlying23 rfl (by kernel_rfl) ?_))
    refine (turns_any z y _).mono ?_
    rintro e w6 ⟨rfl, k6⟩
    have B6 := Lib.hid (B5.out.kept k6)
    have R6 := Lib.hid (R5.out.kept k6)
    have K6 := Lib.hid (K5.out.trans k6)
    clear B5 R5 K5 k6
    go_wp2_with (first | (refine wpList_load_row rfl 25 _ rfl (w.heap.size + 1) rfl 25 _ (0, 0) _ B6.out Try.underlying25 rfl (by kernel_rfl) ?_) | (refine wpList_load_row rfl 23 _ rfl w.heap.size rfl 23 _ (0, 0) _ R6.out Try.underlying23 rfl (by kernel_rfl) ?_))
    refine (rTurns_any z y _ (by omega) (by omega)).mono ?_
    rintro e w7 ⟨rfl, k7⟩
    have B7 := Lib.hid (B6.out.kept k7)
    have R7 := Lib.hid (R6.out.kept k7)
    have K7 := Lib.hid (K6.out.trans k7)
    clear B6 R6 K6 k7
    go_wp2
    go_ret
    exact ⟨rfl, K7.out⟩
end Go.Proofs.Ytcgmefojokndhaa
