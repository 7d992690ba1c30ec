/- Contracts of the document's answer for layer 4: what is no day and time. -/
import Derived.Test.YtcgmefojokndhaaLcRefF
namespace Go.Proofs.Ytcgmefojokndhaa
open Go.ChangeShapes Go.WideShapes Go.ChangeAt Go.RowKit
open Civ Zn Lc
set_option maxRecDepth 100000 in
set_option maxHeartbeats 4000000 in
theorem rlof_not (z : Zo) (y m d h i s : Int) (w : World) (l1 : z.std.length ≤ 1000) (l2 : z.dst.length ≤ 1000) (hn : ¬ (mayZ z = true ∧ okP y m d ∧ tmB h i s = true ∧ 1970 ≤ y ∧ y ≤ 9998)) :
    Calls Try.prog 20 #[zoV z, civ y m d h i s] w fun e w' => e = .returned (.tuple #[.slice none 0 0, .int .i64 1]) ∧ Kept w w' := by
  have HN := Lib.hid hn; clear hn
  have HM := Lib.hid (show mayB y m d h i s = true ↔ okP y m d ∧ tmB h i s = true by unfold mayB; rw [Bool.and_eq_true, okB_iff]; rfl)
  have B0 := Lib.hid (bz_new w z)
  have K0 := Lib.hid ((Kept.refl w).alloc (.cells (zo15 z.std z.off z.has z.dst z.ahead z.fr.k z.fr.m z.fr.w z.fr.d z.fr.a z.to.k z.to.m z.to.w z.to.d z.to.a) 25))
  go_enter Try.func20, Try.ntmps20
  go_upto_region 1 with (fail)
  generalize hx : w.alloc (.cells (zo15 z.std z.off z.has z.dst z.ahead z.fr.k z.fr.m z.fr.w z.fr.d z.fr.a z.to.k z.to.m z.to.w z.to.d z.to.a) 25) = x at *
  have s1 : x.heap.size = w.heap.size + 1 := by rw [← hx]; simp
  clear hx
  have b1 : Bc x.heap.size y m d h i s (x.alloc (.cells #[.int .i64 y, .int .i64 m, .int .i64 d, .int .i64 h, .int .i64 i, .int .i64 s] 35)) := new_block x _
  have k1 := (Kept.refl x).alloc (.cells #[.int .i64 y, .int .i64 m, .int .i64 d, .int .i64 h, .int .i64 i, .int .i64 s] 35)
  rw [s1] at b1
  generalize x.alloc (.cells #[.int .i64 y, .int .i64 m, .int .i64 d, .int .i64 h, .int .i64 i, .int .i64 s] 35) = x1 at *
  have B1 := Lib.hid (B0.out.kept k1)
  have C1 := Lib.hid b1
  have K1 := Lib.hid (K0.out.trans k1)
  clear B0 K0 k1 b1 s1
  go_wp2_with (refine wpList_load_row rfl 25 _ rfl w.heap.size rfl 25 _ (0, 0) _ B1.out Try.underlying25 rfl (by kernel_rfl) ?_)
  refine (rMay_any z _ (by omega) (by omega)).mono ?_
  rintro e w2 ⟨rfl, k2⟩
  have C2 := Lib.hid (C1.out.kept k2)
  have K2 := Lib.hid (K1.out.trans k2)
  clear B1 C1 K1 k2
  have e0 := cell_of C2.out (j := 0) rfl
  have e1 := cell_of C2.out (j := 1) rfl
  have e2 := cell_of C2.out (j := 2) rfl
  have e3 := cell_of C2.out (j := 3) rfl
  have e4 := cell_of C2.out (j := 4) rfl
  have e5 := cell_of C2.out (j := 5) rfl
  go_wp2_with fail
  refine (rmay_any y m d h i s _).mono ?_
  rintro e w3 ⟨rfl, k3⟩
  have C3 := Lib.hid (C2.out.kept k3)
  have K3 := Lib.hid (K2.out.trans k3)
  clear e0 e1 e2 e3 e4 e5 C2 K2 k3
  cases hz : mayZ z with
  | false =>
    clear hz
    go_wp2
    exact bodyPost_ret (v := .tuple #[.slice none 0 0, .int .i64 1]) (by simp [results, Try.results20, go_sem, *]) rfl ⟨rfl, K3.out⟩
  | true =>
    cases hm : mayB y m d h i s with
    | false =>
      clear hz hm
      go_wp2
      exact bodyPost_ret (v := .tuple #[.slice none 0 0, .int .i64 1]) (by simp [results, Try.results20, go_sem, *]) rfl ⟨rfl, K3.out⟩
    | true =>
      have HY := Lib.hid (show ¬ (1970 ≤ y ∧ y ≤ 9998) from fun hy => HN.out ⟨hz, (HM.out.1 hm).1, (HM.out.1 hm).2, hy⟩)
      clear hz hm
      have e0 := cell_of C3.out (j := 0) rfl
      by_cases hy : 1970 ≤ y
      · have hy2 : 9998 < y := by have := HY.out; omega
        go_wp2
        exact bodyPost_ret (v := .tuple #[.slice none 0 0, .int .i64 1]) (by simp [results, Try.results20, go_sem, *]) rfl ⟨rfl, K3.out⟩
      · go_wp2
        exact bodyPost_ret (v := .tuple #[.slice none 0 0, .int .i64 1]) (by simp [results, Try.results20, go_sem, *]) rfl ⟨rfl, K3.out⟩
end Go.Proofs.Ytcgmefojokndhaa
