/- The law FireNext, walked (given the contracts of package fire). -/
import Derived.Test.YtilgamjahediiaaGreatDoorFrA
import Derived.Test.YtilgamjahediiaaGreatDoorFrRefB
set_option linter.unusedVariables false
namespace Go.Proofs.YtilgamjahediiaaGreatDoor
open Go.ChangeShapes Go.WideShapes Go.ChangeAt Go.RowKit
open Civ Zn Lc Crn
set_option maxRecDepth 100000 in
set_option maxHeartbeats 4000000 in
theorem next6_walk (hG : GapC) (hF : FiresC) (hN : NextC) (z : Zo) (c : CR) (sl : Nat → Value) (a b : Int) (w : World) (h1 : z.std.length ≤ maxLen) (h2 : z.dst.length ≤ maxLen) (hc : Cr w sl c.L) (_ : -9223372036854775808 ≤ a) (_ : a ≤ 9223372036854775807) (_ : -9223372036854775808 ≤ b) (_ : b ≤ 9223372036854775807) (htab : Tab w) : Calls Tryz.prog 4 #[zoV z, crV sl c.st, .int .i64 a, .int .i64 b] w fun e w' => e = .returned (.bool true) ∧ Kept w w' := by
  have k0 := (Kept.refl w).alloc (.cells (zo15 z.std z.off z.has z.dst z.ahead z.fr.k z.fr.m z.fr.w z.fr.d z.fr.a z.to.k z.to.m z.to.w z.to.d z.to.a) 25)
  have b0 := bz_new w z
  have T0 := Tb.start htab
  have HG := Lib.hid hG; have HF := Lib.hid hF; have HN := Lib.hid hN
  clear hG hF hN htab
  go_enter Tryz.func4, Tryz.ntmps4
  go_upto_region 1 with (fail)
  generalize hx : w.alloc (.cells (zo15 z.std z.off z.has z.dst z.ahead z.fr.k z.fr.m z.fr.w z.fr.d z.fr.a z.to.k z.to.m z.to.w z.to.d z.to.a) 25) = x at *
  have s1 : x.heap.size = w.heap.size + 1 := by rw [← hx]; simp
  clear hx
  have c1 : Cb (w.heap.size + 1) sl c.st (x.alloc (.cells (cr10 sl c.st) 30)) := by rw [← s1]; exact Cb.new sl c.st x
  have k1 := (Kept.refl x).alloc (.cells (cr10 sl c.st) 30)
  generalize x.alloc (.cells (cr10 sl c.st) 30) = x1 at *
  have Z1 := Lib.hid (b0.kept k1); have B1 := Lib.hid c1; have K1 := Lib.hid (k0.trans k1); have C1 := Lib.hid (hc.kept (k0.trans k1)); have T1 := Lib.hid (T0.kept (k0.trans k1))
  clear b0 k0 k1 c1 s1 hc T0
  go_wp2_with fail
  refine (awake6_any HG.out HF.out HN.out _ T1.out.tab).mono ?_
  rintro e x2 ⟨rfl, k2⟩
  have Z2 := Lib.hid (Z1.out.kept k2); have B2 := Lib.hid (B1.out.kept k2); have C2 := Lib.hid (C1.out.kept k2); have K2 := Lib.hid (K1.out.trans k2)
  clear k2 Z1 B1 C1 K1
  clear T1
  go_wp2_with (first | refine wpList_load_row rfl 25 _ rfl w.heap.size rfl 25 _ (0, 0) _ Z2.out Tryz.underlying25 rfl (by kernel_rfl) ?_ | refine wpList_load_row rfl 30 _ rfl (w.heap.size + 1) rfl 30 _ (0, 0) _ B2.out Tryz.underlying30 rfl (by kernel_rfl) ?_)
  refine (few6_any z c sl _ C2.out h1 h2).mono ?_
  rintro e x3 ⟨rfl, k3⟩
  have Z3 := Lib.hid (Z2.out.kept k3); have B3 := Lib.hid (B2.out.kept k3); have C3 := Lib.hid (C2.out.kept k3); have K3 := Lib.hid (K2.out.trans k3)
  clear k3 Z2 B2 C2 K2
  cases hs : shB z && decide (FewP c) with
  | false =>
    clear hs
    go_wp2
    go_ret
    exact ⟨rfl, K3.out⟩
  | true =>
    have hl : z.std.length ≤ 100 ∧ z.dst.length ≤ 100 := by rw [Bool.and_eq_true] at hs; simpa [shB] using hs.1
    clear hs
    by_cases c1 : 0 ≤ a
    · by_cases c2 : a < b
      · by_cases c3 : 600 < b - a
        · by_cases c4 : b - a ≤ 3456000
          · go_wp2
            go_ret
            exact ⟨rfl, K3.out⟩
          · by_cases g0 : 1125899906842624 < a
            · go_wp2
              all_goals (go_ret; exact ⟨rfl, K3.out⟩)
            by_cases g1 : a < -1125899906842624
            · go_wp2
              all_goals (go_ret; exact ⟨rfl, K3.out⟩)
            by_cases g2 : 1125899906842624 < b
            · go_wp2
              all_goals (go_ret; exact ⟨rfl, K3.out⟩)
            by_cases g3 : b < -1125899906842624
            · go_wp2
              all_goals (go_ret; exact ⟨rfl, K3.out⟩)
            go_wp2_with (first | refine wpList_load_row rfl 25 _ rfl w.heap.size rfl 25 _ (0, 0) _ Z3.out Tryz.underlying25 rfl (by kernel_rfl) ?_ | refine wpList_load_row rfl 30 _ rfl (w.heap.size + 1) rfl 30 _ (0, 0) _ B3.out Tryz.underlying30 rfl (by kernel_rfl) ?_)
            refine (HN.out z c sl a b _ (by omega) (by omega) (by omega) (by omega) C3.out).mono ?_
            rintro e x4 ⟨rfl, k4⟩
            have Z4 := Lib.hid (Z3.out.kept k4); have B4 := Lib.hid (B3.out.kept k4); have C4 := Lib.hid (C3.out.kept k4); have K4 := Lib.hid (K3.out.trans k4)
            clear k4 Z3 B3 C3 K3
            have HR := Lib.hid (fun x hx => rnext_any z c sl a b x hx (by omega) (by omega) (by omega) (by omega) (by omega) (by omega))
            generalize (nxP z c a b).getD 0 = o1 at *
            generalize (nxP z c a b).isSome = o2 at *
            go_wp2_with (first | refine wpList_load_row rfl 25 _ rfl w.heap.size rfl 25 _ (0, 0) _ Z4.out Tryz.underlying25 rfl (by kernel_rfl) ?_ | refine wpList_load_row rfl 30 _ rfl (w.heap.size + 1) rfl 30 _ (0, 0) _ B4.out Tryz.underlying30 rfl (by kernel_rfl) ?_)
            refine (HR.out _ C4.out).mono ?_
            rintro e x5 ⟨rfl, k5⟩
            have K5 := Lib.hid (K4.out.trans k5)
            go_wp2
            go_ret
            exact ⟨rfl, K5.out⟩
        · by_cases g0 : 1125899906842624 < a
          · go_wp2
            all_goals (go_ret; exact ⟨rfl, K3.out⟩)
          by_cases g1 : a < -1125899906842624
          · go_wp2
            all_goals (go_ret; exact ⟨rfl, K3.out⟩)
          by_cases g2 : 1125899906842624 < b
          · go_wp2
            all_goals (go_ret; exact ⟨rfl, K3.out⟩)
          by_cases g3 : b < -1125899906842624
          · go_wp2
            all_goals (go_ret; exact ⟨rfl, K3.out⟩)
          go_wp2_with (first | refine wpList_load_row rfl 25 _ rfl w.heap.size rfl 25 _ (0, 0) _ Z3.out Tryz.underlying25 rfl (by kernel_rfl) ?_ | refine wpList_load_row rfl 30 _ rfl (w.heap.size + 1) rfl 30 _ (0, 0) _ B3.out Tryz.underlying30 rfl (by kernel_rfl) ?_)
          refine (HN.out z c sl a b _ (by omega) (by omega) (by omega) (by omega) C3.out).mono ?_
          rintro e x4 ⟨rfl, k4⟩
          have Z4 := Lib.hid (Z3.out.kept k4); have B4 := Lib.hid (B3.out.kept k4); have C4 := Lib.hid (C3.out.kept k4); have K4 := Lib.hid (K3.out.trans k4)
          clear k4 Z3 B3 C3 K3
          have HR := Lib.hid (fun x hx => rnext_any z c sl a b x hx (by omega) (by omega) (by omega) (by omega) (by omega) (by omega))
          generalize (nxP z c a b).getD 0 = o1 at *
          generalize (nxP z c a b).isSome = o2 at *
          go_wp2_with (first | refine wpList_load_row rfl 25 _ rfl w.heap.size rfl 25 _ (0, 0) _ Z4.out Tryz.underlying25 rfl (by kernel_rfl) ?_ | refine wpList_load_row rfl 30 _ rfl (w.heap.size + 1) rfl 30 _ (0, 0) _ B4.out Tryz.underlying30 rfl (by kernel_rfl) ?_)
          refine (HR.out _ C4.out).mono ?_
          rintro e x5 ⟨rfl, k5⟩
          have K5 := Lib.hid (K4.out.trans k5)
          go_wp2
          go_ret
          exact ⟨rfl, K5.out⟩
      · by_cases g0 : 1125899906842624 < a
        · go_wp2
          all_goals (go_ret; exact ⟨rfl, K3.out⟩)
        by_cases g1 : a < -1125899906842624
        · go_wp2
          all_goals (go_ret; exact ⟨rfl, K3.out⟩)
        by_cases g2 : 1125899906842624 < b
        · go_wp2
          all_goals (go_ret; exact ⟨rfl, K3.out⟩)
        by_cases g3 : b < -1125899906842624
        · go_wp2
          all_goals (go_ret; exact ⟨rfl, K3.out⟩)
        go_wp2_with (first | refine wpList_load_row rfl 25 _ rfl w.heap.size rfl 25 _ (0, 0) _ Z3.out Tryz.underlying25 rfl (by kernel_rfl) ?_ | refine wpList_load_row rfl 30 _ rfl (w.heap.size + 1) rfl 30 _ (0, 0) _ B3.out Tryz.underlying30 rfl (by kernel_rfl) ?_)
        refine (HN.out z c sl a b _ (by omega) (by omega) (by omega) (by omega) C3.out).mono ?_
        rintro e x4 ⟨rfl, k4⟩
        have Z4 := Lib.hid (Z3.out.kept k4); have B4 := Lib.hid (B3.out.kept k4); have C4 := Lib.hid (C3.out.kept k4); have K4 := Lib.hid (K3.out.trans k4)
        clear k4 Z3 B3 C3 K3
        have HR := Lib.hid (fun x hx => rnext_any z c sl a b x hx (by omega) (by omega) (by omega) (by omega) (by omega) (by omega))
        generalize (nxP z c a b).getD 0 = o1 at *
        generalize (nxP z c a b).isSome = o2 at *
        go_wp2_with (first | refine wpList_load_row rfl 25 _ rfl w.heap.size rfl 25 _ (0, 0) _ Z4.out Tryz.underlying25 rfl (by kernel_rfl) ?_ | refine wpList_load_row rfl 30 _ rfl (w.heap.size + 1) rfl 30 _ (0, 0) _ B4.out Tryz.underlying30 rfl (by kernel_rfl) ?_)
        refine (HR.out _ C4.out).mono ?_
        rintro e x5 ⟨rfl, k5⟩
        have K5 := Lib.hid (K4.out.trans k5)
        go_wp2
        go_ret
        exact ⟨rfl, K5.out⟩
    · by_cases g0 : 1125899906842624 < a
      · go_wp2
        all_goals (go_ret; exact ⟨rfl, K3.out⟩)
      by_cases g1 : a < -1125899906842624
      · go_wp2
        all_goals (go_ret; exact ⟨rfl, K3.out⟩)
      by_cases g2 : 1125899906842624 < b
      · go_wp2
        all_goals (go_ret; exact ⟨rfl, K3.out⟩)
      by_cases g3 : b < -1125899906842624
      · go_wp2
        all_goals (go_ret; exact ⟨rfl, K3.out⟩)
      go_wp2_with (first | refine wpList_load_row rfl 25 _ rfl w.heap.size rfl 25 _ (0, 0) _ Z3.out Tryz.underlying25 rfl (by kernel_rfl) ?_ | refine wpList_load_row rfl 30 _ rfl (w.heap.size + 1) rfl 30 _ (0, 0) _ B3.out Tryz.underlying30 rfl (by kernel_rfl) ?_)
      refine (HN.out z c sl a b _ (by omega) (by omega) (by omega) (by omega) C3.out).mono ?_
      rintro e x4 ⟨rfl, k4⟩
      have Z4 := Lib.hid (Z3.out.kept k4); have B4 := Lib.hid (B3.out.kept k4); have C4 := Lib.hid (C3.out.kept k4); have K4 := Lib.hid (K3.out.trans k4)
      clear k4 Z3 B3 C3 K3
      have HR := Lib.hid (fun x hx => rnext_any z c sl a b x hx (by omega) (by omega) (by omega) (by omega) (by omega) (by omega))
      generalize (nxP z c a b).getD 0 = o1 at *
      generalize (nxP z c a b).isSome = o2 at *
      go_wp2_with (first | refine wpList_load_row rfl 25 _ rfl w.heap.size rfl 25 _ (0, 0) _ Z4.out Tryz.underlying25 rfl (by kernel_rfl) ?_ | refine wpList_load_row rfl 30 _ rfl (w.heap.size + 1) rfl 30 _ (0, 0) _ B4.out Tryz.underlying30 rfl (by kernel_rfl) ?_)
      refine (HR.out _ C4.out).mono ?_
      rintro e x5 ⟨rfl, k5⟩
      have K5 := Lib.hid (K4.out.trans k5)
      go_wp2
      go_ret
      exact ⟨rfl, K5.out⟩
end Go.Proofs.YtilgamjahediiaaGreatDoor
