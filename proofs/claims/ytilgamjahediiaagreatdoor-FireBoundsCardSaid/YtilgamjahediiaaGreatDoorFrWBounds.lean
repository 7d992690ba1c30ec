/- The law FireBounds, walked (given the contracts of package fire, Next's at any integers). -/
import Derived.Test.YtilgamjahediiaaGreatDoorFrA
import Derived.Test.YtilgamjahediiaaGreatDoorFrP
set_option linter.unusedVariables false
namespace Go.Proofs.YtilgamjahediiaaGreatDoor
open Go.ChangeShapes Go.WideShapes Go.ChangeAt Go.RowKit
open Civ Zn Lc Crn
/-- Next's contract, at any integers -/
def NextA : Prop := ∀ (z : Zo) (c : CR) (sl : Nat → Value) (a b : Int) (w : World), -9223372036854775808 ≤ a → a ≤ 9223372036854775807 → -9223372036854775808 ≤ b → b ≤ 9223372036854775807 → Cr w sl c.L → Calls Tryz.prog 16 #[zoV z, crV sl c.st, .int .i64 a, .int .i64 b] w fun e w' => e = .returned (.tuple #[.int .i64 ((nxP z c a b).getD 0), .bool (nxP z c a b).isSome]) ∧ Kept w w'
set_option maxRecDepth 100000 in
set_option maxHeartbeats 4000000 in
theorem bounds6_walk (hG : GapC) (hF : FiresC) (hN : NextC) (hX : NextA) (z : Zo) (c : CR) (sl : Nat → Value) (a b : Int) (w : World) (h1 : z.std.length ≤ maxLen) (h2 : z.dst.length ≤ maxLen) (hc : Cr w sl c.L) (_ : -9223372036854775808 ≤ a) (_ : a ≤ 9223372036854775807) (_ : -9223372036854775808 ≤ b) (_ : b ≤ 9223372036854775807) (htab : Tab w) : Calls Tryz.prog 8 #[zoV z, crV sl c.st, .int .i64 a, .int .i64 b] w fun e w' => e = .returned (.bool true) ∧ Kept w w' := by
  have k0 := (Kept.refl w).alloc (.cells (zo15 z.std z.off z.has z.dst z.ahead z.fr.k z.fr.m z.fr.w z.fr.d z.fr.a z.to.k z.to.m z.to.w z.to.d z.to.a) 25)
  have b0 := bz_new w z
  have T0 := Tb.start htab
  have HG := Lib.hid hG; have HF := Lib.hid hF; have HN := Lib.hid hN
  have HX := Lib.hid hX
  clear hG hF hN hX htab
  go_enter Tryz.func8, Tryz.ntmps8
  go_upto_region 1 with (fail)
  generalize hx : w.alloc (.cells (zo15 z.std z.off z.has z.dst z.ahead z.fr.k z.fr.m z.fr.w z.fr.d z.fr.a z.to.k z.to.m z.to.w z.to.d z.to.a) 25) = x at *
  have s1 : x.heap.size = w.heap.size + 1 := by rw [← hx]; simp
  clear hx
  have c1 : Cb (w.heap.size + 1) sl c.st (x.alloc (.cells (cr10 sl c.st) 30)) := by rw [← s1]; exact Cb.new sl c.st x
  have k1 := (Kept.refl x).alloc (.cells (cr10 sl c.st) 30)
  generalize x.alloc (.cells (cr10 sl c.st) 30) = x1 at *
  have Z1 := Lib.hid (b0.kept k1); have B1 := Lib.hid c1; have K1 := Lib.hid (k0.trans k1); have C1 := Lib.hid (hc.kept (k0.trans k1)); have T1 := Lib.hid (T0.kept (k0.trans k1))
  clear b0 k0 k1 c1 s1 hc T0
  go_wp2_with fail
  refine (awake6_any HG.out HF.out HN.out _ T1.out.tab).mono ?_
  rintro e x2 ⟨rfl, k2⟩
  have Z2 := Lib.hid (Z1.out.kept k2); have B2 := Lib.hid (B1.out.kept k2); have C2 := Lib.hid (C1.out.kept k2); have K2 := Lib.hid (K1.out.trans k2)
  clear k2 Z1 B1 C1 K1
  clear T1
  go_wp2_with (first | refine wpList_load_row rfl 25 _ rfl w.heap.size rfl 25 _ (0, 0) _ Z2.out Tryz.underlying25 rfl (by kernel_rfl) ?_ | refine wpList_load_row rfl 30 _ rfl (w.heap.size + 1) rfl 30 _ (0, 0) _ B2.out Tryz.underlying30 rfl (by kernel_rfl) ?_)
  refine (few6_any z c sl _ C2.out h1 h2).mono ?_
  rintro e x3 ⟨rfl, k3⟩
  have Z3 := Lib.hid (Z2.out.kept k3); have B3 := Lib.hid (B2.out.kept k3); have C3 := Lib.hid (C2.out.kept k3); have K3 := Lib.hid (K2.out.trans k3)
  clear k3 Z2 B2 C2 K2
  cases hs : shB z && decide (FewP c) with
  | false =>
    clear hs
    go_wp2
    go_ret
    exact ⟨rfl, K3.out⟩
  | true =>
    clear hs
    go_wp2_with (first | refine wpList_load_row rfl 25 _ rfl w.heap.size rfl 25 _ (0, 0) _ Z3.out Tryz.underlying25 rfl (by kernel_rfl) ?_ | refine wpList_load_row rfl 30 _ rfl (w.heap.size + 1) rfl 30 _ (0, 0) _ B3.out Tryz.underlying30 rfl (by kernel_rfl) ?_)
    refine (HX.out z c sl a b _ (by omega) (by omega) (by omega) (by omega) C3.out).mono ?_
    rintro e x4 ⟨rfl, k4⟩
    have Z4 := Lib.hid (Z3.out.kept k4); have B4 := Lib.hid (B3.out.kept k4); have C4 := Lib.hid (C3.out.kept k4); have K4 := Lib.hid (K3.out.trans k4)
    clear k4 Z3 B3 C3 K3
    cases ho : nxP z c a b with
    | none =>
      clear ho
      by_cases g1 : 0 ≤ a
      · by_cases g2 : a < 1099511627776
        · by_cases g3 : b < 1099511627776
          · by_cases g4 : a + 3456000 < b
            all_goals
              go_wp2
              go_ret
              exact ⟨rfl, K4.out⟩
          · go_wp2
            go_ret
            exact ⟨rfl, K4.out⟩
        · go_wp2
          go_ret
          exact ⟨rfl, K4.out⟩
      · go_wp2
        go_ret
        exact ⟨rfl, K4.out⟩
    | some r =>
      obtain ⟨⟨q1, q2⟩, r1, r2, r3, r4⟩ := nxP_some ho
      obtain ⟨p1, p2, p3, p4⟩ := frP_out r3
      have HZ := Lib.hid p1; have HM := Lib.hid p2
      clear ho r3 r4 p1 p2
      obtain ⟨d0, d1, d2, d3, d4, d5, d6, d7, d8, d9, d10, d11, d12, d13, d14⟩ := bz_cells Z4.out
      go_wp2_with fail
      refine (zMay_any z _).mono ?_
      rintro e x5 ⟨rfl, k5⟩
      rw [HZ.out]
      have B5 := Lib.hid (B4.out.kept k5); have C5 := Lib.hid (C4.out.kept k5); have K5 := Lib.hid (K4.out.trans k5)
      clear k5 Z4 B4 C4 K4 d0 d1 d2 d3 d4 d5 d6 d7 d8 d9 d10 d11 d12 d13 d14
      obtain ⟨e0, e1, e2, e3, e4, e5, e6, e7, e8, e9⟩ := cells10 B5.out
      go_wp2_with fail
      refine (cmay_any c sl _ C5.out).mono ?_
      rintro e x6 ⟨rfl, k6⟩
      rw [HM.out]
      have K6 := Lib.hid (K5.out.trans k6)
      clear k6 B5 C5 K5 e0 e1 e2 e3 e4 e5 e6 e7 e8 e9
      have g2 : a < 1099511627776 := by omega
      have g3 : b < 1099511627776 := by omega
      go_wp2
      go_ret
      exact ⟨rfl, K6.out⟩
end Go.Proofs.YtilgamjahediiaaGreatDoor
