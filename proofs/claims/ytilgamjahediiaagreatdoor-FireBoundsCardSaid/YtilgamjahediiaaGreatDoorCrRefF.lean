/- The document's own answers of package cron: whether a day and time is one of a schedule (given whether the schedule may be). -/
import Derived.Test.YtilgamjahediiaaGreatDoorCrRefE
import Derived.Test.YtilgamjahediiaaGreatDoorCrD
import Derived.Test.YtilgamjahediiaaGreatDoorBsStRef
set_option linter.unusedVariables false
namespace Go.Proofs.YtilgamjahediiaaGreatDoor
open Go.ChangeShapes Go.WideShapes Go.ChangeAt Go.RowKit
open Crn Civ
set_option maxRecDepth 100000 in
set_option maxHeartbeats 4000000 in
theorem rmatch_any (c : CR) (sl : Nat → Value) (y m d h i s : Int) (w : World) (hc : Cr w sl c.L) (hM : ∀ x, Cr x sl c.L → Calls Tryz.prog 32 #[crV sl c.st] x fun e x' => e = .returned (.bool (mayC c)) ∧ Kept x x') : Calls Tryz.prog 34 #[crV sl c.st, civ y m d h i s] w fun e w' => e = .returned (.bool (matchC c y m d h i s)) ∧ Kept w w' := by
  have k0 := ((Kept.refl w).alloc (.cells (cr10 sl c.st) 30)).alloc (.cells #[.int .i64 y, .int .i64 m, .int .i64 d, .int .i64 h, .int .i64 i, .int .i64 s] 34)
  have B0 := Lib.hid ((Cb.new sl c.st w).kept ((Kept.refl _).alloc (.cells #[.int .i64 y, .int .i64 m, .int .i64 d, .int .i64 h, .int .i64 i, .int .i64 s] 34)))
  have D0 := Lib.hid (show KBc (w.heap.size + 1) y m d h i s ((w.alloc (.cells (cr10 sl c.st) 30)).alloc (.cells #[.int .i64 y, .int .i64 m, .int .i64 d, .int .i64 h, .int .i64 i, .int .i64 s] 34)) by unfold KBc; simpa using new_block (w.alloc (.cells (cr10 sl c.st) 30)) (.cells #[.int .i64 y, .int .i64 m, .int .i64 d, .int .i64 h, .int .i64 i, .int .i64 s] 34))
  have C0 := Lib.hid (hc.kept k0)
  have K0 := Lib.hid k0
  have HD := Lib.hid (fun x (hx : Cr x sl c.L) => rday_any c sl y m d x hx hM)
  clear hc k0 hM
  go_enter Tryz.func34, Tryz.ntmps34
  go_upto_region 1 with (fail)
  generalize (w.alloc (.cells (cr10 sl c.st) 30)).alloc (.cells #[.int .i64 y, .int .i64 m, .int .i64 d, .int .i64 h, .int .i64 i, .int .i64 s] 34) = x at *
  obtain ⟨u0, u1, u2, u3, u4, u5⟩ := cells6 D0.out
  go_wp2_with fail
  refine (rmay_any y m d h i s _).mono ?_
  rintro e x1 ⟨rfl, k1⟩
  have B1 := Lib.hid (B0.out.kept k1); have C1 := Lib.hid (C0.out.kept k1); have D1 := Lib.hid (D0.out.kept k1); have K1 := Lib.hid (K0.out.trans k1)
  clear k1 B0 C0 K0 D0
  clear u0 u1 u2 u3 u4 u5
  have HX := Lib.hid (show matchC c y m d h i s = (mayB y m d h i s && decide (s = 0) && hasB (c.L 0) i && hasB (c.L 1) h && dayC c y m d) from rfl)
  cases hm : mayB y m d h i s with
  | false =>
    have HR := Lib.hid (show matchC c y m d h i s = false by rw [HX.out, hm]; rfl)
    clear hm
    go_wp2
    go_ret
    exact ⟨ret_bool HR.out.symm, K1.out⟩
  | true =>
    have HY := Lib.hid (show matchC c y m d h i s = (decide (s = 0) && hasB (c.L 0) i && hasB (c.L 1) h && dayC c y m d) by rw [HX.out, hm]; rfl)
    clear hm HX
    obtain ⟨e0, e1, e2, e3, e4, e5, e6, e7, e8, e9⟩ := cells10 B1.out
    obtain ⟨u0, u1, u2, u3, u4, u5⟩ := cells6 D1.out
    have r0 := Lib.hid (C1.out 0 (by omega)); have r1 := Lib.hid (C1.out 1 (by omega))
    go_wp2_with fail
    refine (ehas_any (sl 0) (c.L 0) i _ r0.out).mono ?_
    rintro e y1 ⟨rfl, rfl⟩
    generalize hasB (c.L 0) i = b0 at *
    go_wp2_with fail
    refine (ehas_any (sl 1) (c.L 1) h _ r1.out).mono ?_
    rintro e y1 ⟨rfl, rfl⟩
    generalize hasB (c.L 1) h = b1 at *
    go_wp2_with fail
    refine (HD.out _ C1.out).mono ?_
    rintro e x2 ⟨rfl, k2⟩
    have B2 := Lib.hid (B1.out.kept k2); have C2 := Lib.hid (C1.out.kept k2); have D2 := Lib.hid (D1.out.kept k2); have K2 := Lib.hid (K1.out.trans k2)
    clear k2 B1 C1 K1 D1
    clear e0 e1 e2 e3 e4 e5 e6 e7 e8 e9 u0 u1 u2 u3 u4 u5
    clear r0 r1 HD
    generalize dayC c y m d = bd at *
    obtain ⟨u0, u1, u2, u3, u4, u5⟩ := cells6 D2.out
    by_cases hs0 : s = 0
    · subst hs0
      cases b0 <;> cases b1 <;> cases bd
      all_goals (go_wp2; go_ret; exact ⟨ret_bool (by rw [HY.out]; rfl), K2.out⟩)
    · have HZ := Lib.hid (show matchC c y m d h i s = false by rw [HY.out, decide_eq_false hs0]; rfl)
      cases b0 <;> cases b1 <;> cases bd
      all_goals (go_wp2; go_ret; exact ⟨ret_bool (by rw [HZ.out]; try simp [hs0]), K2.out⟩)
end Go.Proofs.YtilgamjahediiaaGreatDoor
