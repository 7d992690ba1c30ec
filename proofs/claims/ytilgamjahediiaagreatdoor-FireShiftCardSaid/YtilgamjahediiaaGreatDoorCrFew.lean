/- Whether each field of a schedule has few numbers. -/
import Derived.Test.YtilgamjahediiaaGreatDoorCrD
set_option linter.unusedVariables false
namespace Go.Proofs.YtilgamjahediiaaGreatDoor
open Go.ChangeShapes Go.WideShapes Go.ChangeAt Go.RowKit
open Crn
def FewP (c : CR) : Prop := ∀ i, i < 5 → (c.L i).length ≤ 100
instance (c : CR) : Decidable (FewP c) := inferInstanceAs (Decidable (∀ i, i < 5 → (c.L i).length ≤ 100))
set_option maxRecDepth 100000 in
set_option maxHeartbeats 2000000 in
theorem few_any (c : CR) (sl : Nat → Value) (w : World) (hc : Cr w sl c.L) : Calls Tryz.prog 26 #[crV sl c.st] w fun e w' => e = .returned (.bool (decide (FewP c))) ∧ Kept w w' := by
  have k0 := (Kept.refl w).alloc (.cells (cr10 sl c.st) 30)
  have B0 := Lib.hid (Cb.new sl c.st w)
  have C0 := Lib.hid (hc.kept k0)
  clear hc
  go_enter Tryz.func26, Tryz.ntmps26
  go_upto_region 1 with (fail)
  generalize w.alloc (.cells (cr10 sl c.st) 30) = x at *
  go_wp2_with fail
  go_loopw [3] (fun i y => y = x ∧ ∃ k : Nat, k ≤ 5 ∧ i = .int .i64 k ∧ ∀ j, j < k → (c.L j).length ≤ 100) (fun i _ => 5 - (intOf i).toNat)
  case atStart => exact ⟨rfl, 0, by omega, rfl, fun j hj => absurd hj (by omega)⟩
  case round =>
    obtain ⟨rfl, k, hk, rfl, hf⟩ := hrel
    have HF := Lib.hid hf; clear hf
    by_cases hlt : k < 5
    · obtain ⟨ad, cp, hsl⟩ := (C0.out k hlt).slice
      have hm := (C0.out k hlt).len
      unfold maxLen at hm
      have e0 := cell_of (j := k) B0.out (cr_L sl c.st k hlt).1
      rw [hsl] at e0
      generalize hn : (c.L k).length = n at *
      by_cases g : n ≤ 100
      · go_wp2
        go_roundw
        case rel => exact ⟨trivial, k + 1, hlt, by go_num, fun j hj => if h : j = k then (by subst h; omega) else HF.out j (by omega)⟩
        case measure => simp [intOf]; omega
      · have HE := Lib.hid (show decide (FewP c) = false from decide_eq_false (fun h => by have := h k hlt; omega))
        go_wp2
        go_ret
        exact ⟨ret_bool HE.out.symm, k0⟩
    · obtain rfl : k = 5 := by omega
      have HE := Lib.hid (show decide (FewP c) = true from decide_eq_true (fun j hj => HF.out j hj))
      go_wp2
      go_ret
      exact ⟨ret_bool HE.out.symm, k0⟩
end Go.Proofs.YtilgamjahediiaaGreatDoor
