import Derived.Test.YtjlpkgipdkjfhaaGreatDoorQpRa
import Derived.RegionTactic
import Derived.ChangeAlike
set_option linter.unusedSimpArgs false
set_option linter.unusedVariables false
namespace Go.Proofs.YtjlpkgipdkjfhaaGreatDoor.Bk.Qp
open Go.ChangeShapes Go.WideShapes Go.ChangeAt Go.RowKit
theorem dig1 (q : Nat) (h : q < 16) (W : World) : (Instr.slice 9 (.string ⟨#[48, 49, 50, 51, 52, 53, 54, 55, 56, 57, 65, 66, 67, 68, 69, 70]⟩) (some (.int .i64 q)) (some (.int .i64 (q + 1))) none).run Tryz.prog W = .ok (sV [hx q]) W := by
  have h1 := cut_both digS q (q + 1) (by omega) (show q + 1 ≤ 16 by omega) W
  have h2 : ((digS.take (q + 1)).drop q) = [hx q] := by
    have : ∀ q, q < 16 → (digS.take (q + 1)).drop q = [hx q] := by decide
    exact this q h
  rw [h2] at h1
  exact h1
set_option maxRecDepth 100000 in
set_option maxHeartbeats 1000000 in
theorem hex_any (c : UInt8) (w : World) : Calls Tryz.prog 106 #[.int .u8 c.toNat] w fun e w' => e = .returned (sV [hx (c.toNat / 16), hx (c.toNat % 16)]) ∧ Kept w w' := by
  have hlt := c.toNat_lt
  have e1 : c.toNat / 16 < 16 := u8_half c
  have e2 : c.toNat % 16 < 16 := Nat.mod_lt _ (by decide)
  have q1 : Int.tdiv (c.toNat : Int) 16 = ((c.toNat / 16 : Nat) : Int) := by rw [Int.tdiv_eq_ediv_of_nonneg (by omega)]; omega
  have q2 : Int.tmod (c.toNat : Int) 16 = ((c.toNat % 16 : Nat) : Int) := by rw [Int.tmod_eq_emod_of_nonneg (by omega)]; omega
  have q3 : (c.toNat : Int) / 16 = ((c.toNat / 16 : Nat) : Int) := by omega
  have q4 : (c.toNat : Int) % 16 = ((c.toNat % 16 : Nat) : Int) := by omega
  have d1 := dig1 _ e1
  have d2 := dig1 _ e2
  generalize c.toNat / 16 = q at *
  generalize c.toNat % 16 = r at *
  have hq : (q : Int) < 16 := by omega
  have hr : (r : Int) < 16 := by omega
  go_enter Tryz.func106, Tryz.ntmps106
  go_wp2_with fail
  go_region
  go_wp2
  go_ret
  exact ⟨by rw [show sV [hx q, hx r] = .string (⟨#[hx q]⟩ ++ ⟨#[hx r]⟩) from congrArg Value.string (str_app [hx q] [hx r]).symm]; rfl, (Kept.refl w).drew⟩
end Go.Proofs.YtjlpkgipdkjfhaaGreatDoor.Bk.Qp
