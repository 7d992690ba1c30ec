/- Any text without marks, and any text wrapped, is what the document says. -/
import Derived.Test.YtpkbcomdkamglaaGreatDoorPlAw
import Derived.Test.YtpkbcomdkamglaaGreatDoorPlRw
set_option linter.unusedSimpArgs false
set_option linter.unusedVariables false
namespace Go.Proofs.YtpkbcomdkamglaaGreatDoor.Pl
open Go.ChangeShapes Go.WideShapes Go.ChangeAt Go.RowKit
open En
theorem wrp_len (most : Int) (l : B) (hl : l.length ≤ 1000) : (wrp most l).length ≤ 1003002 := by
  unfold wrp
  split
  · simp
  · have hwl : ∀ t ∈ splt 10 l, t.length ≤ 1000 := fun t ht => by have := (splt_mem l t ht).2; omega
    have h1 := flat_bd (fun x => fil most (wds x) []) 1002 (splt 10 l) (fun t ht => by
      have := hwl t ht
      have := wds_len t
      have := fil_len most (wds t) []
      omega)
    have h2 := splt_len 10 l
    have q1 : (splt 10 l).length * 1002 ≤ 1001 * 1002 := Nat.mul_le_mul_right _ (by omega)
    exact Nat.le_trans h1 (Nat.le_trans q1 (by decide))
set_option maxRecDepth 100000 in
set_option maxHeartbeats 4000000 in
theorem tells11_walk (l : B) (most : Int) (w : World) (hz : l.length ≤ maxLen) (n1 : -9223372036854775808 ≤ most) (n2 : most ≤ 9223372036854775807) (hE : EnvP w) : Calls Tryz.prog 3 #[.string ⟨l.toArray⟩, .int .i64 most] w fun e w' => e = .returned (.bool true) ∧ Kept w w' := by
  have HE := Lib.hid hE
  unfold maxLen at hz
  clear hE
  go_enter Tryz.func3, Tryz.ntmps3
  go_wp2_with fail
  refine (awake11_any _ HE.out).mono ?_
  rintro e w1 ⟨rfl, k1⟩
  by_cases hl : l.length ≤ 1000
  · have hlI : ¬ (1000 : Int) < l.length := by omega
    have hwl := wrp_len most l hl
    have HW := Lib.hid (fun w hE => wrap_any l most w hE (by omega))
    have HR := Lib.hid (fun w => rwrap_any l most w hl)
    have HO := Lib.hid (fun w hE => of_any l w hE (by omega))
    have HP := Lib.hid (fun w => rof_any l w (by omega))
    generalize wrp most l = ls at *
    generalize ofP l = t at *
    go_wp2_with fail
    refine (HW.out _ (HE.out.kept k1).env).mono ?_
    rintro e w2 ⟨va, rfl, hva, k2⟩
    have K2 := k1.trans k2
    go_wp2_with fail
    refine (HR.out _).mono ?_
    rintro e w3 ⟨vb, rfl, hvb, k3⟩
    have hva3 := OwnS.kept (show OwnS w1.heap.size va ls w2 from hva) k3
    have K3 := K2.trans k3
    clear K2 k2 k3 k1
    go_wp2_with fail
    refine (rsame_any va vb ls ls w1.heap.size w2.heap.size _ hva3 hvb (by omega) (by omega)).mono ?_
    rintro e w4 ⟨rfl, k4⟩
    have K4 := K3.trans k4
    clear K3 k4 hva hvb hva3
    rw [beq_self_eq_true]
    go_wp2_with fail
    refine (HO.out _ (HE.out.kept K4)).mono ?_
    rintro e w5 ⟨rfl, k5⟩
    go_wp2_with fail
    refine (HP.out _).mono ?_
    rintro e w6 ⟨rfl, k6⟩
    have K6 := (K4.trans k5).trans k6
    go_wp2
    go_ret
    exact ⟨by simp, K6⟩
  · have hlI : (1000 : Int) < l.length := by omega
    go_wp2
    go_ret
    exact ⟨rfl, k1⟩
end Go.Proofs.YtpkbcomdkamglaaGreatDoor.Pl
