import Derived.Test.YtjlpkgipdkjfhaaGreatDoorQa
import Derived.Deep.QuietTactic
import Derived.BigQuiet
set_option linter.unusedSimpArgs false
set_option linter.unusedVariables false
namespace Go.Proofs.YtjlpkgipdkjfhaaGreatDoor.Bk.Qp
open Go.ChangeShapes Go.WideShapes Go.ChangeAt Go.RowKit
set_option maxRecDepth 100000 in
set_option maxHeartbeats 1000000 in
theorem rplain_any (v : Value) (l : B) (i : Nat) (c : UInt8) (w : World) (hR : BRd v l w) (hc : l[i]? = some c) (hl : l.length ≤ maxLen) : Calls Tryz.prog 107 #[v, iV i] w fun e w' => e = .returned (.bool (pln c (l.drop (i + 1)))) ∧ w' = w := by
  unfold maxLen at hl
  have hi := (List.getElem?_eq_some_iff.1 hc).1
  obtain ⟨g, o, cp, hv, hcp, c0⟩ := hR.at hc
  have HR := Lib.hid hR
  clear hR
  subst hv
  have hiI : (i : Int) < l.length := by omega
  by_cases h1 : isB c = true
  · have HP := Lib.hid (show pln c (l.drop (i + 1)) = on (l.drop (i + 1)) by unfold pln; rw [if_pos h1])
    have hb : (c.toNat : Int) = 32 ∨ (c.toNat : Int) = 9 := by unfold isB at h1; have := of_decide_eq_true h1; omega
    by_cases h2 : (i : Int) + 1 < l.length
    · obtain ⟨d, hd⟩ : ∃ d, l[i + 1]? = some d := ⟨_, List.getElem?_eq_getElem (by omega)⟩
      obtain ⟨g2, o2, cp2, hv2, _, c1⟩ := HR.out.at hd
      cases hv2
      have HO := Lib.hid (HP.out.trans (on_some hd))
      clear HP hd h1 HR
      rcases hb with h | h
      · rw [h] at c0
        go_enter Tryz.func107, Tryz.ntmps107
        go_wp2
        go_ret
        exact ⟨eb_ret (by rw [HO.out]; exact Bool.eq_iff_iff.2 (by simp; omega)), rfl⟩
      · rw [h] at c0
        go_enter Tryz.func107, Tryz.ntmps107
        go_wp2
        go_ret
        exact ⟨eb_ret (by rw [HO.out]; exact Bool.eq_iff_iff.2 (by simp; omega)), rfl⟩
    · have HO := Lib.hid (HP.out.trans (on_none (by omega)))
      clear HP h1 HR
      rcases hb with h | h
      · rw [h] at c0
        go_enter Tryz.func107, Tryz.ntmps107
        go_wp2
        go_ret
        exact ⟨eb_ret (by rw [HO.out]), rfl⟩
      · rw [h] at c0
        go_enter Tryz.func107, Tryz.ntmps107
        go_wp2
        go_ret
        exact ⟨eb_ret (by rw [HO.out]), rfl⟩
  · have HP := Lib.hid (show pln c (l.drop (i + 1)) = (isS c && decide (¬ c.toNat = 61)) by unfold pln; rw [if_neg h1])
    have b1 : ((c.toNat : Int) == 32) = false := beq_eq_false_iff_ne.2 (fun e => h1 (by unfold isB; exact decide_eq_true (by omega)))
    have b2 : ((c.toNat : Int) == 9) = false := beq_eq_false_iff_ne.2 (fun e => h1 (by unfold isB; exact decide_eq_true (by omega)))
    clear h1 HR
    by_cases h3 : 33 ≤ (c.toNat : Int)
    · by_cases h4 : (c.toNat : Int) ≤ 126
      · have HO := Lib.hid (HP.out.trans (show (isS c && decide (¬ c.toNat = 61)) = decide (¬ c.toNat = 61) by rw [show isS c = true by unfold isS; exact decide_eq_true (by omega)]; rfl))
        go_enter Tryz.func107, Tryz.ntmps107
        go_wp2
        go_ret
        exact ⟨eb_ret (by rw [HO.out]; exact Bool.eq_iff_iff.2 (by simp; omega)), rfl⟩
      · have HO := Lib.hid (HP.out.trans (show (isS c && decide (¬ c.toNat = 61)) = false by rw [show isS c = false by unfold isS; exact decide_eq_false (by omega)]; rfl))
        go_enter Tryz.func107, Tryz.ntmps107
        go_wp2
        go_ret
        exact ⟨eb_ret (by rw [HO.out]), rfl⟩
    · have HO := Lib.hid (HP.out.trans (show (isS c && decide (¬ c.toNat = 61)) = false by rw [show isS c = false by unfold isS; exact decide_eq_false (by omega)]; rfl))
      go_enter Tryz.func107, Tryz.ntmps107
      go_wp2
      go_ret
      exact ⟨eb_ret (by rw [HO.out]), rfl⟩
theorem ei_ret {a b : Int} (h : a = b) : Ending.returned (.int .i64 a) = .returned (.int .i64 b) := by rw [h]
end Go.Proofs.YtjlpkgipdkjfhaaGreatDoor.Bk.Qp
