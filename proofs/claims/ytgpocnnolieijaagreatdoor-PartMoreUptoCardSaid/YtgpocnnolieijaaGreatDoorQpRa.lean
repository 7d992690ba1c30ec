/- The document's own answers of layer qp: plain bytes, digits. -/
import Derived.Test.YtgpocnnolieijaaGreatDoorMgN
import Derived.Deep.QuietTactic
import Derived.BigQuiet
set_option linter.unusedSimpArgs false
set_option linter.unusedVariables false
namespace Go.Proofs.YtgpocnnolieijaaGreatDoor.Qp
open Go.ChangeShapes Go.WideShapes Go.ChangeAt Go.RowKit
set_option maxRecDepth 100000 in
set_option maxHeartbeats 1000000 in
theorem rplain_any (v : Value) (l : B) (i : Nat) (c : UInt8) (w : World) (hR : BRd v l w) (hc : l[i]? = some c) (hl : l.length ≤ maxLen) : Calls Tryz.prog 36 #[v, iV i] w fun e w' => e = .returned (.bool (pln c (l.drop (i + 1)))) ∧ w' = w := by
  unfold maxLen at hl
  have hi := (List.getElem?_eq_some_iff.1 hc).1
  obtain ⟨g, o, cp, hv, hcp, c0⟩ := hR.at hc
  have HR := Lib.hid hR
  clear hR
  subst hv
  have hiI : (i : Int) < l.length := by omega
  by_cases h1 : isB c = true
  · have HP := Lib.hid (show pln c (l.drop (i + 1)) = on (l.drop (i + 1)) by unfold pln; rw [if_pos h1])
    have hb : (c.toNat : Int) = 32 ∨ (c.toNat : Int) = 9 := by unfold isB at h1; have := of_decide_eq_true h1; omega
    by_cases h2 : (i : Int) + 1 < l.length
    · obtain ⟨d, hd⟩ : ∃ d, l[i + 1]? = some d := ⟨_, List.getElem?_eq_getElem (by omega)⟩
      obtain ⟨g2, o2, cp2, hv2, _, c1⟩ := HR.out.at hd
      cases hv2
      have HO := Lib.hid (HP.out.trans (on_some hd))
      clear HP hd h1 HR
      rcases hb with h | h
      · rw [h] at c0
        go_enter Tryz.func36, Tryz.ntmps36
        go_wp2
        go_ret
        exact ⟨eb_ret (by rw [HO.out]; exact Bool.eq_iff_iff.2 (by simp; omega)), rfl⟩
      · rw [h] at c0
        go_enter Tryz.func36, Tryz.ntmps36
        go_wp2
        go_ret
        exact ⟨eb_ret (by rw [HO.out]; exact Bool.eq_iff_iff.2 (by simp; omega)), rfl⟩
    · have HO := Lib.hid (HP.out.trans (on_none (by omega)))
      clear HP h1 HR
      rcases hb with h | h
      · rw [h] at c0
        go_enter Tryz.func36, Tryz.ntmps36
        go_wp2
        go_ret
        exact ⟨eb_ret (by rw [HO.out]), rfl⟩
      · rw [h] at c0
        go_enter Tryz.func36, Tryz.ntmps36
        go_wp2
        go_ret
        exact ⟨eb_ret (by rw [HO.out]), rfl⟩
  · have HP := Lib.hid (show pln c (l.drop (i + 1)) = (isS c && decide (¬ c.toNat = 61)) by unfold pln; rw [if_neg h1])
    have b1 : ((c.toNat : Int) == 32) = false := beq_eq_false_iff_ne.2 (fun e => h1 (by unfold isB; exact decide_eq_true (by omega)))
    have b2 : ((c.toNat : Int) == 9) = false := beq_eq_false_iff_ne.2 (fun e => h1 (by unfold isB; exact decide_eq_true (by omega)))
    clear h1 HR
    by_cases h3 : 33 ≤ (c.toNat : Int)
    · by_cases h4 : (c.toNat : Int) ≤ 126
      · have HO := Lib.hid (HP.out.trans (show (isS c && decide (¬ c.toNat = 61)) = decide (¬ c.toNat = 61) by rw [show isS c = true by unfold isS; exact decide_eq_true (by omega)]; rfl))
        go_enter Tryz.func36, Tryz.ntmps36
        go_wp2
        go_ret
        exact ⟨eb_ret (by rw [HO.out]; exact Bool.eq_iff_iff.2 (by simp; omega)), rfl⟩
      · have HO := Lib.hid (HP.out.trans (show (isS c && decide (¬ c.toNat = 61)) = false by rw [show isS c = false by unfold isS; exact decide_eq_false (by omega)]; rfl))
        go_enter Tryz.func36, Tryz.ntmps36
        go_wp2
        go_ret
        exact ⟨eb_ret (by rw [HO.out]), rfl⟩
    · have HO := Lib.hid (HP.out.trans (show (isS c && decide (¬ c.toNat = 61)) = false by rw [show isS c = false by unfold isS; exact decide_eq_false (by omega)]; rfl))
      go_enter Tryz.func36, Tryz.ntmps36
      go_wp2
      go_ret
      exact ⟨eb_ret (by rw [HO.out]), rfl⟩
/-- a digit's number, or -1 -/
def dgI (c : UInt8) : Int := match dg c with
  | some d => d
  | none => -1
theorem ei_ret {a b : Int} (h : a = b) : Ending.returned (.int .i64 a) = .returned (.int .i64 b) := by rw [h]
set_option maxRecDepth 100000 in
set_option maxHeartbeats 1000000 in
theorem digit_any (c : UInt8) (w : World) : Calls Tryz.prog 63 #[.int .u8 c.toNat] w fun e w' => e = .returned (iV (dgI c)) ∧ w' = w := by
  have hlt := c.toNat_lt
  rcases (show c.toNat < 48 ∨ (48 ≤ c.toNat ∧ c.toNat ≤ 57) ∨ (58 ≤ c.toNat ∧ c.toNat ≤ 64) ∨ (65 ≤ c.toNat ∧ c.toNat ≤ 70) ∨ (71 ≤ c.toNat ∧ c.toNat ≤ 96) ∨ (97 ≤ c.toNat ∧ c.toNat ≤ 102) ∨ 103 ≤ c.toNat by omega) with h | h | h | h | h | h | h
  · have HV := Lib.hid (show (-1 : Int) = dgI c by unfold dgI dg; rw [if_neg (by omega), if_neg (by omega), if_neg (by omega)])
    have a48 : ¬ 48 ≤ (c.toNat : Int) := by omega
    have a65 : ¬ 65 ≤ (c.toNat : Int) := by omega
    have a97 : ¬ 97 ≤ (c.toNat : Int) := by omega
    have b57 : (c.toNat : Int) ≤ 57 := by omega
    have b70 : (c.toNat : Int) ≤ 70 := by omega
    have b102 : (c.toNat : Int) ≤ 102 := by omega
    go_enter Tryz.func63, Tryz.ntmps63
    go_wp2
    go_ret
    exact ⟨ei_ret HV.out, rfl⟩
  · have HV := Lib.hid (show (c.toNat : Int) - 48 = dgI c by unfold dgI dg; rw [if_pos (by omega)]; show _ = ((c.toNat - 48 : Nat) : Int); omega)
    have a48 : 48 ≤ (c.toNat : Int) := by omega
    have a65 : ¬ 65 ≤ (c.toNat : Int) := by omega
    have a97 : ¬ 97 ≤ (c.toNat : Int) := by omega
    have b57 : (c.toNat : Int) ≤ 57 := by omega
    have b70 : (c.toNat : Int) ≤ 70 := by omega
    have b102 : (c.toNat : Int) ≤ 102 := by omega
    go_enter Tryz.func63, Tryz.ntmps63
    go_wp2
    go_ret
    exact ⟨ei_ret HV.out, rfl⟩
  · have HV := Lib.hid (show (-1 : Int) = dgI c by unfold dgI dg; rw [if_neg (by omega), if_neg (by omega), if_neg (by omega)])
    have a48 : 48 ≤ (c.toNat : Int) := by omega
    have a65 : ¬ 65 ≤ (c.toNat : Int) := by omega
    have a97 : ¬ 97 ≤ (c.toNat : Int) := by omega
    have b57 : ¬ (c.toNat : Int) ≤ 57 := by omega
    have b70 : (c.toNat : Int) ≤ 70 := by omega
    have b102 : (c.toNat : Int) ≤ 102 := by omega
    go_enter Tryz.func63, Tryz.ntmps63
    go_wp2
    go_ret
    exact ⟨ei_ret HV.out, rfl⟩
  · have HV := Lib.hid (show (c.toNat : Int) - 65 + 10 = dgI c by unfold dgI dg; rw [if_neg (by omega), if_pos (by omega)]; show _ = ((c.toNat - 55 : Nat) : Int); omega)
    have a48 : 48 ≤ (c.toNat : Int) := by omega
    have a65 : 65 ≤ (c.toNat : Int) := by omega
    have a97 : ¬ 97 ≤ (c.toNat : Int) := by omega
    have b57 : ¬ (c.toNat : Int) ≤ 57 := by omega
    have b70 : (c.toNat : Int) ≤ 70 := by omega
    have b102 : (c.toNat : Int) ≤ 102 := by omega
    go_enter Tryz.func63, Tryz.ntmps63
    go_wp2
    go_ret
    exact ⟨ei_ret HV.out, rfl⟩
  · have HV := Lib.hid (show (-1 : Int) = dgI c by unfold dgI dg; rw [if_neg (by omega), if_neg (by omega), if_neg (by omega)])
    have a48 : 48 ≤ (c.toNat : Int) := by omega
    have a65 : 65 ≤ (c.toNat : Int) := by omega
    have a97 : ¬ 97 ≤ (c.toNat : Int) := by omega
    have b57 : ¬ (c.toNat : Int) ≤ 57 := by omega
    have b70 : ¬ (c.toNat : Int) ≤ 70 := by omega
    have b102 : (c.toNat : Int) ≤ 102 := by omega
    go_enter Tryz.func63, Tryz.ntmps63
    go_wp2
    go_ret
    exact ⟨ei_ret HV.out, rfl⟩
  · have HV := Lib.hid (show (c.toNat : Int) - 97 + 10 = dgI c by unfold dgI dg; rw [if_neg (by omega), if_neg (by omega), if_pos (by omega)]; show _ = ((c.toNat - 87 : Nat) : Int); omega)
    have a48 : 48 ≤ (c.toNat : Int) := by omega
    have a65 : 65 ≤ (c.toNat : Int) := by omega
    have a97 : 97 ≤ (c.toNat : Int) := by omega
    have b57 : ¬ (c.toNat : Int) ≤ 57 := by omega
    have b70 : ¬ (c.toNat : Int) ≤ 70 := by omega
    have b102 : (c.toNat : Int) ≤ 102 := by omega
    go_enter Tryz.func63, Tryz.ntmps63
    go_wp2
    go_ret
    exact ⟨ei_ret HV.out, rfl⟩
  · have HV := Lib.hid (show (-1 : Int) = dgI c by unfold dgI dg; rw [if_neg (by omega), if_neg (by omega), if_neg (by omega)])
    have a48 : 48 ≤ (c.toNat : Int) := by omega
    have a65 : 65 ≤ (c.toNat : Int) := by omega
    have a97 : 97 ≤ (c.toNat : Int) := by omega
    have b57 : ¬ (c.toNat : Int) ≤ 57 := by omega
    have b70 : ¬ (c.toNat : Int) ≤ 70 := by omega
    have b102 : ¬ (c.toNat : Int) ≤ 102 := by omega
    go_enter Tryz.func63, Tryz.ntmps63
    go_wp2
    go_ret
    exact ⟨ei_ret HV.out, rfl⟩
end Go.Proofs.YtgpocnnolieijaaGreatDoor.Qp
