/- The document's own answers of layer ent: numbers, and their signs. -/
import Derived.Test.YtpkbcomdkamglaaGreatDoorEnRefB
set_option linter.unusedSimpArgs false
set_option linter.unusedVariables false
namespace Go.Proofs.YtpkbcomdkamglaaGreatDoor
open Go.ChangeShapes Go.WideShapes Go.ChangeAt Go.RowKit
open En
theorem ei_ret {k : IntKind} {a b : Int} (h : a = b) : Ending.returned (.int k a) = .returned (.int k b) := by rw [h]
set_option maxHeartbeats 1000000 in
theorem rdigit_any (c : UInt8) (w : World) : Calls Tryz.prog 83 #[.int .u8 c.toNat] w fun e w' => e = .returned (.int .i64 (dg c)) ∧ w = w' := by
  have hb := c.toNat_lt
  rcases (show c.toNat < 48 ∨ (48 ≤ c.toNat ∧ c.toNat ≤ 57) ∨ (58 ≤ c.toNat ∧ c.toNat ≤ 64) ∨ (65 ≤ c.toNat ∧ c.toNat ≤ 70) ∨ (71 ≤ c.toNat ∧ c.toNat ≤ 96) ∨ (97 ≤ c.toNat ∧ c.toNat ≤ 102) ∨ 103 ≤ c.toNat by omega) with h | h | h | h | h | h | h
  · have HS := Lib.hid (show dg c = 99 by unfold dg; repeat (first | rw [if_pos (by omega)] | rw [if_neg (by omega)]))
    have f0 : (c.toNat : Int) < 48 := by omega
    have f1 : (c.toNat : Int) < 97 := by omega
    have f2 : (c.toNat : Int) < 65 := by omega
    have f3 : (c.toNat : Int) ≤ 57 := by omega
    have f4 : (c.toNat : Int) ≤ 102 := by omega
    have f5 : (c.toNat : Int) ≤ 70 := by omega
    clear h
    go_enter Tryz.func83, Tryz.ntmps83
    go_wp2
    go_ret
    exact ⟨ei_ret (by rw [HS.out]; try omega), rfl⟩
  · have HS := Lib.hid (show dg c = (c.toNat : Int) - 48 by unfold dg; repeat (first | rw [if_pos (by omega)] | rw [if_neg (by omega)]))
    have f0 : (48 : Int) ≤ (c.toNat : Int) := by omega
    have f1 : (c.toNat : Int) < 97 := by omega
    have f2 : (c.toNat : Int) < 65 := by omega
    have f3 : (c.toNat : Int) ≤ 57 := by omega
    have f4 : (c.toNat : Int) ≤ 102 := by omega
    have f5 : (c.toNat : Int) ≤ 70 := by omega
    have g3 : ((c.toNat : Int) - 48) % 256 = (c.toNat : Int) - 48 := by omega
    clear h
    go_enter Tryz.func83, Tryz.ntmps83
    go_wp2
    go_ret
    exact ⟨ei_ret (by rw [HS.out]; try omega), rfl⟩
  · have HS := Lib.hid (show dg c = 99 by unfold dg; repeat (first | rw [if_pos (by omega)] | rw [if_neg (by omega)]))
    have f0 : (48 : Int) ≤ (c.toNat : Int) := by omega
    have f1 : (c.toNat : Int) < 97 := by omega
    have f2 : (c.toNat : Int) < 65 := by omega
    have f3 : (57 : Int) < (c.toNat : Int) := by omega
    have f4 : (c.toNat : Int) ≤ 102 := by omega
    have f5 : (c.toNat : Int) ≤ 70 := by omega
    clear h
    go_enter Tryz.func83, Tryz.ntmps83
    go_wp2
    go_ret
    exact ⟨ei_ret (by rw [HS.out]; try omega), rfl⟩
  · have HS := Lib.hid (show dg c = (c.toNat : Int) - 55 by unfold dg; repeat (first | rw [if_pos (by omega)] | rw [if_neg (by omega)]))
    have f0 : (48 : Int) ≤ (c.toNat : Int) := by omega
    have f1 : (c.toNat : Int) < 97 := by omega
    have f2 : (65 : Int) ≤ (c.toNat : Int) := by omega
    have f3 : (57 : Int) < (c.toNat : Int) := by omega
    have f4 : (c.toNat : Int) ≤ 102 := by omega
    have f5 : (c.toNat : Int) ≤ 70 := by omega
    have g3 : ((c.toNat : Int) - 65) % 256 = (c.toNat : Int) - 65 := by omega
    clear h
    go_enter Tryz.func83, Tryz.ntmps83
    go_wp2
    go_ret
    exact ⟨ei_ret (by rw [HS.out]; try omega), rfl⟩
  · have HS := Lib.hid (show dg c = 99 by unfold dg; repeat (first | rw [if_pos (by omega)] | rw [if_neg (by omega)]))
    have f0 : (48 : Int) ≤ (c.toNat : Int) := by omega
    have f1 : (c.toNat : Int) < 97 := by omega
    have f2 : (65 : Int) ≤ (c.toNat : Int) := by omega
    have f3 : (57 : Int) < (c.toNat : Int) := by omega
    have f4 : (c.toNat : Int) ≤ 102 := by omega
    have f5 : (70 : Int) < (c.toNat : Int) := by omega
    clear h
    go_enter Tryz.func83, Tryz.ntmps83
    go_wp2
    go_ret
    exact ⟨ei_ret (by rw [HS.out]; try omega), rfl⟩
  · have HS := Lib.hid (show dg c = (c.toNat : Int) - 87 by unfold dg; repeat (first | rw [if_pos (by omega)] | rw [if_neg (by omega)]))
    have f0 : (48 : Int) ≤ (c.toNat : Int) := by omega
    have f1 : (97 : Int) ≤ (c.toNat : Int) := by omega
    have f2 : (65 : Int) ≤ (c.toNat : Int) := by omega
    have f3 : (57 : Int) < (c.toNat : Int) := by omega
    have f4 : (c.toNat : Int) ≤ 102 := by omega
    have f5 : (70 : Int) < (c.toNat : Int) := by omega
    have g3 : ((c.toNat : Int) - 97) % 256 = (c.toNat : Int) - 97 := by omega
    clear h
    go_enter Tryz.func83, Tryz.ntmps83
    go_wp2
    go_ret
    exact ⟨ei_ret (by rw [HS.out]; try omega), rfl⟩
  · have HS := Lib.hid (show dg c = 99 by unfold dg; repeat (first | rw [if_pos (by omega)] | rw [if_neg (by omega)]))
    have f0 : (48 : Int) ≤ (c.toNat : Int) := by omega
    have f1 : (97 : Int) ≤ (c.toNat : Int) := by omega
    have f2 : (65 : Int) ≤ (c.toNat : Int) := by omega
    have f3 : (57 : Int) < (c.toNat : Int) := by omega
    have f4 : (102 : Int) < (c.toNat : Int) := by omega
    have f5 : (70 : Int) < (c.toNat : Int) := by omega
    clear h
    go_enter Tryz.func83, Tryz.ntmps83
    go_wp2
    go_ret
    exact ⟨ei_ret (by rw [HS.out]; try omega), rfl⟩
/-- a number as the document reckons it: none above all that may be -/
def cap (m : Int) : Int := if 1114111 < m then 1114112 else m
def nmV (base : Int) (l : List UInt8) : Int := match num base l with | none => -1 | some m => cap m
theorem cap_bd {m : Int} (h : 0 ≤ m) : 0 ≤ cap m ∧ cap m ≤ 1114112 := by unfold cap; split <;> omega
theorem cap_step {base m d : Int} (hb : base = 10 ∨ base = 16) (h : 0 ≤ m) (hd : 0 ≤ d) : cap (base * cap m + d) = cap (base * m + d) := by
  unfold cap
  rcases hb with rfl | rfl <;> by_cases q : 1114111 < m
  · rw [if_pos q, if_pos (by omega), if_pos (by omega)]
  · rw [if_neg q]
  · rw [if_pos q, if_pos (by omega), if_pos (by omega)]
  · rw [if_neg q]
set_option maxRecDepth 100000 in
set_option maxHeartbeats 2000000 in
theorem rnumber_any (l : List UInt8) (base : Int) (w : World) (hb : base = 10 ∨ base = 16) (hl : l.length ≤ 1000000) : Calls Tryz.prog 71 #[.string ⟨l.toArray⟩, .int .i64 base] w fun e w' => e = .returned (.int .i64 (nmV base l)) ∧ w = w' := by
  have HV := Lib.hid (show nmV base l = match num base l with | none => -1 | some m => cap m from rfl)
  have hbb : 10 ≤ base ∧ base ≤ 16 := by omega
  have HB := Lib.hid hb
  clear hb
  go_enter Tryz.func71, Tryz.ntmps71
  go_wp2_with fail
  go_loopw [5, 6, 7] (fun a i _ y => y = w ∧ ∃ (k : Nat) (m : Int), k ≤ l.length ∧ i = .int .i64 k ∧ 0 ≤ m ∧ a = .int .i64 (cap m) ∧ numF base 0 l = numF base m (l.drop k)) (fun _ i _ _ => l.length - (intOf i).toNat)
  case atStart => exact ⟨rfl, 0, 0, Nat.zero_le _, rfl, Int.le_refl _, rfl, rfl⟩
  case round =>
    obtain ⟨rfl, k, m, hk, rfl, hm, rfl, ht⟩ := hrel
    have HT := Lib.hid ht
    clear ht
    obtain ⟨m1, m2⟩ := cap_bd hm
    by_cases hlt : k < l.length
    · obtain ⟨a, ha⟩ : ∃ a, l[k]? = some a := ⟨_, List.getElem?_eq_getElem hlt⟩
      have HD := Lib.hid (drop_at ha)
      have hat := byte_at l k a ha
      obtain ⟨d1, d2⟩ := dg_bd a
      have HC := Lib.hid (cap_step HB.out hm d1)
      have HN := Lib.hid (show numF base 0 l = if dg a < base then numF base (base * m + dg a) (l.drop (k + 1)) else none by rw [HT.out, HD.out, numF])
      have hne : l ≠ [] := fun e => by rw [e] at ha; cases ha
      have HNE := Lib.hid hne
      clear ha HT HD hne
      go_wp2_with fail
      refine (rdigit_any a _).mono ?_
      rintro e x2 ⟨rfl, rfl⟩
      generalize hdg : dg a = d at *
      clear hdg
      by_cases hge : base ≤ d
      · have HR := Lib.hid (show nmV base l = -1 by rw [HV.out]; unfold num; rw [if_neg HNE.out, HN.out, if_neg (by omega)])
        go_wp2
        go_ret
        exact ⟨ei_ret (by rw [HR.out]), rfl⟩
      · have HS := Lib.hid (show numF base 0 l = numF base (base * m + d) (l.drop (k + 1)) by rw [HN.out, if_pos (by omega)])
        have hmm : 0 ≤ base * m + d := Int.add_nonneg (Int.mul_nonneg (by omega) hm) d1
        have HMM := Lib.hid hmm
        generalize hcm : cap m = cm at *
        have hp1 : 0 ≤ base * cm := Int.mul_nonneg (by omega) m1
        have hp2 : base * cm ≤ 16 * 1114112 := Int.le_trans (Int.mul_le_mul_of_nonneg_right (show base ≤ 16 by omega) m1) (by omega)
        have HC2 := Lib.hid (show cap (base * m + d) = if 1114111 < base * cm + d then 1114112 else base * cm + d by rw [← HC.out]; rfl)
        clear hmm hcm HC HN
        generalize hpm : base * m + d = mm at *
        clear hpm
        have hpc : base * cm + d ≤ 20000000 := by omega
        by_cases hbig : 1114111 < base * cm + d
        · have HE := Lib.hid (show cap mm = 1114112 by rw [HC2.out, if_pos hbig])
          go_wp2
          go_roundw
          case rel => exact ⟨trivial, k + 1, mm, hlt, by go_num, HMM.out, by rw [HE.out], HS.out⟩
          case measure => simp [intOf]; omega
        · have HE := Lib.hid (show cap mm = base * cm + d by rw [HC2.out, if_neg hbig])
          go_wp2
          go_roundw
          case rel => exact ⟨trivial, k + 1, mm, hlt, by go_num, HMM.out, by rw [HE.out], HS.out⟩
          case measure => simp [intOf]; omega
    · obtain rfl : k = l.length := by omega
      by_cases h0 : l.length = 0
      · obtain rfl : l = [] := List.length_eq_zero_iff.1 h0
        have HR := Lib.hid (show nmV base [] = -1 from rfl)
        go_wp2
        go_ret
        exact ⟨ei_ret (by rw [HR.out]), rfl⟩
      · have HR := Lib.hid (show nmV base l = cap m by
          rw [HV.out]; unfold num
          rw [if_neg (fun e => h0 (by rw [e]; rfl)), HT.out, List.drop_eq_nil_of_le (Nat.le_refl _)]; rfl)
        have h1 : ¬ (l.length : Int) = 0 := by omega
        have h2 : ((l.length : Int) == 0) = false := beq_eq_false_iff_ne.2 h1
        go_wp2
        go_ret
        exact ⟨ei_ret (by rw [HR.out]), rfl⟩
end Go.Proofs.YtpkbcomdkamglaaGreatDoor
