/- Several texts of this seat, one behind the other. -/
import Derived.Test.YtknggeplnffegaaGreatDoorEnBuf
import Derived.Test.YtknggeplnffegaaGreatDoorEnC
/- The document's own answers of layer ent: blanks; a text encoded. -/
set_option linter.unusedVariables false
namespace Go.Proofs.YtknggeplnffegaaGreatDoor
open Go.ChangeShapes Go.WideShapes Go.ChangeAt Go.RowKit
open En
theorem rspace_any (c : UInt8) (w : World) : Calls Tryz.prog 54 #[.int .u8 c.toNat] w fun e w' => e = .returned (.bool (spB c)) ∧ w = w' := by
  go_enter Tryz.func54, Tryz.ntmps54
  have h9 : ((c.toNat : Int) == 9) = (c.toNat == 9) := by rw [Bool.eq_iff_iff]; simp; omega
  have h10 : ((c.toNat : Int) == 10) = (c.toNat == 10) := by rw [Bool.eq_iff_iff]; simp; omega
  have h13 : ((c.toNat : Int) == 13) = (c.toNat == 13) := by rw [Bool.eq_iff_iff]; simp; omega
  have h32 : ((c.toNat : Int) == 32) = (c.toNat == 32) := by rw [Bool.eq_iff_iff]; simp; omega
  have HS := Lib.hid (show spB c = (((c.toNat : Int) == 9) || ((c.toNat : Int) == 10) || ((c.toNat : Int) == 13) || ((c.toNat : Int) == 32)) by rw [h9, h10, h13, h32]; rfl)
  clear h9 h10 h13 h32
  go_wp2
  all_goals
    go_ret
    exact ⟨eb_ret (by rw [HS.out]; try simp [*]), rfl⟩
theorem enc_take (l : List UInt8) (k : Nat) (a : UInt8) (h : l[k]? = some a) : enc (l.take (k + 1)) = enc (l.take k) ++ encC a := by
  rw [List.take_add_one, h]; simp [enc]
set_option maxRecDepth 100000 in
set_option maxHeartbeats 2000000 in
theorem rencode_any (l : List UInt8) (w : World) (hl : l.length ≤ 1000000) : Calls Tryz.prog 24 #[.string ⟨l.toArray⟩] w fun e w' => e = .returned (.string ⟨(enc l).toArray⟩) ∧ Kept w w' := by
  obtain ⟨i0, hi, hz0, hz1, hz2⟩ := info_parts info8
  go_enter Tryz.func24, Tryz.ntmps24
  go_wp2_with fail
  go_loopw [3, 4] (fun a i y => ∃ k : Nat, k ≤ l.length ∧ i = .int .i64 k ∧ OutBIn w.heap.size w (enc (l.take k)) a y) (fun _ i _ => l.length - (intOf i).toNat)
  case atStart => exact ⟨0, Nat.zero_le _, rfl, none, 0, rfl, OutB.nil _ _, Kept.refl _⟩
  case round =>
    obtain ⟨k, hk, rfl, ao, cap, rfl, ho, hkp⟩ := hrel
    have HO := Lib.hid ho; have HK := Lib.hid hkp
    clear ho hkp
    by_cases hlt : k < l.length
    · obtain ⟨a, ha⟩ : ∃ a, l[k]? = some a := ⟨_, List.getElem?_eq_getElem hlt⟩
      have HS := Lib.hid (enc_take l k a ha)
      have hat := byte_at l k a ha
      have hen := enc_len (l.take k)
      have hen2 : (l.take k).length ≤ 1000000 := by rw [List.length_take]; omega
      generalize enc (l.take k) = s at *
      clear ha
      by_cases g38 : (a.toNat : Int) = 38
      · have HE := Lib.hid (show encC a = [38, 97, 109, 112, 59] by rw [show a = 38 from u8_eq g38]; rfl)
        have gb : ((a.toNat : Int) == 38) = true := beq_iff_eq.2 g38
        clear g38
        go_wp2_with (at_builtin; refine Lib.wpList_append_own_string _ rfl _ _ 22 9 rfl w.heap.size 5 i0 Tryz.underlying22 Tryz.underlying9 hi hz0 hz1 hz2 _ _ _ rfl HO.out ⟨([38, 97, 109, 112, 59] : List UInt8).toArray⟩ rfl (by unfold maxLen; simp [ByteArray.size]; omega) (by simp [ByteArray.size]; omega) HK.out.size ?_; intro v' w7 hown' hgrow hnil)
        have HA := outB_str (Nat.le_refl _) HO.out HK.out hgrow hown'
        go_roundw
        case rel => exact ⟨k + 1, hlt, by go_num, by rw [HS.out, HE.out]; exact HA⟩
        case measure => simp [intOf]; omega
      have gb38 : ((a.toNat : Int) == 38) = false := beq_eq_false_iff_ne.2 g38
      by_cases g60 : (a.toNat : Int) = 60
      · have HE := Lib.hid (show encC a = [38, 108, 116, 59] by rw [show a = 60 from u8_eq g60]; rfl)
        have gb : ((a.toNat : Int) == 60) = true := beq_iff_eq.2 g60
        clear g60
        go_wp2_with (at_builtin; refine Lib.wpList_append_own_string _ rfl _ _ 22 9 rfl w.heap.size 5 i0 Tryz.underlying22 Tryz.underlying9 hi hz0 hz1 hz2 _ _ _ rfl HO.out ⟨([38, 108, 116, 59] : List UInt8).toArray⟩ rfl (by unfold maxLen; simp [ByteArray.size]; omega) (by simp [ByteArray.size]; omega) HK.out.size ?_; intro v' w7 hown' hgrow hnil)
        have HA := outB_str (Nat.le_refl _) HO.out HK.out hgrow hown'
        go_roundw
        case rel => exact ⟨k + 1, hlt, by go_num, by rw [HS.out, HE.out]; exact HA⟩
        case measure => simp [intOf]; omega
      have gb60 : ((a.toNat : Int) == 60) = false := beq_eq_false_iff_ne.2 g60
      by_cases g62 : (a.toNat : Int) = 62
      · have HE := Lib.hid (show encC a = [38, 103, 116, 59] by rw [show a = 62 from u8_eq g62]; rfl)
        have gb : ((a.toNat : Int) == 62) = true := beq_iff_eq.2 g62
        clear g62
        go_wp2_with (at_builtin; refine Lib.wpList_append_own_string _ rfl _ _ 22 9 rfl w.heap.size 5 i0 Tryz.underlying22 Tryz.underlying9 hi hz0 hz1 hz2 _ _ _ rfl HO.out ⟨([38, 103, 116, 59] : List UInt8).toArray⟩ rfl (by unfold maxLen; simp [ByteArray.size]; omega) (by simp [ByteArray.size]; omega) HK.out.size ?_; intro v' w7 hown' hgrow hnil)
        have HA := outB_str (Nat.le_refl _) HO.out HK.out hgrow hown'
        go_roundw
        case rel => exact ⟨k + 1, hlt, by go_num, by rw [HS.out, HE.out]; exact HA⟩
        case measure => simp [intOf]; omega
      have gb62 : ((a.toNat : Int) == 62) = false := beq_eq_false_iff_ne.2 g62
      by_cases g34 : (a.toNat : Int) = 34
      · have HE := Lib.hid (show encC a = [38, 113, 117, 111, 116, 59] by rw [show a = 34 from u8_eq g34]; rfl)
        have gb : ((a.toNat : Int) == 34) = true := beq_iff_eq.2 g34
        clear g34
        go_wp2_with (at_builtin; refine Lib.wpList_append_own_string _ rfl _ _ 22 9 rfl w.heap.size 5 i0 Tryz.underlying22 Tryz.underlying9 hi hz0 hz1 hz2 _ _ _ rfl HO.out ⟨([38, 113, 117, 111, 116, 59] : List UInt8).toArray⟩ rfl (by unfold maxLen; simp [ByteArray.size]; omega) (by simp [ByteArray.size]; omega) HK.out.size ?_; intro v' w7 hown' hgrow hnil)
        have HA := outB_str (Nat.le_refl _) HO.out HK.out hgrow hown'
        go_roundw
        case rel => exact ⟨k + 1, hlt, by go_num, by rw [HS.out, HE.out]; exact HA⟩
        case measure => simp [intOf]; omega
      have gb34 : ((a.toNat : Int) == 34) = false := beq_eq_false_iff_ne.2 g34
      have HE := Lib.hid (show encC a = [a] by unfold encC; rw [if_neg (u8_ne g38), if_neg (u8_ne g60), if_neg (u8_ne g62), if_neg (u8_ne g34)])
      clear g38 g60 g62 g34
      go_wp2_with (at_builtin; refine wpList_append_own _ rfl _ _ 22 rfl w.heap.size 5 i0 (.int .u8 0) 1 1 Tryz.underlying22 hi hz0 hz1 hz2 rfl (by decide) _ _ _ rfl (World.ownsRow.alloc HO.out _) ⟨wr.heap.size, 0, none⟩ 1 1 [.int .u8 (a.toNat : Int)] rfl rfl (cell_one_new _ _ _) (fun x hx => by simp at hx; subst hx; rfl) (by unfold maxLen; omega) (by omega) (by have := HK.out.size; simp; omega) ?_; intro v' w7 hown' hgrow hnil)
      have HA := outB_one (Nat.le_refl _) HO.out HK.out hgrow hown'
      go_roundw
      case rel => exact ⟨k + 1, hlt, by go_num, by rw [HS.out, HE.out]; exact HA⟩
      case measure => simp [intOf]; omega
    · obtain rfl : k = l.length := by omega
      rw [List.take_length] at HO
      have hcv := conv_out HO.out
      go_wp2
      go_ret
      exact ⟨rfl, HK.out⟩
end Go.Proofs.YtknggeplnffegaaGreatDoor
/- The document's own answers of layer ent: the words of a text. -/
set_option linter.unusedVariables false
namespace Go.Proofs.YtknggeplnffegaaGreatDoor
open Go.ChangeShapes Go.WideShapes Go.ChangeAt Go.RowKit
open En
theorem drop_at {l : List UInt8} {k : Nat} {a : UInt8} (h : l[k]? = some a) : l.drop k = a :: l.drop (k + 1) := by
  obtain ⟨hk, rfl⟩ := List.getElem?_eq_some_iff.1 h
  exact List.drop_eq_getElem_cons hk
theorem ne_emp (d : List UInt8) (a : UInt8) : (d ++ [a]).isEmpty = false := by cases d <;> rfl
end Go.Proofs.YtknggeplnffegaaGreatDoor
/- The document's own answers of layer ent: numbers, and their signs. -/
set_option linter.unusedVariables false
namespace Go.Proofs.YtknggeplnffegaaGreatDoor
open Go.ChangeShapes Go.WideShapes Go.ChangeAt Go.RowKit
open En
theorem ei_ret {k : IntKind} {a b : Int} (h : a = b) : Ending.returned (.int k a) = .returned (.int k b) := by rw [h]
set_option maxHeartbeats 1000000 in
theorem rdigit_any (c : UInt8) (w : World) : Calls Tryz.prog 108 #[.int .u8 c.toNat] w fun e w' => e = .returned (.int .i64 (dg c)) ∧ w = w' := by
  have hb := c.toNat_lt
  rcases (show c.toNat < 48 ∨ (48 ≤ c.toNat ∧ c.toNat ≤ 57) ∨ (58 ≤ c.toNat ∧ c.toNat ≤ 64) ∨ (65 ≤ c.toNat ∧ c.toNat ≤ 70) ∨ (71 ≤ c.toNat ∧ c.toNat ≤ 96) ∨ (97 ≤ c.toNat ∧ c.toNat ≤ 102) ∨ 103 ≤ c.toNat by omega) with h | h | h | h | h | h | h
  · have HS := Lib.hid (show dg c = 99 by unfold dg; repeat (first | rw [if_pos (by omega)] | rw [if_neg (by omega)]))
    have f0 : (c.toNat : Int) < 48 := by omega
    have f1 : (c.toNat : Int) < 97 := by omega
    have f2 : (c.toNat : Int) < 65 := by omega
    have f3 : (c.toNat : Int) ≤ 57 := by omega
    have f4 : (c.toNat : Int) ≤ 102 := by omega
    have f5 : (c.toNat : Int) ≤ 70 := by omega
    clear h
    go_enter Tryz.func108, Tryz.ntmps108
    go_wp2
    go_ret
    exact ⟨ei_ret (by rw [HS.out]; try omega), rfl⟩
  · have HS := Lib.hid (show dg c = (c.toNat : Int) - 48 by unfold dg; repeat (first | rw [if_pos (by omega)] | rw [if_neg (by omega)]))
    have f0 : (48 : Int) ≤ (c.toNat : Int) := by omega
    have f1 : (c.toNat : Int) < 97 := by omega
    have f2 : (c.toNat : Int) < 65 := by omega
    have f3 : (c.toNat : Int) ≤ 57 := by omega
    have f4 : (c.toNat : Int) ≤ 102 := by omega
    have f5 : (c.toNat : Int) ≤ 70 := by omega
    have g3 : ((c.toNat : Int) - 48) % 256 = (c.toNat : Int) - 48 := by omega
    clear h
    go_enter Tryz.func108, Tryz.ntmps108
    go_wp2
    go_ret
    exact ⟨ei_ret (by rw [HS.out]; try omega), rfl⟩
  · have HS := Lib.hid (show dg c = 99 by unfold dg; repeat (first | rw [if_pos (by omega)] | rw [if_neg (by omega)]))
    have f0 : (48 : Int) ≤ (c.toNat : Int) := by omega
    have f1 : (c.toNat : Int) < 97 := by omega
    have f2 : (c.toNat : Int) < 65 := by omega
    have f3 : (57 : Int) < (c.toNat : Int) := by omega
    have f4 : (c.toNat : Int) ≤ 102 := by omega
    have f5 : (c.toNat : Int) ≤ 70 := by omega
    clear h
    go_enter Tryz.func108, Tryz.ntmps108
    go_wp2
    go_ret
    exact ⟨ei_ret (by rw [HS.out]; try omega), rfl⟩
  · have HS := Lib.hid (show dg c = (c.toNat : Int) - 55 by unfold dg; repeat (first | rw [if_pos (by omega)] | rw [if_neg (by omega)]))
    have f0 : (48 : Int) ≤ (c.toNat : Int) := by omega
    have f1 : (c.toNat : Int) < 97 := by omega
    have f2 : (65 : Int) ≤ (c.toNat : Int) := by omega
    have f3 : (57 : Int) < (c.toNat : Int) := by omega
    have f4 : (c.toNat : Int) ≤ 102 := by omega
    have f5 : (c.toNat : Int) ≤ 70 := by omega
    have g3 : ((c.toNat : Int) - 65) % 256 = (c.toNat : Int) - 65 := by omega
    clear h
    go_enter Tryz.func108, Tryz.ntmps108
    go_wp2
    go_ret
    exact ⟨ei_ret (by rw [HS.out]; try omega), rfl⟩
  · have HS := Lib.hid (show dg c = 99 by unfold dg; repeat (first | rw [if_pos (by omega)] | rw [if_neg (by omega)]))
    have f0 : (48 : Int) ≤ (c.toNat : Int) := by omega
    have f1 : (c.toNat : Int) < 97 := by omega
    have f2 : (65 : Int) ≤ (c.toNat : Int) := by omega
    have f3 : (57 : Int) < (c.toNat : Int) := by omega
    have f4 : (c.toNat : Int) ≤ 102 := by omega
    have f5 : (70 : Int) < (c.toNat : Int) := by omega
    clear h
    go_enter Tryz.func108, Tryz.ntmps108
    go_wp2
    go_ret
    exact ⟨ei_ret (by rw [HS.out]; try omega), rfl⟩
  · have HS := Lib.hid (show dg c = (c.toNat : Int) - 87 by unfold dg; repeat (first | rw [if_pos (by omega)] | rw [if_neg (by omega)]))
    have f0 : (48 : Int) ≤ (c.toNat : Int) := by omega
    have f1 : (97 : Int) ≤ (c.toNat : Int) := by omega
    have f2 : (65 : Int) ≤ (c.toNat : Int) := by omega
    have f3 : (57 : Int) < (c.toNat : Int) := by omega
    have f4 : (c.toNat : Int) ≤ 102 := by omega
    have f5 : (70 : Int) < (c.toNat : Int) := by omega
    have g3 : ((c.toNat : Int) - 97) % 256 = (c.toNat : Int) - 97 := by omega
    clear h
    go_enter Tryz.func108, Tryz.ntmps108
    go_wp2
    go_ret
    exact ⟨ei_ret (by rw [HS.out]; try omega), rfl⟩
  · have HS := Lib.hid (show dg c = 99 by unfold dg; repeat (first | rw [if_pos (by omega)] | rw [if_neg (by omega)]))
    have f0 : (48 : Int) ≤ (c.toNat : Int) := by omega
    have f1 : (97 : Int) ≤ (c.toNat : Int) := by omega
    have f2 : (65 : Int) ≤ (c.toNat : Int) := by omega
    have f3 : (57 : Int) < (c.toNat : Int) := by omega
    have f4 : (102 : Int) < (c.toNat : Int) := by omega
    have f5 : (70 : Int) < (c.toNat : Int) := by omega
    clear h
    go_enter Tryz.func108, Tryz.ntmps108
    go_wp2
    go_ret
    exact ⟨ei_ret (by rw [HS.out]; try omega), rfl⟩
/-- a number as the document reckons it: none above all that may be -/
def cap (m : Int) : Int := if 1114111 < m then 1114112 else m
def nmV (base : Int) (l : List UInt8) : Int := match num base l with | none => -1 | some m => cap m
theorem cap_bd {m : Int} (h : 0 ≤ m) : 0 ≤ cap m ∧ cap m ≤ 1114112 := by unfold cap; split <;> omega
theorem cap_step {base m d : Int} (hb : base = 10 ∨ base = 16) (h : 0 ≤ m) (hd : 0 ≤ d) : cap (base * cap m + d) = cap (base * m + d) := by
  unfold cap
  rcases hb with rfl | rfl <;> by_cases q : 1114111 < m
  · rw [if_pos q, if_pos (by omega), if_pos (by omega)]
  · rw [if_neg q]
  · rw [if_pos q, if_pos (by omega), if_pos (by omega)]
  · rw [if_neg q]
set_option maxRecDepth 100000 in
set_option maxHeartbeats 2000000 in
theorem rnumber_any (l : List UInt8) (base : Int) (w : World) (hb : base = 10 ∨ base = 16) (hl : l.length ≤ 1000000) : Calls Tryz.prog 101 #[.string ⟨l.toArray⟩, .int .i64 base] w fun e w' => e = .returned (.int .i64 (nmV base l)) ∧ w = w' := by
  have HV := Lib.hid (show nmV base l = match num base l with | none => -1 | some m => cap m from rfl)
  have hbb : 10 ≤ base ∧ base ≤ 16 := by omega
  have HB := Lib.hid hb
  clear hb
  go_enter Tryz.func101, Tryz.ntmps101
  go_wp2_with fail
  go_loopw [5, 6, 7] (fun a i _ y => y = w ∧ ∃ (k : Nat) (m : Int), k ≤ l.length ∧ i = .int .i64 k ∧ 0 ≤ m ∧ a = .int .i64 (cap m) ∧ numF base 0 l = numF base m (l.drop k)) (fun _ i _ _ => l.length - (intOf i).toNat)
  case atStart => exact ⟨rfl, 0, 0, Nat.zero_le _, rfl, Int.le_refl _, rfl, rfl⟩
  case round =>
    obtain ⟨rfl, k, m, hk, rfl, hm, rfl, ht⟩ := hrel
    have HT := Lib.hid ht
    clear ht
    obtain ⟨m1, m2⟩ := cap_bd hm
    by_cases hlt : k < l.length
    · obtain ⟨a, ha⟩ : ∃ a, l[k]? = some a := ⟨_, List.getElem?_eq_getElem hlt⟩
      have HD := Lib.hid (drop_at ha)
      have hat := byte_at l k a ha
      obtain ⟨d1, d2⟩ := dg_bd a
      have HC := Lib.hid (cap_step HB.out hm d1)
      have HN := Lib.hid (show numF base 0 l = if dg a < base then numF base (base * m + dg a) (l.drop (k + 1)) else none by rw [HT.out, HD.out, numF])
      have hne : l ≠ [] := fun e => by rw [e] at ha; cases ha
      have HNE := Lib.hid hne
      clear ha HT HD hne
      go_wp2_with fail
      refine (rdigit_any a _).mono ?_
      rintro e x2 ⟨rfl, rfl⟩
      generalize hdg : dg a = d at *
      clear hdg
      by_cases hge : base ≤ d
      · have HR := Lib.hid (show nmV base l = -1 by rw [HV.out]; unfold num; rw [if_neg HNE.out, HN.out, if_neg (by omega)])
        go_wp2
        go_ret
        exact ⟨ei_ret (by rw [HR.out]), rfl⟩
      · have HS := Lib.hid (show numF base 0 l = numF base (base * m + d) (l.drop (k + 1)) by rw [HN.out, if_pos (by omega)])
        have hmm : 0 ≤ base * m + d := Int.add_nonneg (Int.mul_nonneg (by omega) hm) d1
        have HMM := Lib.hid hmm
        generalize hcm : cap m = cm at *
        have hp1 : 0 ≤ base * cm := Int.mul_nonneg (by omega) m1
        have hp2 : base * cm ≤ 16 * 1114112 := Int.le_trans (Int.mul_le_mul_of_nonneg_right (show base ≤ 16 by omega) m1) (by omega)
        have HC2 := Lib.hid (show cap (base * m + d) = if 1114111 < base * cm + d then 1114112 else base * cm + d by rw [← HC.out]; rfl)
        clear hmm hcm HC HN
        generalize hpm : base * m + d = mm at *
        clear hpm
        have hpc : base * cm + d ≤ 20000000 := by omega
        by_cases hbig : 1114111 < base * cm + d
        · have HE := Lib.hid (show cap mm = 1114112 by rw [HC2.out, if_pos hbig])
          go_wp2
          go_roundw
          case rel => exact ⟨trivial, k + 1, mm, hlt, by go_num, HMM.out, by rw [HE.out], HS.out⟩
          case measure => simp [intOf]; omega
        · have HE := Lib.hid (show cap mm = base * cm + d by rw [HC2.out, if_neg hbig])
          go_wp2
          go_roundw
          case rel => exact ⟨trivial, k + 1, mm, hlt, by go_num, HMM.out, by rw [HE.out], HS.out⟩
          case measure => simp [intOf]; omega
    · obtain rfl : k = l.length := by omega
      by_cases h0 : l.length = 0
      · obtain rfl : l = [] := List.length_eq_zero_iff.1 h0
        have HR := Lib.hid (show nmV base [] = -1 from rfl)
        go_wp2
        go_ret
        exact ⟨ei_ret (by rw [HR.out]), rfl⟩
      · have HR := Lib.hid (show nmV base l = cap m by
          rw [HV.out]; unfold num
          rw [if_neg (fun e => h0 (by rw [e]; rfl)), HT.out, List.drop_eq_nil_of_le (Nat.le_refl _)]; rfl)
        have h1 : ¬ (l.length : Int) = 0 := by omega
        have h2 : ((l.length : Int) == 0) = false := beq_eq_false_iff_ne.2 h1
        go_wp2
        go_ret
        exact ⟨ei_ret (by rw [HR.out]), rfl⟩
end Go.Proofs.YtknggeplnffegaaGreatDoor
/- The document's own answers of layer ent: a number's sign. -/
set_option linter.unusedVariables false
namespace Go.Proofs.YtknggeplnffegaaGreatDoor
open Go.ChangeShapes Go.WideShapes Go.ChangeAt Go.RowKit
open En
theorem by8_nat {n : Int} (h0 : 0 ≤ n) (h1 : n < 256) : ((by8 n).toNat : Int) = n := by
  unfold by8
  rw [UInt8.toNat_ofNat']
  omega
theorem conv_lit (W : World) (l : List UInt8) : (convert 22 9 (.slice (some ⟨W.heap.size, 0, none⟩) l.length l.length)).run Tryz.prog (W.alloc (.cells (bc l).toArray 5)) = .ok (.string ⟨l.toArray⟩) (W.alloc (.cells (bc l).toArray 5)) := by
  refine run_convert_bytes_back _ _ _ 5 ⟨W.heap.size, 0, none⟩ l.length l Tryz.underlying22 Tryz.underlying5 Tryz.underlying9 (fun j hj => ?_)
  have ha : ((⟨W.heap.size, 0, none⟩ : Addr).add j) = ⟨W.heap.size, j, none⟩ := by simp [Addr.add]; omega
  rw [ha, World.cell?_alloc_mark]
  simp [bc, hj]
set_option maxRecDepth 100000 in
set_option maxHeartbeats 4000000 in
theorem rrune_any (n : Int) (w : World) : Calls Tryz.prog 102 #[.int .i64 n] w fun e w' => e = .returned (.tuple #[.string ⟨(rnS n).toArray⟩, .bool (okN n)]) ∧ Kept w w' := by
  rcases (show n < 9 ∨ n = 9 ∨ n = 10 ∨ (11 ≤ n ∧ n ≤ 12) ∨ n = 13 ∨ (14 ≤ n ∧ n ≤ 31) ∨ (32 ≤ n ∧ n < 128) ∨ (128 ≤ n ∧ n < 2048) ∨ (2048 ≤ n ∧ n ≤ 55295) ∨ (55296 ≤ n ∧ n ≤ 57343) ∨ (57344 ≤ n ∧ n ≤ 65533) ∨ (65534 ≤ n ∧ n ≤ 65535) ∨ (65536 ≤ n ∧ n ≤ 1114111) ∨ 1114112 ≤ n by omega) with h | h | h | h | h | h | h | h | h | h | h | h | h | h
  · have HK := Lib.hid (show okN n = false by unfold okN; simp; omega)
    have b0 : (n == 9) = false := by simp; omega
    have b1 : (n == 10) = false := by simp; omega
    have b2 : (n == 13) = false := by simp; omega
    have c0 : decide (32 ≤ n) = false := by simp; omega
    have c1 : decide (57344 ≤ n) = false := by simp; omega
    have c2 : decide (65536 ≤ n) = false := by simp; omega
    have c3 : decide (n ≤ 55295) = true := by simp; omega
    have c4 : decide (n ≤ 65533) = true := by simp; omega
    have c5 : decide (n ≤ 1114111) = true := by simp; omega
    have HS := Lib.hid (show rnS n = [] by unfold rnS rn; rw [HK.out]; rfl)
    clear h
    go_enter Tryz.func102, Tryz.ntmps102
    go_wp2
    go_ret2
    exact ⟨by rw [HS.out, HK.out]; rfl, Kept.refl _⟩
  · subst h
    have hcv : ∀ W : World, (convert 22 9 (.slice (some ⟨W.heap.size, 0, none⟩) 1 1)).run Tryz.prog (W.alloc (.cells #[.int .u8 9] 5)) = .ok (.string ⟨#[9]⟩) (W.alloc (.cells #[.int .u8 9] 5)) := fun W => conv_lit W [9]
    go_enter Tryz.func102, Tryz.ntmps102
    go_wp2
    go_ret2
    exact ⟨rfl, (Kept.refl _).alloc _⟩
  · subst h
    have hcv : ∀ W : World, (convert 22 9 (.slice (some ⟨W.heap.size, 0, none⟩) 1 1)).run Tryz.prog (W.alloc (.cells #[.int .u8 10] 5)) = .ok (.string ⟨#[10]⟩) (W.alloc (.cells #[.int .u8 10] 5)) := fun W => conv_lit W [10]
    go_enter Tryz.func102, Tryz.ntmps102
    go_wp2
    go_ret2
    exact ⟨rfl, (Kept.refl _).alloc _⟩
  · have HK := Lib.hid (show okN n = false by unfold okN; simp; omega)
    have b0 : (n == 9) = false := by simp; omega
    have b1 : (n == 10) = false := by simp; omega
    have b2 : (n == 13) = false := by simp; omega
    have c0 : decide (32 ≤ n) = false := by simp; omega
    have c1 : decide (57344 ≤ n) = false := by simp; omega
    have c2 : decide (65536 ≤ n) = false := by simp; omega
    have c3 : decide (n ≤ 55295) = true := by simp; omega
    have c4 : decide (n ≤ 65533) = true := by simp; omega
    have c5 : decide (n ≤ 1114111) = true := by simp; omega
    have HS := Lib.hid (show rnS n = [] by unfold rnS rn; rw [HK.out]; rfl)
    clear h
    go_enter Tryz.func102, Tryz.ntmps102
    go_wp2
    go_ret2
    exact ⟨by rw [HS.out, HK.out]; rfl, Kept.refl _⟩
  · subst h
    have hcv : ∀ W : World, (convert 22 9 (.slice (some ⟨W.heap.size, 0, none⟩) 1 1)).run Tryz.prog (W.alloc (.cells #[.int .u8 13] 5)) = .ok (.string ⟨#[13]⟩) (W.alloc (.cells #[.int .u8 13] 5)) := fun W => conv_lit W [13]
    go_enter Tryz.func102, Tryz.ntmps102
    go_wp2
    go_ret2
    exact ⟨rfl, (Kept.refl _).alloc _⟩
  · have HK := Lib.hid (show okN n = false by unfold okN; simp; omega)
    have b0 : (n == 9) = false := by simp; omega
    have b1 : (n == 10) = false := by simp; omega
    have b2 : (n == 13) = false := by simp; omega
    have c0 : decide (32 ≤ n) = false := by simp; omega
    have c1 : decide (57344 ≤ n) = false := by simp; omega
    have c2 : decide (65536 ≤ n) = false := by simp; omega
    have c3 : decide (n ≤ 55295) = true := by simp; omega
    have c4 : decide (n ≤ 65533) = true := by simp; omega
    have c5 : decide (n ≤ 1114111) = true := by simp; omega
    have HS := Lib.hid (show rnS n = [] by unfold rnS rn; rw [HK.out]; rfl)
    clear h
    go_enter Tryz.func102, Tryz.ntmps102
    go_wp2
    go_ret2
    exact ⟨by rw [HS.out, HK.out]; rfl, Kept.refl _⟩
  · have HK := Lib.hid (show okN n = true by unfold okN; simp; omega)
    have b0 : (n == 9) = false := by simp; omega
    have b1 : (n == 10) = false := by simp; omega
    have b2 : (n == 13) = false := by simp; omega
    have c0 : decide (32 ≤ n) = true := by simp; omega
    have c1 : decide (57344 ≤ n) = false := by simp; omega
    have c2 : decide (65536 ≤ n) = false := by simp; omega
    have c3 : decide (n ≤ 55295) = true := by simp; omega
    have c4 : decide (n ≤ 65533) = true := by simp; omega
    have c5 : decide (n ≤ 1114111) = true := by simp; omega
    have c6 : n < 128 := by omega
    have c7 : n < 2048 := by omega
    have c8 : n < 65536 := by omega
    have HS := Lib.hid (show rnS n = [by8 n] by unfold rnS rn; rw [HK.out, if_pos rfl]; unfold utf; rw [if_pos (by omega)]; rfl)
    have n0 := by8_nat (n := n) (by omega) (by omega)
    have hcv := fun W => conv_lit W [by8 n]
    simp only [bc, List.map_cons, List.map_nil, List.length_cons, List.length_nil, Nat.zero_add] at hcv
    simp only [n0] at hcv
    have g1 : 32 ≤ n := by omega
    have g2 : n ≤ 127 := by omega
    clear h n0
    go_enter Tryz.func102, Tryz.ntmps102
    go_wp2
    go_ret2
    exact ⟨by rw [HS.out, HK.out]; rfl, (Kept.refl _).alloc _⟩
  · have HK := Lib.hid (show okN n = true by unfold okN; simp; omega)
    have b0 : (n == 9) = false := by simp; omega
    have b1 : (n == 10) = false := by simp; omega
    have b2 : (n == 13) = false := by simp; omega
    have c0 : decide (32 ≤ n) = true := by simp; omega
    have c1 : decide (57344 ≤ n) = false := by simp; omega
    have c2 : decide (65536 ≤ n) = false := by simp; omega
    have c3 : decide (n ≤ 55295) = true := by simp; omega
    have c4 : decide (n ≤ 65533) = true := by simp; omega
    have c5 : decide (n ≤ 1114111) = true := by simp; omega
    have c6 : ¬ n < 128 := by omega
    have c7 : n < 2048 := by omega
    have c8 : n < 65536 := by omega
    have HS := Lib.hid (show rnS n = [by8 (192 + n / 64), by8 (128 + n % 64)] by unfold rnS rn; rw [HK.out, if_pos rfl]; unfold utf; rw [if_neg (by omega), if_pos (by omega)]; rfl)
    have n0 := by8_nat (n := 192 + n / 64) (by omega) (by omega)
    have n1 := by8_nat (n := 128 + n % 64) (by omega) (by omega)
    have hcv := fun W => conv_lit W [by8 (192 + n / 64), by8 (128 + n % 64)]
    simp only [bc, List.map_cons, List.map_nil, List.length_cons, List.length_nil, Nat.zero_add, Nat.reduceAdd] at hcv
    simp only [n0, n1] at hcv
    have q64 : n.tdiv 64 = n / 64 := Int.tdiv_eq_ediv_of_nonneg (by omega)
    have r64 : n.tmod 64 = n % 64 := Int.tmod_eq_emod_of_nonneg (by omega)
    have g1 : 128 ≤ n := by omega
    have g2 : n ≤ 2047 := by omega
    clear h n0 n1
    go_enter Tryz.func102, Tryz.ntmps102
    go_wp2
    go_ret2
    exact ⟨by rw [HS.out, HK.out]; rfl, (Kept.refl _).alloc _⟩
  · have HK := Lib.hid (show okN n = true by unfold okN; simp; omega)
    have b0 : (n == 9) = false := by simp; omega
    have b1 : (n == 10) = false := by simp; omega
    have b2 : (n == 13) = false := by simp; omega
    have c0 : decide (32 ≤ n) = true := by simp; omega
    have c1 : decide (57344 ≤ n) = false := by simp; omega
    have c2 : decide (65536 ≤ n) = false := by simp; omega
    have c3 : decide (n ≤ 55295) = true := by simp; omega
    have c4 : decide (n ≤ 65533) = true := by simp; omega
    have c5 : decide (n ≤ 1114111) = true := by simp; omega
    have c6 : ¬ n < 128 := by omega
    have c7 : ¬ n < 2048 := by omega
    have c8 : n < 65536 := by omega
    have HS := Lib.hid (show rnS n = [by8 (224 + n / 4096), by8 (128 + n / 64 % 64), by8 (128 + n % 64)] by unfold rnS rn; rw [HK.out, if_pos rfl]; unfold utf; rw [if_neg (by omega), if_neg (by omega), if_pos (by omega)]; rfl)
    have n0 := by8_nat (n := 224 + n / 4096) (by omega) (by omega)
    have n1 := by8_nat (n := 128 + n / 64 % 64) (by omega) (by omega)
    have n2 := by8_nat (n := 128 + n % 64) (by omega) (by omega)
    have hcv := fun W => conv_lit W [by8 (224 + n / 4096), by8 (128 + n / 64 % 64), by8 (128 + n % 64)]
    simp only [bc, List.map_cons, List.map_nil, List.length_cons, List.length_nil, Nat.zero_add, Nat.reduceAdd] at hcv
    simp only [n0, n1, n2] at hcv
    have q4096 : n.tdiv 4096 = n / 4096 := Int.tdiv_eq_ediv_of_nonneg (by omega)
    have q64 : n.tdiv 64 = n / 64 := Int.tdiv_eq_ediv_of_nonneg (by omega)
    have r64 : n.tmod 64 = n % 64 := Int.tmod_eq_emod_of_nonneg (by omega)
    have rq64 : (n / 64).tmod 64 = n / 64 % 64 := Int.tmod_eq_emod_of_nonneg (by omega)
    have g1 : 2048 ≤ n := by omega
    have g2 : n ≤ 55295 := by omega
    clear h n0 n1 n2
    go_enter Tryz.func102, Tryz.ntmps102
    go_wp2
    go_ret2
    exact ⟨by rw [HS.out, HK.out]; rfl, (Kept.refl _).alloc _⟩
  · have HK := Lib.hid (show okN n = false by unfold okN; simp; omega)
    have b0 : (n == 9) = false := by simp; omega
    have b1 : (n == 10) = false := by simp; omega
    have b2 : (n == 13) = false := by simp; omega
    have c0 : decide (32 ≤ n) = true := by simp; omega
    have c1 : decide (57344 ≤ n) = false := by simp; omega
    have c2 : decide (65536 ≤ n) = false := by simp; omega
    have c3 : decide (n ≤ 55295) = false := by simp; omega
    have c4 : decide (n ≤ 65533) = true := by simp; omega
    have c5 : decide (n ≤ 1114111) = true := by simp; omega
    have HS := Lib.hid (show rnS n = [] by unfold rnS rn; rw [HK.out]; rfl)
    clear h
    go_enter Tryz.func102, Tryz.ntmps102
    go_wp2
    go_ret2
    exact ⟨by rw [HS.out, HK.out]; rfl, Kept.refl _⟩
  · have HK := Lib.hid (show okN n = true by unfold okN; simp; omega)
    have b0 : (n == 9) = false := by simp; omega
    have b1 : (n == 10) = false := by simp; omega
    have b2 : (n == 13) = false := by simp; omega
    have c0 : decide (32 ≤ n) = true := by simp; omega
    have c1 : decide (57344 ≤ n) = true := by simp; omega
    have c2 : decide (65536 ≤ n) = false := by simp; omega
    have c3 : decide (n ≤ 55295) = false := by simp; omega
    have c4 : decide (n ≤ 65533) = true := by simp; omega
    have c5 : decide (n ≤ 1114111) = true := by simp; omega
    have c6 : ¬ n < 128 := by omega
    have c7 : ¬ n < 2048 := by omega
    have c8 : n < 65536 := by omega
    have HS := Lib.hid (show rnS n = [by8 (224 + n / 4096), by8 (128 + n / 64 % 64), by8 (128 + n % 64)] by unfold rnS rn; rw [HK.out, if_pos rfl]; unfold utf; rw [if_neg (by omega), if_neg (by omega), if_pos (by omega)]; rfl)
    have n0 := by8_nat (n := 224 + n / 4096) (by omega) (by omega)
    have n1 := by8_nat (n := 128 + n / 64 % 64) (by omega) (by omega)
    have n2 := by8_nat (n := 128 + n % 64) (by omega) (by omega)
    have hcv := fun W => conv_lit W [by8 (224 + n / 4096), by8 (128 + n / 64 % 64), by8 (128 + n % 64)]
    simp only [bc, List.map_cons, List.map_nil, List.length_cons, List.length_nil, Nat.zero_add, Nat.reduceAdd] at hcv
    simp only [n0, n1, n2] at hcv
    have q4096 : n.tdiv 4096 = n / 4096 := Int.tdiv_eq_ediv_of_nonneg (by omega)
    have q64 : n.tdiv 64 = n / 64 := Int.tdiv_eq_ediv_of_nonneg (by omega)
    have r64 : n.tmod 64 = n % 64 := Int.tmod_eq_emod_of_nonneg (by omega)
    have rq64 : (n / 64).tmod 64 = n / 64 % 64 := Int.tmod_eq_emod_of_nonneg (by omega)
    have g1 : 57344 ≤ n := by omega
    have g2 : n ≤ 65533 := by omega
    clear h n0 n1 n2
    go_enter Tryz.func102, Tryz.ntmps102
    go_wp2
    go_ret2
    exact ⟨by rw [HS.out, HK.out]; rfl, (Kept.refl _).alloc _⟩
  · have HK := Lib.hid (show okN n = false by unfold okN; simp; omega)
    have b0 : (n == 9) = false := by simp; omega
    have b1 : (n == 10) = false := by simp; omega
    have b2 : (n == 13) = false := by simp; omega
    have c0 : decide (32 ≤ n) = true := by simp; omega
    have c1 : decide (57344 ≤ n) = true := by simp; omega
    have c2 : decide (65536 ≤ n) = false := by simp; omega
    have c3 : decide (n ≤ 55295) = false := by simp; omega
    have c4 : decide (n ≤ 65533) = false := by simp; omega
    have c5 : decide (n ≤ 1114111) = true := by simp; omega
    have HS := Lib.hid (show rnS n = [] by unfold rnS rn; rw [HK.out]; rfl)
    clear h
    go_enter Tryz.func102, Tryz.ntmps102
    go_wp2
    go_ret2
    exact ⟨by rw [HS.out, HK.out]; rfl, Kept.refl _⟩
  · have HK := Lib.hid (show okN n = true by unfold okN; simp; omega)
    have b0 : (n == 9) = false := by simp; omega
    have b1 : (n == 10) = false := by simp; omega
    have b2 : (n == 13) = false := by simp; omega
    have c0 : decide (32 ≤ n) = true := by simp; omega
    have c1 : decide (57344 ≤ n) = true := by simp; omega
    have c2 : decide (65536 ≤ n) = true := by simp; omega
    have c3 : decide (n ≤ 55295) = false := by simp; omega
    have c4 : decide (n ≤ 65533) = false := by simp; omega
    have c5 : decide (n ≤ 1114111) = true := by simp; omega
    have c6 : ¬ n < 128 := by omega
    have c7 : ¬ n < 2048 := by omega
    have c8 : ¬ n < 65536 := by omega
    have HS := Lib.hid (show rnS n = [by8 (240 + n / 262144), by8 (128 + n / 4096 % 64), by8 (128 + n / 64 % 64), by8 (128 + n % 64)] by unfold rnS rn; rw [HK.out, if_pos rfl]; unfold utf; rw [if_neg (by omega), if_neg (by omega), if_neg (by omega)]; rfl)
    have n0 := by8_nat (n := 240 + n / 262144) (by omega) (by omega)
    have n1 := by8_nat (n := 128 + n / 4096 % 64) (by omega) (by omega)
    have n2 := by8_nat (n := 128 + n / 64 % 64) (by omega) (by omega)
    have n3 := by8_nat (n := 128 + n % 64) (by omega) (by omega)
    have hcv := fun W => conv_lit W [by8 (240 + n / 262144), by8 (128 + n / 4096 % 64), by8 (128 + n / 64 % 64), by8 (128 + n % 64)]
    simp only [bc, List.map_cons, List.map_nil, List.length_cons, List.length_nil, Nat.zero_add, Nat.reduceAdd] at hcv
    simp only [n0, n1, n2, n3] at hcv
    have q262144 : n.tdiv 262144 = n / 262144 := Int.tdiv_eq_ediv_of_nonneg (by omega)
    have q4096 : n.tdiv 4096 = n / 4096 := Int.tdiv_eq_ediv_of_nonneg (by omega)
    have q64 : n.tdiv 64 = n / 64 := Int.tdiv_eq_ediv_of_nonneg (by omega)
    have r64 : n.tmod 64 = n % 64 := Int.tmod_eq_emod_of_nonneg (by omega)
    have rq64 : (n / 64).tmod 64 = n / 64 % 64 := Int.tmod_eq_emod_of_nonneg (by omega)
    have rq4096 : (n / 4096).tmod 64 = n / 4096 % 64 := Int.tmod_eq_emod_of_nonneg (by omega)
    have g1 : 65536 ≤ n := by omega
    have g2 : n ≤ 1114111 := by omega
    clear h n0 n1 n2 n3
    go_enter Tryz.func102, Tryz.ntmps102
    go_wp2
    go_ret2
    exact ⟨by rw [HS.out, HK.out]; rfl, (Kept.refl _).alloc _⟩
  · have HK := Lib.hid (show okN n = false by unfold okN; simp; omega)
    have b0 : (n == 9) = false := by simp; omega
    have b1 : (n == 10) = false := by simp; omega
    have b2 : (n == 13) = false := by simp; omega
    have c0 : decide (32 ≤ n) = true := by simp; omega
    have c1 : decide (57344 ≤ n) = true := by simp; omega
    have c2 : decide (65536 ≤ n) = true := by simp; omega
    have c3 : decide (n ≤ 55295) = false := by simp; omega
    have c4 : decide (n ≤ 65533) = false := by simp; omega
    have c5 : decide (n ≤ 1114111) = false := by simp; omega
    have HS := Lib.hid (show rnS n = [] by unfold rnS rn; rw [HK.out]; rfl)
    clear h
    go_enter Tryz.func102, Tryz.ntmps102
    go_wp2
    go_ret2
    exact ⟨by rw [HS.out, HK.out]; rfl, Kept.refl _⟩
end Go.Proofs.YtknggeplnffegaaGreatDoor
/- The document's own answers of layer ent: entities, and a text gone through. -/
set_option linter.unusedVariables false
namespace Go.Proofs.YtknggeplnffegaaGreatDoor
open Go.ChangeShapes Go.WideShapes Go.ChangeAt Go.RowKit
open En
theorem ext_mk (l : List UInt8) (a b : Nat) : (ByteArray.mk l.toArray).extract a b = ⟨((l.drop a).take (b - a)).toArray⟩ := by
  apply ByteArray.ext
  rw [ByteArray.data_extract]
  simp
theorem rn_nm {base : Int} {l : List UInt8} : rnS (nmV base l) = ((num base l).bind rn).getD [] ∧ okN (nmV base l) = ((num base l).bind rn).isSome := by
  unfold nmV rnS
  cases h : num base l with
  | none => exact ⟨rfl, rfl⟩
  | some m =>
    simp only [Option.bind_some]
    unfold cap
    by_cases q : 1114111 < m
    · rw [if_pos q]
      have e : okN m = false := by unfold okN; simp; omega
      unfold rn
      rw [e]
      exact ⟨rfl, rfl⟩
    · rw [if_neg q]
      refine ⟨rfl, ?_⟩
      unfold rn
      cases okN m <;> rfl
def sgS (b : List UInt8) : List UInt8 := (sg b).getD []
theorem sg_short {b : List UInt8} (h : b.length < 2) : sg b = none := by
  unfold sg
  rw [if_neg (fun e => by rw [e] at h; simp at h), if_neg (fun e => by rw [e] at h; simp at h), if_neg (fun e => by rw [e] at h; simp at h), if_neg (fun e => by rw [e] at h; simp at h), if_neg (fun e => by rw [e] at h; simp at h)]
  match b, h with
  | [], _ => rfl
  | [c], _ =>
    split
    · rename_i h1; simp at h1
    · rename_i h1
      simp only [List.cons.injEq] at h1
      obtain ⟨_, rfl⟩ := h1
      rfl
    · rfl
def sgN (b : List UInt8) : Option (List UInt8) :=
  match b with
  | 35 :: 120 :: r => (num 16 r).bind rn
  | 35 :: r => (num 10 r).bind rn
  | _ => none
theorem sg_else {b : List UInt8} (e1 : ¬ b = [97, 109, 112]) (e2 : ¬ b = [108, 116]) (e3 : ¬ b = [103, 116]) (e4 : ¬ b = [113, 117, 111, 116]) (e5 : ¬ b = [97, 112, 111, 115]) :
    sg b = sgN b := by
  unfold sg
  rw [if_neg e1, if_neg e2, if_neg e3, if_neg e4, if_neg e5]
  rfl
theorem sgN_neg {c0 c1 : UInt8} {r : List UInt8} (h : ¬ c0 = 35) : sgN (c0 :: c1 :: r) = none := by
  unfold sgN
  split
  · rename_i q; simp only [List.cons.injEq] at q; exact absurd q.1 h
  · rename_i q; simp only [List.cons.injEq] at q; exact absurd q.1 h
  · rfl
theorem sgN_ten {c1 : UInt8} {r : List UInt8} (h : ¬ c1 = 120) : sgN (35 :: c1 :: r) = (num 10 (c1 :: r)).bind rn := by
  unfold sgN
  split
  · rename_i q; simp only [List.cons.injEq] at q; exact absurd q.2.1 h
  · rename_i q; simp only [List.cons.injEq, true_and] at q; rw [q]
  · rename_i q; exact absurd rfl (q _)
set_option maxRecDepth 100000 in
set_option maxHeartbeats 4000000 in
theorem rsign_any (b : List UInt8) (w : World) (hl : b.length ≤ 1000) : Calls Tryz.prog 91 #[.string ⟨b.toArray⟩] w fun e w' => e = .returned (.tuple #[.string ⟨(sgS b).toArray⟩, .bool (sg b).isSome]) ∧ Kept w w' := by
  by_cases e1 : b = [97, 109, 112]
  · subst e1
    go_enter Tryz.func91, Tryz.ntmps91
    go_wp2
    go_ret2
    exact ⟨rfl, Kept.refl _⟩
  by_cases e2 : b = [108, 116]
  · subst e2
    go_enter Tryz.func91, Tryz.ntmps91
    go_wp2
    go_ret2
    exact ⟨rfl, Kept.refl _⟩
  by_cases e3 : b = [103, 116]
  · subst e3
    go_enter Tryz.func91, Tryz.ntmps91
    go_wp2
    go_ret2
    exact ⟨rfl, Kept.refl _⟩
  by_cases e4 : b = [113, 117, 111, 116]
  · subst e4
    go_enter Tryz.func91, Tryz.ntmps91
    go_wp2
    go_ret2
    exact ⟨rfl, Kept.refl _⟩
  by_cases e5 : b = [97, 112, 111, 115]
  · subst e5
    go_enter Tryz.func91, Tryz.ntmps91
    go_wp2
    go_ret2
    exact ⟨rfl, Kept.refl _⟩
  have HE := Lib.hid (sg_else e1 e2 e3 e4 e5)
  have b1 : (b == [97, 109, 112]) = false := beq_eq_false_iff_ne.2 e1
  have b2 : (b == [108, 116]) = false := beq_eq_false_iff_ne.2 e2
  have b3 : (b == [103, 116]) = false := beq_eq_false_iff_ne.2 e3
  have b4 : (b == [113, 117, 111, 116]) = false := beq_eq_false_iff_ne.2 e4
  have b5 : (b == [97, 112, 111, 115]) = false := beq_eq_false_iff_ne.2 e5
  clear e1 e2 e3 e4 e5
  by_cases h2 : b.length < 2
  · have HR := Lib.hid (show sg b = none from sg_short h2)
    have HS := Lib.hid (show sgS b = [] by unfold sgS; rw [HR.out]; rfl)
    have h2' : (b.length : Int) < 2 := by omega
    clear HE
    go_enter Tryz.func91, Tryz.ntmps91
    go_wp2
    go_ret2
    exact ⟨by rw [HS.out, HR.out]; rfl, Kept.refl _⟩
  obtain ⟨c0, h0⟩ : ∃ c, b[0]? = some c := ⟨_, List.getElem?_eq_getElem (by omega)⟩
  obtain ⟨c1, h1⟩ : ∃ c, b[1]? = some c := ⟨_, List.getElem?_eq_getElem (by omega)⟩
  have hat0 := byte_at b 0 c0 h0
  have hat1 := byte_at b 1 c1 h1
  have hb : b = c0 :: c1 :: b.drop 2 := by
    have q0 := drop_at h0; have q1 := drop_at h1
    rw [List.drop_zero] at q0
    rw [← q1, ← q0]
  have HB := Lib.hid hb
  have h2' : ¬ (b.length : Int) < 2 := by omega
  by_cases g0 : (c0.toNat : Int) = 35
  case neg =>
    have HR := Lib.hid (show sg b = none by
      rw [HE.out, HB.out]
      exact sgN_neg (fun e => g0 (by rw [e]; rfl)))
    have HS := Lib.hid (show sgS b = [] by unfold sgS; rw [HR.out]; rfl)
    have gb : ((c0.toNat : Int) != 35) = true := bne_iff_ne.2 g0
    clear HE hb h0 h1 hat1
    go_enter Tryz.func91, Tryz.ntmps91
    go_wp2
    go_ret2
    exact ⟨by rw [HS.out, HR.out]; rfl, Kept.refl _⟩
  have gb : ((c0.toNat : Int) != 35) = false := by simpa using g0
  have hc0 : c0 = 35 := u8_eq g0
  have X1 : (ByteArray.mk b.toArray).extract 1 b.length = ⟨(c1 :: b.drop 2).toArray⟩ := by
    rw [ext_mk, ← drop_at h1, List.take_of_length_le (by rw [List.length_drop]; omega)]
  have X2 : (ByteArray.mk b.toArray).extract 2 b.length = ⟨(b.drop 2).toArray⟩ := by
    rw [ext_mk, List.take_of_length_le (by rw [List.length_drop]; omega)]
  have N1 := Lib.hid (fun w => rnumber_any (c1 :: b.drop 2) 10 w (Or.inl rfl) (by simp; omega))
  have N2 := Lib.hid (fun w => rnumber_any (b.drop 2) 16 w (Or.inr rfl) (by simp; omega))
  rw [← X1] at N1
  rw [← X2] at N2
  clear X1 X2 hb h0 h1
  by_cases g1 : (c1.toNat : Int) = 120
  · have hc1 : c1 = 120 := u8_eq g1
    have HR := Lib.hid (show sg b = (num 16 (b.drop 2)).bind rn by
      rw [HE.out]
      conv => lhs; rw [HB.out, hc0, hc1]
      rfl)
    have gb1 : ((c1.toNat : Int) == 120) = true := beq_iff_eq.2 g1
    obtain ⟨r1, r2⟩ := rn_nm (base := 16) (l := b.drop 2)
    have HS := Lib.hid (show rnS (nmV 16 (b.drop 2)) = sgS b by unfold sgS; rw [HR.out]; exact r1)
    have HO := Lib.hid (show okN (nmV 16 (b.drop 2)) = (sg b).isSome by rw [HR.out]; exact r2)
    clear HE HR g0 g1 hc0 hc1 r1 r2
    go_enter Tryz.func91, Tryz.ntmps91
    go_wp2_with fail
    refine (N1.out _).mono ?_
    rintro e x2 ⟨rfl, rfl⟩
    clear N1
    go_wp2_with fail
    refine (N2.out _).mono ?_
    rintro e x2 ⟨rfl, rfl⟩
    clear N2
    generalize nmV 16 (b.drop 2) = nv at *
    go_wp2_with fail
    refine (rrune_any nv _).mono ?_
    rintro e x2 ⟨rfl, k2⟩
    rw [HS.out, HO.out]
    go_wp2
    go_ret2
    exact ⟨rfl, k2⟩
  · have hc1 : ¬ c1 = 120 := fun e => g1 (by rw [e]; rfl)
    have HR := Lib.hid (show sg b = (num 10 (c1 :: b.drop 2)).bind rn by
      rw [HE.out]
      conv => lhs; rw [HB.out, hc0]
      exact sgN_ten hc1)
    have gb1 : ((c1.toNat : Int) == 120) = false := beq_eq_false_iff_ne.2 g1
    obtain ⟨r1, r2⟩ := rn_nm (base := 10) (l := c1 :: b.drop 2)
    have HS := Lib.hid (show rnS (nmV 10 (c1 :: b.drop 2)) = sgS b by unfold sgS; rw [HR.out]; exact r1)
    have HO := Lib.hid (show okN (nmV 10 (c1 :: b.drop 2)) = (sg b).isSome by rw [HR.out]; exact r2)
    clear HE HR g0 g1 hc0 hc1 r1 r2 N2
    go_enter Tryz.func91, Tryz.ntmps91
    go_wp2_with fail
    refine (N1.out _).mono ?_
    rintro e x2 ⟨rfl, rfl⟩
    clear N1
    generalize nmV 10 (c1 :: b.drop 2) = nv at *
    go_wp2_with fail
    refine (rrune_any nv _).mono ?_
    rintro e x2 ⟨rfl, k2⟩
    rw [HS.out, HO.out]
    go_wp2
    go_ret2
    exact ⟨rfl, k2⟩
end Go.Proofs.YtknggeplnffegaaGreatDoor
/- The document's own answers of layer ent: the body of an entity; a text gone through; Decode, Loose. -/
set_option linter.unusedVariables false
namespace Go.Proofs.YtknggeplnffegaaGreatDoor
open Go.ChangeShapes Go.WideShapes Go.ChangeAt Go.RowKit
open En
/-- an entity's body, from a place on -/
def bdO (l : List UInt8) (at0 : Nat) : Option (List UInt8) := bdF 11 [] (l.drop (at0 + 1))
theorem bdF_nil (n : Nat) (acc : List UInt8) : bdF n acc [] = none := by cases n <;> rfl
theorem sb_ret {a a' : List UInt8} {b b' : Bool} (ha : a = a') (hb : b = b') : Ending.returned (.tuple #[.string ⟨a.toArray⟩, .bool b]) = .returned (.tuple #[.string ⟨a'.toArray⟩, .bool b']) := by rw [ha, hb]
theorem slice_txt (l : List UInt8) (a b : Nat) (x y : Int) (hx : x = a) (hy : y = b) (h1 : a ≤ b) (h2 : b ≤ l.length) (W : World) :
    (Instr.slice 9 (.string ⟨l.toArray⟩) (some (.int .i64 x)) (some (.int .i64 y)) none).run Tryz.prog W = .ok (.string ⟨((l.drop a).take (b - a)).toArray⟩) W := by
  subst hx hy
  rw [run_slice_string W 9 _ .i64 .i64 _ _ Tryz.underlying9 (by omega) (by omega) (by show (b : Int) ≤ l.length; omega)]
  rw [show (a : Int).toNat = a by omega, show (b : Int).toNat = b by omega, ext_mk]
set_option maxRecDepth 100000 in
set_option maxHeartbeats 2000000 in
theorem rbody_any (l : List UInt8) (at0 : Nat) (w : World) (hl : l.length ≤ 1000000) (hat0 : at0 < l.length) : Calls Tryz.prog 90 #[.string ⟨l.toArray⟩, .int .i64 at0] w fun e w' => e = .returned (.tuple #[.string ⟨((bdO l at0).getD []).toArray⟩, .bool (bdO l at0).isSome]) ∧ w = w' := by
  go_enter Tryz.func90, Tryz.ntmps90
  go_wp2_with fail
  go_loopw [6] (fun i y => y = w ∧ ∃ j : Nat, j ≤ 11 ∧ at0 + 1 + j ≤ l.length ∧ i = .int .i64 ((at0 : Int) + 1 + j) ∧ bdO l at0 = bdF (11 - j) ((l.drop (at0 + 1)).take j) (l.drop (at0 + 1 + j))) (fun i _ => l.length - (intOf i).toNat)
  case atStart => exact ⟨rfl, 0, Nat.zero_le _, hat0, by go_num, rfl⟩
  case round =>
    obtain ⟨rfl, j, hj, hlen, rfl, ht⟩ := hrel
    have HT := Lib.hid ht
    clear ht
    by_cases hlt : at0 + 1 + j < l.length
    · have c1 : (at0 : Int) + 1 + j < l.length := by omega
      by_cases h11 : j = 11
      · have HR := Lib.hid (show bdO l at0 = none by rw [HT.out, h11]; rfl)
        have c2 : ¬ (at0 : Int) + 1 + j ≤ at0 + 11 := by omega
        go_wp2
        go_ret2
        exact ⟨by rw [HR.out]; rfl, rfl⟩
      · have c2 : (at0 : Int) + 1 + j ≤ at0 + 11 := by omega
        obtain ⟨a, ha⟩ : ∃ a, l[at0 + 1 + j]? = some a := ⟨_, List.getElem?_eq_getElem hlt⟩
        have HD := Lib.hid (drop_at ha)
        have hat := byte_at l (at0 + 1 + j) a ha
        have HN := Lib.hid (show bdO l at0 = if a = 38 then none else if a = 59 then (if (l.drop (at0 + 1)).take j = [] then none else some ((l.drop (at0 + 1)).take j)) else bdF (11 - (j + 1)) ((l.drop (at0 + 1)).take (j + 1)) (l.drop (at0 + 1 + (j + 1))) by
          rw [HT.out, HD.out, show 11 - j = (11 - (j + 1)) + 1 by omega, bdF]
          have e : (l.drop (at0 + 1)).take (j + 1) = (l.drop (at0 + 1)).take j ++ [a] := by rw [List.take_add_one, List.getElem?_drop, ha]; rfl
          rw [e]; rfl)
        clear ha HT HD
        by_cases g38 : (a.toNat : Int) = 38
        · have HR := Lib.hid (show bdO l at0 = none by rw [HN.out, if_pos (u8_eq g38)])
          have gb : ((a.toNat : Int) == 38) = true := beq_iff_eq.2 g38
          clear g38
          go_wp2
          go_ret2
          exact ⟨by rw [HR.out]; rfl, rfl⟩
        have gb38 : ((a.toNat : Int) == 38) = false := beq_eq_false_iff_ne.2 g38
        have n38 : ¬ a = 38 := u8_ne g38
        by_cases g59 : (a.toNat : Int) = 59
        · have gb : ((a.toNat : Int) == 59) = true := beq_iff_eq.2 g59
          have hsl := slice_txt l (at0 + 1) (at0 + 1 + j) ((at0 : Int) + 1) ((at0 : Int) + 1 + j) (by go_num) (by go_num) (by omega) (by omega) wr
          rw [show at0 + 1 + j - (at0 + 1) = j by omega] at hsl
          by_cases h0 : j = 0
          · have HR := Lib.hid (show bdO l at0 = none by rw [HN.out, if_neg n38, if_pos (u8_eq g59), h0, if_pos (by simp)])
            have HX := Lib.hid (show (l.drop (at0 + 1)).take j = [] by rw [h0]; rfl)
            have c3 : ¬ (at0 : Int) + 1 < at0 + 1 + j := by omega
            clear g59 g38 n38 HN h0 h11
            go_wp2
            go_ret2
            exact ⟨sb_ret (by rw [HR.out, HX.out]; rfl) (by rw [HR.out]; exact decide_eq_false (by omega)), rfl⟩
          · have HR := Lib.hid (show bdO l at0 = some ((l.drop (at0 + 1)).take j) by
              rw [HN.out, if_neg n38, if_pos (u8_eq g59), if_neg (fun e => by have := congrArg List.length e; rw [List.length_take, List.length_drop] at this; simp at this; omega)])
            have c3 : (at0 : Int) + 1 < at0 + 1 + j := by omega
            clear g59 g38 n38 HN h0 h11
            go_wp2
            go_ret2
            exact ⟨sb_ret (by rw [HR.out]; rfl) (by rw [HR.out]; rfl), rfl⟩
        · have HS := Lib.hid (show bdO l at0 = bdF (11 - (j + 1)) ((l.drop (at0 + 1)).take (j + 1)) (l.drop (at0 + 1 + (j + 1))) by rw [HN.out, if_neg n38, if_neg (u8_ne g59)])
          have gb59 : ((a.toNat : Int) == 59) = false := beq_eq_false_iff_ne.2 g59
          clear g59 g38 n38 HN
          go_wp2
          go_roundw
          case rel => exact ⟨trivial, j + 1, by omega, by omega, by go_num, HS.out⟩
          case measure => simp [intOf]; omega
    · have HR := Lib.hid (show bdO l at0 = none by rw [HT.out, show l.drop (at0 + 1 + j) = [] from List.drop_eq_nil_of_le (by omega), bdF_nil])
      have c1 : ¬ (at0 : Int) + 1 + j < l.length := by omega
      go_wp2
      go_ret2
      exact ⟨by rw [HR.out]; rfl, rfl⟩
end Go.Proofs.YtknggeplnffegaaGreatDoor
