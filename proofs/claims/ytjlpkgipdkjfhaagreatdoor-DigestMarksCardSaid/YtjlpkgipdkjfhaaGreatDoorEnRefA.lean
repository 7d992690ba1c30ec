import Derived.Test.YtjlpkgipdkjfhaaGreatDoorEa
set_option linter.unusedSimpArgs false
set_option linter.unusedVariables false
namespace Go.Proofs.YtjlpkgipdkjfhaaGreatDoor
open Go.ChangeShapes Go.WideShapes Go.ChangeAt Go.RowKit
open En
theorem rspace_any (c : UInt8) (w : World) : Calls Tryz.prog 119 #[.int .u8 c.toNat] w fun e w' => e = .returned (.bool (spB c)) ∧ w = w' := by
  go_enter Tryz.func119, Tryz.ntmps119
  have h9 : ((c.toNat : Int) == 9) = (c.toNat == 9) := by rw [Bool.eq_iff_iff]; simp; omega
  have h10 : ((c.toNat : Int) == 10) = (c.toNat == 10) := by rw [Bool.eq_iff_iff]; simp; omega
  have h13 : ((c.toNat : Int) == 13) = (c.toNat == 13) := by rw [Bool.eq_iff_iff]; simp; omega
  have h32 : ((c.toNat : Int) == 32) = (c.toNat == 32) := by rw [Bool.eq_iff_iff]; simp; omega
  have HS := Lib.hid (show spB c = (((c.toNat : Int) == 9) || ((c.toNat : Int) == 10) || ((c.toNat : Int) == 13) || ((c.toNat : Int) == 32)) by rw [h9, h10, h13, h32]; rfl)
  clear h9 h10 h13 h32
  go_wp2
  all_goals
    go_ret
    exact ⟨eb_ret (by rw [HS.out]; try simp [*]), rfl⟩
theorem enc_take (l : List UInt8) (k : Nat) (a : UInt8) (h : l[k]? = some a) : enc (l.take (k + 1)) = enc (l.take k) ++ encC a := by
  rw [List.take_add_one, h]; simp [enc]
set_option maxRecDepth 100000 in
set_option maxHeartbeats 2000000 in
theorem rencode_any (l : List UInt8) (w : World) (hl : l.length ≤ 1000000) : Calls Tryz.prog 23 #[.string ⟨l.toArray⟩] w fun e w' => e = .returned (.string ⟨(enc l).toArray⟩) ∧ Kept w w' := by
  obtain ⟨i0, hi, hz0, hz1, hz2⟩ := info_parts info8
  go_enter Tryz.func23, Tryz.ntmps23
  go_wp2_with fail
  go_loopw [3, 4] (fun a i y => ∃ k : Nat, k ≤ l.length ∧ i = .int .i64 k ∧ OutBIn w.heap.size w (enc (l.take k)) a y) (fun _ i _ => l.length - (intOf i).toNat)
  case atStart => exact ⟨0, Nat.zero_le _, rfl, none, 0, rfl, OutB.nil _ _, Kept.refl _⟩
  case round =>
    obtain ⟨k, hk, rfl, ao, cap, rfl, ho, hkp⟩ := hrel
    have HO := Lib.hid ho; have HK := Lib.hid hkp
    clear ho hkp
    by_cases hlt : k < l.length
    · obtain ⟨a, ha⟩ : ∃ a, l[k]? = some a := ⟨_, List.getElem?_eq_getElem hlt⟩
      have HS := Lib.hid (enc_take l k a ha)
      have hat := byte_at l k a ha
      have hen := enc_len (l.take k)
      have hen2 : (l.take k).length ≤ 1000000 := by rw [List.length_take]; omega
      generalize enc (l.take k) = s at *
      clear ha
      by_cases g38 : (a.toNat : Int) = 38
      · have HE := Lib.hid (show encC a = [38, 97, 109, 112, 59] by rw [show a = 38 from u8_eq g38]; rfl)
        have gb : ((a.toNat : Int) == 38) = true := beq_iff_eq.2 g38
        clear g38
        go_wp2_with (at_builtin; refine Lib.wpList_append_own_string _ rfl _ _ 25 9 rfl w.heap.size 5 i0 Tryz.underlying25 Tryz.underlying9 hi hz0 hz1 hz2 _ _ _ rfl HO.out ⟨([38, 97, 109, 112, 59] : List UInt8).toArray⟩ rfl (by unfold maxLen; simp [ByteArray.size]; omega) (by simp [ByteArray.size]; omega) HK.out.size ?_; intro v' w7 hown' hgrow hnil)
        have HA := outB_str (Nat.le_refl _) HO.out HK.out hgrow hown'
        go_roundw
        case rel => exact ⟨k + 1, hlt, by go_num, by rw [HS.out, HE.out]; exact HA⟩
        case measure => simp [intOf]; omega
      have gb38 : ((a.toNat : Int) == 38) = false := beq_eq_false_iff_ne.2 g38
      by_cases g60 : (a.toNat : Int) = 60
      · have HE := Lib.hid (show encC a = [38, 108, 116, 59] by rw [show a = 60 from u8_eq g60]; rfl)
        have gb : ((a.toNat : Int) == 60) = true := beq_iff_eq.2 g60
        clear g60
        go_wp2_with (at_builtin; refine Lib.wpList_append_own_string _ rfl _ _ 25 9 rfl w.heap.size 5 i0 Tryz.underlying25 Tryz.underlying9 hi hz0 hz1 hz2 _ _ _ rfl HO.out ⟨([38, 108, 116, 59] : List UInt8).toArray⟩ rfl (by unfold maxLen; simp [ByteArray.size]; omega) (by simp [ByteArray.size]; omega) HK.out.size ?_; intro v' w7 hown' hgrow hnil)
        have HA := outB_str (Nat.le_refl _) HO.out HK.out hgrow hown'
        go_roundw
        case rel => exact ⟨k + 1, hlt, by go_num, by rw [HS.out, HE.out]; exact HA⟩
        case measure => simp [intOf]; omega
      have gb60 : ((a.toNat : Int) == 60) = false := beq_eq_false_iff_ne.2 g60
      by_cases g62 : (a.toNat : Int) = 62
      · have HE := Lib.hid (show encC a = [38, 103, 116, 59] by rw [show a = 62 from u8_eq g62]; rfl)
        have gb : ((a.toNat : Int) == 62) = true := beq_iff_eq.2 g62
        clear g62
        go_wp2_with (at_builtin; refine Lib.wpList_append_own_string _ rfl _ _ 25 9 rfl w.heap.size 5 i0 Tryz.underlying25 Tryz.underlying9 hi hz0 hz1 hz2 _ _ _ rfl HO.out ⟨([38, 103, 116, 59] : List UInt8).toArray⟩ rfl (by unfold maxLen; simp [ByteArray.size]; omega) (by simp [ByteArray.size]; omega) HK.out.size ?_; intro v' w7 hown' hgrow hnil)
        have HA := outB_str (Nat.le_refl _) HO.out HK.out hgrow hown'
        go_roundw
        case rel => exact ⟨k + 1, hlt, by go_num, by rw [HS.out, HE.out]; exact HA⟩
        case measure => simp [intOf]; omega
      have gb62 : ((a.toNat : Int) == 62) = false := beq_eq_false_iff_ne.2 g62
      by_cases g34 : (a.toNat : Int) = 34
      · have HE := Lib.hid (show encC a = [38, 113, 117, 111, 116, 59] by rw [show a = 34 from u8_eq g34]; rfl)
        have gb : ((a.toNat : Int) == 34) = true := beq_iff_eq.2 g34
        clear g34
        go_wp2_with (at_builtin; refine Lib.wpList_append_own_string _ rfl _ _ 25 9 rfl w.heap.size 5 i0 Tryz.underlying25 Tryz.underlying9 hi hz0 hz1 hz2 _ _ _ rfl HO.out ⟨([38, 113, 117, 111, 116, 59] : List UInt8).toArray⟩ rfl (by unfold maxLen; simp [ByteArray.size]; omega) (by simp [ByteArray.size]; omega) HK.out.size ?_; intro v' w7 hown' hgrow hnil)
        have HA := outB_str (Nat.le_refl _) HO.out HK.out hgrow hown'
        go_roundw
        case rel => exact ⟨k + 1, hlt, by go_num, by rw [HS.out, HE.out]; exact HA⟩
        case measure => simp [intOf]; omega
      have gb34 : ((a.toNat : Int) == 34) = false := beq_eq_false_iff_ne.2 g34
      have HE := Lib.hid (show encC a = [a] by unfold encC; rw [if_neg (u8_ne g38), if_neg (u8_ne g60), if_neg (u8_ne g62), if_neg (u8_ne g34)])
      clear g38 g60 g62 g34
      go_wp2_with (at_builtin; refine wpList_append_own _ rfl _ _ 25 rfl w.heap.size 5 i0 (.int .u8 0) 1 1 Tryz.underlying25 hi hz0 hz1 hz2 rfl (by decide) _ _ _ rfl (World.ownsRow.alloc HO.out _) ⟨wr.heap.size, 0, none⟩ 1 1 [.int .u8 (a.toNat : Int)] rfl rfl (cell_one_new _ _ _) (fun x hx => by simp at hx; subst hx; rfl) (by unfold maxLen; omega) (by omega) (by have := HK.out.size; simp; omega) ?_; intro v' w7 hown' hgrow hnil)
      have HA := outB_one (Nat.le_refl _) HO.out HK.out hgrow hown'
      go_roundw
      case rel => exact ⟨k + 1, hlt, by go_num, by rw [HS.out, HE.out]; exact HA⟩
      case measure => simp [intOf]; omega
    · obtain rfl : k = l.length := by omega
      rw [List.take_length] at HO
      have hcv := conv_out HO.out
      go_wp2
      go_ret
      exact ⟨rfl, HK.out⟩
end Go.Proofs.YtjlpkgipdkjfhaaGreatDoor
