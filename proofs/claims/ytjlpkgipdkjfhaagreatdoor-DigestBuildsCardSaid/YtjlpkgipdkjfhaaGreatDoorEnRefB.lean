import Derived.Test.YtjlpkgipdkjfhaaGreatDoorEnRefA
set_option linter.unusedSimpArgs false
set_option linter.unusedVariables false
namespace Go.Proofs.YtjlpkgipdkjfhaaGreatDoor
open Go.ChangeShapes Go.WideShapes Go.ChangeAt Go.RowKit
open En
theorem drop_at {l : List UInt8} {k : Nat} {a : UInt8} (h : l[k]? = some a) : l.drop k = a :: l.drop (k + 1) := by
  obtain ⟨hk, rfl⟩ := List.getElem?_eq_some_iff.1 h
  exact List.drop_eq_getElem_cons hk
theorem ne_emp (d : List UInt8) (a : UInt8) : (d ++ [a]).isEmpty = false := by cases d <;> rfl
set_option maxRecDepth 100000 in
set_option maxHeartbeats 4000000 in
theorem rtrim_any (l : List UInt8) (w : World) (hl : l.length ≤ 1000000) : Calls Tryz.prog 78 #[.string ⟨l.toArray⟩] w fun e w' => e = .returned (.string ⟨(tr l).toArray⟩) ∧ Kept w w' := by
  obtain ⟨i0, hi, hz0, hz1, hz2⟩ := info_parts info8
  go_enter Tryz.func78, Tryz.ntmps78
  go_wp2_with fail
  go_loopw [3, 4, 5, 6] (fun a g i _ y => ∃ (k : Nat) (done : List UInt8) (gp : Bool), k ≤ l.length ∧ i = .int .i64 k ∧ g = .bool gp ∧ done.length ≤ 2 * k ∧ tr l = done ++ trF (!done.isEmpty) gp (l.drop k) ∧ OutBIn w.heap.size w done a y) (fun _ _ i _ _ => l.length - (intOf i).toNat)
  case atStart => exact ⟨0, [], false, Nat.zero_le _, rfl, rfl, Nat.le_refl _, rfl, none, 0, rfl, OutB.nil _ _, Kept.refl _⟩
  case round =>
    obtain ⟨k, done, gp, hk, rfl, rfl, hd, ht, ao, cap, rfl, ho, hkp⟩ := hrel
    have HO := Lib.hid ho; have HK := Lib.hid hkp; have HT := Lib.hid ht
    clear ho hkp ht
    by_cases hlt : k < l.length
    · obtain ⟨a, ha⟩ : ∃ a, l[k]? = some a := ⟨_, List.getElem?_eq_getElem hlt⟩
      have HD := Lib.hid (drop_at ha)
      have hat := byte_at l k a ha
      clear ha
      cases hsp : spB a with
      | true =>
        have HE := Lib.hid (show tr l = done ++ trF (!done.isEmpty) (!done.isEmpty) (l.drop (k + 1)) by rw [HT.out, HD.out, trF_sp hsp])
        go_wp2_with fail
        refine (rspace_any a _).mono ?_
        rintro e x2 ⟨rfl, rfl⟩
        rw [hsp]
        clear HT HD hsp hat
        go_wp2
        go_roundw
        case rel => exact ⟨k + 1, done, !done.isEmpty, hlt, by go_num, by cases done with | nil => rfl | cons => simp, by omega, HE.out, ao, cap, rfl, HO.out, HK.out⟩
        case measure => simp [intOf]; omega
      | false =>
        cases gp with
        | true =>
          have HE := Lib.hid (show tr l = (done ++ [32] ++ [a]) ++ trF (!(done ++ [32] ++ [a]).isEmpty) false (l.drop (k + 1)) by rw [HT.out, HD.out, trF_no hsp, if_pos rfl, ne_emp (done ++ [32]) a]; simp)
          go_wp2_with fail
          refine (rspace_any a _).mono ?_
          rintro e x2 ⟨rfl, rfl⟩
          rw [hsp]
          clear HT HD hsp
          go_upto_region 12 with (at_builtin; refine wpList_append_own _ rfl _ _ 25 rfl w.heap.size 5 i0 (.int .u8 0) 1 1 Tryz.underlying25 hi hz0 hz1 hz2 rfl (by decide) _ _ _ rfl (World.ownsRow.alloc HO.out _) ⟨wr.heap.size, 0, none⟩ 1 1 [.int .u8 (32)] rfl rfl (cell_one_new _ _ _) (fun x hx => by simp at hx; subst hx; rfl) (by unfold maxLen; omega) (by omega) (by have := HK.out.size; simp; omega) ?_; intro v' w7 hown' hgrow hnil)
          have HA := outB_one (b := 32) (Nat.le_refl _) HO.out HK.out hgrow hown'
          obtain ⟨ao2, cap2, rfl, ho2, hk2⟩ := HA
          have HO2 := Lib.hid ho2; have HK2 := Lib.hid hk2
          have hl2 : (done ++ [32]).length = done.length + 1 := by simp
          clear ho2 hk2 hgrow hown' hnil HO HK
          generalize done ++ [32] = done2 at *
          go_wp2_with (at_builtin; refine wpList_append_own _ rfl _ _ 25 rfl w.heap.size 5 i0 (.int .u8 0) 1 1 Tryz.underlying25 hi hz0 hz1 hz2 rfl (by decide) _ _ _ rfl (World.ownsRow.alloc HO2.out _) ⟨w7.heap.size, 0, none⟩ 1 1 [.int .u8 ((a.toNat : Int))] rfl rfl (cell_one_new _ _ _) (fun x hx => by simp at hx; subst hx; rfl) (by unfold maxLen; omega) (by omega) (by have := HK2.out.size; simp; omega) ?_; intro v' w8 hown' hgrow hnil)
          have HA := outB_one (Nat.le_refl _) HO2.out HK2.out hgrow hown'
          go_roundw
          case rel => exact ⟨k + 1, _, false, hlt, by go_num, rfl, by simp; omega, HE.out, HA⟩
          case measure => simp [intOf]; omega
        | false =>
          have HE := Lib.hid (show tr l = (done ++ [a]) ++ trF (!(done ++ [a]).isEmpty) false (l.drop (k + 1)) by rw [HT.out, HD.out, trF_no hsp, if_neg (by decide), ne_emp done a]; simp)
          go_wp2_with fail
          refine (rspace_any a _).mono ?_
          rintro e x2 ⟨rfl, rfl⟩
          rw [hsp]
          clear HT HD hsp
          go_wp2_with (at_builtin; refine wpList_append_own _ rfl _ _ 25 rfl w.heap.size 5 i0 (.int .u8 0) 1 1 Tryz.underlying25 hi hz0 hz1 hz2 rfl (by decide) _ _ _ rfl (World.ownsRow.alloc HO.out _) ⟨wr.heap.size, 0, none⟩ 1 1 [.int .u8 (a.toNat : Int)] rfl rfl (cell_one_new _ _ _) (fun x hx => by simp at hx; subst hx; rfl) (by unfold maxLen; omega) (by omega) (by have := HK.out.size; simp; omega) ?_; intro v' w7 hown' hgrow hnil)
          have HA := outB_one (Nat.le_refl _) HO.out HK.out hgrow hown'
          go_roundw
          case rel => exact ⟨k + 1, _, false, hlt, by go_num, rfl, by simp; omega, HE.out, HA⟩
          case measure => simp [intOf]; omega
    · obtain rfl : k = l.length := by omega
      have HE := Lib.hid (show tr l = done by rw [HT.out, List.drop_eq_nil_of_le (Nat.le_refl _)]; simp [trF])
      have hcv := conv_out HO.out
      go_wp2
      go_ret
      exact ⟨by rw [HE.out]; rfl, HK.out⟩
end Go.Proofs.YtjlpkgipdkjfhaaGreatDoor
