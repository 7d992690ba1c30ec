/- The document's answer for package plain: letters, marks, names, what breaks, what is hidden. -/
import Derived.Test.YtpkbcomdkamglaaGreatDoorPlC
import Derived.Test.YtpkbcomdkamglaaGreatDoorPlSp
import Derived.Test.YtpkbcomdkamglaaGreatDoorEnRefB
set_option linter.unusedSimpArgs false
set_option linter.unusedVariables false
namespace Go.Proofs.YtpkbcomdkamglaaGreatDoor.Pl
open Go.ChangeShapes Go.WideShapes Go.ChangeAt Go.RowKit
open En
theorem new_cell (w : World) (cs : Array Value) (t : TypeId) (j : Nat) (v : Value) (h : cs[j]? = some v) : (w.alloc (.cells cs t)).cell? ⟨w.heap.size, j, none⟩ = some v := by
  unfold World.cell?
  rw [show (w.alloc (.cells cs t)).heap = w.heap.push (.cells cs t) from rfl]
  simp [h]
theorem small_step (l : List UInt8) (k : Nat) (a : UInt8) (h : l[k]? = some a) : (l.take (k + 1)).map Lib.lowerB = (l.take k).map Lib.lowerB ++ [Lib.lowerB a] := by
  rw [List.take_add_one, h]; simp
theorem app_mk (a b : List UInt8) : (⟨a.toArray⟩ ++ ⟨b.toArray⟩ : ByteArray) = ⟨(a ++ b).toArray⟩ := by
  apply ByteArray.ext; simp [ByteArray.data_append]
set_option maxHeartbeats 1000000 in
set_option maxRecDepth 100000 in
theorem rsmall_any (l : List UInt8) (w : World) (hl : l.length ≤ 1000000) : Calls Tryz.prog 57 #[.string ⟨l.toArray⟩] w fun e w' => e = .returned (.string ⟨(l.map Lib.lowerB).toArray⟩) ∧ Kept w w' := by
  have hcb : ∀ (W : World) (b : UInt8), (convert 34 9 (.slice (some ⟨W.heap.size, 0, none⟩) 1 1)).run Tryz.prog (W.alloc (.cells #[.int .u8 b.toNat] 5)) = .ok (.string ⟨[b].toArray⟩) (W.alloc (.cells #[.int .u8 b.toNat] 5)) := by
    intro W b
    refine run_convert_bytes_back _ _ _ _ _ 1 [b] Tryz.underlying34 Tryz.underlying5 Tryz.underlying9 ?_
    intro j hj
    obtain rfl : j = 0 := by simp at hj; omega
    have := new_cell W #[.int .u8 b.toNat] 5 0 _ rfl
    simp [Addr.add]
  go_enter Tryz.func57, Tryz.ntmps57
  go_wp2_with fail
  go_loopw [3, 4] (fun a i y => ∃ k : Nat, k ≤ l.length ∧ i = .int .i64 k ∧ a = .string ⟨((l.take k).map Lib.lowerB).toArray⟩ ∧ Kept w y) (fun _ i _ => l.length - (intOf i).toNat)
  case atStart => exact ⟨0, Nat.zero_le _, rfl, rfl, Kept.refl _⟩
  case round =>
    obtain ⟨k, hk, rfl, rfl, hkp⟩ := hrel
    by_cases hlt : k < l.length
    · obtain ⟨a, ha⟩ : ∃ a, l[k]? = some a := ⟨_, List.getElem?_eq_getElem hlt⟩
      have HS := Lib.hid (small_step l k a ha)
      have hat := byte_at l k a ha
      have KP := Lib.hid hkp
      have hlen : ((l.take k).map Lib.lowerB).length = k := by simp; omega
      generalize (l.take k).map Lib.lowerB = s at *
      clear ha hkp
      by_cases g1 : (65 : Int) ≤ (a.toNat : Int) ∧ (a.toNat : Int) ≤ 90
      · obtain ⟨g1, g2⟩ := g1
        have hw : ((Lib.lowerB a).toNat : Int) = (a.toNat : Int) + 32 := by
          have h1 : (65 : UInt8) ≤ a := by rw [UInt8.le_iff_toNat_le]; show 65 ≤ a.toNat; omega
          have h2 : a ≤ (90 : UInt8) := by rw [UInt8.le_iff_toNat_le]; show a.toNat ≤ 90; omega
          unfold Lib.lowerB Lib.isUpperB
          simp [h1, h2, UInt8.toNat_add]; omega
        have hc2 := fun W => hcb W (Lib.lowerB a)
        rw [hw] at hc2
        generalize Lib.lowerB a = b at *
        clear hw hcb
        go_wp2
        go_roundw
        case rel => exact ⟨k + 1, hlt, by go_num, by rw [HS.out, ← app_mk], KP.out.alloc _⟩
        case measure => simp [intOf]; omega
      · have hw : Lib.lowerB a = a := by
          unfold Lib.lowerB Lib.isUpperB
          by_cases h1 : (65 : UInt8) ≤ a
          · have h2 : ¬ a ≤ (90 : UInt8) := by
              rw [UInt8.le_iff_toNat_le]; rw [UInt8.le_iff_toNat_le] at h1
              change 65 ≤ a.toNat at h1; change ¬ a.toNat ≤ 90; omega
            simp [h2]
          · simp [h1]
        rw [hw] at HS
        have hc2 := fun W => hcb W a
        clear hw hcb
        by_cases g2 : (65 : Int) ≤ (a.toNat : Int)
        · have g3 : ¬ (a.toNat : Int) ≤ 90 := by omega
          clear g1
          go_wp2
          go_roundw
          case rel => exact ⟨k + 1, hlt, by go_num, by rw [HS.out, ← app_mk], KP.out.alloc _⟩
          case measure => simp [intOf]; omega
        · clear g1
          go_wp2
          go_roundw
          case rel => exact ⟨k + 1, hlt, by go_num, by rw [HS.out, ← app_mk], KP.out.alloc _⟩
          case measure => simp [intOf]; omega
    · have hE := Lib.hid (show l.take k = l by rw [List.take_of_length_le (by omega)])
      go_wp2
      go_ret
      rw [hE.out]
      exact ⟨rfl, hkp⟩
theorem rletter_any (c : UInt8) (w : World) : Calls Tryz.prog 55 #[.int .u8 c.toNat] w fun e w' => e = .returned (.bool (ltB c)) ∧ w = w' := by
  rcases (show c.toNat < 65 ∨ (65 ≤ c.toNat ∧ c.toNat ≤ 90) ∨ (91 ≤ c.toNat ∧ c.toNat ≤ 96) ∨ (97 ≤ c.toNat ∧ c.toNat ≤ 122) ∨ 123 ≤ c.toNat by omega) with h | h | h | h | h
  · have HK := Lib.hid (show ltB c = false by unfold ltB; simp; omega)
    have b0 : decide ((65 : Int) ≤ c.toNat) = false := by simp; omega
    have b1 : decide ((97 : Int) ≤ c.toNat) = false := by simp; omega
    have b2 : decide ((c.toNat : Int) ≤ 90) = true := by simp; omega
    have b3 : decide ((c.toNat : Int) ≤ 122) = true := by simp; omega
    clear h
    go_enter Tryz.func55, Tryz.ntmps55
    go_wp2
    go_ret
    exact ⟨by rw [HK.out]; rfl, rfl⟩
  · have HK := Lib.hid (show ltB c = true by unfold ltB; simp; omega)
    have b0 : decide ((65 : Int) ≤ c.toNat) = true := by simp; omega
    have b1 : decide ((97 : Int) ≤ c.toNat) = false := by simp; omega
    have b2 : decide ((c.toNat : Int) ≤ 90) = true := by simp; omega
    have b3 : decide ((c.toNat : Int) ≤ 122) = true := by simp; omega
    clear h
    go_enter Tryz.func55, Tryz.ntmps55
    go_wp2
    go_ret
    exact ⟨by rw [HK.out]; rfl, rfl⟩
  · have HK := Lib.hid (show ltB c = false by unfold ltB; simp; omega)
    have b0 : decide ((65 : Int) ≤ c.toNat) = true := by simp; omega
    have b1 : decide ((97 : Int) ≤ c.toNat) = false := by simp; omega
    have b2 : decide ((c.toNat : Int) ≤ 90) = false := by simp; omega
    have b3 : decide ((c.toNat : Int) ≤ 122) = true := by simp; omega
    clear h
    go_enter Tryz.func55, Tryz.ntmps55
    go_wp2
    go_ret
    exact ⟨by rw [HK.out]; rfl, rfl⟩
  · have HK := Lib.hid (show ltB c = true by unfold ltB; simp; omega)
    have b0 : decide ((65 : Int) ≤ c.toNat) = true := by simp; omega
    have b1 : decide ((97 : Int) ≤ c.toNat) = true := by simp; omega
    have b2 : decide ((c.toNat : Int) ≤ 90) = false := by simp; omega
    have b3 : decide ((c.toNat : Int) ≤ 122) = true := by simp; omega
    clear h
    go_enter Tryz.func55, Tryz.ntmps55
    go_wp2
    go_ret
    exact ⟨by rw [HK.out]; rfl, rfl⟩
  · have HK := Lib.hid (show ltB c = false by unfold ltB; simp; omega)
    have b0 : decide ((65 : Int) ≤ c.toNat) = true := by simp; omega
    have b1 : decide ((97 : Int) ≤ c.toNat) = true := by simp; omega
    have b2 : decide ((c.toNat : Int) ≤ 90) = false := by simp; omega
    have b3 : decide ((c.toNat : Int) ≤ 122) = false := by simp; omega
    clear h
    go_enter Tryz.func55, Tryz.ntmps55
    go_wp2
    go_ret
    exact ⟨by rw [HK.out]; rfl, rfl⟩
theorem word_cases (c : UInt8) : wdB c = (ltB c || dgB c) := rfl
theorem rword_any (c : UInt8) (w : World) : Calls Tryz.prog 56 #[.int .u8 c.toNat] w fun e w' => e = .returned (.bool (wdB c)) ∧ w = w' := by
  have HL := Lib.hid (fun w => rletter_any c w)
  cases hl : ltB c with
  | true =>
    have HW := Lib.hid (show wdB c = true by rw [word_cases, hl]; rfl)
    rw [hl] at HL
    go_enter Tryz.func56, Tryz.ntmps56
    go_wp2_with (go_at_call 55; refine (HL.out _).mono ?_; rintro e w' ⟨rfl, rfl⟩)
    go_ret
    exact ⟨by rw [HW.out]; rfl, rfl⟩
  | false =>
    rw [hl] at HL
    rcases (show c.toNat < 48 ∨ (48 ≤ c.toNat ∧ c.toNat ≤ 57) ∨ 58 ≤ c.toNat by omega) with h | h | h
    · have HW := Lib.hid (show wdB c = false by rw [word_cases, hl]; unfold dgB; simp; omega)
      have b0 : decide ((48 : Int) ≤ c.toNat) = false := by simp; omega
      have b1 : decide ((c.toNat : Int) ≤ 57) = true := by simp; omega
      clear h hl
      go_enter Tryz.func56, Tryz.ntmps56
      go_wp2_with (go_at_call 55; refine (HL.out _).mono ?_; rintro e w' ⟨rfl, rfl⟩)
      go_ret
      exact ⟨by rw [HW.out]; rfl, rfl⟩
    · have HW := Lib.hid (show wdB c = true by rw [word_cases, hl]; unfold dgB; simp; omega)
      have b0 : decide ((48 : Int) ≤ c.toNat) = true := by simp; omega
      have b1 : decide ((c.toNat : Int) ≤ 57) = true := by simp; omega
      clear h hl
      go_enter Tryz.func56, Tryz.ntmps56
      go_wp2_with (go_at_call 55; refine (HL.out _).mono ?_; rintro e w' ⟨rfl, rfl⟩)
      go_ret
      exact ⟨by rw [HW.out]; rfl, rfl⟩
    · have HW := Lib.hid (show wdB c = false by rw [word_cases, hl]; unfold dgB; simp; omega)
      have b0 : decide ((48 : Int) ≤ c.toNat) = true := by simp; omega
      have b1 : decide ((c.toNat : Int) ≤ 57) = false := by simp; omega
      clear h hl
      go_enter Tryz.func56, Tryz.ntmps56
      go_wp2_with (go_at_call 55; refine (HL.out _).mono ?_; rintro e w' ⟨rfl, rfl⟩)
      go_ret
      exact ⟨by rw [HW.out]; rfl, rfl⟩
theorem rmark_any (l : B) (i : Nat) (c : UInt8) (w : World) (hc : l[i]? = some c) (hl : l.length ≤ 1000000) : Calls Tryz.prog 36 #[.string ⟨l.toArray⟩, .int .i64 i] w fun e w' => e = .returned (.bool (isM c (l.drop (i + 1)))) ∧ w = w' := by
  have hi := (List.getElem?_eq_some_iff.1 hc).1
  have hat := byte_at l i c hc
  have h60 : ((c.toNat : Int) == 60) = (c == 60) := by rw [Bool.eq_iff_iff, beq_iff_eq, beq_iff_eq, ← UInt8.toNat_inj]; show _ ↔ c.toNat = 60; omega
  have h60' : ((c.toNat : Int) != 60) = !(c == 60) := by rw [bne, h60]
  have HO := Lib.hid (show isM c (l.drop (i + 1)) = (c == 60 && opn (l.drop (i + 1))) from rfl)
  cases hq : (c == 60) with
  | false =>
    rw [hq] at HO h60 h60'
    clear hc hq
    generalize isM c (l.drop (i + 1)) = z at *
    go_enter Tryz.func36, Tryz.ntmps36
    go_wp2
    go_ret
    exact ⟨by rw [HO.out]; rfl, rfl⟩
  | true =>
    rw [hq] at HO h60 h60'
    by_cases hn : i + 1 < l.length
    · obtain ⟨d, hd⟩ : ∃ d, l[i + 1]? = some d := ⟨_, List.getElem?_eq_getElem hn⟩
      have hnI : ¬ (l.length : Int) ≤ (i : Int) + 1 := by omega
      have hat2 : ∀ hk, (ByteArray.mk l.toArray)[i + 1]'hk = d := byte_at l (i + 1) d hd
      have ho : opn (l.drop (i + 1)) = (ltB d || d == 47 || d == 33) := by
        obtain ⟨h1, rfl⟩ := List.getElem?_eq_some_iff.1 hd
        rw [List.drop_eq_getElem_cons h1]; rfl
      have h47 : ((d.toNat : Int) == 47) = (d == 47) := by rw [Bool.eq_iff_iff, beq_iff_eq, beq_iff_eq, ← UInt8.toNat_inj]; show _ ↔ d.toNat = 47; omega
      have h33 : ((d.toNat : Int) == 33) = (d == 33) := by rw [Bool.eq_iff_iff, beq_iff_eq, beq_iff_eq, ← UInt8.toNat_inj]; show _ ↔ d.toNat = 33; omega
      rw [ho, ← h47, ← h33] at HO
      have HL := Lib.hid (fun w => rletter_any d w)
      clear hc hq hd ho h47 h33
      generalize isM c (l.drop (i + 1)) = z at *
      cases h1 : ltB d with
      | true =>
        rw [h1] at HO HL
        go_enter Tryz.func36, Tryz.ntmps36
        go_wp2_with (go_at_call 55; refine (HL.out _).mono ?_; rintro e w' ⟨rfl, rfl⟩)
        go_ret
        exact ⟨by rw [HO.out]; rfl, rfl⟩
      | false =>
        rw [h1] at HO HL
        cases h2 : ((d.toNat : Int) == 47) with
        | true =>
          rw [h2] at HO
          go_enter Tryz.func36, Tryz.ntmps36
          go_wp2_with (go_at_call 55; refine (HL.out _).mono ?_; rintro e w' ⟨rfl, rfl⟩)
          go_ret
          exact ⟨by rw [HO.out]; rfl, rfl⟩
        | false =>
          rw [h2] at HO
          cases h3 : ((d.toNat : Int) == 33) with
          | true =>
            rw [h3] at HO
            go_enter Tryz.func36, Tryz.ntmps36
            go_wp2_with (go_at_call 55; refine (HL.out _).mono ?_; rintro e w' ⟨rfl, rfl⟩)
            go_ret
            exact ⟨by rw [HO.out]; rfl, rfl⟩
          | false =>
            rw [h3] at HO
            go_enter Tryz.func36, Tryz.ntmps36
            go_wp2_with (go_at_call 55; refine (HL.out _).mono ?_; rintro e w' ⟨rfl, rfl⟩)
            go_ret
            exact ⟨by rw [HO.out]; rfl, rfl⟩
    · have hnI : (l.length : Int) ≤ (i : Int) + 1 := by omega
      have ho : opn (l.drop (i + 1)) = false := by rw [List.drop_eq_nil_of_le (by omega)]; rfl
      rw [ho] at HO
      clear hc hq ho
      generalize isM c (l.drop (i + 1)) = z at *
      go_enter Tryz.func36, Tryz.ntmps36
      go_wp2
      go_ret
      exact ⟨by rw [HO.out]; rfl, rfl⟩
theorem rbreaks_any (n : B) (w : World) : Calls Tryz.prog 39 #[.string ⟨n.toArray⟩] w fun e w' => e = .returned (.bool (brk n)) ∧ w = w' := by
  by_cases e0 : n = [112]
  · subst e0
    go_enter Tryz.func39, Tryz.ntmps39
    go_wp2
    go_ret
    exact ⟨rfl, rfl⟩
  by_cases e1 : n = [98, 114]
  · subst e1
    go_enter Tryz.func39, Tryz.ntmps39
    go_wp2
    go_ret
    exact ⟨rfl, rfl⟩
  by_cases e2 : n = [100, 105, 118]
  · subst e2
    go_enter Tryz.func39, Tryz.ntmps39
    go_wp2
    go_ret
    exact ⟨rfl, rfl⟩
  by_cases e3 : n = [108, 105]
  · subst e3
    go_enter Tryz.func39, Tryz.ntmps39
    go_wp2
    go_ret
    exact ⟨rfl, rfl⟩
  by_cases e4 : n = [116, 114]
  · subst e4
    go_enter Tryz.func39, Tryz.ntmps39
    go_wp2
    go_ret
    exact ⟨rfl, rfl⟩
  by_cases e5 : n = [117, 108]
  · subst e5
    go_enter Tryz.func39, Tryz.ntmps39
    go_wp2
    go_ret
    exact ⟨rfl, rfl⟩
  by_cases e6 : n = [111, 108]
  · subst e6
    go_enter Tryz.func39, Tryz.ntmps39
    go_wp2
    go_ret
    exact ⟨rfl, rfl⟩
  by_cases e7 : n = [116, 97, 98, 108, 101]
  · subst e7
    go_enter Tryz.func39, Tryz.ntmps39
    go_wp2
    go_ret
    exact ⟨rfl, rfl⟩
  by_cases e8 : n = [104, 49]
  · subst e8
    go_enter Tryz.func39, Tryz.ntmps39
    go_wp2
    go_ret
    exact ⟨rfl, rfl⟩
  by_cases e9 : n = [104, 50]
  · subst e9
    go_enter Tryz.func39, Tryz.ntmps39
    go_wp2
    go_ret
    exact ⟨rfl, rfl⟩
  by_cases e10 : n = [104, 51]
  · subst e10
    go_enter Tryz.func39, Tryz.ntmps39
    go_wp2
    go_ret
    exact ⟨rfl, rfl⟩
  by_cases e11 : n = [104, 52]
  · subst e11
    go_enter Tryz.func39, Tryz.ntmps39
    go_wp2
    go_ret
    exact ⟨rfl, rfl⟩
  by_cases e12 : n = [104, 53]
  · subst e12
    go_enter Tryz.func39, Tryz.ntmps39
    go_wp2
    go_ret
    exact ⟨rfl, rfl⟩
  by_cases e13 : n = [104, 54]
  · subst e13
    go_enter Tryz.func39, Tryz.ntmps39
    go_wp2
    go_ret
    exact ⟨rfl, rfl⟩
  have HB := Lib.hid (show brk n = false by unfold brk brkL; simp [e0, e1, e2, e3, e4, e5, e6, e7, e8, e9, e10, e11, e12, e13])
  have f0 : (n == [112]) = false := beq_eq_false_iff_ne.2 e0
  have f1 : (n == [98, 114]) = false := beq_eq_false_iff_ne.2 e1
  have f2 : (n == [100, 105, 118]) = false := beq_eq_false_iff_ne.2 e2
  have f3 : (n == [108, 105]) = false := beq_eq_false_iff_ne.2 e3
  have f4 : (n == [116, 114]) = false := beq_eq_false_iff_ne.2 e4
  have f5 : (n == [117, 108]) = false := beq_eq_false_iff_ne.2 e5
  have f6 : (n == [111, 108]) = false := beq_eq_false_iff_ne.2 e6
  have f7 : (n == [116, 97, 98, 108, 101]) = false := beq_eq_false_iff_ne.2 e7
  have f8 : (n == [104, 49]) = false := beq_eq_false_iff_ne.2 e8
  have f9 : (n == [104, 50]) = false := beq_eq_false_iff_ne.2 e9
  have f10 : (n == [104, 51]) = false := beq_eq_false_iff_ne.2 e10
  have f11 : (n == [104, 52]) = false := beq_eq_false_iff_ne.2 e11
  have f12 : (n == [104, 53]) = false := beq_eq_false_iff_ne.2 e12
  have f13 : (n == [104, 54]) = false := beq_eq_false_iff_ne.2 e13
  clear e0 e1 e2 e3 e4 e5 e6 e7 e8 e9 e10 e11 e12 e13
  go_enter Tryz.func39, Tryz.ntmps39
  go_wp2
  go_ret
  exact ⟨by rw [HB.out]; rfl, rfl⟩
end Go.Proofs.YtpkbcomdkamglaaGreatDoor.Pl
