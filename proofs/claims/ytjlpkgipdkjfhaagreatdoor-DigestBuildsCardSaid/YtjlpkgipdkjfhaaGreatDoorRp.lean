import Derived.Test.YtjlpkgipdkjfhaaGreatDoorPc
import Derived.Test.YtjlpkgipdkjfhaaGreatDoorPa
import Derived.Test.YtjlpkgipdkjfhaaGreatDoorEnRefB
set_option linter.unusedVariables false
set_option linter.unusedSimpArgs false
namespace Go.Proofs.YtjlpkgipdkjfhaaGreatDoor.Pl
open Go.ChangeShapes Go.WideShapes Go.ChangeAt Go.RowKit
open En
theorem new_cell (w : World) (cs : Array Value) (t : TypeId) (j : Nat) (v : Value) (h : cs[j]? = some v) : (w.alloc (.cells cs t)).cell? ⟨w.heap.size, j, none⟩ = some v := by
  unfold World.cell?
  rw [show (w.alloc (.cells cs t)).heap = w.heap.push (.cells cs t) from rfl]
  simp [h]
theorem small_step (l : List UInt8) (k : Nat) (a : UInt8) (h : l[k]? = some a) : (l.take (k + 1)).map Lib.lowerB = (l.take k).map Lib.lowerB ++ [Lib.lowerB a] := by
  rw [List.take_add_one, h]; simp
theorem app_mk (a b : List UInt8) : (⟨a.toArray⟩ ++ ⟨b.toArray⟩ : ByteArray) = ⟨(a ++ b).toArray⟩ := by
  apply ByteArray.ext; simp [ByteArray.data_append]
set_option maxHeartbeats 1000000 in
set_option maxRecDepth 100000 in
theorem rsmall_any (l : List UInt8) (w : World) (hl : l.length ≤ 1000000) : Calls Tryz.prog 168 #[.string ⟨l.toArray⟩] w fun e w' => e = .returned (.string ⟨(l.map Lib.lowerB).toArray⟩) ∧ Kept w w' := by
  have hcb : ∀ (W : World) (b : UInt8), (convert 25 9 (.slice (some ⟨W.heap.size, 0, none⟩) 1 1)).run Tryz.prog (W.alloc (.cells #[.int .u8 b.toNat] 5)) = .ok (.string ⟨[b].toArray⟩) (W.alloc (.cells #[.int .u8 b.toNat] 5)) := by
    intro W b
    refine run_convert_bytes_back _ _ _ _ _ 1 [b] Tryz.underlying25 Tryz.underlying5 Tryz.underlying9 ?_
    intro j hj
    obtain rfl : j = 0 := by simp at hj; omega
    have := new_cell W #[.int .u8 b.toNat] 5 0 _ rfl
    simp [Addr.add]
  go_enter Tryz.func168, Tryz.ntmps168
  go_wp2_with fail
  go_loopw [3, 4] (fun a i y => ∃ k : Nat, k ≤ l.length ∧ i = .int .i64 k ∧ a = .string ⟨((l.take k).map Lib.lowerB).toArray⟩ ∧ Kept w y) (fun _ i _ => l.length - (intOf i).toNat)
  case atStart => exact ⟨0, Nat.zero_le _, rfl, rfl, Kept.refl _⟩
  case round =>
    obtain ⟨k, hk, rfl, rfl, hkp⟩ := hrel
    by_cases hlt : k < l.length
    · obtain ⟨a, ha⟩ : ∃ a, l[k]? = some a := ⟨_, List.getElem?_eq_getElem hlt⟩
      have HS := Lib.hid (small_step l k a ha)
      have hat := byte_at l k a ha
      have KP := Lib.hid hkp
      have hlen : ((l.take k).map Lib.lowerB).length = k := by simp; omega
      generalize (l.take k).map Lib.lowerB = s at *
      clear ha hkp
      by_cases g1 : (65 : Int) ≤ (a.toNat : Int) ∧ (a.toNat : Int) ≤ 90
      · obtain ⟨g1, g2⟩ := g1
        have hw : ((Lib.lowerB a).toNat : Int) = (a.toNat : Int) + 32 := by
          have h1 : (65 : UInt8) ≤ a := by rw [UInt8.le_iff_toNat_le]; show 65 ≤ a.toNat; omega
          have h2 : a ≤ (90 : UInt8) := by rw [UInt8.le_iff_toNat_le]; show a.toNat ≤ 90; omega
          unfold Lib.lowerB Lib.isUpperB
          simp [h1, h2, UInt8.toNat_add]; omega
        have hc2 := fun W => hcb W (Lib.lowerB a)
        rw [hw] at hc2
        generalize Lib.lowerB a = b at *
        clear hw hcb
        go_wp2
        go_roundw
        case rel => exact ⟨k + 1, hlt, by go_num, by rw [HS.out, ← app_mk], KP.out.alloc _⟩
        case measure => simp [intOf]; omega
      · have hw : Lib.lowerB a = a := by
          unfold Lib.lowerB Lib.isUpperB
          by_cases h1 : (65 : UInt8) ≤ a
          · have h2 : ¬ a ≤ (90 : UInt8) := by
              rw [UInt8.le_iff_toNat_le]; rw [UInt8.le_iff_toNat_le] at h1
              change 65 ≤ a.toNat at h1; change ¬ a.toNat ≤ 90; omega
            simp [h2]
          · simp [h1]
        rw [hw] at HS
        have hc2 := fun W => hcb W a
        clear hw hcb
        by_cases g2 : (65 : Int) ≤ (a.toNat : Int)
        · have g3 : ¬ (a.toNat : Int) ≤ 90 := by omega
          clear g1
          go_wp2
          go_roundw
          case rel => exact ⟨k + 1, hlt, by go_num, by rw [HS.out, ← app_mk], KP.out.alloc _⟩
          case measure => simp [intOf]; omega
        · clear g1
          go_wp2
          go_roundw
          case rel => exact ⟨k + 1, hlt, by go_num, by rw [HS.out, ← app_mk], KP.out.alloc _⟩
          case measure => simp [intOf]; omega
    · have hE := Lib.hid (show l.take k = l by rw [List.take_of_length_le (by omega)])
      go_wp2
      go_ret
      rw [hE.out]
      exact ⟨rfl, hkp⟩
theorem rletter_any (c : UInt8) (w : World) : Calls Tryz.prog 166 #[.int .u8 c.toNat] w fun e w' => e = .returned (.bool (ltB c)) ∧ w = w' := by
  rcases (show c.toNat < 65 ∨ (65 ≤ c.toNat ∧ c.toNat ≤ 90) ∨ (91 ≤ c.toNat ∧ c.toNat ≤ 96) ∨ (97 ≤ c.toNat ∧ c.toNat ≤ 122) ∨ 123 ≤ c.toNat by omega) with h | h | h | h | h
  · have HK := Lib.hid (show ltB c = false by unfold ltB; simp; omega)
    have b0 : decide ((65 : Int) ≤ c.toNat) = false := by simp; omega
    have b1 : decide ((97 : Int) ≤ c.toNat) = false := by simp; omega
    have b2 : decide ((c.toNat : Int) ≤ 90) = true := by simp; omega
    have b3 : decide ((c.toNat : Int) ≤ 122) = true := by simp; omega
    clear h
    go_enter Tryz.func166, Tryz.ntmps166
    go_wp2
    go_ret
    exact ⟨by rw [HK.out]; rfl, rfl⟩
  · have HK := Lib.hid (show ltB c = true by unfold ltB; simp; omega)
    have b0 : decide ((65 : Int) ≤ c.toNat) = true := by simp; omega
    have b1 : decide ((97 : Int) ≤ c.toNat) = false := by simp; omega
    have b2 : decide ((c.toNat : Int) ≤ 90) = true := by simp; omega
    have b3 : decide ((c.toNat : Int) ≤ 122) = true := by simp; omega
    clear h
    go_enter Tryz.func166, Tryz.ntmps166
    go_wp2
    go_ret
    exact ⟨by rw [HK.out]; rfl, rfl⟩
  · have HK := Lib.hid (show ltB c = false by unfold ltB; simp; omega)
    have b0 : decide ((65 : Int) ≤ c.toNat) = true := by simp; omega
    have b1 : decide ((97 : Int) ≤ c.toNat) = false := by simp; omega
    have b2 : decide ((c.toNat : Int) ≤ 90) = false := by simp; omega
    have b3 : decide ((c.toNat : Int) ≤ 122) = true := by simp; omega
    clear h
    go_enter Tryz.func166, Tryz.ntmps166
    go_wp2
    go_ret
    exact ⟨by rw [HK.out]; rfl, rfl⟩
  · have HK := Lib.hid (show ltB c = true by unfold ltB; simp; omega)
    have b0 : decide ((65 : Int) ≤ c.toNat) = true := by simp; omega
    have b1 : decide ((97 : Int) ≤ c.toNat) = true := by simp; omega
    have b2 : decide ((c.toNat : Int) ≤ 90) = false := by simp; omega
    have b3 : decide ((c.toNat : Int) ≤ 122) = true := by simp; omega
    clear h
    go_enter Tryz.func166, Tryz.ntmps166
    go_wp2
    go_ret
    exact ⟨by rw [HK.out]; rfl, rfl⟩
  · have HK := Lib.hid (show ltB c = false by unfold ltB; simp; omega)
    have b0 : decide ((65 : Int) ≤ c.toNat) = true := by simp; omega
    have b1 : decide ((97 : Int) ≤ c.toNat) = true := by simp; omega
    have b2 : decide ((c.toNat : Int) ≤ 90) = false := by simp; omega
    have b3 : decide ((c.toNat : Int) ≤ 122) = false := by simp; omega
    clear h
    go_enter Tryz.func166, Tryz.ntmps166
    go_wp2
    go_ret
    exact ⟨by rw [HK.out]; rfl, rfl⟩
theorem word_cases (c : UInt8) : wdB c = (ltB c || dgB c) := rfl
theorem rword_any (c : UInt8) (w : World) : Calls Tryz.prog 167 #[.int .u8 c.toNat] w fun e w' => e = .returned (.bool (wdB c)) ∧ w = w' := by
  have HL := Lib.hid (fun w => rletter_any c w)
  cases hl : ltB c with
  | true =>
    have HW := Lib.hid (show wdB c = true by rw [word_cases, hl]; rfl)
    rw [hl] at HL
    go_enter Tryz.func167, Tryz.ntmps167
    go_wp2_with (go_at_call 166; refine (HL.out _).mono ?_; rintro e w' ⟨rfl, rfl⟩)
    go_ret
    exact ⟨by rw [HW.out]; rfl, rfl⟩
  | false =>
    rw [hl] at HL
    rcases (show c.toNat < 48 ∨ (48 ≤ c.toNat ∧ c.toNat ≤ 57) ∨ 58 ≤ c.toNat by omega) with h | h | h
    · have HW := Lib.hid (show wdB c = false by rw [word_cases, hl]; unfold dgB; simp; omega)
      have b0 : decide ((48 : Int) ≤ c.toNat) = false := by simp; omega
      have b1 : decide ((c.toNat : Int) ≤ 57) = true := by simp; omega
      clear h hl
      go_enter Tryz.func167, Tryz.ntmps167
      go_wp2_with (go_at_call 166; refine (HL.out _).mono ?_; rintro e w' ⟨rfl, rfl⟩)
      go_ret
      exact ⟨by rw [HW.out]; rfl, rfl⟩
    · have HW := Lib.hid (show wdB c = true by rw [word_cases, hl]; unfold dgB; simp; omega)
      have b0 : decide ((48 : Int) ≤ c.toNat) = true := by simp; omega
      have b1 : decide ((c.toNat : Int) ≤ 57) = true := by simp; omega
      clear h hl
      go_enter Tryz.func167, Tryz.ntmps167
      go_wp2_with (go_at_call 166; refine (HL.out _).mono ?_; rintro e w' ⟨rfl, rfl⟩)
      go_ret
      exact ⟨by rw [HW.out]; rfl, rfl⟩
    · have HW := Lib.hid (show wdB c = false by rw [word_cases, hl]; unfold dgB; simp; omega)
      have b0 : decide ((48 : Int) ≤ c.toNat) = true := by simp; omega
      have b1 : decide ((c.toNat : Int) ≤ 57) = false := by simp; omega
      clear h hl
      go_enter Tryz.func167, Tryz.ntmps167
      go_wp2_with (go_at_call 166; refine (HL.out _).mono ?_; rintro e w' ⟨rfl, rfl⟩)
      go_ret
      exact ⟨by rw [HW.out]; rfl, rfl⟩
theorem rmark_any (l : B) (i : Nat) (c : UInt8) (w : World) (hc : l[i]? = some c) (hl : l.length ≤ 1000000) : Calls Tryz.prog 115 #[.string ⟨l.toArray⟩, .int .i64 i] w fun e w' => e = .returned (.bool (isM c (l.drop (i + 1)))) ∧ w = w' := by
  have hi := (List.getElem?_eq_some_iff.1 hc).1
  have hat := byte_at l i c hc
  have h60 : ((c.toNat : Int) == 60) = (c == 60) := by rw [Bool.eq_iff_iff, beq_iff_eq, beq_iff_eq, ← UInt8.toNat_inj]; show _ ↔ c.toNat = 60; omega
  have h60' : ((c.toNat : Int) != 60) = !(c == 60) := by rw [bne, h60]
  have HO := Lib.hid (show isM c (l.drop (i + 1)) = (c == 60 && opn (l.drop (i + 1))) from rfl)
  cases hq : (c == 60) with
  | false =>
    rw [hq] at HO h60 h60'
    clear hc hq
    generalize isM c (l.drop (i + 1)) = z at *
    go_enter Tryz.func115, Tryz.ntmps115
    go_wp2
    go_ret
    exact ⟨by rw [HO.out]; rfl, rfl⟩
  | true =>
    rw [hq] at HO h60 h60'
    by_cases hn : i + 1 < l.length
    · obtain ⟨d, hd⟩ : ∃ d, l[i + 1]? = some d := ⟨_, List.getElem?_eq_getElem hn⟩
      have hnI : ¬ (l.length : Int) ≤ (i : Int) + 1 := by omega
      have hat2 : ∀ hk, (ByteArray.mk l.toArray)[i + 1]'hk = d := byte_at l (i + 1) d hd
      have ho : opn (l.drop (i + 1)) = (ltB d || d == 47 || d == 33) := by
        obtain ⟨h1, rfl⟩ := List.getElem?_eq_some_iff.1 hd
        rw [List.drop_eq_getElem_cons h1]; rfl
      have h47 : ((d.toNat : Int) == 47) = (d == 47) := by rw [Bool.eq_iff_iff, beq_iff_eq, beq_iff_eq, ← UInt8.toNat_inj]; show _ ↔ d.toNat = 47; omega
      have h33 : ((d.toNat : Int) == 33) = (d == 33) := by rw [Bool.eq_iff_iff, beq_iff_eq, beq_iff_eq, ← UInt8.toNat_inj]; show _ ↔ d.toNat = 33; omega
      rw [ho, ← h47, ← h33] at HO
      have HL := Lib.hid (fun w => rletter_any d w)
      clear hc hq hd ho h47 h33
      generalize isM c (l.drop (i + 1)) = z at *
      cases h1 : ltB d with
      | true =>
        rw [h1] at HO HL
        go_enter Tryz.func115, Tryz.ntmps115
        go_wp2_with (go_at_call 166; refine (HL.out _).mono ?_; rintro e w' ⟨rfl, rfl⟩)
        go_ret
        exact ⟨by rw [HO.out]; rfl, rfl⟩
      | false =>
        rw [h1] at HO HL
        cases h2 : ((d.toNat : Int) == 47) with
        | true =>
          rw [h2] at HO
          go_enter Tryz.func115, Tryz.ntmps115
          go_wp2_with (go_at_call 166; refine (HL.out _).mono ?_; rintro e w' ⟨rfl, rfl⟩)
          go_ret
          exact ⟨by rw [HO.out]; rfl, rfl⟩
        | false =>
          rw [h2] at HO
          cases h3 : ((d.toNat : Int) == 33) with
          | true =>
            rw [h3] at HO
            go_enter Tryz.func115, Tryz.ntmps115
            go_wp2_with (go_at_call 166; refine (HL.out _).mono ?_; rintro e w' ⟨rfl, rfl⟩)
            go_ret
            exact ⟨by rw [HO.out]; rfl, rfl⟩
          | false =>
            rw [h3] at HO
            go_enter Tryz.func115, Tryz.ntmps115
            go_wp2_with (go_at_call 166; refine (HL.out _).mono ?_; rintro e w' ⟨rfl, rfl⟩)
            go_ret
            exact ⟨by rw [HO.out]; rfl, rfl⟩
    · have hnI : (l.length : Int) ≤ (i : Int) + 1 := by omega
      have ho : opn (l.drop (i + 1)) = false := by rw [List.drop_eq_nil_of_le (by omega)]; rfl
      rw [ho] at HO
      clear hc hq ho
      generalize isM c (l.drop (i + 1)) = z at *
      go_enter Tryz.func115, Tryz.ntmps115
      go_wp2
      go_ret
      exact ⟨by rw [HO.out]; rfl, rfl⟩
theorem rbreaks_any (n : B) (w : World) : Calls Tryz.prog 118 #[.string ⟨n.toArray⟩] w fun e w' => e = .returned (.bool (brk n)) ∧ w = w' := by
  by_cases e0 : n = [112]
  · subst e0
    go_enter Tryz.func118, Tryz.ntmps118
    go_wp2
    go_ret
    exact ⟨rfl, rfl⟩
  by_cases e1 : n = [98, 114]
  · subst e1
    go_enter Tryz.func118, Tryz.ntmps118
    go_wp2
    go_ret
    exact ⟨rfl, rfl⟩
  by_cases e2 : n = [100, 105, 118]
  · subst e2
    go_enter Tryz.func118, Tryz.ntmps118
    go_wp2
    go_ret
    exact ⟨rfl, rfl⟩
  by_cases e3 : n = [108, 105]
  · subst e3
    go_enter Tryz.func118, Tryz.ntmps118
    go_wp2
    go_ret
    exact ⟨rfl, rfl⟩
  by_cases e4 : n = [116, 114]
  · subst e4
    go_enter Tryz.func118, Tryz.ntmps118
    go_wp2
    go_ret
    exact ⟨rfl, rfl⟩
  by_cases e5 : n = [117, 108]
  · subst e5
    go_enter Tryz.func118, Tryz.ntmps118
    go_wp2
    go_ret
    exact ⟨rfl, rfl⟩
  by_cases e6 : n = [111, 108]
  · subst e6
    go_enter Tryz.func118, Tryz.ntmps118
    go_wp2
    go_ret
    exact ⟨rfl, rfl⟩
  by_cases e7 : n = [116, 97, 98, 108, 101]
  · subst e7
    go_enter Tryz.func118, Tryz.ntmps118
    go_wp2
    go_ret
    exact ⟨rfl, rfl⟩
  by_cases e8 : n = [104, 49]
  · subst e8
    go_enter Tryz.func118, Tryz.ntmps118
    go_wp2
    go_ret
    exact ⟨rfl, rfl⟩
  by_cases e9 : n = [104, 50]
  · subst e9
    go_enter Tryz.func118, Tryz.ntmps118
    go_wp2
    go_ret
    exact ⟨rfl, rfl⟩
  by_cases e10 : n = [104, 51]
  · subst e10
    go_enter Tryz.func118, Tryz.ntmps118
    go_wp2
    go_ret
    exact ⟨rfl, rfl⟩
  by_cases e11 : n = [104, 52]
  · subst e11
    go_enter Tryz.func118, Tryz.ntmps118
    go_wp2
    go_ret
    exact ⟨rfl, rfl⟩
  by_cases e12 : n = [104, 53]
  · subst e12
    go_enter Tryz.func118, Tryz.ntmps118
    go_wp2
    go_ret
    exact ⟨rfl, rfl⟩
  by_cases e13 : n = [104, 54]
  · subst e13
    go_enter Tryz.func118, Tryz.ntmps118
    go_wp2
    go_ret
    exact ⟨rfl, rfl⟩
  have HB := Lib.hid (show brk n = false by unfold brk brkL; simp [e0, e1, e2, e3, e4, e5, e6, e7, e8, e9, e10, e11, e12, e13])
  have f0 : (n == [112]) = false := beq_eq_false_iff_ne.2 e0
  have f1 : (n == [98, 114]) = false := beq_eq_false_iff_ne.2 e1
  have f2 : (n == [100, 105, 118]) = false := beq_eq_false_iff_ne.2 e2
  have f3 : (n == [108, 105]) = false := beq_eq_false_iff_ne.2 e3
  have f4 : (n == [116, 114]) = false := beq_eq_false_iff_ne.2 e4
  have f5 : (n == [117, 108]) = false := beq_eq_false_iff_ne.2 e5
  have f6 : (n == [111, 108]) = false := beq_eq_false_iff_ne.2 e6
  have f7 : (n == [116, 97, 98, 108, 101]) = false := beq_eq_false_iff_ne.2 e7
  have f8 : (n == [104, 49]) = false := beq_eq_false_iff_ne.2 e8
  have f9 : (n == [104, 50]) = false := beq_eq_false_iff_ne.2 e9
  have f10 : (n == [104, 51]) = false := beq_eq_false_iff_ne.2 e10
  have f11 : (n == [104, 52]) = false := beq_eq_false_iff_ne.2 e11
  have f12 : (n == [104, 53]) = false := beq_eq_false_iff_ne.2 e12
  have f13 : (n == [104, 54]) = false := beq_eq_false_iff_ne.2 e13
  clear e0 e1 e2 e3 e4 e5 e6 e7 e8 e9 e10 e11 e12 e13
  go_enter Tryz.func118, Tryz.ntmps118
  go_wp2
  go_ret
  exact ⟨by rw [HB.out]; rfl, rfl⟩
theorem drop_cons {l : B} {i : Nat} {c : UInt8} (h : l[i]? = some c) : l.drop i = c :: l.drop (i + 1) := by
  obtain ⟨hi, rfl⟩ := List.getElem?_eq_some_iff.1 h
  exact List.drop_eq_getElem_cons hi
theorem rname_from (l : B) (f : Nat) (w : World) (hf : f ≤ l.length) (hl : l.length ≤ 100000) : ∃ j, f + j ≤ l.length ∧ (l.drop f).takeWhile wdB = (l.drop f).take j ∧ (∀ k, k < j → ∃ c, l[f + k]? = some c ∧ wdB c = true) ∧ (∀ c, l[f + j]? = some c → wdB c = false) := by
  have key : ∀ (x : B), ∃ j, j ≤ x.length ∧ x.takeWhile wdB = x.take j ∧ (∀ k, k < j → ∃ c, x[k]? = some c ∧ wdB c = true) ∧ (∀ c, x[j]? = some c → wdB c = false) := by
    intro x
    induction x with
    | nil => exact ⟨0, Nat.le_refl _, rfl, fun k hk => by omega, fun c h => by simp at h⟩
    | cons a r ih =>
      by_cases h : wdB a = true
      · obtain ⟨j, h1, h2, h3, h4⟩ := ih
        refine ⟨j + 1, by simp; omega, by rw [List.takeWhile_cons, if_pos h, h2, List.take_succ_cons], fun k hk => ?_, fun c hc => h4 c (by simpa using hc)⟩
        cases k with
        | zero => exact ⟨a, rfl, h⟩
        | succ k => exact h3 k (by omega)
      · refine ⟨0, Nat.zero_le _, by rw [List.takeWhile_cons, if_neg h]; rfl, fun k hk => by omega, fun c hc => ?_⟩
        simp at hc; subst hc; simpa using h
  obtain ⟨j, h1, h2, h3, h4⟩ := key (l.drop f)
  rw [List.length_drop] at h1
  exact ⟨j, by omega, h2, fun k hk => by have := h3 k hk; rwa [List.getElem?_drop] at this, fun c hc => h4 c (by rwa [List.getElem?_drop])⟩
set_option maxRecDepth 100000 in
set_option maxHeartbeats 4000000 in
theorem rname_any (l : B) (i : Nat) (w : World) (hi : i + 1 < l.length) (hl : l.length ≤ 100000) : Calls Tryz.prog 116 #[.string ⟨l.toArray⟩, .int .i64 i] w fun e w' => e = .returned (.string ⟨(nam (l.drop (i + 1))).toArray⟩) ∧ Kept w w' := by
  obtain ⟨c, hc⟩ : ∃ c, l[i + 1]? = some c := ⟨_, List.getElem?_eq_getElem hi⟩
  have hat : ∀ hk, (ByteArray.mk l.toArray)[i + 1]'hk = c := byte_at l (i + 1) c hc
  have hcl : clo (l.drop (i + 1)) = (c == 47) := by rw [drop_cons hc]; rfl
  have h47 : ((c.toNat : Int) == 47) = (c == 47) := by rw [Bool.eq_iff_iff, beq_iff_eq, beq_iff_eq, ← UInt8.toNat_inj]; show _ ↔ c.toNat = 47; omega
  obtain ⟨f, hf, hfI, hcor⟩ : ∃ f : Nat, f ≤ l.length ∧ ((f : Int) = if (c == 47) = true then (i : Int) + 1 + 1 else (i : Int) + 1) ∧ cor (l.drop (i + 1)) = l.drop f := by
    cases hq : (c == 47) with
    | true => exact ⟨i + 2, by omega, by simp; omega, by unfold cor; rw [hcl, hq, if_pos rfl, List.drop_drop]⟩
    | false => exact ⟨i + 1, by omega, by simp, by unfold cor; rw [hcl, hq]; rfl⟩
  obtain ⟨j, hj, htw, hyes, hno⟩ := rname_from l f w hf hl
  have HN := Lib.hid (show nam (l.drop (i + 1)) = lo ((l.drop f).take j) by unfold nam; rw [hcor, htw])
  have HY := Lib.hid hyes
  have HNo := Lib.hid hno
  have hsl : ∀ W : World, (Instr.slice 9 (.string ⟨l.toArray⟩) (some (.int .i64 f)) (some (.int .i64 ((f : Int) + j))) none).run Tryz.prog W = .ok (.string ⟨((l.drop f).take j).toArray⟩) W := fun W => by
    have := cut_both l f (f + j) (by omega) hj W
    rw [show ((f + j : Nat) : Int) = (f : Int) + j by omega, List.drop_take, show f + j - f = j by omega] at this
    exact this
  have HS := Lib.hid (fun w => rsmall_any ((l.drop f).take j) w (by rw [List.length_take, List.length_drop]; omega))
  rw [show ((l.drop f).take j).map Lib.lowerB = lo ((l.drop f).take j) from rfl, ← HN.out] at HS
  clear hyes hno htw hcor hcl hc HN
  generalize nam (l.drop (i + 1)) = z at *
  generalize (l.drop f).take j = x at *
  cases hq : (c == 47) with
  | true =>
    rw [hq] at h47 hfI
    simp only [if_true] at hfI
    rw [hfI] at hsl
    go_enter Tryz.func116, Tryz.ntmps116
    go_wp2
    go_loopw [1] (fun vi wr => ∃ k : Nat, k ≤ j ∧ vi = .int .i64 ((i : Int) + 1 + 1 + k) ∧ wr = w) (fun vi _ => l.length - (intOf vi).toNat)
    case atStart => exact ⟨0, Nat.zero_le _, by simp, rfl⟩
    case round =>
      obtain ⟨k, hk, rfl, rfl⟩ := hrel
      by_cases hkj : k < j
      · obtain ⟨c1, hc1, hw1⟩ := HY.out k hkj
        have hlt : (i : Int) + 1 + 1 + k < (l.length : Int) := by omega
        have hat2 : ∀ hk, (ByteArray.mk l.toArray)[i + 1 + 1 + k]'hk = c1 := by
          have e : i + 1 + 1 + k = f + k := by omega
          intro hk2
          have := byte_at l (i + 1 + 1 + k) c1 (by rw [e]; exact hc1) hk2
          exact this
        have HW := Lib.hid (fun w => rword_any c1 w)
        rw [hw1] at HW
        clear hc1 hw1
        go_wp2_with (go_at_call 167; refine (HW.out _).mono ?_; rintro e w' ⟨rfl, rfl⟩)
        go_roundw
        case rel => exact ⟨k + 1, hkj, by go_num, trivial⟩
        case measure => simp [intOf]; omega
      · obtain rfl : k = j := by omega
        by_cases hlt : (i : Int) + 1 + 1 + k < (l.length : Int)
        · obtain ⟨c1, hc1⟩ : ∃ c1, l[f + k]? = some c1 := ⟨_, List.getElem?_eq_getElem (by omega)⟩
          have hw1 := HNo.out c1 hc1
          have hat2 : ∀ hk, (ByteArray.mk l.toArray)[i + 1 + 1 + k]'hk = c1 := by
            have e : i + 1 + 1 + k = f + k := by omega
            intro hk2
            have := byte_at l (i + 1 + 1 + k) c1 (by rw [e]; exact hc1) hk2
            exact this
          have HW := Lib.hid (fun w => rword_any c1 w)
          rw [hw1] at HW
          clear hc1 hw1
          go_wp2_with (first | (go_at_call 167; refine (HW.out _).mono ?_; rintro e w' ⟨rfl, rfl⟩) | fail)
          refine (HS.out _).mono ?_
          rintro e w2 ⟨rfl, k2⟩
          go_wp2
          go_ret
          exact ⟨rfl, k2⟩
        · go_wp2_with fail
          refine (HS.out _).mono ?_
          rintro e w2 ⟨rfl, k2⟩
          go_wp2
          go_ret
          exact ⟨rfl, k2⟩
  | false =>
    rw [hq] at h47 hfI
    simp only [Bool.false_eq_true, if_false] at hfI
    rw [hfI] at hsl
    go_enter Tryz.func116, Tryz.ntmps116
    go_wp2
    go_loopw [1] (fun vi wr => ∃ k : Nat, k ≤ j ∧ vi = .int .i64 ((i : Int) + 1 + k) ∧ wr = w) (fun vi _ => l.length - (intOf vi).toNat)
    case atStart => exact ⟨0, Nat.zero_le _, by simp, rfl⟩
    case round =>
      obtain ⟨k, hk, rfl, rfl⟩ := hrel
      by_cases hkj : k < j
      · obtain ⟨c1, hc1, hw1⟩ := HY.out k hkj
        have hlt : (i : Int) + 1 + k < (l.length : Int) := by omega
        have hat2 : ∀ hk, (ByteArray.mk l.toArray)[i + 1 + k]'hk = c1 := by
          have e : i + 1 + k = f + k := by omega
          intro hk2
          have := byte_at l (i + 1 + k) c1 (by rw [e]; exact hc1) hk2
          exact this
        have HW := Lib.hid (fun w => rword_any c1 w)
        rw [hw1] at HW
        clear hc1 hw1
        go_wp2_with (go_at_call 167; refine (HW.out _).mono ?_; rintro e w' ⟨rfl, rfl⟩)
        go_roundw
        case rel => exact ⟨k + 1, hkj, by go_num, trivial⟩
        case measure => simp [intOf]; omega
      · obtain rfl : k = j := by omega
        by_cases hlt : (i : Int) + 1 + k < (l.length : Int)
        · obtain ⟨c1, hc1⟩ : ∃ c1, l[f + k]? = some c1 := ⟨_, List.getElem?_eq_getElem (by omega)⟩
          have hw1 := HNo.out c1 hc1
          have hat2 : ∀ hk, (ByteArray.mk l.toArray)[i + 1 + k]'hk = c1 := by
            have e : i + 1 + k = f + k := by omega
            intro hk2
            have := byte_at l (i + 1 + k) c1 (by rw [e]; exact hc1) hk2
            exact this
          have HW := Lib.hid (fun w => rword_any c1 w)
          rw [hw1] at HW
          clear hc1 hw1
          go_wp2_with (first | (go_at_call 167; refine (HW.out _).mono ?_; rintro e w' ⟨rfl, rfl⟩) | fail)
          refine (HS.out _).mono ?_
          rintro e w2 ⟨rfl, k2⟩
          go_wp2
          go_ret
          exact ⟨rfl, k2⟩
        · go_wp2_with fail
          refine (HS.out _).mono ?_
          rintro e w2 ⟨rfl, k2⟩
          go_wp2
          go_ret
          exact ⟨rfl, k2⟩
theorem low_sym {c : UInt8} (d : UInt8) (h1 : d.toNat < 65) : (Lib.lowerB c = d) ↔ c = d := by
  unfold Lib.lowerB Lib.isUpperB
  split
  · rename_i h
    simp only [Bool.and_eq_true, decide_eq_true_eq, UInt8.le_iff_toNat_le] at h
    have h2 : 65 ≤ c.toNat := h.1
    have h3 : c.toNat ≤ 90 := h.2
    constructor
    · intro e
      have := congrArg UInt8.toNat e
      rw [UInt8.toNat_add] at this
      have h4 : (32 : UInt8).toNat = 32 := rfl
      rw [h4] at this
      omega
    · intro e; rw [e] at h2; omega
  · exact Iff.rfl
theorem hit_lo (n x : B) (h : n.length + 2 ≤ x.length) : hit n x = (lo (x.take (n.length + 2)) == 60 :: 47 :: n) := by
  match x, h with
  | a :: b :: y, h =>
    unfold hit lo
    rw [Bool.eq_iff_iff]
    simp only [Bool.and_eq_true, beq_iff_eq, List.take_succ_cons, List.take_zero, List.drop_succ_cons, List.drop_zero, List.map_cons, List.cons.injEq, and_true]
    rw [low_sym 60 (by decide), low_sym 47 (by decide)]
    constructor
    · rintro ⟨⟨h1, h2⟩, h3⟩; exact ⟨h1, h2, h3⟩
    · rintro ⟨h1, h2, h3⟩; exact ⟨⟨h1, h2⟩, h3⟩
theorem hit_len {n x : B} (h : hit n x = true) : n.length + 2 ≤ x.length := by
  unfold hit at h
  simp only [Bool.and_eq_true, beq_iff_eq] at h
  have h1 := congrArg List.length h.1
  have h2 := congrArg List.length h.2
  unfold lo at h2
  rw [List.length_map, List.length_take, List.length_drop] at h2
  rw [List.length_take] at h1
  simp at h1
  omega
theorem skp_short (n : B) : ∀ (x : B), x.length < n.length + 2 → skp n x = []
  | [], _ => rfl
  | c :: r, h => by
    have : hit n (c :: r) = false := by
      cases hq : hit n (c :: r) with
      | false => rfl
      | true => have := hit_len hq; omega
    rw [skp, if_neg (by rw [this]; decide), skp_short n r (by simp at h; omega)]
set_option maxRecDepth 100000 in
set_option maxHeartbeats 4000000 in
theorem rhidden_any (l n : B) (i : Nat) (w : World) (hi : i ≤ l.length) (hl : l.length ≤ 100000) (hn : n.length ≤ 100000) : Calls Tryz.prog 117 #[.string ⟨l.toArray⟩, .int .i64 i, .string ⟨n.toArray⟩] w fun e w' => (∃ p : Nat, e = .returned (.int .i64 p) ∧ i ≤ p ∧ p ≤ l.length ∧ l.drop p = skp n (l.drop i)) ∧ Kept w w' := by
  have happ : (⟨#[60, 47]⟩ ++ ⟨n.toArray⟩ : ByteArray) = ⟨(60 :: 47 :: n).toArray⟩ := by rw [show (⟨#[60, 47]⟩ : ByteArray) = ⟨([60, 47] : B).toArray⟩ from rfl, app_mk]; rfl
  have hel : (60 :: 47 :: n : B).length = n.length + 2 := rfl
  have hsz : (ByteArray.mk (60 :: 47 :: n : B).toArray).size = n.length + 2 := List.size_toArray
  have hbig : ¬ (9223372036854775807 : Nat) < 2 + n.length := by omega
  go_enter Tryz.func117, Tryz.ntmps117
  go_wp2
  generalize hen : (60 :: 47 :: n : B) = en at *
  have HEn := Lib.hid hen
  have HEl := Lib.hid (show en.length = n.length + 2 from hel)
  have hel3 : 2 ≤ en.length := by rw [HEl.out]; omega
  have hel4 : en.length ≤ 100002 := by rw [HEl.out]; omega
  clear hen hel hsz happ hbig
  go_loopw [8] (fun vi wr => ∃ k : Nat, i ≤ k ∧ k ≤ l.length ∧ vi = .int .i64 k ∧ Hid (skp n (l.drop i) = skp n (l.drop k)) ∧ Hid (Kept w wr)) (fun vi _ => l.length - (intOf vi).toNat)
  case atStart => exact ⟨i, Nat.le_refl _, hi, rfl, Lib.hid rfl, Lib.hid (Kept.refl _)⟩
  case round =>
    obtain ⟨k, hik, hk, rfl, hS, hK⟩ := hrel
    by_cases hlt : k + en.length ≤ l.length
    · have hltI : (k : Int) + en.length ≤ l.length := by omega
      have hsl : ∀ W : World, (Instr.slice 9 (.string ⟨l.toArray⟩) (some (.int .i64 k)) (some (.int .i64 ((k : Int) + en.length))) none).run Tryz.prog W = .ok (.string ⟨((l.drop k).take en.length).toArray⟩) W := fun W => by
        have := cut_both l k (k + en.length) (by omega) hlt W
        rw [show ((k + en.length : Nat) : Int) = (k : Int) + en.length by omega, List.drop_take, show k + en.length - k = en.length by omega] at this
        exact this
      have HH := Lib.hid (show hit n (l.drop k) = (lo ((l.drop k).take en.length) == en) by
        rw [hit_lo n (l.drop k) (by have := HEl.out; rw [List.length_drop]; omega), HEl.out, HEn.out])
      have HSm := Lib.hid (fun w => rsmall_any ((l.drop k).take en.length) w (by rw [List.length_take, List.length_drop]; omega))
      rw [show ((l.drop k).take en.length).map Lib.lowerB = lo ((l.drop k).take en.length) from rfl] at HSm
      have HA := Lib.hid (skp_at (n := n) (show k < l.length by omega))
      generalize lo ((l.drop k).take en.length) = y at *
      generalize (l.drop k).take en.length = x at *
      cases hq : (y == en) with
      | true =>
        have HR := Lib.hid (show l.drop k = skp n (l.drop i) by rw [hS.out, HA.out, HH.out, hq]; rfl)
        clear hS HA HH
        go_wp2_with fail
        refine (HSm.out _).mono ?_
        rintro e w2 ⟨rfl, k2⟩
        have K2 := Lib.hid (hK.out.trans k2)
        clear k2
        go_wp2
        go_ret
        exact ⟨⟨k, rfl, hik, hk, HR.out⟩, K2.out⟩
      | false =>
        have HR := Lib.hid (show skp n (l.drop i) = skp n (l.drop (k + 1)) by rw [hS.out, HA.out, HH.out, hq]; rfl)
        clear hS HA HH
        go_wp2_with fail
        refine (HSm.out _).mono ?_
        rintro e w2 ⟨rfl, k2⟩
        have K2 := Lib.hid (hK.out.trans k2)
        clear k2
        go_wp2
        go_roundw
        case rel => exact ⟨k + 1, by omega, by omega, by go_num, HR, K2⟩
        case measure => simp [intOf]; omega
    · have hltI : ¬ (k : Int) + en.length ≤ l.length := by omega
      have HR := Lib.hid (show l.drop l.length = skp n (l.drop i) by rw [hS.out, skp_short n _ (by have := HEl.out; rw [List.length_drop]; omega), List.drop_length])
      clear hS
      go_wp2
      go_ret
      exact ⟨⟨l.length, rfl, hi, Nat.le_refl _, HR.out⟩, hK.out⟩
theorem own_last {B0 g n cap : Nat} {ls : List B} {cur x : B} {w : World} (h : OwnS B0 (.slice (some ⟨g, 0, none⟩) n cap) (ls ++ [cur]) w) : n = ls.length + 1 ∧ B0 ≤ g ∧ w.cell? ⟨g, ls.length, none⟩ = some (sV cur) ∧ w.frozen? ⟨g, ls.length, none⟩ = false ∧ n ≤ cap ∧ OwnS B0 (.slice (some ⟨g, 0, none⟩) n cap) (ls ++ [x]) (w.setCell ⟨g, ls.length, none⟩ (sV x)) := by
  obtain ⟨hx, h1, h2⟩ : ((ls ++ [cur]).map sV).length = (ls ++ [cur]).length * 1 ∧ B0 ≤ g ∧ ∃ cu, w.heap[g]? = some (.cells cu 9 (0, 0)) ∧ n = (ls ++ [cur]).length ∧ n ≤ cap ∧ cap ≤ maxLen ∧ cu.size = cap * 1 ∧ cu.toList.take ((ls ++ [cur]).length * 1) = (ls ++ [cur]).map sV := by
    rcases h.2 with ⟨h1, _⟩ | ⟨g', cap', cu, h1, h2, h3, h4, h5, h6, h7⟩
    · cases h1
    · injection h1 with e1 e2 e3
      cases e1
      subst e3
      exact ⟨h.1, h2, cu, h3, e2, by rw [e2]; exact h4, h5, h6, h7⟩
  obtain ⟨cu, h3, e2, h4, h5, h6, h7⟩ := h2
  simp only [List.length_append, List.length_singleton, Nat.mul_one] at e2 h6 h7
  have hk : ls.length < cu.toList.length := by have : cu.toList.length = cu.size := Array.length_toList; omega
  have hat : cu.toList[ls.length]? = some (sV cur) := by
    have := congrArg (fun z => z[ls.length]?) h7
    simp only [List.getElem?_take, List.map_append, List.map_cons, List.map_nil] at this
    rw [if_pos (by omega), List.getElem?_append_right (by simp)] at this
    simpa using this
  have hc : w.cell? ⟨g, ls.length, none⟩ = some (sV cur) := by
    simp only [World.cell?, h3]
    simpa using hat
  refine ⟨e2, h1, hc, by simp [World.frozen?, h3], h4, ?_⟩
  have hb : (w.setCell ⟨g, ls.length, none⟩ (sV x)).heap[g]? = some (.cells (cu.setIfInBounds ls.length (sV x)) 9 (0, 0)) := by
    simp [World.setCell, Array.getElem?_modify, h3]
  refine ⟨by simp, Or.inr ⟨g, cap, cu.setIfInBounds ls.length (sV x), by rw [e2]; simp, h1, hb, by simp; omega, h5, by simpa using h6, ?_⟩⟩
  rw [Array.toList_setIfInBounds, Nat.mul_one, List.length_append, List.length_singleton, List.take_set, h7, List.map_append, List.map_append]
  rw [List.set_append_right _ _ (by simp)]
  simp
theorem kept_set {w x : World} (h : Kept w x) {g : Nat} (hg : w.heap.size ≤ g) (j : Nat) (v : Value) : Kept w (x.setCell ⟨g, j, none⟩ v) := h.setCell (a := ⟨g, j, none⟩) hg v
theorem aft_at {l : B} {k : Nat} {b : UInt8} (h : l[k]? = some b) : aft (l.drop k) = if b = 62 then l.drop (k + 1) else aft (l.drop (k + 1)) := by
  rw [drop_cons h, aft]
set_option maxRecDepth 100000 in
set_option maxHeartbeats 8000000 in
theorem rpieces_any (l : B) (w : World) (hl : l.length ≤ 100000) : Calls Tryz.prog 77 #[.string ⟨l.toArray⟩] w fun e w' => ∃ v, e = .returned v ∧ OwnS w.heap.size v (pcs l) w' ∧ Kept w w' := by
  have O0 := Lib.hid (show OwnS w.heap.size (.slice (some ⟨w.heap.size, 0, none⟩) 1 1) ([] ++ [[]]) (w.alloc (.cells #[sV []] 9)) from own_one w [])
  have K0 := Lib.hid ((Kept.refl w).alloc (.cells #[sV []] 9))
  go_enter Tryz.func77, Tryz.ntmps77
  go_wp2
  go_loopw [3, 4] (fun vo vi wr => ∃ (i : Nat) (done : List B) (cur : B) (g cap : Nat), i ≤ l.length ∧ vo = .slice (some ⟨g, 0, none⟩) (done.length + 1) cap ∧ vi = .int .i64 i ∧ done.length ≤ i ∧ cur.length ≤ i ∧ Hid (pcs l = done ++ pc cur (l.drop i)) ∧ Hid (OwnS w.heap.size (.slice (some ⟨g, 0, none⟩) (done.length + 1) cap) (done ++ [cur]) wr) ∧ Hid (Kept w wr)) (fun _ vi _ => l.length - (intOf vi).toNat)
  case atStart => exact ⟨0, [], [], w.heap.size, 1, Nat.zero_le _, rfl, rfl, Nat.le_refl _, Nat.le_refl _, Lib.hid rfl, O0, K0⟩
  case round =>
    obtain ⟨i, done, cur, g, cap, hi, rfl, rfl, hdl, hcl, hP, hO, hK⟩ := hrel
    by_cases hlt : i < l.length
    · have hltI : (i : Int) < l.length := by omega
      obtain ⟨c, hc⟩ : ∃ c, l[i]? = some c := ⟨_, List.getElem?_eq_getElem hlt⟩
      have HMk := Lib.hid (fun w => rmark_any l i c w hc (by omega))
      cases hm : isM c (l.drop (i + 1)) with
      | false =>
        rw [hm] at HMk
        have HN := Lib.hid (show pcs l = done ++ pc (cur ++ [c]) (l.drop (i + 1)) by rw [hP.out, drop_cons hc, pc_other cur hm])
        have hct : ∀ W : World, (Instr.slice 9 (.string ⟨l.toArray⟩) (some (.int .i64 i)) (some (.int .i64 ((i : Int) + 1))) none).run Tryz.prog W = .ok (.string ⟨([c] : B).toArray⟩) W := fun W => by
          have := cut_both l i (i + 1) (by omega) (by omega) W
          rw [show ((i + 1 : Nat) : Int) = (i : Int) + 1 by omega, List.drop_take, show i + 1 - i = 1 by omega, drop_cons hc] at this
          exact this
        obtain ⟨-, hg, c1, f1, hcap, ho2⟩ := own_last (x := cur ++ [c]) (OwnS.kept hO.out (Kept.refl wr).drew)
        have O2 := Lib.hid ho2
        have K2 := Lib.hid (kept_set (hK.out.trans (Kept.refl wr).drew) hg done.length (sV (cur ++ [c])))
        have happ : (⟨cur.toArray⟩ ++ ⟨([c] : B).toArray⟩ : ByteArray) = ⟨(cur ++ [c]).toArray⟩ := app_mk cur [c]
        have hbig : ¬ 9223372036854775807 < cur.length + ([c] : B).length := by simp; omega
        have hcl2 : (cur ++ [c]).length ≤ i + 1 := by simp; omega
        clear hP hc hm ho2 hO hK
        generalize ([c] : B) = c' at *
        generalize cur ++ c' = cur' at *
        go_wp2_with (go_at_call 115; refine (HMk.out _).mono ?_; rintro e w' ⟨rfl, rfl⟩)
        have c1' : wr.cell? ⟨g, done.length, none⟩ = some (sV cur) := c1
        have f1' : wr.frozen? ⟨g, done.length, none⟩ = false := f1
        clear c1 f1
        go_region
        go_wp2
        go_roundw
        case rel => exact ⟨i + 1, done, cur', g, cap, hlt, rfl, by go_num, by omega, hcl2, HN, O2, K2⟩
        case measure => simp [intOf]; omega
      | true =>
        rw [hm] at HMk
        have hc60 : c = 60 ∧ opn (l.drop (i + 1)) = true := by unfold isM at hm; simpa using hm
        obtain ⟨hc0, hop⟩ := hc60
        subst hc0
        have hi1 : i + 1 < l.length := by
          apply Classical.byContradiction
          intro hn
          rw [List.drop_eq_nil_of_le (by omega)] at hop
          cases hop
        obtain ⟨d, hd⟩ : ∃ d, l[i + 1]? = some d := ⟨_, List.getElem?_eq_getElem hi1⟩
        have hat2 : ∀ hk, (ByteArray.mk l.toArray)[i + 1]'hk = d := byte_at l (i + 1) d hd
        have hi1I : (i : Int) + 1 < l.length := by omega
        have h47 : ((d.toNat : Int) == 47) = (d == 47) := by rw [Bool.eq_iff_iff, beq_iff_eq, beq_iff_eq, ← UInt8.toNat_inj]; show _ ↔ d.toNat = 47; omega
        have hcl47 : clo (l.drop (i + 1)) = (d == 47) := by rw [drop_cons hd]; rfl
        have HNm := Lib.hid (fun w => rname_any l i w hi1 hl)
        have HHd := Lib.hid (show hidM (l.drop (i + 1)) = (!(d == 47) && ((nam (l.drop (i + 1)) == [115, 99, 114, 105, 112, 116]) || (nam (l.drop (i + 1)) == [115, 116, 121, 108, 101]))) by unfold hidM hidN; rw [hcl47]; rfl)
        have HRs := Lib.hid (show rst (l.drop (i + 1)) = if hidM (l.drop (i + 1)) = true then skp (nam (l.drop (i + 1))) (aft (l.drop (i + 1))) else aft (l.drop (i + 1)) from rfl)
        have HN := Lib.hid (show pcs l = done ++ (if brk (nam (l.drop (i + 1))) = true then cur :: pc [] (rst (l.drop (i + 1))) else pc cur (rst (l.drop (i + 1)))) by rw [hP.out, drop_cons hc, pc_mark cur _ hop])
        have HAf := Lib.hid (show aft (l.drop (i + 1)) = aft (l.drop i) by rw [drop_cons hc, aft, if_neg (by decide)])
        have hnl : (nam (l.drop (i + 1))).length ≤ 100000 := by
          unfold nam lo
          have h1 := cor_len (l.drop (i + 1))
          have h2 : ((cor (l.drop (i + 1))).takeWhile wdB).length ≤ (cor (l.drop (i + 1))).length := (List.takeWhile_prefix _).length_le
          rw [List.length_drop] at h1
          rw [List.length_map]; omega
        have HBr := Lib.hid (fun w => rbreaks_any (nam (l.drop (i + 1))) w)
        clear hP hc hm hop hd hcl47
        generalize nam (l.drop (i + 1)) = nm at *
        generalize hidM (l.drop (i + 1)) = hb at *
        generalize aft (l.drop (i + 1)) = af at *
        generalize rst (l.drop (i + 1)) = rs at *
        rw [← h47] at HHd
        have h47n : ((d.toNat : Int) != 47) = !((d.toNat : Int) == 47) := rfl
        clear h47
        have HHn := Lib.hid (fun (p : Nat) (hp : p ≤ l.length) w => rhidden_any l nm p w hp hl hnl)
        cases h4 : ((d.toNat : Int) == 47) with
        | true =>
          rw [h4] at HHd h47n
          have hbe := HHd.out
          simp only [Bool.not_true, Bool.false_and] at hbe
          subst hbe
          have HR2 := Lib.hid (show rs = af by rw [HRs.out]; simp)
          clear h4 HHd
          go_wp2_with (first | (go_at_call 115; refine (HMk.out _).mono ?_; rintro e w' ⟨rfl, rfl⟩) | fail)
          refine (HNm.out _).mono ?_
          rintro e w2 ⟨rfl, k2⟩
          have hK2 := Lib.hid (hK.out.trans k2)
          have hO2 := Lib.hid (OwnS.kept hO.out k2)
          clear k2 hK hO
          go_wp2_with fail
          go_loopw [4] (fun vk wr => ∃ k : Nat, i ≤ k ∧ k ≤ l.length ∧ vk = .int .i64 k ∧ Hid (aft (l.drop k) = af) ∧ Hid (OwnS w.heap.size (.slice (some ⟨g, 0, none⟩) (done.length + 1) cap) (done ++ [cur]) wr) ∧ Hid (Kept w wr)) (fun vk _ => l.length - (intOf vk).toNat)
          case atStart => exact ⟨i, Nat.le_refl _, by omega, rfl, Lib.hid HAf.out.symm, hO2, hK2⟩
          case round =>
            skip
            obtain ⟨k, hik, hkl, rfl, hA, hO3, hK3⟩ := hrel
            by_cases hkt : k < l.length
            · have hktI : (k : Int) < l.length := by omega
              obtain ⟨b, hbb⟩ : ∃ b, l[k]? = some b := ⟨_, List.getElem?_eq_getElem hkt⟩
              have hatk := byte_at l k b hbb
              have hAs := aft_at hbb
              rw [hA.out] at hAs
              clear hbb hA
              by_cases h62 : b = 62
              · rw [if_pos h62] at hAs
                have hbI : ((b.toNat : Int) != 62) = false := by rw [h62]; rfl
                have HA2 := Lib.hid hAs
                clear hAs h62
                have K5 := hK3
                have O5 := hO3
                have D5 := Lib.hid (show l.drop (k + 1) = rs by rw [HR2.out, ← HA2.out])
                cases hbr : brk nm with
                | true =>
                  rw [hbr] at HBr HN
                  have HN2 := Lib.hid (show pcs l = (done ++ [cur]) ++ pc [] (l.drop (k + 1)) by rw [HN.out, if_pos rfl, D5.out]; simp)
                  clear HN hbr D5
                  go_wp2_with fail
                  refine (HBr.out _).mono ?_
                  rintro e w' ⟨rfl, rfl⟩
                  have hDl : (done ++ [cur]).length = done.length + 1 := by simp
                  generalize done ++ [cur] = D at *
                  have hal := (Kept.refl wr).alloc (.cells #[sV []] 9)
                  have O6 := Lib.hid (OwnS.kept O5.out hal)
                  have K6 := Lib.hid (K5.out.trans hal)
                  have hc6 := (Kept.refl (wr.alloc (.cells #[sV []] 9))).new 0 (v := sV []) rfl
                  have hB6 := K6.out.size
                  go_wp2_with (at_builtin; refine wpList_pushS rfl _ _ rfl w.heap.size _ D [] wr.heap.size rfl O6.out rfl hc6 (by omega) hB6 ?_)
                  intro v7 y hy hgy
                  have K7 := Lib.hid (kept_row K6.out hgy (fun g hg => (World.ownsRow.lt O6.out g hg).1))
                  obtain ⟨g7, cap7, hv7, -⟩ := own_some hy (by simp)
                  rw [List.length_append, List.length_singleton] at hv7
                  subst hv7
                  have O7 := Lib.hid (show OwnS w.heap.size (.slice (some ⟨g7, 0, none⟩) (D.length + 1) cap7) (D ++ [[]]) y from hy)
                  have hdl7 : D.length ≤ k + 1 := by omega
                  clear hy hgy hc6 hB6 hal
                  go_wp2
                  go_roundw
                  case rel => exact ⟨k + 1, D, [], g7, cap7, by omega, rfl, by go_num, hdl7, Nat.zero_le _, HN2, O7, K7⟩
                  case measure => simp [intOf]; omega
                | false =>
                  rw [hbr] at HBr HN
                  have HN2 := Lib.hid (show pcs l = done ++ pc cur (l.drop (k + 1)) by rw [HN.out, if_neg (by decide), D5.out])
                  clear HN hbr D5
                  go_wp2_with (go_at_call 118; refine (HBr.out _).mono ?_; rintro e w' ⟨rfl, rfl⟩)
                  go_roundw
                  case rel => exact ⟨k + 1, done, cur, g, cap, by omega, rfl, by go_num, by omega, by omega, HN2, O5, K5⟩
                  case measure => simp [intOf]; omega
              · rw [if_neg h62] at hAs
                have hbI : ((b.toNat : Int) != 62) = true := by
                  have : b.toNat ≠ 62 := fun e => h62 (UInt8.toNat_inj.1 e)
                  simp; omega
                have HA2 := Lib.hid hAs.symm
                clear hAs h62
                go_wp2
                go_roundw
                case rel => exact ⟨k + 1, by omega, by omega, by go_num, HA2, hO3, hK3⟩
                case measure => simp [intOf]; omega
            · obtain rfl : k = l.length := by omega
              have HA2 := Lib.hid (show af = l.drop l.length by rw [← hA.out, List.drop_length]; rfl)
              clear hA
              have K5 := hK3
              have O5 := hO3
              have D5 := Lib.hid (show l.drop (l.length) = rs by rw [HR2.out, ← HA2.out])
              cases hbr : brk nm with
              | true =>
                rw [hbr] at HBr HN
                have HN2 := Lib.hid (show pcs l = (done ++ [cur]) ++ pc [] (l.drop (l.length)) by rw [HN.out, if_pos rfl, D5.out]; simp)
                clear HN hbr D5
                go_wp2_with fail
                refine (HBr.out _).mono ?_
                rintro e w' ⟨rfl, rfl⟩
                have hDl : (done ++ [cur]).length = done.length + 1 := by simp
                generalize done ++ [cur] = D at *
                have hal := (Kept.refl wr).alloc (.cells #[sV []] 9)
                have O6 := Lib.hid (OwnS.kept O5.out hal)
                have K6 := Lib.hid (K5.out.trans hal)
                have hc6 := (Kept.refl (wr.alloc (.cells #[sV []] 9))).new 0 (v := sV []) rfl
                have hB6 := K6.out.size
                go_wp2_with (at_builtin; refine wpList_pushS rfl _ _ rfl w.heap.size _ D [] wr.heap.size rfl O6.out rfl hc6 (by omega) hB6 ?_)
                intro v7 y hy hgy
                have K7 := Lib.hid (kept_row K6.out hgy (fun g hg => (World.ownsRow.lt O6.out g hg).1))
                obtain ⟨g7, cap7, hv7, -⟩ := own_some hy (by simp)
                rw [List.length_append, List.length_singleton] at hv7
                subst hv7
                have O7 := Lib.hid (show OwnS w.heap.size (.slice (some ⟨g7, 0, none⟩) (D.length + 1) cap7) (D ++ [[]]) y from hy)
                have hdl7 : D.length ≤ l.length := by omega
                clear hy hgy hc6 hB6 hal
                go_wp2
                go_roundw
                case rel => exact ⟨l.length, D, [], g7, cap7, by omega, rfl, rfl, hdl7, Nat.zero_le _, HN2, O7, K7⟩
                case measure => simp [intOf]; omega
              | false =>
                rw [hbr] at HBr HN
                have HN2 := Lib.hid (show pcs l = done ++ pc cur (l.drop (l.length)) by rw [HN.out, if_neg (by decide), D5.out])
                clear HN hbr D5
                go_wp2_with (go_at_call 118; refine (HBr.out _).mono ?_; rintro e w' ⟨rfl, rfl⟩)
                go_roundw
                case rel => exact ⟨l.length, done, cur, g, cap, by omega, rfl, rfl, by omega, by omega, HN2, O5, K5⟩
                case measure => simp [intOf]; omega
        | false =>
          rw [h4] at HHd h47n
          cases h5 : (nm == [115, 99, 114, 105, 112, 116]) with
          | true =>
            rw [h5] at HHd
            have hbe := HHd.out
            simp only [Bool.not_false, Bool.true_and, Bool.true_or] at hbe
            subst hbe
            have HR2 := Lib.hid (show rs = skp nm af by rw [HRs.out]; simp)
            clear h4 HHd
            go_wp2_with (first | (go_at_call 115; refine (HMk.out _).mono ?_; rintro e w' ⟨rfl, rfl⟩) | fail)
            refine (HNm.out _).mono ?_
            rintro e w2 ⟨rfl, k2⟩
            have hK2 := Lib.hid (hK.out.trans k2)
            have hO2 := Lib.hid (OwnS.kept hO.out k2)
            clear k2 hK hO
            go_wp2_with fail
            go_loopw [4] (fun vk wr => ∃ k : Nat, i ≤ k ∧ k ≤ l.length ∧ vk = .int .i64 k ∧ Hid (aft (l.drop k) = af) ∧ Hid (OwnS w.heap.size (.slice (some ⟨g, 0, none⟩) (done.length + 1) cap) (done ++ [cur]) wr) ∧ Hid (Kept w wr)) (fun vk _ => l.length - (intOf vk).toNat)
            case atStart => exact ⟨i, Nat.le_refl _, by omega, rfl, Lib.hid HAf.out.symm, hO2, hK2⟩
            case round =>
              skip
              obtain ⟨k, hik, hkl, rfl, hA, hO3, hK3⟩ := hrel
              by_cases hkt : k < l.length
              · have hktI : (k : Int) < l.length := by omega
                obtain ⟨b, hbb⟩ : ∃ b, l[k]? = some b := ⟨_, List.getElem?_eq_getElem hkt⟩
                have hatk := byte_at l k b hbb
                have hAs := aft_at hbb
                rw [hA.out] at hAs
                clear hbb hA
                by_cases h62 : b = 62
                · rw [if_pos h62] at hAs
                  have hbI : ((b.toNat : Int) != 62) = false := by rw [h62]; rfl
                  have HA2 := Lib.hid hAs
                  clear hAs h62
                  go_wp2_with fail
                  refine (HHn.out (k + 1) (by omega) _).mono ?_
                  rintro e w5 ⟨⟨p, rfl, hp1, hp2, hp3⟩, k5⟩
                  have K5 := Lib.hid (hK3.out.trans k5)
                  have O5 := Lib.hid (OwnS.kept hO3.out k5)
                  have D5 := Lib.hid (show l.drop p = rs by rw [hp3, HR2.out, ← HA2.out])
                  clear k5 hp3
                  cases hbr : brk nm with
                  | true =>
                    rw [hbr] at HBr HN
                    have HN2 := Lib.hid (show pcs l = (done ++ [cur]) ++ pc [] (l.drop (p)) by rw [HN.out, if_pos rfl, D5.out]; simp)
                    clear HN hbr D5
                    go_wp2_with fail
                    refine (HBr.out _).mono ?_
                    rintro e w' ⟨rfl, rfl⟩
                    have hDl : (done ++ [cur]).length = done.length + 1 := by simp
                    generalize done ++ [cur] = D at *
                    have hal := (Kept.refl w5).alloc (.cells #[sV []] 9)
                    have O6 := Lib.hid (OwnS.kept O5.out hal)
                    have K6 := Lib.hid (K5.out.trans hal)
                    have hc6 := (Kept.refl (w5.alloc (.cells #[sV []] 9))).new 0 (v := sV []) rfl
                    have hB6 := K6.out.size
                    go_wp2_with (at_builtin; refine wpList_pushS rfl _ _ rfl w.heap.size _ D [] w5.heap.size rfl O6.out rfl hc6 (by omega) hB6 ?_)
                    intro v7 y hy hgy
                    have K7 := Lib.hid (kept_row K6.out hgy (fun g hg => (World.ownsRow.lt O6.out g hg).1))
                    obtain ⟨g7, cap7, hv7, -⟩ := own_some hy (by simp)
                    rw [List.length_append, List.length_singleton] at hv7
                    subst hv7
                    have O7 := Lib.hid (show OwnS w.heap.size (.slice (some ⟨g7, 0, none⟩) (D.length + 1) cap7) (D ++ [[]]) y from hy)
                    have hdl7 : D.length ≤ p := by omega
                    clear hy hgy hc6 hB6 hal
                    go_wp2
                    go_roundw
                    case rel => exact ⟨p, D, [], g7, cap7, by omega, rfl, rfl, hdl7, Nat.zero_le _, HN2, O7, K7⟩
                    case measure => simp [intOf]; omega
                  | false =>
                    rw [hbr] at HBr HN
                    have HN2 := Lib.hid (show pcs l = done ++ pc cur (l.drop (p)) by rw [HN.out, if_neg (by decide), D5.out])
                    clear HN hbr D5
                    go_wp2_with (go_at_call 118; refine (HBr.out _).mono ?_; rintro e w' ⟨rfl, rfl⟩)
                    go_roundw
                    case rel => exact ⟨p, done, cur, g, cap, by omega, rfl, rfl, by omega, by omega, HN2, O5, K5⟩
                    case measure => simp [intOf]; omega
                · rw [if_neg h62] at hAs
                  have hbI : ((b.toNat : Int) != 62) = true := by
                    have : b.toNat ≠ 62 := fun e => h62 (UInt8.toNat_inj.1 e)
                    simp; omega
                  have HA2 := Lib.hid hAs.symm
                  clear hAs h62
                  go_wp2
                  go_roundw
                  case rel => exact ⟨k + 1, by omega, by omega, by go_num, HA2, hO3, hK3⟩
                  case measure => simp [intOf]; omega
              · obtain rfl : k = l.length := by omega
                have HA2 := Lib.hid (show af = l.drop l.length by rw [← hA.out, List.drop_length]; rfl)
                clear hA
                go_wp2_with fail
                refine (HHn.out (l.length) (by omega) _).mono ?_
                rintro e w5 ⟨⟨p, rfl, hp1, hp2, hp3⟩, k5⟩
                have K5 := Lib.hid (hK3.out.trans k5)
                have O5 := Lib.hid (OwnS.kept hO3.out k5)
                have D5 := Lib.hid (show l.drop p = rs by rw [hp3, HR2.out, ← HA2.out])
                clear k5 hp3
                cases hbr : brk nm with
                | true =>
                  rw [hbr] at HBr HN
                  have HN2 := Lib.hid (show pcs l = (done ++ [cur]) ++ pc [] (l.drop (p)) by rw [HN.out, if_pos rfl, D5.out]; simp)
                  clear HN hbr D5
                  go_wp2_with fail
                  refine (HBr.out _).mono ?_
                  rintro e w' ⟨rfl, rfl⟩
                  have hDl : (done ++ [cur]).length = done.length + 1 := by simp
                  generalize done ++ [cur] = D at *
                  have hal := (Kept.refl w5).alloc (.cells #[sV []] 9)
                  have O6 := Lib.hid (OwnS.kept O5.out hal)
                  have K6 := Lib.hid (K5.out.trans hal)
                  have hc6 := (Kept.refl (w5.alloc (.cells #[sV []] 9))).new 0 (v := sV []) rfl
                  have hB6 := K6.out.size
                  go_wp2_with (at_builtin; refine wpList_pushS rfl _ _ rfl w.heap.size _ D [] w5.heap.size rfl O6.out rfl hc6 (by omega) hB6 ?_)
                  intro v7 y hy hgy
                  have K7 := Lib.hid (kept_row K6.out hgy (fun g hg => (World.ownsRow.lt O6.out g hg).1))
                  obtain ⟨g7, cap7, hv7, -⟩ := own_some hy (by simp)
                  rw [List.length_append, List.length_singleton] at hv7
                  subst hv7
                  have O7 := Lib.hid (show OwnS w.heap.size (.slice (some ⟨g7, 0, none⟩) (D.length + 1) cap7) (D ++ [[]]) y from hy)
                  have hdl7 : D.length ≤ p := by omega
                  clear hy hgy hc6 hB6 hal
                  go_wp2
                  go_roundw
                  case rel => exact ⟨p, D, [], g7, cap7, by omega, rfl, rfl, hdl7, Nat.zero_le _, HN2, O7, K7⟩
                  case measure => simp [intOf]; omega
                | false =>
                  rw [hbr] at HBr HN
                  have HN2 := Lib.hid (show pcs l = done ++ pc cur (l.drop (p)) by rw [HN.out, if_neg (by decide), D5.out])
                  clear HN hbr D5
                  go_wp2_with (go_at_call 118; refine (HBr.out _).mono ?_; rintro e w' ⟨rfl, rfl⟩)
                  go_roundw
                  case rel => exact ⟨p, done, cur, g, cap, by omega, rfl, rfl, by omega, by omega, HN2, O5, K5⟩
                  case measure => simp [intOf]; omega
          | false =>
            rw [h5] at HHd
            cases h6 : (nm == [115, 116, 121, 108, 101]) with
            | true =>
              rw [h6] at HHd
              have hbe := HHd.out
              simp only [Bool.not_false, Bool.true_and, Bool.false_or] at hbe
              subst hbe
              have HR2 := Lib.hid (show rs = skp nm af by rw [HRs.out]; simp)
              clear h4 HHd
              go_wp2_with (first | (go_at_call 115; refine (HMk.out _).mono ?_; rintro e w' ⟨rfl, rfl⟩) | fail)
              refine (HNm.out _).mono ?_
              rintro e w2 ⟨rfl, k2⟩
              have hK2 := Lib.hid (hK.out.trans k2)
              have hO2 := Lib.hid (OwnS.kept hO.out k2)
              clear k2 hK hO
              go_wp2_with fail
              go_loopw [4] (fun vk wr => ∃ k : Nat, i ≤ k ∧ k ≤ l.length ∧ vk = .int .i64 k ∧ Hid (aft (l.drop k) = af) ∧ Hid (OwnS w.heap.size (.slice (some ⟨g, 0, none⟩) (done.length + 1) cap) (done ++ [cur]) wr) ∧ Hid (Kept w wr)) (fun vk _ => l.length - (intOf vk).toNat)
              case atStart => exact ⟨i, Nat.le_refl _, by omega, rfl, Lib.hid HAf.out.symm, hO2, hK2⟩
              case round =>
                skip
                obtain ⟨k, hik, hkl, rfl, hA, hO3, hK3⟩ := hrel
                by_cases hkt : k < l.length
                · have hktI : (k : Int) < l.length := by omega
                  obtain ⟨b, hbb⟩ : ∃ b, l[k]? = some b := ⟨_, List.getElem?_eq_getElem hkt⟩
                  have hatk := byte_at l k b hbb
                  have hAs := aft_at hbb
                  rw [hA.out] at hAs
                  clear hbb hA
                  by_cases h62 : b = 62
                  · rw [if_pos h62] at hAs
                    have hbI : ((b.toNat : Int) != 62) = false := by rw [h62]; rfl
                    have HA2 := Lib.hid hAs
                    clear hAs h62
                    go_wp2_with fail
                    refine (HHn.out (k + 1) (by omega) _).mono ?_
                    rintro e w5 ⟨⟨p, rfl, hp1, hp2, hp3⟩, k5⟩
                    have K5 := Lib.hid (hK3.out.trans k5)
                    have O5 := Lib.hid (OwnS.kept hO3.out k5)
                    have D5 := Lib.hid (show l.drop p = rs by rw [hp3, HR2.out, ← HA2.out])
                    clear k5 hp3
                    cases hbr : brk nm with
                    | true =>
                      rw [hbr] at HBr HN
                      have HN2 := Lib.hid (show pcs l = (done ++ [cur]) ++ pc [] (l.drop (p)) by rw [HN.out, if_pos rfl, D5.out]; simp)
                      clear HN hbr D5
                      go_wp2_with fail
                      refine (HBr.out _).mono ?_
                      rintro e w' ⟨rfl, rfl⟩
                      have hDl : (done ++ [cur]).length = done.length + 1 := by simp
                      generalize done ++ [cur] = D at *
                      have hal := (Kept.refl w5).alloc (.cells #[sV []] 9)
                      have O6 := Lib.hid (OwnS.kept O5.out hal)
                      have K6 := Lib.hid (K5.out.trans hal)
                      have hc6 := (Kept.refl (w5.alloc (.cells #[sV []] 9))).new 0 (v := sV []) rfl
                      have hB6 := K6.out.size
                      go_wp2_with (at_builtin; refine wpList_pushS rfl _ _ rfl w.heap.size _ D [] w5.heap.size rfl O6.out rfl hc6 (by omega) hB6 ?_)
                      intro v7 y hy hgy
                      have K7 := Lib.hid (kept_row K6.out hgy (fun g hg => (World.ownsRow.lt O6.out g hg).1))
                      obtain ⟨g7, cap7, hv7, -⟩ := own_some hy (by simp)
                      rw [List.length_append, List.length_singleton] at hv7
                      subst hv7
                      have O7 := Lib.hid (show OwnS w.heap.size (.slice (some ⟨g7, 0, none⟩) (D.length + 1) cap7) (D ++ [[]]) y from hy)
                      have hdl7 : D.length ≤ p := by omega
                      clear hy hgy hc6 hB6 hal
                      go_wp2
                      go_roundw
                      case rel => exact ⟨p, D, [], g7, cap7, by omega, rfl, rfl, hdl7, Nat.zero_le _, HN2, O7, K7⟩
                      case measure => simp [intOf]; omega
                    | false =>
                      rw [hbr] at HBr HN
                      have HN2 := Lib.hid (show pcs l = done ++ pc cur (l.drop (p)) by rw [HN.out, if_neg (by decide), D5.out])
                      clear HN hbr D5
                      go_wp2_with (go_at_call 118; refine (HBr.out _).mono ?_; rintro e w' ⟨rfl, rfl⟩)
                      go_roundw
                      case rel => exact ⟨p, done, cur, g, cap, by omega, rfl, rfl, by omega, by omega, HN2, O5, K5⟩
                      case measure => simp [intOf]; omega
                  · rw [if_neg h62] at hAs
                    have hbI : ((b.toNat : Int) != 62) = true := by
                      have : b.toNat ≠ 62 := fun e => h62 (UInt8.toNat_inj.1 e)
                      simp; omega
                    have HA2 := Lib.hid hAs.symm
                    clear hAs h62
                    go_wp2
                    go_roundw
                    case rel => exact ⟨k + 1, by omega, by omega, by go_num, HA2, hO3, hK3⟩
                    case measure => simp [intOf]; omega
                · obtain rfl : k = l.length := by omega
                  have HA2 := Lib.hid (show af = l.drop l.length by rw [← hA.out, List.drop_length]; rfl)
                  clear hA
                  go_wp2_with fail
                  refine (HHn.out (l.length) (by omega) _).mono ?_
                  rintro e w5 ⟨⟨p, rfl, hp1, hp2, hp3⟩, k5⟩
                  have K5 := Lib.hid (hK3.out.trans k5)
                  have O5 := Lib.hid (OwnS.kept hO3.out k5)
                  have D5 := Lib.hid (show l.drop p = rs by rw [hp3, HR2.out, ← HA2.out])
                  clear k5 hp3
                  cases hbr : brk nm with
                  | true =>
                    rw [hbr] at HBr HN
                    have HN2 := Lib.hid (show pcs l = (done ++ [cur]) ++ pc [] (l.drop (p)) by rw [HN.out, if_pos rfl, D5.out]; simp)
                    clear HN hbr D5
                    go_wp2_with fail
                    refine (HBr.out _).mono ?_
                    rintro e w' ⟨rfl, rfl⟩
                    have hDl : (done ++ [cur]).length = done.length + 1 := by simp
                    generalize done ++ [cur] = D at *
                    have hal := (Kept.refl w5).alloc (.cells #[sV []] 9)
                    have O6 := Lib.hid (OwnS.kept O5.out hal)
                    have K6 := Lib.hid (K5.out.trans hal)
                    have hc6 := (Kept.refl (w5.alloc (.cells #[sV []] 9))).new 0 (v := sV []) rfl
                    have hB6 := K6.out.size
                    go_wp2_with (at_builtin; refine wpList_pushS rfl _ _ rfl w.heap.size _ D [] w5.heap.size rfl O6.out rfl hc6 (by omega) hB6 ?_)
                    intro v7 y hy hgy
                    have K7 := Lib.hid (kept_row K6.out hgy (fun g hg => (World.ownsRow.lt O6.out g hg).1))
                    obtain ⟨g7, cap7, hv7, -⟩ := own_some hy (by simp)
                    rw [List.length_append, List.length_singleton] at hv7
                    subst hv7
                    have O7 := Lib.hid (show OwnS w.heap.size (.slice (some ⟨g7, 0, none⟩) (D.length + 1) cap7) (D ++ [[]]) y from hy)
                    have hdl7 : D.length ≤ p := by omega
                    clear hy hgy hc6 hB6 hal
                    go_wp2
                    go_roundw
                    case rel => exact ⟨p, D, [], g7, cap7, by omega, rfl, rfl, hdl7, Nat.zero_le _, HN2, O7, K7⟩
                    case measure => simp [intOf]; omega
                  | false =>
                    rw [hbr] at HBr HN
                    have HN2 := Lib.hid (show pcs l = done ++ pc cur (l.drop (p)) by rw [HN.out, if_neg (by decide), D5.out])
                    clear HN hbr D5
                    go_wp2_with (go_at_call 118; refine (HBr.out _).mono ?_; rintro e w' ⟨rfl, rfl⟩)
                    go_roundw
                    case rel => exact ⟨p, done, cur, g, cap, by omega, rfl, rfl, by omega, by omega, HN2, O5, K5⟩
                    case measure => simp [intOf]; omega
            | false =>
              rw [h6] at HHd
              have hbe := HHd.out
              simp only [Bool.not_false, Bool.true_and, Bool.false_or] at hbe
              subst hbe
              have HR2 := Lib.hid (show rs = af by rw [HRs.out]; simp)
              clear h4 HHd
              go_wp2_with (first | (go_at_call 115; refine (HMk.out _).mono ?_; rintro e w' ⟨rfl, rfl⟩) | fail)
              refine (HNm.out _).mono ?_
              rintro e w2 ⟨rfl, k2⟩
              have hK2 := Lib.hid (hK.out.trans k2)
              have hO2 := Lib.hid (OwnS.kept hO.out k2)
              clear k2 hK hO
              go_wp2_with fail
              go_loopw [4] (fun vk wr => ∃ k : Nat, i ≤ k ∧ k ≤ l.length ∧ vk = .int .i64 k ∧ Hid (aft (l.drop k) = af) ∧ Hid (OwnS w.heap.size (.slice (some ⟨g, 0, none⟩) (done.length + 1) cap) (done ++ [cur]) wr) ∧ Hid (Kept w wr)) (fun vk _ => l.length - (intOf vk).toNat)
              case atStart => exact ⟨i, Nat.le_refl _, by omega, rfl, Lib.hid HAf.out.symm, hO2, hK2⟩
              case round =>
                skip
                obtain ⟨k, hik, hkl, rfl, hA, hO3, hK3⟩ := hrel
                by_cases hkt : k < l.length
                · have hktI : (k : Int) < l.length := by omega
                  obtain ⟨b, hbb⟩ : ∃ b, l[k]? = some b := ⟨_, List.getElem?_eq_getElem hkt⟩
                  have hatk := byte_at l k b hbb
                  have hAs := aft_at hbb
                  rw [hA.out] at hAs
                  clear hbb hA
                  by_cases h62 : b = 62
                  · rw [if_pos h62] at hAs
                    have hbI : ((b.toNat : Int) != 62) = false := by rw [h62]; rfl
                    have HA2 := Lib.hid hAs
                    clear hAs h62
                    have K5 := hK3
                    have O5 := hO3
                    have D5 := Lib.hid (show l.drop (k + 1) = rs by rw [HR2.out, ← HA2.out])
                    cases hbr : brk nm with
                    | true =>
                      rw [hbr] at HBr HN
                      have HN2 := Lib.hid (show pcs l = (done ++ [cur]) ++ pc [] (l.drop (k + 1)) by rw [HN.out, if_pos rfl, D5.out]; simp)
                      clear HN hbr D5
                      go_wp2_with fail
                      refine (HBr.out _).mono ?_
                      rintro e w' ⟨rfl, rfl⟩
                      have hDl : (done ++ [cur]).length = done.length + 1 := by simp
                      generalize done ++ [cur] = D at *
                      have hal := (Kept.refl wr).alloc (.cells #[sV []] 9)
                      have O6 := Lib.hid (OwnS.kept O5.out hal)
                      have K6 := Lib.hid (K5.out.trans hal)
                      have hc6 := (Kept.refl (wr.alloc (.cells #[sV []] 9))).new 0 (v := sV []) rfl
                      have hB6 := K6.out.size
                      go_wp2_with (at_builtin; refine wpList_pushS rfl _ _ rfl w.heap.size _ D [] wr.heap.size rfl O6.out rfl hc6 (by omega) hB6 ?_)
                      intro v7 y hy hgy
                      have K7 := Lib.hid (kept_row K6.out hgy (fun g hg => (World.ownsRow.lt O6.out g hg).1))
                      obtain ⟨g7, cap7, hv7, -⟩ := own_some hy (by simp)
                      rw [List.length_append, List.length_singleton] at hv7
                      subst hv7
                      have O7 := Lib.hid (show OwnS w.heap.size (.slice (some ⟨g7, 0, none⟩) (D.length + 1) cap7) (D ++ [[]]) y from hy)
                      have hdl7 : D.length ≤ k + 1 := by omega
                      clear hy hgy hc6 hB6 hal
                      go_wp2
                      go_roundw
                      case rel => exact ⟨k + 1, D, [], g7, cap7, by omega, rfl, by go_num, hdl7, Nat.zero_le _, HN2, O7, K7⟩
                      case measure => simp [intOf]; omega
                    | false =>
                      rw [hbr] at HBr HN
                      have HN2 := Lib.hid (show pcs l = done ++ pc cur (l.drop (k + 1)) by rw [HN.out, if_neg (by decide), D5.out])
                      clear HN hbr D5
                      go_wp2_with (go_at_call 118; refine (HBr.out _).mono ?_; rintro e w' ⟨rfl, rfl⟩)
                      go_roundw
                      case rel => exact ⟨k + 1, done, cur, g, cap, by omega, rfl, by go_num, by omega, by omega, HN2, O5, K5⟩
                      case measure => simp [intOf]; omega
                  · rw [if_neg h62] at hAs
                    have hbI : ((b.toNat : Int) != 62) = true := by
                      have : b.toNat ≠ 62 := fun e => h62 (UInt8.toNat_inj.1 e)
                      simp; omega
                    have HA2 := Lib.hid hAs.symm
                    clear hAs h62
                    go_wp2
                    go_roundw
                    case rel => exact ⟨k + 1, by omega, by omega, by go_num, HA2, hO3, hK3⟩
                    case measure => simp [intOf]; omega
                · obtain rfl : k = l.length := by omega
                  have HA2 := Lib.hid (show af = l.drop l.length by rw [← hA.out, List.drop_length]; rfl)
                  clear hA
                  have K5 := hK3
                  have O5 := hO3
                  have D5 := Lib.hid (show l.drop (l.length) = rs by rw [HR2.out, ← HA2.out])
                  cases hbr : brk nm with
                  | true =>
                    rw [hbr] at HBr HN
                    have HN2 := Lib.hid (show pcs l = (done ++ [cur]) ++ pc [] (l.drop (l.length)) by rw [HN.out, if_pos rfl, D5.out]; simp)
                    clear HN hbr D5
                    go_wp2_with fail
                    refine (HBr.out _).mono ?_
                    rintro e w' ⟨rfl, rfl⟩
                    have hDl : (done ++ [cur]).length = done.length + 1 := by simp
                    generalize done ++ [cur] = D at *
                    have hal := (Kept.refl wr).alloc (.cells #[sV []] 9)
                    have O6 := Lib.hid (OwnS.kept O5.out hal)
                    have K6 := Lib.hid (K5.out.trans hal)
                    have hc6 := (Kept.refl (wr.alloc (.cells #[sV []] 9))).new 0 (v := sV []) rfl
                    have hB6 := K6.out.size
                    go_wp2_with (at_builtin; refine wpList_pushS rfl _ _ rfl w.heap.size _ D [] wr.heap.size rfl O6.out rfl hc6 (by omega) hB6 ?_)
                    intro v7 y hy hgy
                    have K7 := Lib.hid (kept_row K6.out hgy (fun g hg => (World.ownsRow.lt O6.out g hg).1))
                    obtain ⟨g7, cap7, hv7, -⟩ := own_some hy (by simp)
                    rw [List.length_append, List.length_singleton] at hv7
                    subst hv7
                    have O7 := Lib.hid (show OwnS w.heap.size (.slice (some ⟨g7, 0, none⟩) (D.length + 1) cap7) (D ++ [[]]) y from hy)
                    have hdl7 : D.length ≤ l.length := by omega
                    clear hy hgy hc6 hB6 hal
                    go_wp2
                    go_roundw
                    case rel => exact ⟨l.length, D, [], g7, cap7, by omega, rfl, rfl, hdl7, Nat.zero_le _, HN2, O7, K7⟩
                    case measure => simp [intOf]; omega
                  | false =>
                    rw [hbr] at HBr HN
                    have HN2 := Lib.hid (show pcs l = done ++ pc cur (l.drop (l.length)) by rw [HN.out, if_neg (by decide), D5.out])
                    clear HN hbr D5
                    go_wp2_with (go_at_call 118; refine (HBr.out _).mono ?_; rintro e w' ⟨rfl, rfl⟩)
                    go_roundw
                    case rel => exact ⟨l.length, done, cur, g, cap, by omega, rfl, rfl, by omega, by omega, HN2, O5, K5⟩
                    case measure => simp [intOf]; omega
    · obtain rfl : i = l.length := by omega
      have HN := Lib.hid (show pcs l = done ++ [cur] by rw [hP.out, List.drop_length, pc_nil])
      clear hP
      go_wp2
      go_ret
      exact ⟨_, rfl, by rw [HN.out]; exact hO.out, hK.out⟩
end Go.Proofs.YtjlpkgipdkjfhaaGreatDoor.Pl
