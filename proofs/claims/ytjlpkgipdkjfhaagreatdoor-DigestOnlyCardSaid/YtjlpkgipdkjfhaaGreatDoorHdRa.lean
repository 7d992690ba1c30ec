import Derived.Test.YtjlpkgipdkjfhaaGreatDoorHz
set_option linter.unusedSimpArgs false
set_option linter.unusedVariables false
namespace Go.Proofs.YtjlpkgipdkjfhaaGreatDoor.Bk.Hd
open Go.ChangeShapes Go.WideShapes Go.ChangeAt Go.RowKit Go.Shelf
theorem isNm_no {x : UInt8} (h : ¬ ((97 ≤ x.toNat ∧ x.toNat ≤ 122) ∨ (65 ≤ x.toNat ∧ x.toNat ≤ 90) ∨ (48 ≤ x.toNat ∧ x.toNat ≤ 57) ∨ x.toNat = 45)) : isNm x = false := by
  rw [Bool.eq_false_iff]
  intro e
  simp only [isNm, Bool.or_eq_true, Bool.and_eq_true, decide_eq_true_eq] at e
  omega
theorem isNm_yes {x : UInt8} (h : ((97 ≤ x.toNat ∧ x.toNat ≤ 122) ∨ (65 ≤ x.toNat ∧ x.toNat ≤ 90) ∨ (48 ≤ x.toNat ∧ x.toNat ≤ 57) ∨ x.toNat = 45)) : isNm x = true := by
  simp only [isNm, Bool.or_eq_true, Bool.and_eq_true, decide_eq_true_eq]
  omega
set_option maxRecDepth 100000 in
set_option maxHeartbeats 4000000 in
theorem rname_any (s : B) (w : World) (hl : s.length ≤ maxLen) : Calls Tryz.prog 109 #[sV s] w fun e w' => e = .returned (.bool (nam s)) ∧ w' = w := by
  unfold maxLen at hl
  have hs : (ByteArray.mk s.toArray).size = s.length := List.size_toArray
  go_enter Tryz.func109, Tryz.ntmps109
  go_wp2_with fail
  go_loopw [3] (fun vi wr => ∃ i : Nat, i ≤ s.length ∧ vi = .int .i64 i ∧ wr = w ∧ Hid (∀ j y, j < i → s[j]? = some y → isNm y = true)) (fun vi _ => s.length - (intOf vi).toNat)
  case atStart => exact ⟨0, Nat.zero_le _, rfl, rfl, Lib.hid (fun j y h => absurd h (Nat.not_lt_zero _))⟩
  case round =>
    obtain ⟨i, hi, rfl, rfl, hA⟩ := hrel
    by_cases hlt : i < s.length
    · have hltI : (i : Int) < s.length := by omega
      obtain ⟨x, hx⟩ : ∃ x, s[i]? = some x := ⟨_, List.getElem?_eq_getElem hlt⟩
      have hat := byte_at s i x hx
      have HX := Lib.hid hx
      clear hx
      by_cases a1 : (97 : Int) ≤ x.toNat
      · by_cases a2 : (x.toNat : Int) ≤ 122
        · have HQ := Lib.hid (isNm_yes (x := x) (by omega))
          go_wp2
          go_roundw
          all_goals first
            | exact ⟨i + 1, hlt, by go_num, by trivial, Lib.hid (all_take hA.out HX.out HQ.out)⟩
            | (simp [intOf]; omega)
            | exact ⟨⟨i + 1, hlt, by go_num, by trivial, Lib.hid (all_take hA.out HX.out HQ.out)⟩, by simp [intOf]; omega⟩
        · have HQ := Lib.hid (show nam s = false from nam_take HX.out (isNm_no (by omega)))
          have a3 : (65 : Int) ≤ x.toNat := by omega
          have a4 : ¬ (x.toNat : Int) ≤ 90 := by omega
          have a5 : (48 : Int) ≤ x.toNat := by omega
          have a6 : ¬ (x.toNat : Int) ≤ 57 := by omega
          have a7 : ¬ (x.toNat : Int) = 45 := by omega
          have a8 : ((x.toNat : Int) == 45) = false := by simp [a7]
          go_wp2
          go_ret
          exact ⟨by rw [HQ.out]; rfl, rfl⟩
      · by_cases a3 : (65 : Int) ≤ x.toNat
        · by_cases a4 : (x.toNat : Int) ≤ 90
          · have HQ := Lib.hid (isNm_yes (x := x) (by omega))
            go_wp2
            go_roundw
            all_goals first
              | exact ⟨i + 1, hlt, by go_num, by trivial, Lib.hid (all_take hA.out HX.out HQ.out)⟩
              | (simp [intOf]; omega)
              | exact ⟨⟨i + 1, hlt, by go_num, by trivial, Lib.hid (all_take hA.out HX.out HQ.out)⟩, by simp [intOf]; omega⟩
          · have HQ := Lib.hid (show nam s = false from nam_take HX.out (isNm_no (by omega)))
            have a5 : (48 : Int) ≤ x.toNat := by omega
            have a6 : ¬ (x.toNat : Int) ≤ 57 := by omega
            have a7 : ¬ (x.toNat : Int) = 45 := by omega
            have a8 : ((x.toNat : Int) == 45) = false := by simp [a7]
            go_wp2
            go_ret
            exact ⟨by rw [HQ.out]; rfl, rfl⟩
        · by_cases a5 : (48 : Int) ≤ x.toNat
          · by_cases a6 : (x.toNat : Int) ≤ 57
            · have HQ := Lib.hid (isNm_yes (x := x) (by omega))
              go_wp2
              go_roundw
              all_goals first
                | exact ⟨i + 1, hlt, by go_num, by trivial, Lib.hid (all_take hA.out HX.out HQ.out)⟩
                | (simp [intOf]; omega)
                | exact ⟨⟨i + 1, hlt, by go_num, by trivial, Lib.hid (all_take hA.out HX.out HQ.out)⟩, by simp [intOf]; omega⟩
            · have HQ := Lib.hid (show nam s = false from nam_take HX.out (isNm_no (by omega)))
              have a7 : ¬ (x.toNat : Int) = 45 := by omega
              have a8 : ((x.toNat : Int) == 45) = false := by simp [a7]
              go_wp2
              go_ret
              exact ⟨by rw [HQ.out]; rfl, rfl⟩
          · by_cases a7 : (x.toNat : Int) = 45
            · have HQ := Lib.hid (isNm_yes (x := x) (by omega))
              obtain rfl : x = 45 := UInt8.toNat_inj.1 (show x.toNat = (45 : UInt8).toNat by rw [show (45 : UInt8).toNat = 45 from rfl]; omega)
              clear a1 a3 a5 a7
              go_wp2
              go_roundw
              all_goals first
                | exact ⟨i + 1, hlt, by go_num, by trivial, Lib.hid (all_take hA.out HX.out HQ.out)⟩
                | (simp [intOf]; omega)
                | exact ⟨⟨i + 1, hlt, by go_num, by trivial, Lib.hid (all_take hA.out HX.out HQ.out)⟩, by simp [intOf]; omega⟩
            · have HQ := Lib.hid (show nam s = false from nam_take HX.out (isNm_no (by omega)))
              have a8 : ((x.toNat : Int) == 45) = false := by simp [a7]
              go_wp2
              go_ret
              exact ⟨by rw [HQ.out]; rfl, rfl⟩
    · have hltI : ¬ (i : Int) < s.length := by omega
      obtain rfl : i = s.length := by omega
      have HA := Lib.hid (all_end hA.out)
      clear hA
      by_cases he : (1 : Int) ≤ s.length
      · have hq : s.isEmpty = false := by cases s with
          | nil => simp at he
          | cons a r => rfl
        have HQ := Lib.hid (show nam s = decide ((s.length : Int) ≤ 40) by unfold nam; rw [HA.out, hq, Bool.true_and, Bool.not_false, Bool.true_and]; exact decide_eq_decide.2 (by omega))
        go_wp2
        go_ret
        exact ⟨eb_ret HQ.out.symm, rfl⟩
      · have HQ := Lib.hid (show nam s = false by obtain rfl : s = [] := List.length_eq_zero_iff.1 (by omega); rfl)
        go_wp2
        go_ret
        exact ⟨by rw [HQ.out]; rfl, rfl⟩
set_option maxRecDepth 100000 in
theorem rpart_any (s : B) (w : World) (hl : s.length ≤ maxLen) : Calls Tryz.prog 159 #[sV s] w fun e w' => e = .returned (iV (prt s)) ∧ w' = w := by
  unfold maxLen at hl
  have hs : (ByteArray.mk s.toArray).size = s.length := List.size_toArray
  by_cases h : s.length ≤ 45
  · have hI : (s.length : Int) ≤ 45 := by omega
    have HP := Lib.hid (show prt s = s.length by unfold prt; rw [if_pos h])
    go_enter Tryz.func159, Tryz.ntmps159
    go_wp2
    go_ret
    exact ⟨by rw [HP.out]; rfl, rfl⟩
  · have hI : ¬ (s.length : Int) ≤ 45 := by omega
    rw [prt_F h]
    go_enter Tryz.func159, Tryz.ntmps159
    go_wp2_with fail
    go_loopw [3] (fun vk wr => ∃ j : Nat, j ≤ 4 ∧ vk = .int .i64 ((41 + j : Nat) : Int) ∧ wr = w ∧ Hid (prtF s 4 = prtF s j)) (fun vk _ => (intOf vk).toNat)
    case atStart => exact ⟨4, Nat.le_refl _, rfl, rfl, Lib.hid rfl⟩
    case round =>
      obtain ⟨j, hj, rfl, rfl, hP⟩ := hrel
      cases j with
      | zero =>
        go_wp2
        go_ret
        exact ⟨by rw [hP.out]; rfl, rfl⟩
      | succ j =>
        have hk : 42 + j < s.length := by omega
        obtain ⟨x, hx⟩ : ∃ x, s[42 + j]? = some x := ⟨_, List.getElem?_eq_getElem hk⟩
        have hat := byte_at s (42 + j) x hx
        have hg : s.getD (42 + j) 0 = x := by rw [List.getD_eq_getElem?_getD, hx]; rfl
        have HP := Lib.hid (hP.out.trans (by rw [prtF, hg]))
        rw [show 41 + (j + 1) = 42 + j by omega]
        have hkI : (42 : Int) ≤ ((42 + j : Nat) : Int) := by omega
        have hkI2 : ((42 + j : Nat) : Int) < s.length := by omega
        have hkI3 : (0 : Int) ≤ ((42 + j : Nat) : Int) := by omega
        have he : ((42 + j : Nat) : Int) - 1 = ((41 + j : Nat) : Int) := by omega
        clear hP hx hg
        generalize hK : 42 + j = k at *
        by_cases b1 : (x.toNat : Int) < 128
        · have hc : cont x = false := by unfold cont; rw [decide_eq_false (by omega)]; rfl
          have HZ := Lib.hid (HP.out.trans (if_pos hc))
          clear HP hc
          go_wp2
          go_ret
          exact ⟨by rw [HZ.out]; rfl, rfl⟩
        · by_cases b2 : 191 < (x.toNat : Int)
          · have hc : cont x = false := by unfold cont; rw [decide_eq_false (show ¬ x.toNat ≤ 191 by omega)]; exact Bool.and_false _
            have HZ := Lib.hid (HP.out.trans (if_pos hc))
            clear HP hc
            go_wp2
            go_ret
            exact ⟨by rw [HZ.out]; rfl, rfl⟩
          · have hc : cont x = true := by unfold cont; rw [decide_eq_true (show 128 ≤ x.toNat by omega), decide_eq_true (show x.toNat ≤ 191 by omega)]; rfl
            have HZ := Lib.hid (HP.out.trans (if_neg (by rw [hc]; decide)))
            clear HP hc
            go_wp2
            go_roundw
            case rel => exact ⟨j, by omega, by go_num, by trivial, HZ⟩
            case measure => simp [intOf]; omega
theorem pr_no : ∀ {s : B} {j : Nat} {x y : UInt8}, s[j]? = some x → s[j + 1]? = some y → bad x y = true → pr s = false
  | [], j, x, y, h, _, _ => by simp at h
  | [a], j, x, y, h, h2, _ => by simp at h2
  | a :: b :: r, 0, x, y, h, h2, hb => by
    simp at h h2
    subst h h2
    rw [pr, hb]; rfl
  | a :: b :: r, j + 1, x, y, h, h2, hb => by
    have := pr_no (s := b :: r) (j := j) (by simpa using h) (by simpa using h2) hb
    rw [pr, this, Bool.and_false]
theorem pr_all : ∀ {s : B}, (∀ j x y, s[j]? = some x → s[j + 1]? = some y → bad x y = false) → pr s = true
  | [], _ => rfl
  | [a], _ => rfl
  | a :: b :: r, h => by
    have h0 := h 0 a b rfl rfl
    have := pr_all (s := b :: r) (fun j x y h1 h2 => h (j + 1) x y (by simpa using h1) (by simpa using h2))
    rw [pr, h0, this]; rfl
theorem pln_no1 {s : B} {k : Nat} {x : UInt8} (hx : s[k]? = some x) (h : rng x = false) : pln s = false := by
  rw [pln_eq, Bool.and_eq_false_iff]
  exact Or.inl (by rw [List.all_eq_false]; exact ⟨x, List.mem_of_getElem? hx, by rw [h]; decide⟩)
theorem pln_no2 {s : B} (h : pr s = false) : pln s = false := by rw [pln_eq, h]; simp
def PrI (s : B) (i : Nat) : Prop := ∀ j x y, j + 1 < i → s[j]? = some x → s[j + 1]? = some y → bad x y = false
theorem PrI.step {s : B} {i : Nat} {x : UInt8} (h : PrI s i) (hx : s[i]? = some x) (hb : ∀ p, 0 < i → s[i - 1]? = some p → bad p x = false) : PrI s (i + 1) := by
  intro j a b hj ha hb2
  by_cases q : j + 1 = i
  · subst q
    rw [hx] at hb2
    cases hb2
    exact hb a (by omega) (by simpa using ha)
  · exact h j a b (by omega) ha hb2
set_option maxRecDepth 100000 in
set_option maxHeartbeats 8000000 in
theorem rplain_any (s : B) (w : World) (hl : s.length ≤ maxLen) : Calls Tryz.prog 158 #[sV s] w fun e w' => e = .returned (.bool (pln s)) ∧ w' = w := by
  unfold maxLen at hl
  have hs : (ByteArray.mk s.toArray).size = s.length := List.size_toArray
  go_enter Tryz.func158, Tryz.ntmps158
  go_wp2_with fail
  go_loopw [3] (fun vi wr => ∃ i : Nat, i ≤ s.length ∧ vi = .int .i64 i ∧ wr = w ∧ Hid (∀ j y, j < i → s[j]? = some y → rng y = true) ∧ Hid (PrI s i)) (fun vi _ => s.length - (intOf vi).toNat)
  case atStart => exact ⟨0, Nat.zero_le _, rfl, rfl, Lib.hid (fun j y h => absurd h (Nat.not_lt_zero _)), Lib.hid (fun j x y h => absurd h (Nat.not_lt_zero _))⟩
  case round =>
    obtain ⟨i, hi, rfl, rfl, hA, hP⟩ := hrel
    by_cases hlt : i < s.length
    · have hltI : (i : Int) < s.length := by omega
      obtain ⟨x, hx⟩ : ∃ x, s[i]? = some x := ⟨_, List.getElem?_eq_getElem hlt⟩
      have hat := byte_at s i x hx
      have HX := Lib.hid hx
      clear hx
      by_cases b1 : (x.toNat : Int) < 32
      · have HQ := Lib.hid (show pln s = false from pln_no1 HX.out (by unfold rng; rw [decide_eq_false (by omega)]; rfl))
        go_wp2
        go_ret
        exact ⟨by rw [HQ.out]; rfl, rfl⟩
      by_cases b2 : 126 < (x.toNat : Int)
      · have HQ := Lib.hid (show pln s = false from pln_no1 HX.out (by unfold rng; rw [decide_eq_false (show ¬ x.toNat ≤ 126 by omega)]; exact Bool.and_false _))
        go_wp2
        go_ret
        exact ⟨by rw [HQ.out]; rfl, rfl⟩
      have HR := Lib.hid (show rng x = true by unfold rng; rw [decide_eq_true (show 32 ≤ x.toNat by omega), decide_eq_true (show x.toNat ≤ 126 by omega)]; rfl)
      by_cases h0 : (0 : Int) < i
      · obtain ⟨p, hp⟩ : ∃ p, s[i - 1]? = some p := ⟨_, List.getElem?_eq_getElem (show i - 1 < s.length by omega)⟩
        have hatp := byte_at s (i - 1) p hp
        have HPp := Lib.hid hp
        have hm : (i : Int) - 1 = ((i - 1 : Nat) : Int) := by omega
        have hm2 : ((i - 1 : Nat) : Int) < s.length := by omega
        have hi1 : i - 1 + 1 = i := by omega
        clear hp
        generalize i - 1 = k at *
        have HB := Lib.hid (fun (hb : bad p x = true) => show pln s = false from pln_no2 (pr_no HPp.out (by rw [hi1]; exact HX.out) hb))
        have HN := Lib.hid (fun (hb : bad p x = false) => hP.out.step HX.out (fun q _ hq => by rw [show i - 1 = k by omega, HPp.out] at hq; cases hq; exact hb))
        have e32 : ∀ c : UInt8, (c == 32) = decide ((c.toNat : Int) = 32) := fun c => by
          rw [Bool.eq_iff_iff, beq_iff_eq, decide_eq_true_eq]
          constructor
          · rintro rfl; rfl
          · intro e; exact UInt8.toNat_inj.1 (show c.toNat = (32 : UInt8).toNat by rw [show (32 : UInt8).toNat = 32 from rfl]; omega)
        have e63 : ∀ c : UInt8, (c == 63) = decide ((c.toNat : Int) = 63) := fun c => by
          rw [Bool.eq_iff_iff, beq_iff_eq, decide_eq_true_eq]
          constructor
          · rintro rfl; rfl
          · intro e; exact UInt8.toNat_inj.1 (show c.toNat = (63 : UInt8).toNat by rw [show (63 : UInt8).toNat = 63 from rfl]; omega)
        have e61 : ∀ c : UInt8, (c == 61) = decide ((c.toNat : Int) = 61) := fun c => by
          rw [Bool.eq_iff_iff, beq_iff_eq, decide_eq_true_eq]
          constructor
          · rintro rfl; rfl
          · intro e; exact UInt8.toNat_inj.1 (show c.toNat = (61 : UInt8).toNat by rw [show (61 : UInt8).toNat = 61 from rfl]; omega)
        have HBD := Lib.hid (show bad p x = ((decide ((p.toNat : Int) = 32) && decide ((x.toNat : Int) = 32)) || (decide ((p.toNat : Int) = 61) && decide ((x.toNat : Int) = 63))) by unfold bad; rw [e32, e32, e61, e63])
        clear e32 e63 e61
        by_cases c1 : (x.toNat : Int) = 32
        · have c1b : ((x.toNat : Int) == 32) = true := by simp [c1]
          by_cases c2 : (p.toNat : Int) = 32
          · have c2b : ((p.toNat : Int) == 32) = true := by simp [c2]
            have HQ := Lib.hid (HB.out (by rw [HBD.out]; simp [c1, c2]))
            clear c1 c2
            go_wp2
            go_ret
            exact ⟨by rw [HQ.out]; rfl, rfl⟩
          · have c2b : ((p.toNat : Int) == 32) = false := by simp [c2]
            have c3b : ((x.toNat : Int) == 63) = false := by simp [c1]
            have HQ := Lib.hid (HN.out (by rw [HBD.out]; simp [c1, c2]))
            clear c1 c2
            go_wp2
            go_roundw
            case rel => exact ⟨i + 1, hlt, by go_num, by trivial, Lib.hid (all_take hA.out HX.out HR.out), HQ⟩
            case measure => simp [intOf]; omega
        · have c1b : ((x.toNat : Int) == 32) = false := by simp [c1]
          by_cases c3 : (x.toNat : Int) = 63
          · have c3b : ((x.toNat : Int) == 63) = true := by simp [c3]
            by_cases c4 : (p.toNat : Int) = 61
            · have c4b : ((p.toNat : Int) == 61) = true := by simp [c4]
              have HQ := Lib.hid (HB.out (by rw [HBD.out]; simp [c3, c4]))
              clear c1 c3 c4
              go_wp2
              go_ret
              exact ⟨by rw [HQ.out]; rfl, rfl⟩
            · have c4b : ((p.toNat : Int) == 61) = false := by simp [c4]
              have HQ := Lib.hid (HN.out (by rw [HBD.out]; simp [c1, c4]))
              clear c1 c3 c4
              go_wp2
              go_roundw
              case rel => exact ⟨i + 1, hlt, by go_num, by trivial, Lib.hid (all_take hA.out HX.out HR.out), HQ⟩
              case measure => simp [intOf]; omega
          · have c3b : ((x.toNat : Int) == 63) = false := by simp [c3]
            have HQ := Lib.hid (HN.out (by rw [HBD.out]; simp [c1, c3]))
            clear c1 c3
            go_wp2
            go_roundw
            case rel => exact ⟨i + 1, hlt, by go_num, by trivial, Lib.hid (all_take hA.out HX.out HR.out), HQ⟩
            case measure => simp [intOf]; omega
      · have HQ := Lib.hid (hP.out.step HX.out (fun q h => by omega))
        go_wp2
        go_roundw
        case rel => exact ⟨i + 1, hlt, by go_num, by trivial, Lib.hid (all_take hA.out HX.out HR.out), HQ⟩
        case measure => simp [intOf]; omega
    · have hltI : ¬ (i : Int) < s.length := by omega
      obtain rfl : i = s.length := by omega
      have HA := Lib.hid (all_end hA.out)
      have HPr := Lib.hid (show pr s = true from pr_all (fun j x y h1 h2 => hP.out j x y (by have := (List.getElem?_eq_some_iff.1 h2).1; omega) h1 h2))
      have HF := Lib.hid (show pln s = (!s.isEmpty && (!(s.head? == some 32) && !(s.getLast? == some 32))) by rw [pln_eq, HA.out, HPr.out]; simp)
      clear hA hP HA HPr
      by_cases he : (0 : Int) < s.length
      · obtain ⟨a, ha⟩ : ∃ a, s[0]? = some a := ⟨_, List.getElem?_eq_getElem (show 0 < s.length by omega)⟩
        obtain ⟨z, hz⟩ : ∃ z, s[s.length - 1]? = some z := ⟨_, List.getElem?_eq_getElem (show s.length - 1 < s.length by omega)⟩
        have hata := byte_at s 0 a ha
        have hatz := byte_at s (s.length - 1) z hz
        have hq : s.isEmpty = false := by cases s with
          | nil => simp at he
          | cons a r => rfl
        have e32 : ∀ c : UInt8, ((some c : Option UInt8) == some 32) = decide ((c.toNat : Int) = 32) := fun c => by
          rw [Bool.eq_iff_iff, beq_iff_eq, decide_eq_true_eq]
          constructor
          · intro e; cases e; rfl
          · intro e; exact congrArg some (UInt8.toNat_inj.1 (show c.toNat = (32 : UInt8).toNat by rw [show (32 : UInt8).toNat = 32 from rfl]; omega))
        have HF2 := Lib.hid (show pln s = (!decide ((a.toNat : Int) = 32) && !decide ((z.toNat : Int) = 32)) by
          rw [HF.out, hq, List.head?_eq_getElem?, ha, List.getLast?_eq_getElem?, hz, e32, e32]; rfl)
        have hm : ((s.length : Int)) - 1 = ((s.length - 1 : Nat) : Int) := by omega
        have hm2 : ((s.length - 1 : Nat) : Int) < s.length := by omega
        clear HF e32 ha hz hq
        generalize s.length - 1 = k at *
        by_cases c1 : (a.toNat : Int) = 32
        · have c1b : ((a.toNat : Int) != 32) = false := by simp [c1]
          have HQ := Lib.hid (show pln s = false by rw [HF2.out, decide_eq_true c1]; rfl)
          clear c1
          go_wp2
          go_ret
          exact ⟨by rw [HQ.out]; rfl, rfl⟩
        · have c1b : ((a.toNat : Int) != 32) = true := by simp [c1]
          have HQ := Lib.hid (show pln s = ((z.toNat : Int) != 32) by rw [HF2.out, decide_eq_false c1]; rw [Bool.eq_iff_iff]; simp [bne])
          clear c1
          go_wp2
          go_ret
          exact ⟨eb_ret HQ.out.symm, rfl⟩
      · have HQ := Lib.hid (show pln s = false by obtain rfl : s = [] := List.length_eq_zero_iff.1 (by omega); rfl)
        go_wp2
        go_ret
        exact ⟨by rw [HQ.out]; rfl, rfl⟩
end Go.Proofs.YtjlpkgipdkjfhaaGreatDoor.Bk.Hd
