/- Package head's small functions: names, a text's first part; the parts of a text, coded, told to a range over a function. -/
import Derived.Test.YtdhhlcgmkkpldaaGreatDoorHdSq
import Derived.Test.YtdhhlcgmkkpldaaGreatDoorBxR
set_option linter.unusedSimpArgs false
set_option linter.unusedVariables false
namespace Go.Proofs.YtdhhlcgmkkpldaaGreatDoor.Hd
open Go.ChangeShapes Go.WideShapes Go.ChangeAt Go.RowKit Go.Shelf
attribute [local go_sem] Oper.semAt_some
set_option maxRecDepth 100000 in
theorem start_any (c : UInt8) (w : World) : Calls Tryz.prog 70 #[.int .u8 c.toNat] w fun e w' => e = .returned (.bool (!cont c)) ∧ w' = w := by
  have HB := Lib.hid (show ∀ n, n < 256 → (bits BinOp.and IntKind.u8 ((n : Nat) : Int) 192 != 128) = (!(decide (128 ≤ n) && decide (n ≤ 191))) by decide +kernel)
  go_enter Tryz.func70, Tryz.ntmps70
  go_wp2
  go_ret
  exact ⟨eb_ret (HB.out c.toNat c.toNat_lt), rfl⟩
/-- where the first part ends, so many places being left to look at -/
def prtF (s : B) : Nat → Nat
  | 0 => 45
  | j + 1 => if cont (s.getD (42 + j) 0) = false then 42 + j else prtF s j
theorem prt_F {s : B} (h : ¬ s.length ≤ 45) : prt s = prtF s 4 := by
  unfold prt
  rw [if_neg h]
  simp only [prtF]
set_option maxRecDepth 100000 in
theorem part_any (s : B) (w : World) (hl : s.length ≤ maxLen) : Calls Tryz.prog 55 #[sV s] w fun e w' => e = .returned (iV (prt s)) ∧ w' = w := by
  unfold maxLen at hl
  have hs : (ByteArray.mk s.toArray).size = s.length := List.size_toArray
  by_cases h : s.length ≤ 45
  · have hI : (s.length : Int) ≤ 45 := by omega
    have HP := Lib.hid (show prt s = s.length by unfold prt; rw [if_pos h])
    go_enter Tryz.func55, Tryz.ntmps55
    go_wp2
    go_ret
    exact ⟨by rw [HP.out]; rfl, rfl⟩
  · have hI : ¬ (s.length : Int) ≤ 45 := by omega
    rw [prt_F h]
    go_enter Tryz.func55, Tryz.ntmps55
    go_wp2_with fail
    go_loopw [3] (fun vk wr => ∃ j : Nat, j ≤ 4 ∧ vk = .int .i64 ((41 + j : Nat) : Int) ∧ wr = w ∧ Hid (prtF s 4 = prtF s j)) (fun vk _ => (intOf vk).toNat)
    case atStart => exact ⟨4, Nat.le_refl _, rfl, rfl, Lib.hid rfl⟩
    case round =>
      obtain ⟨j, hj, rfl, rfl, hP⟩ := hrel
      cases j with
      | zero =>
        go_wp2
        go_ret
        exact ⟨by rw [hP.out]; rfl, rfl⟩
      | succ j =>
        have hk : 42 + j < s.length := by omega
        obtain ⟨x, hx⟩ : ∃ x, s[42 + j]? = some x := ⟨_, List.getElem?_eq_getElem hk⟩
        have hat := byte_at s (42 + j) x hx
        have hg : s.getD (42 + j) 0 = x := by rw [List.getD_eq_getElem?_getD, hx]; rfl
        have HP := Lib.hid (hP.out.trans (by rw [prtF, hg]))
        rw [show 41 + (j + 1) = 42 + j by omega]
        have hkI : (41 : Int) < ((42 + j : Nat) : Int) := by omega
        have hkI2 : ((42 + j : Nat) : Int) < s.length := by omega
        have hkI3 : (0 : Int) ≤ ((42 + j : Nat) : Int) := by omega
        have he : ((42 + j : Nat) : Int) - 1 = ((41 + j : Nat) : Int) := by omega
        clear hP hx hg
        generalize hK : 42 + j = k at *
        go_wp2_with fail
        refine (start_any x _).mono ?_
        rintro e y ⟨rfl, rfl⟩
        cases hc : cont x with
        | false =>
          have HZ := Lib.hid (HP.out.trans (if_pos hc))
          clear HP
          simp only [Bool.not_false]
          go_wp2
          go_ret
          exact ⟨by rw [HZ.out]; rfl, rfl⟩
        | true =>
          have HZ := Lib.hid (HP.out.trans (if_neg (by rw [hc]; decide)))
          clear HP
          simp only [Bool.not_true]
          go_wp2
          go_roundw
          case rel => exact ⟨j, by omega, by go_num, by trivial, HZ⟩
          case measure => simp [intOf]; omega
set_option maxRecDepth 100000 in
theorem letter_any (c : UInt8) (w : World) : Calls Tryz.prog 35 #[.int .u8 c.toNat] w fun e w' => e = .returned (.bool ((decide (97 ≤ c.toNat) && decide (c.toNat ≤ 122)) || (decide (65 ≤ c.toNat) && decide (c.toNat ≤ 90)))) ∧ w' = w := by
  have h1 : decide ((97 : Int) ≤ c.toNat) = decide (97 ≤ c.toNat) := decide_eq_decide.2 (by omega)
  have h2 : decide ((c.toNat : Int) ≤ 122) = decide (c.toNat ≤ 122) := decide_eq_decide.2 (by omega)
  have h3 : decide ((65 : Int) ≤ c.toNat) = decide (65 ≤ c.toNat) := decide_eq_decide.2 (by omega)
  have h4 : decide ((c.toNat : Int) ≤ 90) = decide (c.toNat ≤ 90) := decide_eq_decide.2 (by omega)
  rw [← h1, ← h2, ← h3, ← h4]
  clear h1 h2 h3 h4
  by_cases h1 : (97 : Int) ≤ c.toNat
  · by_cases h2 : (c.toNat : Int) ≤ 122
    · go_enter Tryz.func35, Tryz.ntmps35
      go_wp2
      go_ret
      exact ⟨eb_ret (by simp [h1, h2]), rfl⟩
    · have h3 : (65 : Int) ≤ c.toNat := by omega
      go_enter Tryz.func35, Tryz.ntmps35
      go_wp2
      go_ret
      exact ⟨eb_ret (by simp [h1, h2, h3]; omega), rfl⟩
  · by_cases h3 : (65 : Int) ≤ c.toNat
    · go_enter Tryz.func35, Tryz.ntmps35
      go_wp2
      go_ret
      exact ⟨eb_ret (by simp [h1, h3]; omega), rfl⟩
    · go_enter Tryz.func35, Tryz.ntmps35
      go_wp2
      go_ret
      exact ⟨eb_ret (by simp [h1, h3]; omega), rfl⟩
set_option maxRecDepth 100000 in
theorem digit_any (c : UInt8) (w : World) : Calls Tryz.prog 36 #[.int .u8 c.toNat] w fun e w' => e = .returned (.bool (decide (48 ≤ c.toNat) && decide (c.toNat ≤ 57))) ∧ w' = w := by
  have h1 : decide ((48 : Int) ≤ c.toNat) = decide (48 ≤ c.toNat) := decide_eq_decide.2 (by omega)
  have h2 : decide ((c.toNat : Int) ≤ 57) = decide (c.toNat ≤ 57) := decide_eq_decide.2 (by omega)
  rw [← h1, ← h2]
  clear h1 h2
  by_cases h1 : (48 : Int) ≤ c.toNat
  · go_enter Tryz.func36, Tryz.ntmps36
    go_wp2
    go_ret
    exact ⟨eb_ret (by simp [h1]), rfl⟩
  · go_enter Tryz.func36, Tryz.ntmps36
    go_wp2
    go_ret
    exact ⟨eb_ret (by simp [h1]; omega), rfl⟩
theorem nam_take {s : B} {k : Nat} {x : UInt8} (hx : s[k]? = some x) (h : isNm x = false) : nam s = false := by
  unfold nam
  rw [Bool.and_eq_false_iff]
  exact Or.inl (by rw [List.all_eq_false]; exact ⟨x, List.mem_of_getElem? hx, by rw [h]; decide⟩)
theorem all_take {p : UInt8 → Bool} {s : B} {k : Nat} {x : UInt8} (h : ∀ j y, j < k → s[j]? = some y → p y = true) (hx : s[k]? = some x) (hp : p x = true) : ∀ j y, j < k + 1 → s[j]? = some y → p y = true := by
  intro j y hj hy
  by_cases q : j = k
  · subst q; rw [hx] at hy; cases hy; exact hp
  · exact h j y (by omega) hy
theorem all_end {p : UInt8 → Bool} {s : B} (h : ∀ j y, j < s.length → s[j]? = some y → p y = true) : s.all p = true := by
  rw [List.all_eq_true]
  intro x hx
  obtain ⟨i, hi, rfl⟩ := List.mem_iff_getElem.1 hx
  exact h i _ hi (List.getElem?_eq_getElem hi)
set_option maxRecDepth 100000 in
set_option maxHeartbeats 2000000 in
theorem name_any (s : B) (w : World) (hl : s.length ≤ maxLen) : Calls Tryz.prog 22 #[sV s] w fun e w' => e = .returned (.bool (nam s)) ∧ Kept w w' := by
  unfold maxLen at hl
  obtain ⟨cp, w1, hcv, hk1, hR1⟩ := to_bytes s w
  have hs : (ByteArray.mk s.toArray).size = s.length := List.size_toArray
  have K1 := Lib.hid hk1
  have HR := Lib.hid hR1
  clear hk1 hR1
  go_enter Tryz.func22, Tryz.ntmps22
  go_wp2_with fail
  clear hcv
  go_loopw [4, 8] (fun _ vi wr => ∃ i : Nat, i ≤ s.length ∧ vi = .int .i64 i ∧ wr = w1 ∧ Hid (∀ j y, j < i → s[j]? = some y → isNm y = true)) (fun _ vi _ => s.length - (intOf vi).toNat)
  case atStart => exact ⟨0, Nat.zero_le _, rfl, rfl, Lib.hid (fun j y h => absurd h (Nat.not_lt_zero _))⟩
  case round =>
    obtain ⟨i, hi, rfl, rfl, hA⟩ := hrel
    by_cases hlt : i < s.length
    · have hltI : (i : Int) < s.length := by omega
      obtain ⟨x, hx⟩ : ∃ x, s[i]? = some x := ⟨_, List.getElem?_eq_getElem hlt⟩
      obtain ⟨_, _, _, hv', hcp, cell⟩ := HR.out.at hx
      cases hv'
      rw [Nat.zero_add] at cell
      have HX := Lib.hid hx
      have HL := Lib.hid (letter_any x wr)
      have HD := Lib.hid (digit_any x wr)
      clear hx
      have HN := Lib.hid (show isNm x = ((((decide (97 ≤ x.toNat) && decide (x.toNat ≤ 122)) || (decide (65 ≤ x.toNat) && decide (x.toNat ≤ 90))) || (decide (48 ≤ x.toNat) && decide (x.toNat ≤ 57))) || decide (x.toNat = 45)) from rfl)
      generalize ((decide (97 ≤ x.toNat) && decide (x.toNat ≤ 122)) || (decide (65 ≤ x.toNat) && decide (x.toNat ≤ 90))) = b1 at *
      generalize (decide (48 ≤ x.toNat) && decide (x.toNat ≤ 57)) = b2 at *
      go_wp2_with fail
      refine HL.out.mono ?_
      rintro e y ⟨rfl, rfl⟩
      cases b1 with
      | true =>
        have HQ := Lib.hid (show isNm x = true by rw [HN.out]; rfl)
        clear HN HL HD
        go_wp2_with fail
        go_roundw
        case rel => exact ⟨i + 1, hlt, by go_num, by trivial, Lib.hid (all_take hA.out HX.out HQ.out)⟩
        case measure => simp [intOf]; omega
      | false =>
        go_wp2_with fail
        refine HD.out.mono ?_
        rintro e y ⟨rfl, rfl⟩
        cases b2 with
        | true =>
          have HQ := Lib.hid (show isNm x = true by rw [HN.out]; rfl)
          clear HN HL HD
          go_wp2_with fail
          go_roundw
          case rel => exact ⟨i + 1, hlt, by go_num, by trivial, Lib.hid (all_take hA.out HX.out HQ.out)⟩
          case measure => simp [intOf]; omega
        | false =>
          by_cases h45 : x.toNat = 45
          · have HQ := Lib.hid (show isNm x = true by rw [HN.out, decide_eq_true h45]; rfl)
            have hq : ((x.toNat : Int) != 45) = false := by simp [h45]
            clear HN HL HD h45
            go_wp2_with fail
            go_roundw
            case rel => exact ⟨i + 1, hlt, by go_num, by trivial, Lib.hid (all_take hA.out HX.out HQ.out)⟩
            case measure => simp [intOf]; omega
          · have HQ := Lib.hid (show nam s = false from nam_take HX.out (by rw [HN.out, decide_eq_false h45]; rfl))
            have hq : ((x.toNat : Int) != 45) = true := by simp; omega
            clear HN HL HD h45
            go_wp2_with fail
            go_ret
            exact ⟨by rw [HQ.out]; rfl, K1.out⟩
    · have hltI : ¬ (i : Int) < s.length := by omega
      obtain rfl : i = s.length := by omega
      have HA := Lib.hid (all_end hA.out)
      clear hA
      by_cases he : s = []
      · have HQ := Lib.hid (show nam s = false by rw [he]; rfl)
        subst he
        go_wp2
        go_ret
        exact ⟨by rw [HQ.out]; rfl, K1.out⟩
      · have hq : s.isEmpty = false := by cases s with
          | nil => exact absurd rfl he
          | cons a r => rfl
        have HQ := Lib.hid (show nam s = decide ((s.length : Int) ≤ 40) by unfold nam; rw [HA.out, hq, Bool.true_and, Bool.not_false, Bool.true_and]; exact decide_eq_decide.2 (by omega))
        go_wp2
        go_ret
        exact ⟨eb_ret HQ.out.symm, K1.out⟩
end Go.Proofs.YtdhhlcgmkkpldaaGreatDoor.Hd
