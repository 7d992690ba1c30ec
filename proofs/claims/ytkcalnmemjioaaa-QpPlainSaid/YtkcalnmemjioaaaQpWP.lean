/- Letters, digits and blanks between them stand as they are. -/
import Derived.Test.YtkcalnmemjioaaaQpAw
set_option linter.unusedSimpArgs false
set_option linter.unusedVariables false
namespace Go.Proofs.Ytkcalnmemjioaaa
open Go.ChangeShapes Go.WideShapes Go.ChangeAt Go.RowKit
open Qp
/-- a letter, a digit, or a blank that is not the last byte -/
def okc (n i : Nat) (c : UInt8) : Prop := (97 ≤ c.toNat ∧ c.toNat ≤ 122) ∨ (48 ≤ c.toNat ∧ c.toNat ≤ 57) ∨ (c.toNat = 32 ∧ i + 1 < n)
def okp (l : B) (n : Nat) : Prop := ∀ m c, m < n → l[m]? = some c → okc l.length m c
theorem okp_more {l : B} {i : Nat} {c : UInt8} (h : okp l i) (hb : l[i]? = some c) (hc : okc l.length i c) : okp l (i + 1) := fun m d hm hd => by
  by_cases e : m = i
  · subst e; rw [hb] at hd; cases hd; exact hc
  · exact h m d (by omega) hd
theorem okp_tail {c : UInt8} {l : B} (h : okp (c :: l) (l.length + 1)) : okp l l.length := fun m d hm hd => by
  have := h (m + 1) d (by omega) (by simpa using hd)
  unfold okc at this ⊢
  simp only [List.length_cons] at this
  omega
theorem enc_same : ∀ (l : B) (k : Nat), okp l l.length → k + l.length ≤ 75 → enc k l = l
  | [], k, _, _ => by rw [enc]
  | c :: r, k, h, hk => by
    have h0 := h 0 c (by simp) rfl
    unfold okc at h0
    simp only [List.length_cons] at h0 hk
    have hcod : cod c r = [c] := by
      unfold cod
      rw [if_pos]
      unfold pln
      split
      · rename_i hB
        unfold isB at hB
        simp only [decide_eq_true_eq] at hB
        match r, h, h0 with
        | [], _, h0 => simp only [List.length_nil] at h0; omega
        | d :: r, h, h0 =>
          have h1 := h 1 d (by simp) rfl
          unfold okc at h1
          unfold on
          simp only [decide_eq_true_eq]
          omega
      · rename_i hB
        unfold isB at hB
        simp only [decide_eq_true_eq] at hB
        unfold isS
        simp only [Bool.and_eq_true, decide_eq_true_eq]
        omega
    rw [enc, if_neg (by omega), hcod, if_neg (by simp; omega), List.length_singleton, enc_same r (k + 1) (okp_tail (by simpa using h)) (by omega)]
    rfl
set_option maxRecDepth 100000 in
set_option maxHeartbeats 4000000 in
theorem plain12_walk (l : B) (w : World) (hd : l.length ≤ maxLen) : Calls Try.prog 6 #[sV l] w fun e w' => e = .returned (.bool true) ∧ Kept w w' := by
  unfold maxLen at hd
  have hss : (ByteArray.mk l.toArray).size = l.length := List.size_toArray
  go_enter Try.func6, Try.ntmps6
  go_wp2_with fail
  refine (awake12_any w).mono ?_
  rintro e x1 ⟨rfl, k1⟩
  have K1 := Lib.hid k1
  clear k1
  by_cases hs : 75 < (l.length : Int)
  · go_wp2
    go_ret
    exact ⟨rfl, K1.out⟩
  have hl : l.length ≤ 75 := by omega
  go_wp2_with fail
  go_loopw [4] (fun vi wr => ∃ i : Nat, i ≤ l.length ∧ vi = .int .i64 i ∧ Hid (okp l i) ∧ Hid (Kept w wr)) (fun vi _ => l.length - (intOf vi).toNat)
  case atStart => exact ⟨0, Nat.zero_le _, rfl, Lib.hid (fun m c hm => by omega), K1⟩
  case round =>
    clear K1
    obtain ⟨i, hi, rfl, hA, hW⟩ := hrel
    by_cases hlt : i < l.length
    · have hltI : (i : Int) < l.length := by omega
      obtain ⟨b, hb⟩ : ∃ b, l[i]? = some b := ⟨_, List.getElem?_eq_getElem hlt⟩
      have hat := byte_at l i b hb
      by_cases h1 : 97 ≤ (b.toNat : Int)
      · by_cases h2 : (b.toNat : Int) ≤ 122
        · have HA2 := Lib.hid (okp_more hA.out hb (Or.inl (by omega)))
          clear hA hb
          go_wp2_with fail
          go_roundw
          case rel => exact ⟨i + 1, hlt, by go_num, HA2, hW⟩
          case measure => simp [intOf]; omega
        · have h3 : ¬ (b.toNat : Int) ≤ 57 := by omega
          have h4 : 48 ≤ (b.toNat : Int) := by omega
          have h5 : ¬ (b.toNat : Int) = 32 := by omega
          clear hA hb
          go_wp2_with fail
          go_ret
          exact ⟨rfl, hW.out⟩
      · by_cases h3 : 48 ≤ (b.toNat : Int)
        · have h5 : ¬ (b.toNat : Int) = 32 := by omega
          by_cases h4 : (b.toNat : Int) ≤ 57
          · have HA2 := Lib.hid (okp_more hA.out hb (Or.inr (Or.inl (by omega))))
            clear hA hb
            go_wp2_with fail
            go_roundw
            case rel => exact ⟨i + 1, hlt, by go_num, HA2, hW⟩
            case measure => simp [intOf]; omega
          · have d4 : decide ((b.toNat : Int) ≤ 57) = false := by simpa using h4
            have d5 : ((b.toNat : Int) == 32) = false := beq_eq_false_iff_ne.2 h5
            have d6 : ((b.toNat : Int) != 32) = true := by rw [bne, d5]; rfl
            clear hA hb
            go_wp2_with fail
            go_ret
            exact ⟨rfl, hW.out⟩
        · by_cases h5 : (b.toNat : Int) = 32
          · by_cases h6 : i + 1 = l.length
            · have b6 : ((i : Int) == (l.length : Int) - 1) = true := beq_iff_eq.2 (by omega)
              clear hA hb h6
              go_wp2_with fail
              go_ret
              exact ⟨rfl, hW.out⟩
            · have HA2 := Lib.hid (okp_more hA.out hb (Or.inr (Or.inr (by omega))))
              have b6 : ((i : Int) == (l.length : Int) - 1) = false := beq_eq_false_iff_ne.2 (by omega)
              clear hA hb
              go_wp2_with fail
              go_roundw
              case rel => exact ⟨i + 1, hlt, by go_num, HA2, hW⟩
              case measure => simp [intOf]; omega
          · clear hA hb
            go_wp2_with fail
            go_ret
            exact ⟨rfl, hW.out⟩
    · have hltI : ¬ (i : Int) < l.length := by omega
      obtain rfl : i = l.length := by omega
      have HE := Lib.hid (enc_same l 0 hA.out (by omega))
      obtain ⟨cc, y, hcv, ky, hy⟩ := to_bytes l wr
      have KY := Lib.hid (hW.out.trans ky)
      have HY := Lib.hid hy
      clear hA hW ky hy
      go_wp2_with fail
      refine (encode_any _ l y HY.out (by omega)).mono ?_
      rintro e x2 ⟨xv, rfl, hO, k2⟩
      rw [HE.out] at hO
      have K2 := Lib.hid (KY.out.trans k2)
      have hc2 := hO.rd.conv
      obtain ⟨a2, c2, hv2⟩ := own_slice hO
      subst hv2
      clear hO k2 KY HY hcv
      go_wp2
      go_ret
      exact ⟨rfl, K2.out⟩
end Go.Proofs.Ytkcalnmemjioaaa
