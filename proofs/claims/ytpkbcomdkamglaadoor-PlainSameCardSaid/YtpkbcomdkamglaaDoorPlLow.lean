/- Small letters of texts beyond one byte's signs: as many bytes of a name are that name just where they are in one byte's letters. -/
import Derived.Test.YtpkbcomdkamglaaDoorPlPure
import Derived.Shelf.Strings.CaseAny
import Derived.Lib.MapLaws
import Derived.Lib.TrimU
import Derived.Lib.TrimAscii
set_option linter.unusedSimpArgs false
set_option linter.unusedVariables false
namespace Go.Proofs.YtpkbcomdkamglaaDoor.Pl
open Go.Lib En
theorem enc_head (x : Int) (h0 : 0 ≤ x) (h1 : x < 256) : (x.toNat.toUInt8).toNat = x.toNat := by
  simp only [Nat.toUInt8, UInt8.toNat_ofNat']; omega
theorem enc_ascii (r : Int) (h : ∀ x ∈ encodeRune r, x.toNat < 128) : (encodeRune r).length ≤ 1 := by
  unfold encodeRune at *
  have hb := encodeRuneZ_byte r
  unfold encodeRuneZ at *
  split
  · simp
  · rename_i n0
    rw [if_neg n0] at h hb
    exfalso
    split at h
    · rename_i n1
      rw [if_pos n1] at hb
      have := hb (192 + r / 64) (by simp)
      have h2 := h ((192 + r / 64).toNat.toUInt8) (by simp)
      rw [enc_head _ this.1 this.2] at h2; omega
    · rename_i n1
      rw [if_neg n1] at hb
      split at h
      · rename_i n2
        rw [if_pos n2] at hb
        have := hb (224 + r / 4096) (by simp)
        have h2 := h ((224 + r / 4096).toNat.toUInt8) (by simp)
        rw [enc_head _ this.1 this.2] at h2; omega
      · rename_i n2
        rw [if_neg n2] at hb
        split at h
        · rename_i n3
          rw [if_pos n3] at hb
          have := hb (240 + r / 262144) (by simp)
          have h2 := h ((240 + r / 262144).toNat.toUInt8) (by simp)
          rw [enc_head _ this.1 this.2] at h2; omega
        · have h2 := h ((239 : Int).toNat.toUInt8) (by simp)
          revert h2; decide
theorem low_bad : toLowerU 65533 = 65533 := by decide +kernel
theorem enc_bad : encodeRune 65533 = [239, 191, 189] := by decide
theorem lowD_len : ∀ (n : Nat) (l : List UInt8), l.length ≤ n → (∀ x ∈ toLowerD l, x.toNat < 128) →
    (toLowerD l).length ≤ l.length ∧ ((∃ x ∈ l, 128 ≤ x.toNat) → (toLowerD l).length < l.length) := by
  intro n
  induction n with
  | zero =>
    intro l h _
    obtain rfl : l = [] := by simpa using h
    refine ⟨by simp [toLowerD, mapD, mapGoD], fun ⟨x, hx, _⟩ => by simp at hx⟩
  | succ n ih =>
    intro l h ha
    cases l with
    | nil => exact ⟨by simp [toLowerD, mapD, mapGoD], fun ⟨x, hx, _⟩ => by simp at hx⟩
    | cons b r =>
      have hne : b :: r ≠ [] := by simp
      have hst := mapD_step toLowerU (b :: r) hne
      have hw := decodeL_width (b :: r)
      have hle := decodeL_le (b :: r) hne
      change mapD toLowerU (b :: r) = _ at hst
      unfold toLowerD at ha ⊢
      rw [hst] at ha ⊢
      have hh : ∀ x ∈ (if 0 ≤ toLowerU ((decodeL (b :: r)).1 : Int) then encodeRune (toLowerU ((decodeL (b :: r)).1 : Int)) else []), x.toNat < 128 := fun x hx => ha x (List.mem_append_left _ hx)
      have h1 : (if 0 ≤ toLowerU ((decodeL (b :: r)).1 : Int) then encodeRune (toLowerU ((decodeL (b :: r)).1 : Int)) else []).length ≤ 1 := by
        split at hh
        · rw [if_pos (by assumption)]; exact enc_ascii _ hh
        · rw [if_neg (by assumption)]; simp
      have hd : ((b :: r).drop (decodeL (b :: r)).2).length = (b :: r).length - (decodeL (b :: r)).2 := by rw [List.length_drop]
      obtain ⟨i1, i2⟩ := ih ((b :: r).drop (decodeL (b :: r)).2) (by rw [hd]; simp at h ⊢; omega) (fun x hx => ha x (List.mem_append_right _ hx))
      unfold toLowerD at i1 i2
      rw [hd] at i1
      by_cases hb : b.toNat < 128
      · have he := decodeL_ascii b r hb
        rw [he] at i1 i2 h1 ⊢
        rw [List.length_append]
        generalize (if 0 ≤ toLowerU ((b.toNat, 1).1 : Int) then encodeRune (toLowerU ((b.toNat, 1).1 : Int)) else []) = hd1 at h1 ⊢
        refine ⟨by simp at i1 ⊢; omega, fun ⟨x, hx, h8⟩ => ?_⟩
        have := i2 ⟨x, by
          rcases List.mem_cons.1 hx with rfl | hx
          · omega
          · simpa using hx, h8⟩
        simp at this h1 ⊢; omega
      · have h2 : 2 ≤ (decodeL (b :: r)).2 := by
          apply Classical.byContradiction
          intro hn
          have hk : (decodeL (b :: r)).2 = 1 := by omega
          by_cases hv : (decodeL (b :: r)).1 = 65533
          · rw [hv, show ((65533 : Nat) : Int) = 65533 from rfl, low_bad, if_pos (by decide), enc_bad] at hh
            have := hh 239 (by simp); revert this; decide
          · have he := encode_decode (b :: r) hne (fun k => hv k.1)
            rw [hk] at he
            simp at he
            have hl : (encodeRune ((decodeL (b :: r)).1 : Int)).length = 1 := by rw [he]; rfl
            have hz : ∀ z : Int, (encodeRune z).length = 1 → 0 ≤ z ∧ z ≤ 127 := by
              intro z hz
              unfold encodeRune encodeRuneZ at hz
              split at hz
              · assumption
              · split at hz
                · simp at hz
                · split at hz
                  · simp at hz
                  · split at hz <;> simp at hz
            have hz2 := hz _ hl
            unfold encodeRune at he
            rw [encodeRuneZ_one hz2.1 hz2.2] at he
            simp at he
            have : b.toNat = (decodeL (b :: r)).1 := by
              have := congrArg UInt8.toNat he
              simp at this; omega
            omega
        rw [List.length_append]
        refine ⟨by omega, fun _ => by omega⟩
theorem lowerB_high {b : UInt8} (h : 128 ≤ b.toNat) : lowerB b = b := by
  unfold lowerB isUpperB
  have : ¬ b ≤ 90 := by rw [UInt8.le_iff_toNat_le]; show ¬ b.toNat ≤ 90; omega
  simp [this]
theorem low_name {n t : B} (hn : ∀ x ∈ n, x.toNat < 128) (hl : t.length = n.length) : toLowerD t = n ↔ lo t = n := by
  by_cases ha : ∀ b ∈ t, b.toNat < 128
  · rw [toLowerD_ascii t ha]; rfl
  · have hh : ∃ x ∈ t, 128 ≤ x.toNat := by
      apply Classical.byContradiction
      intro hq
      exact ha fun b hb => Classical.byContradiction fun h => hq ⟨b, hb, by omega⟩
    constructor
    · intro e
      have h1 := (lowD_len _ t (Nat.le_refl _) (fun x hx => by rw [e] at hx; exact hn x hx)).2 hh
      rw [e] at h1; omega
    · intro e
      obtain ⟨x, hx, h8⟩ := hh
      have := hn (lowerB x) (by rw [← e]; exact List.mem_map_of_mem hx)
      rw [lowerB_high h8] at this; omega
theorem low_word {t : B} (h : ∀ c ∈ t, wdB c = true) : toLowerD t = lo t := by
  refine toLowerD_ascii t (fun c hc => ?_)
  have := h c hc
  unfold wdB ltB dgB at this
  simp only [Bool.or_eq_true, decide_eq_true_eq] at this
  omega
end Go.Proofs.YtpkbcomdkamglaaDoor.Pl
