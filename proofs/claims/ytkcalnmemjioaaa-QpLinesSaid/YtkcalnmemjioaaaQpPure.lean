/- Plain mathematics of quoted text: what Encode and Decode answer; that what is coded is decoded; what lines are; that what is decoded of two is that of both. -/
import Derived.RowKit
import Derived.KernelRfl
set_option linter.unusedSimpArgs false
set_option linter.unusedVariables false
namespace Go.Proofs.Ytkcalnmemjioaaa.Qp
/-- a sign: from 33 to 126 -/
def isS (c : UInt8) : Bool := decide (33 ≤ c.toNat ∧ c.toNat ≤ 126)
/-- a blank or a tab -/
def isB (c : UInt8) : Bool := decide (c.toNat = 32 ∨ c.toNat = 9)
/-- does a line go on -/
def on (r : List UInt8) : Bool := match r with
  | [] => false
  | d :: _ => decide (¬ d.toNat = 10)
/-- plain: a byte, with what stands behind it -/
def pln (c : UInt8) (r : List UInt8) : Bool := if isB c = true then on r else (isS c && decide (¬ c.toNat = 61))
def digS : List UInt8 := [48, 49, 50, 51, 52, 53, 54, 55, 56, 57, 65, 66, 67, 68, 69, 70]
def hx (n : Nat) : UInt8 := digS.getD n 0
def quo (c : UInt8) : List UInt8 := [61, hx (c.toNat / 16), hx (c.toNat % 16)]
def cod (c : UInt8) (r : List UInt8) : List UInt8 := if pln c r = true then [c] else quo c
/-- bytes coded, of which the line has k already -/
def enc : Nat → List UInt8 → List UInt8
  | _, [] => []
  | k, c :: r => if c.toNat = 10 then 13 :: 10 :: enc 0 r
    else if 75 < k + (cod c r).length then 61 :: 13 :: 10 :: (cod c r ++ enc (cod c r).length r)
    else cod c r ++ enc (k + (cod c r).length) r
/-- a digit's number -/
def dg (c : UInt8) : Option Nat :=
  if 48 ≤ c.toNat ∧ c.toNat ≤ 57 then some (c.toNat - 48) else if 65 ≤ c.toNat ∧ c.toNat ≤ 70 then some (c.toNat - 55)
  else if 97 ≤ c.toNat ∧ c.toNat ≤ 102 then some (c.toNat - 87) else none
theorem dg_lt {c : UInt8} {n : Nat} (h : dg c = some n) : n < 16 := by
  unfold dg at h
  split at h
  · cases h; omega
  split at h
  · cases h; omega
  split at h
  · cases h; omega
  · cases h
/-- the byte that a text begins with, and how much of it that is (but a soft break) -/
def fst (s : List UInt8) : Option (UInt8 × Nat) := match s with
  | [] => none
  | c :: r => if c.toNat = 61 then
      (match r with
      | a :: b :: _ => (dg a).bind fun x => (dg b).map fun y => (UInt8.ofNat (16 * x + y), 3)
      | _ => none)
    else if c.toNat = 13 then
      (match r with
      | d :: _ => if d.toNat = 10 then some (10, 2) else none
      | [] => none)
    else if isB c = true ∨ isS c = true then some (c, 1) else none
/-- a soft break ahead -/
def soft (s : List UInt8) : Bool := decide (s.take 3 = [61, 13, 10])
theorem fst_pos {s : List UInt8} {x : UInt8} {k : Nat} (h : fst s = some (x, k)) : 1 ≤ k ∧ k ≤ 3 ∧ k ≤ s.length := by
  unfold fst at h
  split at h
  · cases h
  · split at h
    · split at h
      · rw [Option.bind_eq_some_iff] at h
        obtain ⟨a, _, h⟩ := h
        rw [Option.map_eq_some_iff] at h
        obtain ⟨b, _, h⟩ := h
        cases h; simp
      · cases h
    · split at h
      · split at h
        · split at h
          · cases h; simp
          · cases h
        · cases h
      · split at h
        · cases h; simp
        · cases h
/-- the bytes of lines; none: they are of another form -/
def dec (s : List UInt8) : Option (List UInt8) :=
  if h : s = [] then some []
  else if soft s = true then dec (s.drop 3)
  else match hf : fst s with
    | none => none
    | some (x, k) => (dec (s.drop k)).map (x :: ·)
termination_by s.length
decreasing_by
  · have := List.length_pos_iff.2 h
    simp; omega
  · have := fst_pos hf
    have := List.length_pos_iff.2 h
    simp; omega
theorem dec_nil : dec [] = some [] := by rw [dec]; simp
theorem dec_soft {s : List UInt8} (h : soft s = true) : dec s = dec (s.drop 3) := by
  rw [dec]
  have hs : s ≠ [] := by rintro rfl; exact absurd h (by decide)
  rw [dif_neg hs, if_pos h]
theorem dec_none {s : List UInt8} (hs : s ≠ []) (h : soft s = false) (hf : fst s = none) : dec s = none := by
  rw [dec, dif_neg hs, if_neg (by rw [h]; decide)]
  split
  · rfl
  · rename_i h'; rw [hf] at h'; cases h'
theorem dec_some {s : List UInt8} (h : soft s = false) {x : UInt8} {k : Nat} (hf : fst s = some (x, k)) : dec s = (dec (s.drop k)).map (x :: ·) := by
  have hs : s ≠ [] := by rintro rfl; cases hf
  rw [dec, dif_neg hs, if_neg (by rw [h]; decide)]
  split
  · rename_i h'; rw [hf] at h'; cases h'
  · rename_i h'; rw [hf] at h'; cases h'; rfl
theorem dec_soft3 (r : List UInt8) : dec (61 :: 13 :: 10 :: r) = dec r := dec_soft rfl
/-- one byte of the lines -/
theorem soft_ne {c : UInt8} {r : List UInt8} (h : ¬ c.toNat = 61) : soft (c :: r) = false := by
  unfold soft
  rw [decide_eq_false_iff_not]
  intro e
  rw [List.take_succ_cons] at e
  injection e with e1 _
  exact h (by rw [e1]; rfl)
theorem dec_lit {c : UInt8} {r : List UInt8} (h : ¬ c.toNat = 61) (h2 : isB c = true ∨ isS c = true) : dec (c :: r) = (dec r).map (c :: ·) := by
  have h13 : ¬ c.toNat = 13 := by
    intro e
    rcases h2 with q | q
    · unfold isB at q; simp only [decide_eq_true_eq] at q; omega
    · unfold isS at q; simp only [decide_eq_true_eq] at q; omega
  refine dec_some (k := 1) (soft_ne h) ?_
  unfold fst
  simp only
  rw [if_neg h, if_neg h13, if_pos h2]
theorem dec_end (r : List UInt8) : dec (13 :: 10 :: r) = (dec r).map (10 :: ·) := dec_some (k := 2) rfl rfl
theorem hx_dg : ∀ n, n < 16 → dg (hx n) = some n := by decide
theorem hx_ne : ∀ n, n < 16 → ¬ (hx n).toNat = 13 := by decide
theorem hx_sign : ∀ n, n < 16 → isS (hx n) = true := by decide
theorem u8_back (c : UInt8) : UInt8.ofNat (16 * (c.toNat / 16) + c.toNat % 16) = c := by
  rw [Nat.div_add_mod]; exact UInt8.ofNat_toNat
theorem u8_half (c : UInt8) : c.toNat / 16 < 16 := by have := c.toNat_lt; omega
theorem dec_quo (c : UInt8) (r : List UInt8) : dec (quo c ++ r) = (dec r).map (c :: ·) := by
  have h1 := u8_half c
  have h2 : c.toNat % 16 < 16 := Nat.mod_lt _ (by decide)
  refine (dec_some (x := c) (k := 3) ?_ ?_).trans ?_
  · unfold soft
    rw [decide_eq_false_iff_not]
    intro e
    simp only [quo, List.cons_append, List.nil_append, List.take_succ_cons, List.take_zero] at e
    injection e with _ e
    injection e with e _
    exact hx_ne _ h1 (by rw [e]; rfl)
  · unfold fst quo
    simp only [List.cons_append, List.nil_append]
    rw [if_pos (by rfl), hx_dg _ h1, hx_dg _ h2]
    simp only [Option.bind_some, Option.map_some, u8_back]
  · rfl
theorem dec_cod (c : UInt8) (b r : List UInt8) : dec (cod c b ++ r) = (dec r).map (c :: ·) := by
  unfold cod
  split
  · rename_i h
    unfold pln at h
    have hc : ¬ c.toNat = 61 ∧ (isB c = true ∨ isS c = true) := by
      split at h
      · rename_i q
        refine ⟨fun e => ?_, Or.inl q⟩
        unfold isB at q; simp only [decide_eq_true_eq] at q; omega
      · simp only [Bool.and_eq_true, decide_eq_true_eq] at h
        exact ⟨h.2, Or.inr h.1⟩
    exact dec_lit hc.1 hc.2
  · exact dec_quo c r
/-- what is coded is decoded -/
theorem dec_enc : ∀ (b : List UInt8) (k : Nat), dec (enc k b) = some b
  | [], k => dec_nil
  | c :: r, k => by
    unfold enc
    split
    · rename_i h
      rw [dec_end, dec_enc r 0, show c = 10 from UInt8.toNat_inj.1 (by rw [h]; rfl)]; rfl
    split
    · rw [dec_soft3, dec_cod, dec_enc r]; rfl
    · rw [dec_cod, dec_enc r]; rfl
/-- what stands first stands first of more, too -/
theorem fst_app {s : List UInt8} (r : List UInt8) {x : UInt8} {k : Nat} (h : fst s = some (x, k)) : fst (s ++ r) = some (x, k) := by
  unfold fst at h ⊢
  match s, h with
  | c :: s, h =>
    simp only [List.cons_append] at h ⊢
    by_cases h1 : c.toNat = 61
    · rw [if_pos h1] at h ⊢
      match s, h with
      | a :: b :: s, h => exact h
    · rw [if_neg h1] at h ⊢
      by_cases h2 : c.toNat = 13
      · rw [if_pos h2] at h ⊢
        match s, h with
        | d :: s, h => exact h
      · rw [if_neg h2] at h ⊢
        exact h
theorem soft_app {s : List UInt8} (r : List UInt8) (h : soft s = true) : soft (s ++ r) = true ∧ (s ++ r).drop 3 = s.drop 3 ++ r := by
  unfold soft at h ⊢
  simp only [decide_eq_true_eq] at h ⊢
  have hl : 3 ≤ s.length := by
    have := congrArg List.length h
    simp at this; omega
  rw [List.take_append_of_le_length hl, List.drop_append_of_le_length hl]
  exact ⟨h, rfl⟩
theorem soft_app_no {s : List UInt8} (r : List UInt8) (h : soft s = false) {x : UInt8} {k : Nat} (hf : fst s = some (x, k)) : soft (s ++ r) = false := by
  unfold soft at h ⊢
  simp only [decide_eq_false_iff_not] at h ⊢
  intro e
  match s, h, hf with
  | [], h, hf => cases hf
  | [a], h, hf =>
    simp only [List.cons_append, List.take_succ_cons] at e
    injection e with e1 _
    rw [e1] at hf; cases hf
  | [a, b], h, hf =>
    simp only [List.cons_append, List.take_succ_cons] at e
    injection e with e1 e2
    injection e2 with e2 _
    rw [e1, e2] at hf; cases hf
  | a :: b :: c :: s, h, hf =>
    exact h (by simpa using e)
/-- what is decoded of two is what is decoded of both -/
theorem dec_app (r : List UInt8) : ∀ (n : Nat) (s x : List UInt8), s.length ≤ n → dec s = some x → dec (s ++ r) = (dec r).map (x ++ ·) := by
  intro n
  induction n with
  | zero =>
    intro s x hn h
    obtain rfl : s = [] := List.length_eq_zero_iff.1 (by omega)
    rw [dec_nil] at h
    cases h
    rw [List.nil_append]
    cases dec r <;> rfl
  | succ n ih =>
    intro s x hn h
    by_cases hs : s = []
    · subst hs
      rw [dec_nil] at h
      cases h
      rw [List.nil_append]
      cases dec r <;> rfl
    have hlen := List.length_pos_iff.2 hs
    cases h1 : soft s with
    | true =>
      obtain ⟨h2, h3⟩ := soft_app r h1
      rw [dec_soft h1] at h
      rw [dec_soft h2, h3]
      exact ih _ _ (by simp; omega) h
    | false =>
      cases hf : fst s with
      | none => rw [dec_none hs h1 hf] at h; cases h
      | some p =>
        obtain ⟨y, k⟩ := p
        have hk := fst_pos hf
        rw [dec_some h1 hf, Option.map_eq_some_iff] at h
        obtain ⟨z, hz, rfl⟩ := h
        rw [dec_some (soft_app_no r h1 hf) (fst_app r hf), List.drop_append_of_le_length hk.2.2, ih _ z (by simp; omega) hz]
        cases dec r <;> rfl
theorem dec_joins {s r x : List UInt8} (h : dec s = some x) : dec (s ++ r) = (dec r).map (x ++ ·) := dec_app r _ s x (Nat.le_refl _) h
theorem dec_tail {s x : List UInt8} (h : dec s = some x) : dec (s ++ [61, 13, 10]) = some x := by
  rw [dec_joins h, dec_soft3, dec_nil]
  simp
/-- how long -/
theorem cod_len (c : UInt8) (r : List UInt8) : 1 ≤ (cod c r).length ∧ (cod c r).length ≤ 3 := by
  unfold cod; split <;> simp [quo]
theorem enc_len : ∀ (b : List UInt8) (k : Nat), (enc k b).length ≤ 6 * b.length
  | [], k => by simp [enc]
  | c :: r, k => by
    have h := cod_len c r
    unfold enc
    split
    · have := enc_len r 0
      simp; omega
    split
    · have := enc_len r (cod c r).length
      simp; omega
    · have := enc_len r (k + (cod c r).length)
      simp; omega
theorem dec_len : ∀ (n : Nat) (s x : List UInt8), s.length ≤ n → dec s = some x → x.length ≤ s.length := by
  intro n
  induction n with
  | zero =>
    intro s x hn h
    obtain rfl : s = [] := List.length_eq_zero_iff.1 (by omega)
    rw [dec_nil] at h
    cases h
    exact Nat.le_refl _
  | succ n ih =>
    intro s x hn h
    by_cases hs : s = []
    · subst hs
      rw [dec_nil] at h
      cases h
      exact Nat.le_refl _
    have hlen := List.length_pos_iff.2 hs
    cases h1 : soft s with
    | true =>
      rw [dec_soft h1] at h
      have := ih _ _ (by simp; omega) h
      simp at this; omega
    | false =>
      cases hf : fst s with
      | none => rw [dec_none hs h1 hf] at h; cases h
      | some p =>
        obtain ⟨y, k⟩ := p
        have hk := fst_pos hf
        rw [dec_some h1 hf, Option.map_eq_some_iff] at h
        obtain ⟨z, hz, rfl⟩ := h
        have := ih _ z (by simp; omega) hz
        simp at this ⊢; omega
theorem dec_le {s x : List UInt8} (h : dec s = some x) : x.length ≤ s.length := dec_len _ s x (Nat.le_refl _) h
/-- the chapter's example -/
theorem ex_enc : enc 0 [195, 169, 10] = [61, 67, 51, 61, 65, 57, 13, 10] := by decide +kernel
end Go.Proofs.Ytkcalnmemjioaaa.Qp
