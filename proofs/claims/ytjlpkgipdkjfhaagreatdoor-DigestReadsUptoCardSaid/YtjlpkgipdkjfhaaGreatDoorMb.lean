import Derived.RowKit
import Derived.KernelRfl
import Derived.Test.YtjlpkgipdkjfhaaGreatDoorMa
import Derived.Lib.Split
import Derived.Lib.ItoaNum
import Derived.Lib.Strings
set_option linter.unusedVariables false
set_option linter.unusedSimpArgs false
namespace Go.Proofs.YtjlpkgipdkjfhaaGreatDoor.Bk.Qp
def isS (c : UInt8) : Bool := decide (33 ≤ c.toNat ∧ c.toNat ≤ 126)
def isB (c : UInt8) : Bool := decide (c.toNat = 32 ∨ c.toNat = 9)
def on (r : List UInt8) : Bool := match r with
  | [] => false
  | d :: _ => decide (¬ d.toNat = 10)
def pln (c : UInt8) (r : List UInt8) : Bool := if isB c = true then on r else (isS c && decide (¬ c.toNat = 61))
def digS : List UInt8 := [48, 49, 50, 51, 52, 53, 54, 55, 56, 57, 65, 66, 67, 68, 69, 70]
def hx (n : Nat) : UInt8 := digS.getD n 0
def quo (c : UInt8) : List UInt8 := [61, hx (c.toNat / 16), hx (c.toNat % 16)]
def cod (c : UInt8) (r : List UInt8) : List UInt8 := if pln c r = true then [c] else quo c
def enc : Nat → List UInt8 → List UInt8
  | _, [] => []
  | k, c :: r => if c.toNat = 10 then 13 :: 10 :: enc 0 r
    else if 75 < k + (cod c r).length then 61 :: 13 :: 10 :: (cod c r ++ enc (cod c r).length r)
    else cod c r ++ enc (k + (cod c r).length) r
def dg (c : UInt8) : Option Nat :=
  if 48 ≤ c.toNat ∧ c.toNat ≤ 57 then some (c.toNat - 48) else if 65 ≤ c.toNat ∧ c.toNat ≤ 70 then some (c.toNat - 55)
  else if 97 ≤ c.toNat ∧ c.toNat ≤ 102 then some (c.toNat - 87) else none
theorem dg_lt {c : UInt8} {n : Nat} (h : dg c = some n) : n < 16 := by
  unfold dg at h
  split at h
  · cases h; omega
  split at h
  · cases h; omega
  split at h
  · cases h; omega
  · cases h
def fst (s : List UInt8) : Option (UInt8 × Nat) := match s with
  | [] => none
  | c :: r => if c.toNat = 61 then
      (match r with
      | a :: b :: _ => (dg a).bind fun x => (dg b).map fun y => (UInt8.ofNat (16 * x + y), 3)
      | _ => none)
    else if c.toNat = 13 then
      (match r with
      | d :: _ => if d.toNat = 10 then some (10, 2) else none
      | [] => none)
    else if isB c = true ∨ isS c = true then some (c, 1) else none
def soft (s : List UInt8) : Bool := decide (s.take 3 = [61, 13, 10])
theorem fst_pos {s : List UInt8} {x : UInt8} {k : Nat} (h : fst s = some (x, k)) : 1 ≤ k ∧ k ≤ 3 ∧ k ≤ s.length := by
  unfold fst at h
  split at h
  · cases h
  · split at h
    · split at h
      · rw [Option.bind_eq_some_iff] at h
        obtain ⟨a, _, h⟩ := h
        rw [Option.map_eq_some_iff] at h
        obtain ⟨b, _, h⟩ := h
        cases h; simp
      · cases h
    · split at h
      · split at h
        · split at h
          · cases h; simp
          · cases h
        · cases h
      · split at h
        · cases h; simp
        · cases h
def dec (s : List UInt8) : Option (List UInt8) :=
  if h : s = [] then some []
  else if soft s = true then dec (s.drop 3)
  else match hf : fst s with
    | none => none
    | some (x, k) => (dec (s.drop k)).map (x :: ·)
termination_by s.length
decreasing_by
  · have := List.length_pos_iff.2 h
    simp; omega
  · have := fst_pos hf
    have := List.length_pos_iff.2 h
    simp; omega
theorem dec_nil : dec [] = some [] := by rw [dec]; simp
theorem dec_soft {s : List UInt8} (h : soft s = true) : dec s = dec (s.drop 3) := by
  rw [dec]
  have hs : s ≠ [] := by rintro rfl; exact absurd h (by decide)
  rw [dif_neg hs, if_pos h]
theorem dec_none {s : List UInt8} (hs : s ≠ []) (h : soft s = false) (hf : fst s = none) : dec s = none := by
  rw [dec, dif_neg hs, if_neg (by rw [h]; decide)]
  split
  · rfl
  · rename_i h'; rw [hf] at h'; cases h'
theorem dec_some {s : List UInt8} (h : soft s = false) {x : UInt8} {k : Nat} (hf : fst s = some (x, k)) : dec s = (dec (s.drop k)).map (x :: ·) := by
  have hs : s ≠ [] := by rintro rfl; cases hf
  rw [dec, dif_neg hs, if_neg (by rw [h]; decide)]
  split
  · rename_i h'; rw [hf] at h'; cases h'
  · rename_i h'; rw [hf] at h'; cases h'; rfl
theorem dec_soft3 (r : List UInt8) : dec (61 :: 13 :: 10 :: r) = dec r := dec_soft rfl
theorem soft_ne {c : UInt8} {r : List UInt8} (h : ¬ c.toNat = 61) : soft (c :: r) = false := by
  unfold soft
  rw [decide_eq_false_iff_not]
  intro e
  rw [List.take_succ_cons] at e
  injection e with e1 _
  exact h (by rw [e1]; rfl)
theorem dec_lit {c : UInt8} {r : List UInt8} (h : ¬ c.toNat = 61) (h2 : isB c = true ∨ isS c = true) : dec (c :: r) = (dec r).map (c :: ·) := by
  have h13 : ¬ c.toNat = 13 := by
    intro e
    rcases h2 with q | q
    · unfold isB at q; simp only [decide_eq_true_eq] at q; omega
    · unfold isS at q; simp only [decide_eq_true_eq] at q; omega
  refine dec_some (k := 1) (soft_ne h) ?_
  unfold fst
  simp only
  rw [if_neg h, if_neg h13, if_pos h2]
theorem dec_end (r : List UInt8) : dec (13 :: 10 :: r) = (dec r).map (10 :: ·) := dec_some (k := 2) rfl rfl
theorem hx_dg : ∀ n, n < 16 → dg (hx n) = some n := by decide
theorem hx_ne : ∀ n, n < 16 → ¬ (hx n).toNat = 13 := by decide
theorem u8_back (c : UInt8) : UInt8.ofNat (16 * (c.toNat / 16) + c.toNat % 16) = c := by
  rw [Nat.div_add_mod]; exact UInt8.ofNat_toNat
theorem u8_half (c : UInt8) : c.toNat / 16 < 16 := by have := c.toNat_lt; omega
theorem dec_quo (c : UInt8) (r : List UInt8) : dec (quo c ++ r) = (dec r).map (c :: ·) := by
  have h1 := u8_half c
  have h2 : c.toNat % 16 < 16 := Nat.mod_lt _ (by decide)
  refine (dec_some (x := c) (k := 3) ?_ ?_).trans ?_
  · unfold soft
    rw [decide_eq_false_iff_not]
    intro e
    simp only [quo, List.cons_append, List.nil_append, List.take_succ_cons, List.take_zero] at e
    injection e with _ e
    injection e with e _
    exact hx_ne _ h1 (by rw [e]; rfl)
  · unfold fst quo
    simp only [List.cons_append, List.nil_append]
    rw [if_pos (by rfl), hx_dg _ h1, hx_dg _ h2]
    simp only [Option.bind_some, Option.map_some, u8_back]
  · rfl
theorem dec_cod (c : UInt8) (b r : List UInt8) : dec (cod c b ++ r) = (dec r).map (c :: ·) := by
  unfold cod
  split
  · rename_i h
    unfold pln at h
    have hc : ¬ c.toNat = 61 ∧ (isB c = true ∨ isS c = true) := by
      split at h
      · rename_i q
        refine ⟨fun e => ?_, Or.inl q⟩
        unfold isB at q; simp only [decide_eq_true_eq] at q; omega
      · simp only [Bool.and_eq_true, decide_eq_true_eq] at h
        exact ⟨h.2, Or.inr h.1⟩
    exact dec_lit hc.1 hc.2
  · exact dec_quo c r
theorem dec_enc : ∀ (b : List UInt8) (k : Nat), dec (enc k b) = some b
  | [], k => dec_nil
  | c :: r, k => by
    unfold enc
    split
    · rename_i h
      rw [dec_end, dec_enc r 0, show c = 10 from UInt8.toNat_inj.1 (by rw [h]; rfl)]; rfl
    split
    · rw [dec_soft3, dec_cod, dec_enc r]; rfl
    · rw [dec_cod, dec_enc r]; rfl
theorem cod_len (c : UInt8) (r : List UInt8) : 1 ≤ (cod c r).length ∧ (cod c r).length ≤ 3 := by
  unfold cod; split <;> simp [quo]
theorem enc_len : ∀ (b : List UInt8) (k : Nat), (enc k b).length ≤ 6 * b.length
  | [], k => by simp [enc]
  | c :: r, k => by
    have h := cod_len c r
    unfold enc
    split
    · have := enc_len r 0
      simp; omega
    split
    · have := enc_len r (cod c r).length
      simp; omega
    · have := enc_len r (k + (cod c r).length)
      simp; omega
theorem dec_len : ∀ (n : Nat) (s x : List UInt8), s.length ≤ n → dec s = some x → x.length ≤ s.length := by
  intro n
  induction n with
  | zero =>
    intro s x hn h
    obtain rfl : s = [] := List.length_eq_zero_iff.1 (by omega)
    rw [dec_nil] at h
    cases h
    exact Nat.le_refl _
  | succ n ih =>
    intro s x hn h
    by_cases hs : s = []
    · subst hs
      rw [dec_nil] at h
      cases h
      exact Nat.le_refl _
    have hlen := List.length_pos_iff.2 hs
    cases h1 : soft s with
    | true =>
      rw [dec_soft h1] at h
      have := ih _ _ (by simp; omega) h
      simp at this; omega
    | false =>
      cases hf : fst s with
      | none => rw [dec_none hs h1 hf] at h; cases h
      | some p =>
        obtain ⟨y, k⟩ := p
        have hk := fst_pos hf
        rw [dec_some h1 hf, Option.map_eq_some_iff] at h
        obtain ⟨z, hz, rfl⟩ := h
        have := ih _ z (by simp; omega) hz
        simp at this ⊢; omega
theorem dec_le {s x : List UInt8} (h : dec s = some x) : x.length ≤ s.length := dec_len _ s x (Nat.le_refl _) h
end Go.Proofs.YtjlpkgipdkjfhaaGreatDoor.Bk.Qp
namespace Go.Proofs.YtjlpkgipdkjfhaaGreatDoor.Bk.Pt
open Bx (B)
open Hd (Hdr lnA lns lnH okA okH cutA)
def isD (c : UInt8) : Bool := decide (48 ≤ c.toNat) && decide (c.toNat ≤ 57)
def digs : Nat → B → List Nat
  | _, [] => []
  | no, c :: r => if isD c = true then (no * 10 + (c.toNat - 48)) :: (if no * 10 + (c.toNat - 48) = 0 then [] else digs (no * 10 + (c.toNat - 48)) r) else []
def nums : B → List Nat
  | [] => []
  | c :: r => (if c = 61 ∧ r.head? = some 95 then digs 0 r.tail else []) ++ nums r
def bnd (n : Nat) : B := 61 :: 95 :: Lib.decDigits n
def vl (no : Nat) (l : B) : Nat := l.foldl (fun a c => a * 10 + (c.toNat - 48)) no
theorem dig_nat {d : Nat} (h : d < 10) : (UInt8.ofNat (48 + d)).toNat = 48 + d := by
  rw [UInt8.toNat_ofNat']; omega
theorem dig_of {c : UInt8} (h : isD c = true) : UInt8.ofNat (48 + (c.toNat - 48)) = c ∧ c.toNat - 48 < 10 ∧ 48 ≤ c.toNat := by
  unfold isD at h
  simp only [Bool.and_eq_true, decide_eq_true_eq] at h
  refine ⟨?_, by omega, h.1⟩
  rw [show 48 + (c.toNat - 48) = c.toNat by omega]
  exact UInt8.ofNat_toNat
theorem dig_is {d : Nat} (h : d < 10) : isD (UInt8.ofNat (48 + d)) = true := by
  unfold isD; rw [dig_nat h]; simp; omega
theorem dec_step {no d : Nat} (h : 0 < no) (hd : d < 10) : Lib.decDigits (no * 10 + d) = Lib.decDigits no ++ [UInt8.ofNat (48 + d)] := by
  rw [Lib.decDigits, dif_neg (by omega), show (no * 10 + d) / 10 = no by omega, show (no * 10 + d) % 10 = d by omega]
theorem dec_val : ∀ (k n : Nat), n ≤ k → vl 0 (Lib.decDigits n) = n ∧ (∀ c ∈ Lib.decDigits n, isD c = true) ∧ Lib.decDigits n ≠ []
  | 0, n, h => by
    obtain rfl : n = 0 := by omega
    rw [Lib.decDigits_one (by omega)]; decide
  | k + 1, n, h => by
    by_cases h10 : n < 10
    · rw [Lib.decDigits_one h10]
      refine ⟨by unfold vl; simp only [List.foldl_cons, List.foldl_nil]; rw [dig_nat h10]; omega, fun c hc => ?_, by simp⟩
      simp only [List.mem_singleton] at hc; subst hc; exact dig_is h10
    · have ih := dec_val k (n / 10) (by omega)
      rw [Lib.decDigits, dif_neg h10]
      refine ⟨?_, fun c hc => ?_, by simp⟩
      · have h1 := ih.1
        unfold vl at h1 ⊢
        rw [List.foldl_append, h1]
        simp only [List.foldl_cons, List.foldl_nil]
        rw [dig_nat (Nat.mod_lt _ (by omega))]; omega
      · rcases List.mem_append.1 hc with hc | hc
        · exact ih.2.1 c hc
        · simp only [List.mem_singleton] at hc; subst hc; exact dig_is (Nat.mod_lt _ (by omega))
theorem dec_inj {a b : Nat} (h : Lib.decDigits a = Lib.decDigits b) : a = b := by
  have h1 := (dec_val a a (Nat.le_refl _)).1
  have h2 := (dec_val b b (Nat.le_refl _)).1
  rw [← h1, ← h2, h]
theorem dec_ne (n : Nat) : Lib.decDigits n ≠ [] := (dec_val n n (Nat.le_refl _)).2.2
theorem dec_is (n : Nat) : ∀ c ∈ Lib.decDigits n, isD c = true := (dec_val n n (Nat.le_refl _)).2.1
theorem dec_big : ∀ (k n : Nat), n ≤ k → 10 ≤ n → ∃ d ds, 0 < d ∧ d < 10 ∧ ds ≠ [] ∧ Lib.decDigits n = Lib.decDigits d ++ ds
  | 0, n, h, h10 => by omega
  | k + 1, n, h, h10 => by
    by_cases h2 : n / 10 < 10
    · refine ⟨n / 10, [UInt8.ofNat (48 + n % 10)], by omega, h2, by simp, ?_⟩
      rw [Lib.decDigits, dif_neg (by omega)]
    · obtain ⟨d, ds, h3, h4, h5, h6⟩ := dec_big k (n / 10) (by omega) (by omega)
      refine ⟨d, ds ++ [UInt8.ofNat (48 + n % 10)], h3, h4, by simp, ?_⟩
      rw [Lib.decDigits, dif_neg (by omega), h6, List.append_assoc]
theorem digs_pos {n : Nat} : ∀ (r : B) (no : Nat), 0 < no → (n ∈ digs no r ↔ ∃ ds, ds ≠ [] ∧ Lib.decDigits n = Lib.decDigits no ++ ds ∧ ds <+: r)
  | [], no, h => by
    refine ⟨fun h => by simp [digs] at h, fun ⟨ds, h1, _, h3⟩ => ?_⟩
    exact absurd (List.prefix_nil.1 h3) h1
  | c :: r, no, h => by
    constructor
    · intro hm
      unfold digs at hm
      split at hm
      · rename_i hc
        obtain ⟨e1, e2, e3⟩ := dig_of hc
        have hs := dec_step h e2
        rw [e1] at hs
        rcases List.mem_cons.1 hm with rfl | hm
        · exact ⟨[c], by simp, hs, by simp⟩
        · rw [if_neg (by omega)] at hm
          obtain ⟨ds, h1, h2, h3⟩ := (digs_pos r _ (by omega)).1 hm
          refine ⟨c :: ds, by simp, by rw [h2, hs]; simp, ?_⟩
          obtain ⟨t, rfl⟩ := h3
          exact ⟨t, rfl⟩
      · cases hm
    · rintro ⟨ds, h1, h2, t, h3⟩
      cases ds with
      | nil => exact absurd rfl h1
      | cons d ds =>
        rw [List.cons_append] at h3
        injection h3 with h3 h4
        subst h3
        have hc : isD d = true := dec_is n d (by rw [h2]; simp)
        obtain ⟨e1, e2, e3⟩ := dig_of hc
        have hs := dec_step h e2
        rw [e1] at hs
        unfold digs
        rw [if_pos hc, if_neg (by omega)]
        cases ds with
        | nil => rw [dec_inj (h2.trans hs.symm)]; simp
        | cons x ds =>
          refine List.mem_cons_of_mem _ ((digs_pos r _ (by omega)).2 ⟨x :: ds, by simp, by rw [h2, hs]; simp, ⟨t, h4⟩⟩)
theorem digs_zero {n : Nat} (r : B) : n ∈ digs 0 r ↔ (Lib.decDigits n).isPrefixOf r = true := by
  rw [List.isPrefixOf_iff_prefix]
  cases r with
  | nil => simp [digs, dec_ne]
  | cons c r =>
    constructor
    · intro hm
      unfold digs at hm
      split at hm
      · rename_i hc
        obtain ⟨e1, e2, e3⟩ := dig_of hc
        simp only [Nat.zero_mul, Nat.zero_add] at hm
        have hd : Lib.decDigits (c.toNat - 48) = [c] := by rw [Lib.decDigits_one e2, e1]
        rcases List.mem_cons.1 hm with rfl | hm
        · rw [hd]; simp
        · split at hm
          · cases hm
          · obtain ⟨ds, h1, h2, h3⟩ := (digs_pos r _ (by omega)).1 hm
            rw [h2, hd]
            obtain ⟨t, rfl⟩ := h3
            exact ⟨t, rfl⟩
      · cases hm
    · rintro ⟨t, ht⟩
      have hcd : c ∈ Lib.decDigits n := by
        cases hn : Lib.decDigits n with
        | nil => exact absurd hn (dec_ne n)
        | cons x y => rw [hn] at ht; injection ht with h1 _; subst h1; simp
      have hc := dec_is n c hcd
      obtain ⟨e1, e2, e3⟩ := dig_of hc
      have hd : Lib.decDigits (c.toNat - 48) = [c] := by rw [Lib.decDigits_one e2, e1]
      unfold digs
      rw [if_pos hc]
      simp only [Nat.zero_mul, Nat.zero_add]
      by_cases h10 : n < 10
      · have : Lib.decDigits n = Lib.decDigits (c.toNat - 48) := by
          rw [hd]
          rw [Lib.decDigits_one h10] at ht ⊢
          injection ht with h1 _
          rw [h1]
        rw [dec_inj this]; simp
      · obtain ⟨d, ds, h1, h2, h3, h4⟩ := dec_big n n (Nat.le_refl _) (by omega)
        rw [h4, Lib.decDigits_one h2] at ht
        injection ht with h5 h6
        have : d = c.toNat - 48 := by rw [← h5, dig_nat h2]; omega
        subst this
        rw [if_neg (by omega)]
        exact List.mem_cons_of_mem _ ((digs_pos r _ h1).2 ⟨ds, h3, h4, ⟨t, h6⟩⟩)
theorem digs_ge : ∀ (r : B) (no n : Nat), n ∈ digs no r → no ≤ n
  | [], no, n, h => by cases h
  | c :: r, no, n, h => by
    unfold digs at h
    split at h
    · rcases List.mem_cons.1 h with rfl | h
      · omega
      · split at h
        · cases h
        · have := digs_ge r _ n h; omega
    · cases h
theorem index_no {c : UInt8} {r sub : B} : Lib.index (c :: r) sub = -1 ↔ sub.isPrefixOf (c :: r) = false ∧ Lib.index r sub = -1 := by
  have := Lib.index_ge r sub
  cases h : sub.isPrefixOf (c :: r) with
  | true =>
    have e : Lib.index (c :: r) sub = 0 := by rw [Lib.index, if_pos h]
    simp [e]
  | false =>
    rw [Hd.idx_miss h]
    by_cases h2 : Lib.index r sub = -1
    · rw [if_pos h2]; simp [h2]
    · rw [if_neg h2]
      exact ⟨fun h => by omega, fun h => absurd h.2 h2⟩
theorem bnd_pre (n : Nat) (c : UInt8) (r : B) : (bnd n).isPrefixOf (c :: r) = true ↔ (c = 61 ∧ r.head? = some 95) ∧ (Lib.decDigits n).isPrefixOf r.tail = true := by
  unfold bnd
  cases r with
  | nil => simp [List.isPrefixOf]
  | cons d r =>
    simp only [List.isPrefixOf, Bool.and_eq_true, beq_iff_eq, List.head?_cons, Option.some.injEq, List.tail_cons]
    constructor
    · rintro ⟨h1, h2, h3⟩; exact ⟨⟨h1.symm, h2.symm⟩, h3⟩
    · rintro ⟨⟨h1, h2⟩, h3⟩; exact ⟨h1.symm, h2.symm, h3⟩
theorem mem_nums {n : Nat} : ∀ b : B, n ∈ nums b ↔ ¬ Lib.index b (bnd n) = -1
  | [] => by simp [nums, Lib.index, bnd]
  | c :: r => by
    rw [index_no, nums, List.mem_append, mem_nums r]
    have hp := bnd_pre n c r
    by_cases h : c = 61 ∧ r.head? = some 95
    · rw [if_pos h, digs_zero]
      cases hx : (bnd n).isPrefixOf (c :: r) with
      | true => simp [(hp.1 hx).2]
      | false =>
        have : ¬ (Lib.decDigits n).isPrefixOf r.tail = true := fun e => by rw [hp.2 ⟨h, e⟩] at hx; cases hx
        simp [this]
    · rw [if_neg h]
      cases hx : (bnd n).isPrefixOf (c :: r) with
      | true => exact absurd (hp.1 hx).1 h
      | false => simp
theorem nums_len : ∀ (r : B) (no : Nat), (digs no r).length + (nums r).length ≤ r.length ∧ (nums r).length ≤ r.length
  | [], no => by simp [digs, nums]
  | c :: r, no => by
    have ih := nums_len r
    have hN : (nums (c :: r)).length ≤ r.length + 1 := by
      rw [nums, List.length_append]
      split
      · cases r with
        | nil => simp [digs, nums]
        | cons d r =>
          rename_i h
          simp only [List.head?_cons, Option.some.injEq] at h
          rw [List.tail_cons]
          have h2 : nums (d :: r) = nums r := by
            rw [nums, if_neg]; · rfl
            · rw [h.2]; rintro ⟨h, _⟩; cases h
          rw [h2]
          have := (nums_len r 0).1
          simp only [List.length_cons]; omega
      · have := (ih 0).2; simp; omega
    refine ⟨?_, by simp only [List.length_cons]; exact hN⟩
    unfold digs
    split
    · rename_i hc
      have h2 : nums (c :: r) = nums r := by
        rw [nums, if_neg]; · rfl
        · rintro ⟨rfl, _⟩; revert hc; decide
      rw [h2]
      have h3 := (ih (no * 10 + (c.toNat - 48))).1
      have h4 := (ih 0).2
      split <;> simp only [List.length_cons, List.length_nil] <;> omega
    · simp only [List.length_nil, List.length_cons]; omega
theorem nums_cut : ∀ (b : B) (i : Nat), Lib.index b [61, 95] = i → nums b = digs 0 (b.drop (i + 2)) ++ nums (b.drop (i + 2))
  | [], i, h => by simp [Lib.index] at h
  | c :: r, i, h => by
    by_cases hp : List.isPrefixOf [61, 95] (c :: r) = true
    · unfold Lib.index at h
      rw [if_pos hp] at h
      obtain rfl : i = 0 := by omega
      cases r with
      | nil => simp [List.isPrefixOf] at hp
      | cons d r =>
        simp [List.isPrefixOf] at hp
        obtain ⟨rfl, rfl⟩ := hp
        rw [nums, if_pos (by simp)]
        rw [show nums (95 :: r) = nums r by rw [nums, if_neg (by rintro ⟨h, _⟩; cases h)]; rfl]
        rfl
    · have hp' : List.isPrefixOf [61, 95] (c :: r) = false := by cases hx : List.isPrefixOf [61, 95] (c :: r) with | true => exact absurd hx hp | false => rfl
      rw [Hd.idx_miss hp'] at h
      have hge := Lib.index_ge r [61, 95]
      split at h
      · omega
      · obtain ⟨j, hj⟩ : ∃ j : Nat, Lib.index r [61, 95] = j := ⟨(Lib.index r [61, 95]).toNat, by omega⟩
        obtain rfl : i = j + 1 := by omega
        rw [nums, if_neg, List.nil_append, nums_cut r j hj]
        · rfl
        · rintro ⟨rfl, h2⟩
          cases r with
          | nil => simp at h2
          | cons d r => simp at h2; subst h2; simp [List.isPrefixOf] at hp
theorem nums_none : ∀ (b : B), Lib.index b [61, 95] = -1 → nums b = []
  | [], h => rfl
  | c :: r, h => by
    rw [index_no] at h
    rw [nums, nums_none r h.2, if_neg]
    · rfl
    · rintro ⟨rfl, h2⟩
      cases r with
      | nil => simp at h2
      | cons d r => simp at h2; subst h2; simp [List.isPrefixOf] at h
def all (l : List B) : List Nat := l.flatMap nums
def sum : List B → Nat
  | [] => 0
  | b :: l => b.length + sum l
theorem all_len : ∀ l : List B, (all l).length ≤ sum l
  | [] => Nat.le_refl _
  | b :: l => by
    have h1 := (nums_len b 0).2
    have h2 := all_len l
    unfold all at h2 ⊢
    rw [List.flatMap_cons, List.length_append, sum]; omega
theorem pigeon : ∀ (m : Nat) (S : List Nat), (∀ k, k < m → k ∈ S) → m ≤ S.length
  | 0, S, h => Nat.zero_le _
  | m + 1, S, h => by
    have h1 := h m (by omega)
    have h2 := pigeon m (S.erase m) (fun k hk => (List.mem_erase_of_ne (by omega)).2 (h k (by omega)))
    rw [List.length_erase_of_mem h1] at h2
    have := List.length_pos_of_mem h1
    omega
def freeF (S : List Nat) : Nat → Nat → Nat
  | 0, n => n
  | f + 1, n => if n ∈ S then freeF S f (n + 1) else n
theorem freeF_spec (S : List Nat) : ∀ (f n : Nat), n + f = S.length → (∀ k, k < n → k ∈ S) → freeF S f n ∉ S ∧ ∀ k, k < freeF S f n → k ∈ S
  | 0, n, h, hk => by
    refine ⟨fun hm => ?_, hk⟩
    have := pigeon (n + 1) S (fun k hk' => if e : k = n then e ▸ hm else hk k (by omega))
    omega
  | f + 1, n, h, hk => by
    unfold freeF
    split
    · rename_i hm
      exact freeF_spec S f (n + 1) (by omega) (fun k hk' => if e : k = n then e ▸ hm else hk k (by omega))
    · rename_i hm
      exact ⟨hm, hk⟩
def free (S : List Nat) : Nat := freeF S S.length 0
theorem free_not (S : List Nat) : free S ∉ S := (freeF_spec S S.length 0 (by omega) (fun k h => by omega)).1
theorem free_in (S : List Nat) : ∀ k, k < free S → k ∈ S := (freeF_spec S S.length 0 (by omega) (fun k h => by omega)).2
theorem free_le (S : List Nat) : free S ≤ S.length := pigeon _ _ (free_in S)
def bdy (l : List B) : B := bnd (free (all l))
def b0 : B := [61, 95, 48]
theorem bnd_0 : bnd 0 = b0 := by unfold bnd; rw [Lib.decDigits_one (by omega)]; rfl
theorem bdy_none {l : List B} (h : ∀ b ∈ l, nums b = []) : bdy l = b0 := by
  have : all l = [] := by
    unfold all
    rw [List.flatMap_eq_nil_iff]
    exact h
  unfold bdy
  rw [this]
  exact bnd_0
def sgn (c : UInt8) : Bool := ((decide (97 ≤ c.toNat) && decide (c.toNat ≤ 122)) || (decide (48 ≤ c.toNat) && decide (c.toNat ≤ 57))) || (decide (c.toNat = 47) || decide (c.toNat = 45) || decide (c.toNat = 61) || decide (c.toNat = 59))
def mk (c : UInt8) : Bool := sgn c || decide (c.toNat = 32)
def kdA : UInt8 → B → Bool
  | a, [] => !decide (a.toNat = 32)
  | a, c :: r => if c.toNat = 32 ∧ a.toNat = 32 then false else mk c && kdA c r
def kd (s : B) : Bool := kdA 32 s && decide (s.length ≤ 60)
def kdR : UInt8 → B → Bool
  | _, [] => true
  | a, c :: r => (sgn c || (decide (c.toNat = 32) && (!r.isEmpty && !decide (a.toNat = 32)))) && kdR c r
theorem sgn_32 {c : UInt8} (h : sgn c = true) : ¬ c.toNat = 32 := by
  unfold sgn at h
  simp only [Bool.or_eq_true, Bool.and_eq_true, decide_eq_true_eq] at h
  omega
theorem kdA_R : ∀ (s : B) (a : UInt8), s ≠ [] → kdA a s = kdR a s
  | [], a, h => absurd rfl h
  | [c], a, _ => by
    unfold kdA kdR kdR
    by_cases h : c.toNat = 32
    · have hs : sgn c = false := by
        cases hs : sgn c with
        | true => exact absurd h (sgn_32 hs)
        | false => rfl
      simp [kdA, h, hs, mk]
    · simp [kdA, h, mk]
  | c :: d :: r, a, _ => by
    rw [kdA, kdR, kdA_R (d :: r) c (by simp)]
    by_cases h : c.toNat = 32
    · have hs : sgn c = false := by
        cases hs : sgn c with
        | true => exact absurd h (sgn_32 hs)
        | false => rfl
      by_cases h2 : a.toNat = 32
      · simp [h, h2, hs]
      · simp [h, h2, hs, mk]
    · simp [h, mk]
theorem kd_R (s : B) : kd s = ((decide (1 ≤ s.length) && decide (s.length ≤ 60)) && kdR 32 s) := by
  cases s with
  | nil => rfl
  | cons c r =>
    unfold kd
    rw [kdA_R _ _ (by simp), Bool.and_comm]
    simp
theorem kdA_mem : ∀ (s : B) (a : UInt8), kdA a s = true → ∀ c ∈ s, mk c = true
  | [], a, _, c, h => by cases h
  | x :: r, a, hk, c, h => by
    unfold kdA at hk
    split at hk
    · cases hk
    · rw [Bool.and_eq_true] at hk
      rcases List.mem_cons.1 h with rfl | h
      · exact hk.1
      · exact kdA_mem r x hk.2 c h
theorem kd_mem {s : B} (h : kd s = true) : (∀ c ∈ s, mk c = true) ∧ s.length ≤ 60 := by
  unfold kd at h
  rw [Bool.and_eq_true, decide_eq_true_eq] at h
  exact ⟨kdA_mem s _ h.1, h.2⟩
theorem kd_95 {s : B} (h : kd s = true) : (95 : UInt8) ∉ s := fun e => absurd ((kd_mem h).1 95 e) (by decide)
def nmT : B := [67, 111, 110, 116, 101, 110, 116, 45, 84, 121, 112, 101]
def nmE : B := [67, 111, 110, 116, 101, 110, 116, 45, 84, 114, 97, 110, 115, 102, 101, 114, 45, 69, 110, 99, 111, 100, 105, 110, 103]
def qpT : B := [113, 117, 111, 116, 101, 100, 45, 112, 114, 105, 110, 116, 97, 98, 108, 101]
def hds (k : B) : List Hdr := [(nmT, k), (nmE, qpT)]
theorem hds_ok {k : B} (h : k.length ≤ 4000) : okA (hds k) = true := by
  have h1 : Hd.nam nmT = true := by decide +kernel
  have h2 : okH (nmE, qpT) = true := by decide +kernel
  have h3 : okH (nmT, k) = true := by unfold okH; simp [h1, h]
  unfold okA hds
  simp [h2, h3]
theorem sg_95 : ∀ n, n < 64 → Bx.sg n ≠ 95 := by decide +kernel
theorem fil_95 : ∀ (ws : List B) (k : Nat), (∀ w ∈ ws, (95 : UInt8) ∉ w) → (95 : UInt8) ∉ Hd.fil k ws
  | [], k, _ => by simp [Hd.fil]
  | w :: ws, k, h => by
    have h1 := h w (by simp)
    have h2 := fun k => fil_95 ws k (fun x hx => h x (by simp [hx]))
    unfold Hd.fil
    split
    · simp [h1, h2]
    · simp [h1, h2]
theorem cod_95 : ∀ (n : Nat) (s : B), s.length ≤ n → ∀ w ∈ Hd.cod s, (95 : UInt8) ∉ w
  | 0, s, hn, w, hw => by
    obtain rfl : s = [] := List.length_eq_zero_iff.1 (by omega)
    rw [Hd.cod_nil] at hw; cases hw
  | n + 1, s, hn, w, hw => by
    by_cases h : s = []
    · subst h; rw [Hd.cod_nil] at hw; cases hw
    · rw [Hd.cod_more h] at hw
      have hp := Hd.prt_pos h
      have hl := List.length_pos_iff.2 h
      rcases List.mem_cons.1 hw with rfl | hw
      · unfold Hd.code
        intro hc
        simp only [List.mem_append] at hc
        rcases hc with hc | hc | hc
        · exact absurd hc (by decide)
        · rcases Bx.raw_sign hc with e | ⟨n, hn, e⟩
          · cases e
          · exact sg_95 n hn e.symm
        · exact absurd hc (by decide)
      · exact cod_95 n _ (by simp; omega) w hw
theorem wds_95 {s : B} (h : (95 : UInt8) ∉ s) : ∀ w ∈ Hd.wds s, (95 : UInt8) ∉ w := by
  intro w hw
  unfold Hd.wds at hw
  split at hw
  · exact fun e => h (Hd.mem_splt s w hw 95 e).1
  · exact cod_95 _ s (Nat.le_refl _) w hw
theorem lnH_95 {n s : B} (h1 : (95 : UInt8) ∉ n) (h2 : (95 : UInt8) ∉ s) : (95 : UInt8) ∉ lnH (n, s) := by
  unfold lnH Hd.bdy
  simp only [List.mem_append, List.mem_cons, not_or]
  exact ⟨h1, by decide, fil_95 _ _ (wds_95 h2)⟩
theorem hds_95 {k : B} (h : kd k = true) : (95 : UInt8) ∉ lns (hds k) := by
  have h1 := lnH_95 (show (95 : UInt8) ∉ nmT by decide) (kd_95 h)
  have h2 := lnH_95 (show (95 : UInt8) ∉ nmE by decide) (show (95 : UInt8) ∉ qpT by decide)
  unfold lns hds
  simp only [List.flatMap_cons, List.flatMap_nil, List.append_nil, List.mem_append, not_or]
  exact ⟨h1, h2⟩
def cl : B → Bool
  | [] => true
  | c :: r => !(decide (c = 61) && decide (r.head? = some 95)) && cl r
theorem cl_ne {c : UInt8} (r : B) (h : c ≠ 61) : cl (c :: r) = cl r := by rw [cl]; simp [h]
theorem cl_no : ∀ {b : B}, cl b = true → Lib.index b [61, 95] = -1
  | [], _ => rfl
  | c :: r, h => by
    unfold cl at h
    simp only [Bool.and_eq_true, Bool.not_eq_true', Bool.and_eq_false_iff, decide_eq_false_iff_not] at h
    rw [index_no]
    refine ⟨?_, cl_no h.2⟩
    cases r with
    | nil => simp [List.isPrefixOf]
    | cons d r =>
      simp only [List.head?_cons, Option.some.injEq] at h
      simp only [List.isPrefixOf, Bool.and_true, Bool.and_eq_false_iff, beq_eq_false_iff_ne, ne_eq]
      rcases h.1 with h | h
      · exact Or.inl (fun e => h e.symm)
      · exact Or.inr (fun e => h e.symm)
theorem cl_10 : ∀ (X Y : B), (95 : UInt8) ∉ X → cl (X ++ 10 :: Y) = cl Y
  | [], Y, _ => cl_ne Y (by decide)
  | c :: X, Y, h => by
    have hX : (95 : UInt8) ∉ X := fun e => h (by simp [e])
    rw [List.cons_append, cl, cl_10 X Y hX]
    have : ¬ (X ++ 10 :: Y).head? = some 95 := by
      cases X with
      | nil => simp
      | cons d X => simp; rintro rfl; exact hX (by simp)
    rw [decide_eq_false this, Bool.and_false]; rfl
theorem hx_cl : ∀ n, n < 16 → Qp.hx n ≠ 61 ∧ Qp.hx n ≠ 95 := by decide
theorem cl_cod (c : UInt8) (r X : B) : cl (Qp.cod c r ++ X) = cl X := by
  unfold Qp.cod
  split
  · rename_i h
    refine cl_ne X ?_
    rintro rfl
    unfold Qp.pln at h
    simp [Qp.isB] at h
  · have h1 := hx_cl _ (Qp.u8_half c)
    have h2 := hx_cl (c.toNat % 16) (Nat.mod_lt _ (by decide))
    unfold Qp.quo
    show cl (61 :: Qp.hx (c.toNat / 16) :: Qp.hx (c.toNat % 16) :: X) = cl X
    rw [cl, cl_ne _ h1.1, cl_ne _ h2.1]
    simp [h1.2]
theorem cl_enc : ∀ (b : B) (k : Nat) (Y : B), cl (Qp.enc k b ++ Y) = cl Y
  | [], k, Y => by simp [Qp.enc]
  | c :: r, k, Y => by
    unfold Qp.enc
    split
    · show cl (13 :: 10 :: (Qp.enc 0 r ++ Y)) = cl Y
      rw [cl_ne _ (by decide), cl_ne _ (by decide), cl_enc r]
    split
    · show cl (61 :: 13 :: 10 :: (Qp.cod c r ++ Qp.enc (Qp.cod c r).length r ++ Y)) = cl Y
      rw [cl, cl_ne _ (by decide), cl_ne _ (by decide), List.append_assoc, cl_cod, cl_enc r]
      simp
    · rw [List.append_assoc, cl_cod, cl_enc r]
theorem enc_cl (b : B) : cl (Qp.enc 0 b) = true := by
  have := cl_enc b 0 []
  rw [List.append_nil] at this
  rw [this]; rfl
theorem enc_nums (b : B) : nums (Qp.enc 0 b) = [] := nums_none _ (cl_no (enc_cl b))
theorem bdy_enc (l : List B) : bdy (l.map (Qp.enc 0)) = b0 := bdy_none (fun b hb => by
  obtain ⟨a, _, rfl⟩ := List.mem_map.1 hb
  exact enc_nums a)
def dl : B := [45, 45, 61, 95, 48]
def pc (p : B × B) : B := [13, 10] ++ (lnA (hds p.1) ++ (Qp.enc 0 p.2 ++ [13, 10]))
def fin : B := [45, 45, 13, 10]
def joined : List (B × B) → B
  | [] => dl ++ fin
  | p :: ps => dl ++ (pc p ++ joined ps)
theorem pc_cl {p : B × B} (h : kd p.1 = true) : cl (pc p) = true := by
  have h1 : pc p = ([13, 10] ++ lns (hds p.1) ++ [13]) ++ 10 :: (Qp.enc 0 p.2 ++ [13, 10]) := by
    unfold pc lnA; simp
  rw [h1, cl_10, cl_enc]
  · decide
  · have := hds_95 h
    simp [this]
theorem dl_pre {a b c d : UInt8} {r : B} (h : dl.isPrefixOf (a :: b :: c :: d :: r) = true) : c = 61 ∧ d = 95 := by
  simp [dl, List.isPrefixOf] at h
  exact ⟨h.2.2.1.symm, h.2.2.2.1.symm⟩
theorem idx_dl : ∀ (p t : B), cl p = true → Lib.index (p ++ (dl ++ t)) dl = p.length
  | [], t, _ => by
    show Lib.index (45 :: 45 :: 61 :: 95 :: 48 :: t) dl = 0
    unfold Lib.index
    rw [if_pos (by simp [dl, List.isPrefixOf])]
  | c :: p, t, h => by
    have hp : cl p = true := by unfold cl at h; rw [Bool.and_eq_true] at h; exact h.2
    have ih := idx_dl p t hp
    rw [List.cons_append, Hd.idx_miss, ih]
    · rw [if_neg (by omega)]; simp
    · cases hx : dl.isPrefixOf (c :: (p ++ (dl ++ t))) with
      | false => rfl
      | true =>
        exfalso
        match p, hp, hx with
        | [], _, hx => exact absurd (dl_pre hx).1 (by decide)
        | [a], _, hx => exact absurd (dl_pre (show dl.isPrefixOf (c :: a :: 45 :: 45 :: 61 :: 95 :: 48 :: t) = true from hx)).1 (by decide)
        | [a, b], _, hx => exact absurd (dl_pre (show dl.isPrefixOf (c :: a :: b :: 45 :: 45 :: 61 :: 95 :: 48 :: t) = true from hx)).2 (by decide)
        | a :: b :: e :: q, hp, hx =>
          obtain ⟨rfl, rfl⟩ := dl_pre (show dl.isPrefixOf (c :: a :: b :: e :: (q ++ (dl ++ t))) = true from hx)
          simp [cl] at hp
theorem idx_fin : Lib.index fin dl = -1 := by decide +kernel
theorem splitK_hit (sep : B) (f i : Nat) (s : B) (h : Lib.index s sep = i) : Lib.splitK sep 0 (f + 1) s = s.take i :: Lib.splitK sep 0 f (s.drop (i + sep.length)) := by
  rw [Lib.splitK, if_neg (by rw [h]; simp)]
  rw [h]; rfl
theorem split_joined : ∀ (ps : List (B × B)) (p : B) (f : Nat), cl p = true → (∀ x ∈ ps, kd x.1 = true) → ps.length + 1 ≤ f → Lib.splitK dl 0 f (p ++ joined ps) = p :: (ps.map pc ++ [fin])
  | [], p, f + 1, hp, _, _ => by
    rw [joined, splitK_hit _ _ _ _ (idx_dl p fin hp)]
    rw [List.take_left, ← List.append_assoc, show p.length + dl.length = (p ++ dl).length by simp, List.drop_left]
    congr 1
    cases f with
    | zero => rfl
    | succ f => rw [Lib.splitK, if_pos (by rw [idx_fin]; rfl)]; rfl
  | x :: ps, p, f + 1, hp, hk, hf => by
    rw [joined, splitK_hit _ _ _ _ (idx_dl p _ hp)]
    rw [List.take_left, ← List.append_assoc, show p.length + dl.length = (p ++ dl).length by simp, List.drop_left]
    rw [split_joined ps (pc x) f (pc_cl (hk x (by simp))) (fun y hy => hk y (by simp [hy])) (by simp at hf; omega)]
    rfl
noncomputable def gP (p : B) : Option (B × B) := match cutA (Lib.trimPrefix p [13, 10]) with
  | none => none
  | some (hs, r) => match hs with
    | [] => none
    | h :: _ => match Qp.dec (Lib.trimSuffix r [13, 10]) with
      | none => none
      | some b => some (h.2, b)
theorem trim_pre (p r : B) : Lib.trimPrefix (p ++ r) p = r := by
  unfold Lib.trimPrefix Lib.hasPrefix
  rw [if_pos (by rw [List.isPrefixOf_iff_prefix]; exact List.prefix_append _ _), List.drop_left]
theorem trim_suf (p r : B) : Lib.trimSuffix (r ++ p) p = r := by
  unfold Lib.trimSuffix Lib.hasSuffix
  rw [if_pos (by rw [List.isSuffixOf_iff_suffix]; exact List.suffix_append _ _), List.length_append, Nat.add_sub_cancel, List.take_left]
theorem cut_pc {k : B} (h : k.length ≤ 4000) (r : B) : cutA (lnA (hds k) ++ r) = some (hds k, r) := Hd.cutA_iff.2 ⟨hds_ok h, rfl⟩
theorem gP_pc {x : B × B} (h : kd x.1 = true) : gP (pc x) = some x := by
  unfold gP pc
  rw [trim_pre, cut_pc (by have := (kd_mem h).2; omega)]
  simp only [hds]
  rw [trim_suf, Qp.dec_enc]
noncomputable def gPs : List B → Option (List (B × B))
  | [] => some []
  | p :: ps => match gP p with
    | none => none
    | some x => (gPs ps).map (x :: ·)
theorem gPs_pc : ∀ (l : List (B × B)), (∀ x ∈ l, kd x.1 = true) → gPs (l.map pc) = some l
  | [], _ => rfl
  | x :: l, h => by
    rw [List.map_cons, gPs, gP_pc (h x (by simp)), gPs_pc l (fun y hy => h y (by simp [hy]))]; rfl
noncomputable def gue (b x : B) : Option (List (B × B)) :=
  if (Lib.splitK (45 :: 45 :: x) 0 (min 10 (b.length + 1) - 1) b).length < 3 then none
  else gPs ((Lib.splitK (45 :: 45 :: x) 0 (min 10 (b.length + 1) - 1) b).tail.dropLast)
def okP (l : List (B × B)) : Bool := decide (1 ≤ l.length) && decide (l.length ≤ 8) && l.all fun x => kd x.1
theorem okP_iff {l : List (B × B)} : okP l = true ↔ (1 ≤ l.length ∧ l.length ≤ 8) ∧ ∀ x ∈ l, kd x.1 = true := by
  unfold okP; simp
theorem joined_len : ∀ l : List (B × B), 9 + 5 * l.length ≤ (joined l).length
  | [] => by decide
  | x :: l => by
    have := joined_len l
    rw [joined, List.length_append, List.length_append, List.length_cons, show dl.length = 5 from rfl]; omega
theorem gue_joined {l : List (B × B)} (h : okP l = true) : gue (joined l) b0 = some l := by
  obtain ⟨⟨h1, h2⟩, hk⟩ := okP_iff.1 h
  have hl := joined_len l
  have hs := split_joined l [] 9 rfl hk (by omega)
  rw [List.nil_append] at hs
  unfold gue
  rw [show min 10 ((joined l).length + 1) - 1 = 9 by omega, show (45 :: 45 :: b0 : B) = dl from rfl, hs]
  rw [if_neg (by simp; omega), List.tail_cons, List.dropLast_concat, gPs_pc l hk]
noncomputable def spl (b x : B) : Option (List (B × B)) := match gue b x with
  | none => none
  | some l => if okP l = true ∧ x = b0 ∧ joined l = b then some l else none
theorem spl_iff {b x : B} {l : List (B × B)} : spl b x = some l ↔ okP l = true ∧ x = b0 ∧ joined l = b := by
  constructor
  · intro h
    unfold spl at h
    split at h
    · cases h
    · split at h
      · rename_i m hm hc
        injection h with h
        subst h
        exact hc
      · cases h
  · rintro ⟨h1, rfl, rfl⟩
    unfold spl
    rw [gue_joined h1]
    simp [h1]
noncomputable def one (p : B) : Option (B × B) := match cutA p with
  | none => none
  | some (hs, r) => if hs.length = 2 ∧ 2 ≤ r.length then
      match hs with
      | [] => none
      | h :: _ => (match Qp.dec (r.take (r.length - 2)) with
        | none => none
        | some b => some (h.2, b))
    else none
end Go.Proofs.YtjlpkgipdkjfhaaGreatDoor.Bk.Pt
