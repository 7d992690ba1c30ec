/- Plain mathematics of entries: by what they are known, which are fresh. -/
import Derived.Test.YtpkkpjonlogliaaDoorIdPure
set_option linter.unusedSimpArgs false
set_option linter.unusedVariables false
namespace Go.Proofs.YtpkkpjonlogliaaDoor.Idn
open En
abbrev E5 := T × T × T × T × Int
instance e5Dec : DecidableEq E5 := @instDecidableEqProd T (T × T × T × Int) inferInstance (@instDecidableEqProd T (T × T × Int) inferInstance (@instDecidableEqProd T (T × Int) inferInstance inferInstance))
def key (e : E5) : T := if norm e.1 ≠ [] then 105 :: norm e.1 else if norm e.2.2.1 ≠ [] then 108 :: norm e.2.2.1 else 116 :: e.2.1
theorem key_id {e : E5} (h : norm e.1 ≠ []) : key e = 105 :: norm e.1 := by unfold key; rw [if_pos h]
theorem key_link {e : E5} (h : norm e.1 = []) (h2 : norm e.2.2.1 ≠ []) : key e = 108 :: norm e.2.2.1 := by unfold key; rw [if_neg (by rw [h]; simp), if_pos h2]
theorem key_title {e : E5} (h : norm e.1 = []) (h2 : norm e.2.2.1 = []) : key e = 116 :: e.2.1 := by unfold key; rw [if_neg (by rw [h]; simp), if_neg (by rw [h2]; simp)]
/-- texts of at most so many bytes -/
def Sm5 (n : Nat) (e : E5) : Prop := e.1.length ≤ n ∧ e.2.1.length ≤ n ∧ e.2.2.1.length ≤ n ∧ e.2.2.2.1.length ≤ n
theorem key_len {e : E5} {n : Nat} (h : Sm5 n e) : (key e).length ≤ 2 * n + 10 := by
  obtain ⟨h1, h2, h3, h4⟩ := h
  have a := norm_len e.1
  have b := norm_len e.2.2.1
  unfold key
  split
  · rw [List.length_cons]; omega
  · split
    · rw [List.length_cons]; omega
    · rw [List.length_cons]; omega
theorem key_pos (e : E5) : key e ≠ [] := by
  unfold key
  split
  · simp
  · split <;> simp
/-- those that are fresh -/
def fr : List T → List E5 → List E5
  | _, [] => []
  | K, e :: l => if key e ∈ K then fr K l else e :: fr (key e :: K) l
theorem fr_congr : ∀ (l : List E5) (K K' : List T), (∀ x, x ∈ K ↔ x ∈ K') → fr K l = fr K' l
  | [], _, _, _ => rfl
  | e :: l, K, K', h => by
    rw [fr, fr]
    by_cases q : key e ∈ K
    · rw [if_pos q, if_pos ((h _).1 q)]; exact fr_congr l K K' h
    · rw [if_neg q, if_neg (fun c => q ((h _).2 c))]
      rw [fr_congr l (key e :: K) (key e :: K') (fun x => by simp [h])]
theorem fr_snoc : ∀ (l : List E5) (K : List T) (a : E5), fr K (l ++ [a]) = if key a ∈ K ∨ key a ∈ l.map key then fr K l else fr K l ++ [a]
  | [], K, a => by
    show (if key a ∈ K then [] else [a]) = if key a ∈ K ∨ key a ∈ [] then [] else [a]
    by_cases q : key a ∈ K
    · rw [if_pos q, if_pos (Or.inl q)]
    · rw [if_neg q, if_neg (by simp [q])]
  | e :: l, K, a => by
    rw [List.cons_append, fr, fr]
    by_cases q : key e ∈ K
    · rw [if_pos q, if_pos q, fr_snoc l K a]
      by_cases r : key a ∈ K ∨ key a ∈ l.map key
      · rw [if_pos r, if_pos (by rcases r with r | r; exact Or.inl r; exact Or.inr (by simp at r ⊢; exact Or.inr r))]
      · rw [if_neg r, if_neg]
        rintro (c | c)
        · exact r (Or.inl c)
        · rw [List.map_cons, List.mem_cons] at c
          rcases c with c | c
          · exact r (Or.inl (by rw [c]; exact q))
          · exact r (Or.inr c)
    · rw [if_neg q, if_neg q, fr_snoc l (key e :: K) a]
      have hiff : (key a ∈ key e :: K ∨ key a ∈ l.map key) ↔ (key a ∈ K ∨ key a ∈ (e :: l).map key) := by
        rw [List.mem_cons, List.map_cons, List.mem_cons]
        constructor
        · rintro ((c | c) | c)
          · exact Or.inr (Or.inl c)
          · exact Or.inl c
          · exact Or.inr (Or.inr c)
        · rintro (c | c | c)
          · exact Or.inl (Or.inr c)
          · exact Or.inl (Or.inl c)
          · exact Or.inr c
      by_cases r : key a ∈ key e :: K ∨ key a ∈ l.map key
      · rw [if_pos r, if_pos (hiff.1 r)]
      · rw [if_neg r, if_neg (fun c => r (hiff.2 c))]; rfl
theorem fr_step {K : List T} {l : List E5} {i : Nat} {a : E5} (h : l[i]? = some a) : fr K (l.take (i + 1)) = if key a ∈ K ∨ key a ∈ (l.take i).map key then fr K (l.take i) else fr K (l.take i) ++ [a] := by
  rw [List.take_add_one, h]
  exact fr_snoc _ _ _
theorem map_step {l : List E5} {i : Nat} {a : E5} (h : l[i]? = some a) : (l.take (i + 1)).map key = (l.take i).map key ++ [key a] := by
  rw [List.take_add_one, h]; simp
/-- each has a key that none ahead has, nor any known -/
theorem fr_apart : ∀ (l : List E5) (K : List T) (i : Nat) (a : E5), (fr K l)[i]? = some a → key a ∉ K ++ ((fr K l).take i).map key
  | [], K, i, a, h => by simp [fr] at h
  | e :: l, K, i, a, h => by
    rw [fr] at h ⊢
    by_cases q : key e ∈ K
    · rw [if_pos q] at h ⊢
      exact fr_apart l K i a h
    · rw [if_neg q] at h ⊢
      cases i with
      | zero =>
        simp only [List.getElem?_cons_zero, Option.some.injEq] at h
        subst h
        simpa using q
      | succ i =>
        simp only [List.getElem?_cons_succ] at h
        have := fr_apart l (key e :: K) i a h
        simp only [List.mem_append, List.mem_cons, not_or, List.take_succ_cons, List.map_cons] at this ⊢
        exact ⟨this.1.2, this.1.1, this.2⟩
theorem fr_all : ∀ (l : List E5) (K : List T) (a : E5), a ∈ l → key a ∈ K ++ (fr K l).map key
  | [], K, a, h => by simp at h
  | e :: l, K, a, h => by
    rw [fr]
    rcases List.mem_cons.1 h with c | c
    · subst c
      by_cases q : key a ∈ K
      · exact List.mem_append.2 (Or.inl q)
      · rw [if_neg q]; simp
    · by_cases q : key e ∈ K
      · rw [if_pos q]; exact fr_all l K a c
      · rw [if_neg q]
        have := fr_all l (key e :: K) a c
        simp only [List.mem_append, List.mem_cons, List.map_cons] at this ⊢
        rcases this with (r | r) | r
        · exact Or.inr (Or.inl r)
        · exact Or.inl r
        · exact Or.inr (Or.inr r)
theorem fr_sub : ∀ (l : List E5) (K : List T), List.Sublist (fr K l) l
  | [], K => by simp [fr]
  | e :: l, K => by
    rw [fr]
    split
    · exact (fr_sub l K).cons e
    · exact (fr_sub l _).cons_cons e
theorem fr_none : ∀ (l : List E5) (K : List T), (∀ a ∈ l, key a ∈ K) → fr K l = []
  | [], K, _ => rfl
  | e :: l, K, h => by
    rw [fr, if_pos (h e (by simp))]
    exact fr_none l K fun a ha => h a (by simp [ha])
theorem fr_again (l : List E5) (K : List T) : fr (K ++ (fr K l).map key) l = [] := fr_none l _ fun a ha => fr_all l K a ha
/-- one list is found in another one, in order, by taking each as soon as it comes -/
theorem sub_hit {f l : List E5} {i j : Nat} {a : E5} (h : List.Sublist (f.drop j) (l.drop i)) (hl : l[i]? = some a) (hf : f[j]? = some a) : List.Sublist (f.drop (j + 1)) (l.drop (i + 1)) := by
  have e1 : l.drop i = a :: l.drop (i + 1) := by
    obtain ⟨q1, q2⟩ := List.getElem?_eq_some_iff.1 hl
    rw [← q2]; exact List.drop_eq_getElem_cons q1
  have e2 : f.drop j = a :: f.drop (j + 1) := by
    obtain ⟨q1, q2⟩ := List.getElem?_eq_some_iff.1 hf
    rw [← q2]; exact List.drop_eq_getElem_cons q1
  rw [e1, e2] at h
  exact List.cons_sublist_cons.1 h
theorem sub_miss {f l : List E5} {i j : Nat} {a : E5} (h : List.Sublist (f.drop j) (l.drop i)) (hl : l[i]? = some a) (hf : f[j]? ≠ some a) : List.Sublist (f.drop j) (l.drop (i + 1)) := by
  have e1 : l.drop i = a :: l.drop (i + 1) := by
    obtain ⟨q1, q2⟩ := List.getElem?_eq_some_iff.1 hl
    rw [← q2]; exact List.drop_eq_getElem_cons q1
  rw [e1] at h
  cases hd : f.drop j with
  | nil => simp
  | cons b r =>
    rw [hd] at h
    have hb : f[j]? = some b := by
      have := congrArg (fun x => x[0]?) hd
      simpa using this
    have hne : b ≠ a := fun e => hf (by rw [hb, e])
    cases h with
    | cons _ h => exact h
    | cons_cons _ h => exact absurd rfl hne
theorem sub_end {f l : List E5} {i j : Nat} (h : List.Sublist (f.drop j) (l.drop i)) (hi : l.length ≤ i) (hj : j ≤ f.length) : j = f.length := by
  rw [List.drop_eq_nil_of_le hi] at h
  have := List.sublist_nil.1 h
  have := congrArg List.length this
  rw [List.length_drop, List.length_nil] at this
  omega
end Go.Proofs.YtpkkpjonlogliaaDoor.Idn
