/- Plain mathematics of lines filled with words: which words a line has, what is told of the words' blanks. -/
import Derived.Test.YtpkbcomdkamglaaDoorPlSp
set_option linter.unusedSimpArgs false
set_option linter.unusedVariables false
namespace Go.Proofs.YtpkbcomdkamglaaDoor.Pl
open En
theorem trF_le : ∀ (l : B) (s g : Bool), (trF s g l).length ≤ l.length + (if g = true then 1 else 0)
  | [], s, g => by simp [trF]
  | c :: r, s, g => by
    cases hc : spB c with
    | true =>
      rw [trF_sp hc]
      have := trF_le r s s
      simp only [List.length_cons]
      split at this <;> split <;> omega
    | false =>
      rw [trF_no hc]
      have := trF_le r true false
      simp only [List.length_append, List.length_cons]
      simp only [Bool.false_eq_true, if_false] at this
      cases g <;> simp <;> omega
theorem tr_le (l : B) : (tr l).length ≤ l.length := by have := trF_le l false false; simpa [tr] using this
/-! words -/
theorem wordsF_no : ∀ (l cur : B), (∀ c ∈ cur, spB c = false) → ∀ w ∈ wordsF cur l, ∀ c ∈ w, spB c = false
  | [], cur, h, w, hw => by
    rw [wordsF] at hw
    by_cases q : cur = []
    · rw [if_pos q] at hw; cases hw
    · rw [if_neg q] at hw
      simp only [List.mem_singleton] at hw
      subst hw; exact h
  | a :: r, cur, h, w, hw => by
    rw [wordsF] at hw
    split at hw
    · split at hw
      · exact wordsF_no r [] (by simp) w hw
      · rcases List.mem_cons.1 hw with rfl | hw
        · exact h
        · exact wordsF_no r [] (by simp) w hw
    · rename_i hc
      refine wordsF_no r (cur ++ [a]) (fun c hc' => ?_) w hw
      rcases List.mem_append.1 hc' with q | q
      · exact h c q
      · simp only [List.mem_singleton] at q
        subst q; simpa using hc
/-- words: not empty, of no blanks -/
def WdP (ws : List B) : Prop := ∀ w ∈ ws, w ≠ [] ∧ ∀ c ∈ w, spB c = false
theorem words_wd (l : B) : WdP (words l) := fun w hw => ⟨(wordsF_all l [] w hw).1, wordsF_no l [] (by simp) w hw⟩
theorem WdP.tail {w : B} {ws : List B} (h : WdP (w :: ws)) : WdP ws := fun x hx => h x (by simp [hx])
theorem WdP.no32 {ws : List B} (h : WdP ws) {w : B} (hw : w ∈ ws) : (32 : UInt8) ∉ w := fun e => by have := (h w hw).2 32 e; rw [sp32] at this; cases this
/-- words, each behind a blank -/
def spw (ws : List B) : B := (ws.map fun w => 32 :: w).flatten
theorem spw_nil : spw [] = [] := rfl
theorem spw_cons (w : B) (ws : List B) : spw (w :: ws) = 32 :: w ++ spw ws := by simp [spw]
theorem spw_app (a b : List B) : spw (a ++ b) = spw a ++ spw b := by simp [spw]
theorem fold_addW : ∀ (ws : List B) (acc : B), acc ≠ [] → ws.foldl addW acc = acc ++ spw ws
  | [], acc, _ => by simp [spw]
  | w :: ws, acc, h => by
    have e : addW acc w = acc ++ 32 :: w := by unfold addW; rw [if_neg h]
    rw [List.foldl_cons, fold_addW ws _ (by rw [e]; simp), e, spw_cons]
    simp
theorem jn_nil : jn [] = [] := rfl
theorem jn_cons {w : B} (ws : List B) (h : w ≠ []) : jn (w :: ws) = w ++ spw ws := by
  unfold jn
  rw [List.foldl_cons, show addW [] w = w from rfl, fold_addW ws w h]
theorem jn_app {a : List B} (b : List B) (hw : WdP a) (h : a ≠ []) : jn (a ++ b) = jn a ++ spw b := by
  cases a with
  | nil => exact absurd rfl h
  | cons w ws =>
    have := (hw w (by simp)).1
    rw [List.cons_append, jn_cons _ this, jn_cons _ this, spw_app, List.append_assoc]
theorem jn_ne {ws : List B} (hw : WdP ws) (h : ws ≠ []) : jn ws ≠ [] := by
  cases ws with
  | nil => exact absurd rfl h
  | cons w ws =>
    have := (hw w (by simp)).1
    rw [jn_cons _ this]; simp [this]
theorem splt_spw : ∀ (ws : List B) (w : B), (32 : UInt8) ∉ w → (∀ x ∈ ws, (32 : UInt8) ∉ x) → splt 32 (w ++ spw ws) = w :: ws
  | [], w, h, _ => by rw [spw_nil, List.append_nil, splt_none w h]
  | x :: ws, w, h, hx => by
    rw [spw_cons, List.cons_append, splt_app w _ h, splt_spw ws x (hx x (by simp)) (fun y hy => hx y (by simp [hy]))]
theorem splt_jn {ws : List B} (hw : WdP ws) (h : ws ≠ []) : splt 32 (jn ws) = ws := by
  cases ws with
  | nil => exact absurd rfl h
  | cons w ws =>
    rw [jn_cons _ (hw w (by simp)).1, splt_spw ws w (hw.no32 (by simp)) (fun x hx => hw.no32 (by simp [hx]))]
/-- the words of a text, as they are cut -/
def wds (s : B) : List B := if tr s = [] then [] else splt 32 (tr s)
theorem wds_eq (s : B) : wds s = words s := by
  have h := tr_words s
  have hw := words_wd s
  unfold wds
  by_cases e : words s = []
  · rw [e] at h ⊢
    exact if_pos h
  · rw [h, if_neg (jn_ne hw e), splt_jn hw e]
theorem wds_ne (s : B) : ∀ w ∈ wds s, w ≠ [] := fun w hw => by rw [wds_eq] at hw; exact (words_wd s w hw).1
/-- no blanks at the ends, and none together -/
theorem trF_pl : ∀ (w : B) (g : Bool) (r : B), w ≠ [] → (∀ c ∈ w, spB c = false) → trF g g (w ++ r) = (if g = true then 32 :: w else w) ++ trF true false r
  | [], g, r, h, _ => absurd rfl h
  | [c], g, r, _, hc => by
    rw [List.cons_append, List.nil_append, trF_no (hc c (by simp))]
  | c :: d :: w, g, r, _, hc => by
    have e : ∀ (w : B) (r : B), (∀ c ∈ w, spB c = false) → trF true false (w ++ r) = w ++ trF true false r := by
      intro w
      induction w with
      | nil => intro r _; rfl
      | cons a w ih =>
        intro r h
        rw [List.cons_append, trF_no (h a (by simp)), ih r (fun c hc => h c (by simp [hc]))]
        simp
    rw [List.cons_append, trF_no (hc c (by simp)), e (d :: w) r (fun x hx => hc x (by simp [hx]))]
    cases g <;> simp
theorem trF_spw : ∀ (ws : List B), WdP ws → trF true false (spw ws) = spw ws
  | [], _ => rfl
  | w :: ws, h => by
    rw [spw_cons, List.cons_append, trF_sp sp32, trF_pl w true _ (h w (by simp)).1 (h w (by simp)).2, trF_spw ws h.tail]
    simp
theorem tr_jn {ws : List B} (hw : WdP ws) : tr (jn ws) = jn ws := by
  cases ws with
  | nil => rfl
  | cons w ws =>
    have h := hw w (by simp)
    rw [jn_cons _ h.1]
    unfold tr
    rw [trF_pl w false _ h.1 h.2, trF_spw ws hw.tail]
    simp
theorem wds_jn {ws : List B} (hw : WdP ws) : wds (jn ws) = ws := by
  unfold wds
  rw [tr_jn hw]
  by_cases e : ws = []
  · subst e; rfl
  · rw [if_neg (jn_ne hw e), splt_jn hw e]
/-! lines -/
/-- the words of a line begun, filled -/
def filC (most : Int) : List B → List B → List (List B)
  | [], cs => [cs]
  | w :: ws, cs => if cs ≠ [] ∧ most < ((jn cs).length : Int) + 1 + w.length then cs :: filC most ws [w] else filC most ws (cs ++ [w])
theorem fil_chunks (most : Int) : ∀ (ws cs : List B), WdP cs → WdP ws → fil most ws (jn cs) = (filC most ws cs).map jn
  | [], cs, _, _ => rfl
  | w :: ws, cs, hc, hw => by
    have h1 := (hw w (by simp)).1
    have hw1 : WdP [w] := fun x hx => by simp at hx; subst hx; exact hw x (by simp)
    have hcw : WdP (cs ++ [w]) := fun x hx => by
      rcases List.mem_append.1 hx with q | q
      · exact hc x q
      · exact hw1 x q
    have ej : jn [w] = w := by rw [jn_cons _ h1]; simp [spw]
    have en : jn cs ≠ [] ↔ cs ≠ [] := ⟨fun h e => h (by rw [e]; rfl), fun h => jn_ne hc h⟩
    rw [fil, filC]
    by_cases q : cs ≠ [] ∧ most < ((jn cs).length : Int) + 1 + w.length
    · rw [if_pos q, if_pos ⟨en.2 q.1, q.2⟩, List.map_cons, ← fil_chunks most ws [w] hw1 hw.tail, ej]
    · rw [if_neg q, if_neg (fun e => q ⟨en.1 e.1, e.2⟩), ← fil_chunks most ws (cs ++ [w]) hcw hw.tail, jn_snoc]
      congr 1
      unfold addW
      split <;> simp
theorem filC_flat (most : Int) : ∀ (ws cs : List B), (filC most ws cs).flatten = cs ++ ws
  | [], cs => by simp [filC]
  | w :: ws, cs => by
    rw [filC]
    split
    · rw [List.flatten_cons, filC_flat most ws [w]]; simp
    · rw [filC_flat most ws (cs ++ [w])]; simp
theorem filC_ne (most : Int) : ∀ (ws cs : List B), cs ++ ws ≠ [] → ∀ c ∈ filC most ws cs, c ≠ []
  | [], cs, h, c, hc => by simp [filC] at hc; subst hc; simpa using h
  | w :: ws, cs, h, c, hc => by
    rw [filC] at hc
    split at hc
    · rename_i q
      rcases List.mem_cons.1 hc with rfl | hc
      · exact q.1
      · exact filC_ne most ws [w] (by simp) c hc
    · exact filC_ne most ws (cs ++ [w]) (by simp) c hc
theorem filC_short (most : Int) : ∀ (ws cs : List B), WdP cs → WdP ws → (((jn cs).length : Int) ≤ most ∨ cs.length ≤ 1) → ∀ c ∈ filC most ws cs, ((jn c).length : Int) ≤ most ∨ c.length ≤ 1
  | [], cs, _, _, h, c, hc => by simp [filC] at hc; subst hc; exact h
  | w :: ws, cs, hp, hw, h, c, hc => by
    have h1 := (hw w (by simp)).1
    have hw1 : WdP [w] := fun x hx => by simp at hx; subst hx; exact hw x (by simp)
    have hcw : WdP (cs ++ [w]) := fun x hx => by
      rcases List.mem_append.1 hx with q | q
      · exact hp x q
      · exact hw1 x q
    rw [filC] at hc
    split at hc
    · rcases List.mem_cons.1 hc with rfl | hc
      · exact h
      · exact filC_short most ws [w] hw1 hw.tail (Or.inr (by simp)) c hc
    · rename_i q
      refine filC_short most ws (cs ++ [w]) hcw hw.tail ?_ c hc
      by_cases e : cs = []
      · subst e; exact Or.inr (by simp)
      · left
        have : ¬ most < ((jn cs).length : Int) + 1 + w.length := fun k => q ⟨e, k⟩
        rw [jn_snoc]
        unfold addW
        rw [if_neg (jn_ne hp e)]
        simp only [List.length_append, List.length_cons]
        omega
/-- lines one behind the other: a word begins one only where there was no room -/
def Adj (most : Int) : List (List B) → Prop
  | a :: b :: r => (∃ w ws, b = w :: ws ∧ most < ((jn a).length : Int) + 1 + w.length) ∧ Adj most (b :: r)
  | _ => True
theorem filC_head (most : Int) : ∀ (ws cs : List B), ∃ x r, filC most ws cs = (cs ++ x) :: r
  | [], cs => ⟨[], [], by simp [filC]⟩
  | w :: ws, cs => by
    rw [filC]
    split
    · exact ⟨[], filC most ws [w], by simp⟩
    · obtain ⟨x, r, h⟩ := filC_head most ws (cs ++ [w])
      exact ⟨w :: x, r, by rw [h]; simp⟩
theorem filC_adj (most : Int) : ∀ (ws cs : List B), Adj most (filC most ws cs)
  | [], cs => by simp [filC, Adj]
  | w :: ws, cs => by
    rw [filC]
    split
    · rename_i q
      have ih := filC_adj most ws [w]
      obtain ⟨x, r, h⟩ := filC_head most ws [w]
      rw [h] at ih ⊢
      exact ⟨⟨w, x, by simp, q.2⟩, ih⟩
    · exact filC_adj most ws _
theorem adj_at (most : Int) : ∀ (l : List (List B)) (i : Nat) (a b : List B), Adj most l → l[i]? = some a → l[i + 1]? = some b → ∃ w ws, b = w :: ws ∧ most < ((jn a).length : Int) + 1 + w.length
  | [], i, a, b, _, h, _ => by simp at h
  | [x], i, a, b, _, _, h => by simp at h
  | x :: y :: r, 0, a, b, h, h1, h2 => by
    simp at h1 h2
    subst h1 h2
    exact h.1
  | x :: y :: r, i + 1, a, b, h, h1, h2 => adj_at most (y :: r) i a b h.2 (by simpa using h1) (by simpa using h2)
/-- the lines of a text, wrapped -/
def wrp (most : Int) (s : B) : List B := if most < 1 then [] else (splt 10 s).flatMap fun x => fil most (wds x) []
theorem fil_one (most : Int) (s : B) : fil most (wds s) [] = (filC most (words s) []).map jn := by
  rw [wds_eq]
  exact fil_chunks most (words s) [] (fun w h => by simp at h) (words_wd s)
/-- one line, wrapped: what is said of each line that is made -/
structure LnOk (most : Int) (ls : List B) (i : Nat) (x : B) : Prop where
  tr : tr x = x
  one : (most < (x.length : Int)) → (wds x).length = 1
  next : 0 < i → ∃ y w r, ls[i - 1]? = some y ∧ wds x = w :: r ∧ most < (y.length : Int) + 1 + w.length
theorem chunk_wd (most : Int) (s : B) : ∀ c ∈ filC most (words s) [], WdP c := fun c hc w hw => by
  refine words_wd s w ?_
  have := filC_flat most (words s) []
  rw [List.nil_append] at this
  rw [← this]
  exact List.mem_flatten.2 ⟨c, hc, hw⟩
theorem ln_ok (most : Int) (s : B) (hm : 1 ≤ most) (i : Nat) (x : B) (h : (fil most (wds s) [])[i]? = some x) : LnOk most (fil most (wds s) []) i x := by
  rw [fil_one] at h ⊢
  rw [List.getElem?_map] at h
  cases hc : (filC most (words s) [])[i]? with
  | none => rw [hc] at h; cases h
  | some c =>
    rw [hc] at h
    simp only [Option.map_some, Option.some.injEq] at h
    subst h
    have hm' : c ∈ filC most (words s) [] := List.mem_of_getElem? hc
    have hcw := chunk_wd most s c hm'
    refine ⟨tr_jn hcw, fun hl => ?_, fun hi => ?_⟩
    · rw [wds_jn hcw]
      have := filC_short most (words s) [] (fun w h => by simp at h) (words_wd s) (Or.inr (by simp)) c hm'
      have hn : c ≠ [] := fun e => by rw [e, jn_nil] at hl; simp at hl; omega
      have := List.length_pos_iff.2 hn
      omega
    · obtain ⟨j, rfl⟩ : ∃ j, i = j + 1 := ⟨i - 1, by omega⟩
      have hj : j < (filC most (words s) []).length := by have := (List.getElem?_eq_some_iff.1 hc).1; omega
      obtain ⟨w, ws, e1, e2⟩ := adj_at most _ j _ c (filC_adj most (words s) []) (List.getElem?_eq_getElem hj) hc
      refine ⟨_, w, ws, by rw [Nat.add_sub_cancel, List.getElem?_map, List.getElem?_eq_getElem hj]; rfl, by rw [wds_jn hcw, e1], e2⟩
/-- lines with a blank between -/
def jl : List B → B
  | [] => []
  | x :: ls => x ++ spw ls
theorem jl_take {ls : List B} {i : Nat} {x : B} (h : ls[i]? = some x) : jl (ls.take (i + 1)) = (if 0 < i then jl (ls.take i) ++ [32] else jl (ls.take i)) ++ x := by
  cases ls with
  | nil => simp at h
  | cons a ls =>
    cases i with
    | zero => simp at h; subst h; simp [jl, spw]
    | succ i =>
      simp only [List.getElem?_cons_succ] at h
      rw [if_pos (by omega), List.take_succ_cons, List.take_succ_cons, jl, jl, List.take_add_one, h, spw_app]
      simp [spw]
theorem spw_flat : ∀ (cs : List (List B)), (∀ c ∈ cs, c ≠ [] ∧ WdP c) → spw cs.flatten = spw (cs.map jn)
  | [], _ => rfl
  | c :: cs, h => by
    obtain ⟨h1, h2⟩ := h c (by simp)
    rw [List.flatten_cons, spw_app, List.map_cons, spw_cons, spw_flat cs (fun x hx => h x (by simp [hx]))]
    congr 1
    cases c with
    | nil => exact absurd rfl h1
    | cons w ws => rw [spw_cons, jn_cons _ (h2 w (by simp)).1]; rfl
theorem jl_all (most : Int) (s : B) : jl (fil most (wds s) []) = tr s := by
  rw [fil_one, tr_words]
  have hf := filC_flat most (words s) []
  rw [List.nil_append] at hf
  have hw := chunk_wd most s
  by_cases e : words s = []
  · rw [e]; rfl
  · have hne := filC_ne most (words s) [] (by simpa using e)
    conv => rhs; rw [← hf]
    generalize filC most (words s) [] = L at *
    cases L with
    | nil => rw [List.flatten_nil] at hf; exact absurd hf.symm e
    | cons c cs =>
      have h1 := hw c (by simp)
      have h2 := hne c (by simp)
      rw [List.map_cons, jl, List.flatten_cons, jn_app _ h1 h2, spw_flat cs (fun x hx => ⟨hne x (by simp [hx]), hw x (by simp [hx])⟩)]
theorem fil_ne (most : Int) (s : B) : fil most (wds s) [] ≠ [] := by
  rw [fil_one]
  obtain ⟨x, r, h⟩ := filC_head most (words s) []
  rw [h]; simp
theorem fil_len (most : Int) : ∀ (ws : List B) (made : B), (fil most ws made).length ≤ ws.length + 1
  | [], made => by simp [fil]
  | w :: ws, made => by
    rw [fil]
    split
    · have := fil_len most ws w; simp only [List.length_cons]; omega
    · have := fil_len most ws (if made = [] then w else made ++ [32] ++ w); simp only [List.length_cons]; omega
end Go.Proofs.YtpkbcomdkamglaaDoor.Pl
