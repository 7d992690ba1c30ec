/- Plain mathematics of documents, in the words of the program's reader: what it takes, and when it stops. -/
import Derived.Test.YtknggeplnffegaaGreatDoorXmX
import Derived.Test.YtknggeplnffegaaGreatDoorShelf
import Derived.Lib.IndexLaws
import Derived.Lib.IndexMore
set_option linter.unusedVariables false
namespace Go.Proofs.YtknggeplnffegaaGreatDoor.Xm
open En
theorem index_upt {p : B} (hp : p ≠ []) : ∀ (r : B), (upt p r = none ∧ Lib.index r p = -1) ∨ ∃ a u, upt p r = some (a, u) ∧ Lib.index r p = a.length ∧ r = a ++ p ++ u
  | [] => by
    left
    refine ⟨by rw [upt, if_neg hp], ?_⟩
    unfold Lib.index
    rw [if_neg (by simpa using hp)]
  | c :: r => by
    rw [upt]
    unfold Lib.index
    by_cases q : p.isPrefixOf (c :: r) = true
    · rw [if_pos q, if_pos q]
      right
      refine ⟨[], (c :: r).drop p.length, rfl, rfl, ?_⟩
      obtain ⟨t, ht⟩ := List.isPrefixOf_iff_prefix.1 q
      rw [← ht]; simp
    · rw [if_neg q, if_neg q]
      rcases index_upt hp r with ⟨h1, h2⟩ | ⟨a, u, h1, h2, h3⟩
      · left
        rw [h1, h2]
        exact ⟨rfl, rfl⟩
      · right
        rw [h1, h2]
        refine ⟨c :: a, u, rfl, ?_, by rw [h3]; simp⟩
        rw [if_neg (by simp)]
        simp
theorem cut_upt {p : B} (hp : p ≠ []) (r : B) : Lib.cut r p = match upt p r with
    | none => (r, [], false)
    | some (a, u) => (a, u, true) := by
  unfold Lib.cut
  rcases index_upt hp r with ⟨h1, h2⟩ | ⟨a, u, h1, h2, h3⟩
  · rw [h1, h2]; rfl
  · rw [h1, h2, if_pos (by omega)]
    simp only [Int.toNat_natCast]
    have e1 : r.take a.length = a := by rw [h3]; simp
    have e2 : r.drop (a.length + p.length) = u := by
      rw [h3, ← List.length_append, List.drop_left']
      simp
    rw [e1, e2]
theorem ixb_while (c : UInt8) : ∀ (r : B), (Lib.indexByte r c = -1 ∧ r.takeWhile (· != c) = r ∧ c ∉ r) ∨ (Lib.indexByte r c = ((r.takeWhile (· != c)).length : Int) ∧ (r.takeWhile (· != c)).length < r.length ∧ c ∈ r)
  | [] => Or.inl ⟨rfl, rfl, by simp⟩
  | b :: r => by
    unfold Lib.indexByte
    rw [List.takeWhile_cons]
    by_cases q : b = c
    · subst q
      right
      simp
    · have hb : (b == c) = false := by simpa using q
      have hb2 : (b != c) = true := by simpa using q
      rw [hb, hb2]
      have hcb : ¬ c = b := fun e => q e.symm
      rcases ixb_while c r with ⟨h1, h2, h3⟩ | ⟨h1, h2, h3⟩
      · left
        rw [h1]
        simp [h2, h3, hcb]
      · right
        rw [h1]
        refine ⟨?_, by simp; omega, by simp [h3]⟩
        rw [if_neg (by decide), if_neg (by simp)]
        simp
theorem take_while_len (p : UInt8 → Bool) (r : B) : r.take (r.takeWhile p).length = r.takeWhile p ∧ r.drop (r.takeWhile p).length = r.dropWhile p := by
  have h : r.takeWhile p ++ r.dropWhile p = r := List.takeWhile_append_dropWhile
  generalize r.takeWhile p = a at *
  generalize r.dropWhile p = b at *
  subst h
  simp
/-- does a sign stand first that may end a tag? -/
def mEnd : B → Bool
  | 62 :: _ => true
  | 47 :: _ => true
  | _ => false
theorem pEnd_eq (r : B) : mEnd r = (([47] : B).isPrefixOf r || ([62] : B).isPrefixOf r) := by
  cases r with
  | nil => rfl
  | cons c r =>
    by_cases h1 : c = 62
    · subst h1; rfl
    · by_cases h2 : c = 47
      · subst h2; rfl
      · have g1 : ((47 : UInt8) == c) = false := by simpa using fun e => h2 e.symm
        have g2 : ((62 : UInt8) == c) = false := by simpa using fun e => h1 e.symm
        have : mEnd (c :: r) = false := by
          unfold mEnd
          split
          · rename_i e; cases e; exact absurd rfl h1
          · rename_i e; cases e; exact absurd rfl h2
          · rfl
        rw [this]
        simp [List.isPrefixOf, g1, g2]
/-- attributes, as the program takes them: without a blank ahead, or where a tag may end, no more -/
def patrs : Nat → B → List Atr → Option (List Atr × B)
  | 0, _, _ => none
  | f + 1, r, acc =>
    if (skip r).length = r.length ∨ mEnd (skip r) = true then some (acc, skip r)
    else match atr (skip r) with
      | none => none
      | some (a, u) => if (acc.map (·.1)).contains a.1 = true then none else patrs f u (acc ++ [a])
theorem atr_mEnd {r : B} (h : mEnd r = true) : atr r = none := by
  have e : nmS r = ([], r) := by
    unfold mEnd at h
    split at h
    · rfl
    · rfl
    · cases h
  unfold atr
  rw [e, if_neg (by simp [isN])]
theorem tagEnd_mEnd {r : B} (h : tagEnd r = true) : mEnd r = true := by
  unfold tagEnd at h
  split at h
  · rfl
  · rfl
  · cases h
theorem atr_nil : atr [] = none := rfl
theorem patrs_atrs : ∀ (f : Nat) (r : B) (acc : List Atr), r.length < f → atrs f r acc = match patrs f r acc with
    | none => none
    | some (al, u) => if tagEnd u = true then some (al, u) else none
  | 0, r, acc, h => by omega
  | f + 1, r, acc, h => by
    rw [atrs, patrs]
    by_cases q : tagEnd (skip r) = true
    · rw [if_pos q, if_pos (Or.inr (tagEnd_mEnd q))]
      simp only
      rw [if_pos q]
    · rw [if_neg q]
      by_cases q1 : (skip r).length = r.length
      · rw [if_pos (Or.inl q1), if_pos (Or.inl q1)]
        simp only
        rw [if_neg q]
      · by_cases q2 : mEnd (skip r) = true
        · rw [if_pos (show (skip r).length = r.length ∨ mEnd (skip r) = true from Or.inr q2), atr_mEnd q2]
          simp only
          rw [if_neg q]
          split <;> rfl
        · rw [if_neg (show ¬ ((skip r).length = r.length ∨ mEnd (skip r) = true) by simp [q1, q2])]
          by_cases q3 : skip r = []
          · rw [if_pos (Or.inr q3), q3, atr_nil]
          · rw [if_neg (by simp [q1, q3])]
            cases ha : atr (skip r) with
            | none => rfl
            | some x =>
              obtain ⟨a, u⟩ := x
              simp only
              split
              · rfl
              · have h1 := atr_len ha
                have h2 := skip_len r
                exact patrs_atrs f u _ (by omega)
theorem patrs_more : ∀ (f g : Nat) (r : B) (acc : List Atr), r.length < f → f ≤ g → patrs g r acc = patrs f r acc
  | 0, _, _, _, h, _ => by omega
  | f + 1, 0, _, _, _, h => by omega
  | f + 1, g + 1, r, acc, h, hg => by
    rw [patrs, patrs]
    split
    · rfl
    · cases ha : atr (skip r) with
      | none => rfl
      | some x =>
        obtain ⟨a, u⟩ := x
        simp only
        split
        · rfl
        · have h1 := atr_len ha
          have h2 := skip_len r
          exact patrs_more f g u _ (by omega) (by omega)
/-- an element's beginning, behind its first sign, in the program's words -/
def popenS (r : B) (s : St) : Re :=
  if isN (nmS r).1 = true then
    match patrs ((nmS r).2.length + 1) (nmS r).2 [] with
    | none => .er 2
    | some (al, u) =>
      if ([62] : B).isPrefixOf (if ([47] : B).isPrefixOf u = true then u.drop 1 else u) = true then
        if s.o = [] ∧ 1 ≤ s.n then .er 2
        else if 20 < s.o.length + 1 then .er 5
        else
          let s' : St := ⟨(if ([47] : B).isPrefixOf u = true then u.drop 1 else u).drop 1, s.o ++ [(nmS r).1], if s.o = [] then s.n + 1 else s.n, s.l ++ [tO (nmS r).1 al]⟩
          if ([47] : B).isPrefixOf u = true then shut (nmS r).1 s'.r s' else .ok s'
      else .er 2
  else .er 2
theorem pfx1 {q c : UInt8} {y : B} : ([q] : B).isPrefixOf (c :: y) = (q == c) := by simp [List.isPrefixOf]
theorem open_popen (s : St) : openS s = popenS (s.r.drop 1) s := by
  unfold openS popenS
  simp only
  by_cases hn : isN (nmS (s.r.drop 1)).1 = true
  · rw [if_pos hn, if_pos hn, patrs_atrs _ _ _ (Nat.lt_succ_self _)]
    cases hp : patrs ((nmS (s.r.drop 1)).2.length + 1) (nmS (s.r.drop 1)).2 [] with
    | none => rfl
    | some x =>
      obtain ⟨al, u⟩ := x
      simp only
      match u with
      | [] => rfl
      | [c] =>
        by_cases h1 : c = 62
        · subst h1; rfl
        · have ht : tagEnd [c] = false := by
            unfold tagEnd; split
            · rename_i e; cases e; exact absurd rfl h1
            · rename_i e; cases e
            · rfl
          have g1 : ((62 : UInt8) == c) = false := by simpa using fun e => h1 e.symm
          rw [ht, if_neg (by decide)]
          by_cases h2 : c = 47
          · subst h2; rfl
          · have g2 : ((47 : UInt8) == c) = false := by simpa using fun e => h2 e.symm
            simp [List.isPrefixOf, g1, g2]
      | c :: d :: v =>
        by_cases h1 : c = 62
        · subst h1; rfl
        · have g1 : ((62 : UInt8) == c) = false := by simpa using fun e => h1 e.symm
          by_cases h2 : c = 47
          · subst h2
            by_cases h3 : d = 62
            · subst h3; rfl
            · have g3 : ((62 : UInt8) == d) = false := by simpa using fun e => h3 e.symm
              have ht : tagEnd (47 :: d :: v) = false := by
                unfold tagEnd; split
                · rename_i e; cases e
                · rename_i e; cases e; exact absurd rfl h3
                · rfl
              rw [ht, if_neg (by decide)]
              simp [List.isPrefixOf, g3]
          · have g2 : ((47 : UInt8) == c) = false := by simpa using fun e => h2 e.symm
            have ht : tagEnd (c :: d :: v) = false := by
              unfold tagEnd; split
              · rename_i e; cases e; exact absurd rfl h1
              · rename_i e; cases e; exact absurd rfl h2
              · rfl
            rw [ht, if_neg (by decide)]
            simp [List.isPrefixOf, g1, g2]
  · rw [if_neg hn, if_neg hn]
end Go.Proofs.YtknggeplnffegaaGreatDoor.Xm
