/- Plain mathematics of the laws of package plain: texts without marks; lines of a plain text; a mark between two texts. -/
import Derived.Test.YtpkbcomdkamglaaDoorPlAw
set_option linter.unusedSimpArgs false
set_option linter.unusedVariables false
namespace Go.Proofs.YtpkbcomdkamglaaDoor.Pl
open En
theorem of_plain {l : B} (h60 : (60 : UInt8) ∉ l) (h38 : (38 : UInt8) ∉ l) : ofP l = tr l := by
  have hp : pcs l = [l] := by
    unfold pcs
    rw [pc_fm, fm_pl h60]; rfl
  unfold ofP
  rw [hp]
  show addL [] (lin l) = tr l
  have : lin l = tr l := by unfold lin; rw [gone_plain h38]
  rw [this]
  unfold addL
  split
  · rename_i h; rw [h]
  · rfl
theorem of_len (l : B) (hl : l.length ≤ 1000) : (ofP l).length ≤ 2003001 := by
  have h1 := fold_len 2000 ((pcs l).map lin) [] (fun t ht => by
    rw [List.mem_map] at ht
    obtain ⟨p, hp, rfl⟩ := ht
    have := pcs_mem l p hp
    have := lin_len p
    omega)
  have h2 := pcs_len l
  rw [List.length_map, List.length_nil, Nat.zero_add] at h1
  have h3 : (pcs l).length * (2000 + 1) ≤ 1001 * (2000 + 1) := Nat.mul_le_mul_right _ (by omega)
  exact Nat.le_trans h1 (Nat.le_trans h3 (by decide))
/-! lines -/
def badB (p c : UInt8) : Bool := (c == 10 && p == 10) || (c == 32 && (p == 32 || p == 10)) || (c == 10 && p == 32) || c == 9 || c == 13
/-- none is out of order, from one sign on -/
def okF : UInt8 → B → Bool
  | _, [] => true
  | p, c :: r => !badB p c && okF c r
theorem spB_no {c : UInt8} (h : spB c = false) : c ≠ 9 ∧ c ≠ 10 ∧ c ≠ 13 ∧ c ≠ 32 := by
  refine ⟨?_, ?_, ?_, ?_⟩ <;> (intro e; subst e; revert h; decide)
theorem bad_no {p c : UInt8} (h : spB c = false) : badB p c = false := by
  obtain ⟨h1, h2, h3, h4⟩ := spB_no h
  simp [badB, h1, h2, h3, h4]
theorem bad_sp {p : UInt8} (h : spB p = false) : badB p 32 = false := by
  obtain ⟨h1, h2, h3, h4⟩ := spB_no h
  simp [badB, h2, h4]
theorem bad_nl {p : UInt8} (h : spB p = false) : badB p 10 = false := by
  obtain ⟨h1, h2, h3, h4⟩ := spB_no h
  simp [badB, h2, h4]
/-- a line's last sign -/
def lastB (p : UInt8) : B → UInt8
  | [] => p
  | c :: r => lastB c r
theorem ok_line : ∀ (x : B) (p : UInt8) (q : Bool) (r : B), nb q x = true → (q = true → spB p = false) → okF p (x ++ r) = okF (lastB p x) r ∧ (x ≠ [] → spB (lastB p x) = false)
  | [], p, q, r, _, _ => ⟨rfl, fun h => absurd rfl h⟩
  | c :: x, p, q, r, h, hq => by
    rw [nb] at h
    rw [List.cons_append, okF, lastB]
    by_cases hc : spB c = true
    · rw [if_pos hc] at h
      simp only [Bool.and_eq_true, beq_iff_eq] at h
      obtain ⟨⟨⟨h1, h2⟩, h3⟩, h4⟩ := h
      subst h1
      cases x with
      | nil => cases h3
      | cons d x =>
        have hd : spB d = false := by simpa [hdN] using h3
        have h5 := ok_line (d :: x) 32 false r h4 (fun e => by cases e)
        exact ⟨by rw [bad_sp (hq h2), h5.1]; rfl, fun _ => h5.2 (by simp)⟩
    · have hc' : spB c = false := by simpa using hc
      rw [if_neg hc] at h
      have h5 := ok_line x c true r h (fun _ => hc')
      refine ⟨by rw [bad_no hc', h5.1]; rfl, fun _ => ?_⟩
      cases x with
      | nil => exact hc'
      | cons d x => exact h5.2 (by simp)
theorem ok_fold : ∀ (ts : List B) (p : UInt8), spB p = false → (∀ t ∈ ts, t ≠ [] ∧ nb false t = true) → okF p (ts.map fun t => 10 :: t).flatten = true ∧ spB (lastB p (ts.map fun t => 10 :: t).flatten) = false
  | [], p, hp, _ => ⟨rfl, hp⟩
  | t :: ts, p, hp, h => by
    obtain ⟨h1, h2⟩ := h t (by simp)
    have h3 := ok_line t 10 false (ts.map fun t => 10 :: t).flatten h2 (fun e => by cases e)
    have h4 := ok_fold ts (lastB 10 t) (h3.2 h1) (fun x hx => h x (by simp [hx]))
    have hl : ∀ (a : B) (p : UInt8) (b : B), lastB p (a ++ b) = lastB (lastB p a) b := by
      intro a
      induction a with
      | nil => intro p b; rfl
      | cons c a ih => intro p b; exact ih c b
    rw [List.map_cons, List.flatten_cons, List.cons_append, okF, bad_nl hp, h3.1, h4.1]
    refine ⟨rfl, ?_⟩
    rw [lastB, hl]; exact h4.2
theorem lastB_app : ∀ (a : B) (p : UInt8) (b : B), lastB p (a ++ b) = lastB (lastB p a) b
  | [], _, _ => rfl
  | c :: a, _, b => lastB_app a c b
/-- a plain text's signs are in order -/
theorem of_ok (l : B) : okF 10 (ofP l) = true ∧ (ofP l ≠ [] → spB (lastB 10 (ofP l)) = false) := by
  rw [ofP_nel]
  have hall : ∀ t ∈ nel ((pcs l).map lin), t ≠ [] ∧ nb false t = true := fun t ht => by
    refine ⟨nel_ne t ht, ?_⟩
    have := (List.mem_filter.1 ht).1
    rw [List.mem_map] at this
    obtain ⟨p, _, rfl⟩ := this
    exact nb_trF _ _ _ (fun q => q)
  generalize nel ((pcs l).map lin) = ts at *
  cases ts with
  | nil => exact ⟨rfl, fun h => absurd rfl h⟩
  | cons x ts =>
    obtain ⟨h1, h2⟩ := hall x (by simp)
    rw [List.foldl_cons, show addL [] x = x by unfold addL; rw [if_neg h1, if_pos rfl], join_fold ts x h1 (fun t ht => (hall t (by simp [ht])).1)]
    have h3 := ok_line x 10 false (ts.map fun t => 10 :: t).flatten h2 (fun e => by cases e)
    have h4 := ok_fold ts (lastB 10 x) (h3.2 h1) (fun t ht => hall t (by simp [ht]))
    rw [lastB_app]
    exact ⟨by rw [h3.1]; exact h4.1, fun _ => h4.2⟩
theorem okF_drop {l : B} {i : Nat} {c p : UInt8} (h : l[i]? = some c) : okF p (l.drop i) = (!badB p c && okF c (l.drop (i + 1))) := by
  obtain ⟨hi, rfl⟩ := List.getElem?_eq_some_iff.1 h
  rw [List.drop_eq_getElem_cons hi, okF]
theorem lastB_drop {l : B} {i : Nat} {c p : UInt8} (h : l[i]? = some c) : lastB p (l.drop i) = lastB c (l.drop (i + 1)) := by
  obtain ⟨hi, rfl⟩ := List.getElem?_eq_some_iff.1 h
  rw [List.drop_eq_getElem_cons hi, lastB]
/-! marks -/
def ltP (l : B) : Prop := ∀ c ∈ l, 97 ≤ c.toNat ∧ c.toNat ≤ 122
theorem ltP_no {l : B} (h : ltP l) : (60 : UInt8) ∉ l ∧ (38 : UInt8) ∉ l ∧ ∀ c ∈ l, spB c = false := by
  refine ⟨fun e => ?_, fun e => ?_, fun c hc => ?_⟩
  · have := (h 60 e).1; revert this; decide
  · have := (h 38 e).1; revert this; decide
  · have := (h c hc)
    unfold spB
    simp only [Bool.or_eq_false_iff, beq_eq_false_iff_ne]
    omega
theorem lin_lt {l : B} (h : ltP l) : lin l = l := by
  obtain ⟨h1, h2, h3⟩ := ltP_no h
  unfold lin
  rw [gone_plain h2]
  cases l with
  | nil => rfl
  | cons c l =>
    unfold tr
    have := trF_pl (c :: l) false [] (by simp) h3
    rw [List.append_nil] at this
    rw [this]; simp [trF]
theorem pc_letters : ∀ (a cur r : B), ltP a → pc cur (a ++ r) = pc (cur ++ a) r
  | [], cur, r, _ => by simp
  | c :: a, cur, r, h => by
    have hc : isM c (a ++ r) = false := by
      unfold isM
      rw [beq_eq_false_iff_ne.2 (fun e => by have := (h c (by simp)).1; rw [e] at this; revert this; decide), Bool.false_and]
    rw [List.cons_append, pc_other cur hc, pc_letters a (cur ++ [c]) r (fun x hx => h x (by simp [hx]))]
    simp
theorem pc_last (cur b : B) (h : ltP b) : pc cur b = [cur ++ b] := by
  have := pc_letters b cur [] h
  rw [List.append_nil] at this
  rw [this, pc_nil]
/-- a mark that does not break joins, one that breaks has two lines -/
theorem of_mark (a b m : B) (ha : ltP a) (hb : ltP b) (ha0 : a ≠ []) (hb0 : b ≠ []) (ho : opn (m ++ b) = true) (hr : rst (m ++ b) = b) : ofP (a ++ 60 :: (m ++ b)) = if brk (nam (m ++ b)) = true then a ++ 10 :: b else a ++ b := by
  have h1 : pcs (a ++ 60 :: (m ++ b)) = if brk (nam (m ++ b)) = true then [a, b] else [a ++ b] := by
    unfold pcs
    rw [pc_letters a [] _ ha, List.nil_append, pc_mark _ _ ho, hr]
    split
    · rw [pc_last [] b hb]; rfl
    · rw [pc_last a b hb]
  unfold ofP
  rw [h1]
  split
  · show addL (addL [] (lin a)) (lin b) = _
    rw [lin_lt ha, lin_lt hb]
    unfold addL
    rw [if_neg hb0, if_neg ha0, if_pos rfl, if_neg ha0]
    simp
  · have hab : ltP (a ++ b) := fun c hc => by
      rcases List.mem_append.1 hc with q | q
      · exact ha c q
      · exact hb c q
    show addL [] (lin (a ++ b)) = _
    rw [lin_lt hab]
    unfold addL
    rw [if_neg (by simp [ha0]), if_pos rfl]
end Go.Proofs.YtpkbcomdkamglaaDoor.Pl
