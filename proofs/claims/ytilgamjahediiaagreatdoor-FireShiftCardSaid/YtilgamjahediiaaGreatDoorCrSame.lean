/- Plain mathematics: a piece read sign by sign is the piece that its parts tell. -/
import Derived.Test.YtilgamjahediiaaGreatDoorCrSort
set_option linter.unusedVariables false
namespace Go.Proofs.YtilgamjahediiaaGreatDoor.Crn
/-- a whole number of a field -/
def tok (f : Nat) (l : List UInt8) : Option Int :=
  match digs l with
  | some n => if lo f ≤ n ∧ n ≤ wr f then some n else none
  | none => if l.length = 3 then nm f l else none
theorem fnd_mem : ∀ (N t : List UInt8) (i : Int) {n : Int}, fnd N t i = some n → ∀ x ∈ t, x ∈ N
  | a :: b :: c :: r, t, i, n, h, x, hx => by
    rw [fnd] at h
    split at h
    · rename_i he; subst he; simp at hx ⊢; rcases hx with rfl | rfl | rfl <;> simp
    · have := fnd_mem r t (i + 1) h x hx; simp [this]
  | [], _, _, _, h, _, _ => by simp [fnd] at h
  | [_], _, _, _, h, _, _ => by simp [fnd] at h
  | [_, _], _, _, _, h, _, _ => by simp [fnd] at h
theorem nms_low (f : Nat) : ∀ x ∈ nms f, 97 ≤ x.toNat := by
  unfold nms; split
  · decide
  · decide
  · simp
theorem nm_letters {f : Nat} {t : List UInt8} {n : Int} (h : nm f t = some n) : ∀ b ∈ t, 65 ≤ b.toNat := by
  intro b hb
  have h1 := nms_low f _ (fnd_mem _ _ _ h (Lib.lowerB b) (List.mem_map_of_mem hb))
  unfold Lib.lowerB at h1
  split at h1
  · rename_i h2
    unfold Lib.isUpperB at h2
    simp at h2
    have := h2.1
    rw [UInt8.le_iff_toNat_le] at this
    exact this
  · omega
theorem digs_some {t : List UInt8} {n : Int} (h : digs t = some n) : (∃ a, t = [a] ∧ isD a = true ∧ n = dv a) ∨ (∃ a b, t = [a, b] ∧ isD a = true ∧ isD b = true ∧ n = dv a * 10 + dv b) := by
  rcases t with _ | ⟨a, _ | ⟨b, _ | ⟨c, r⟩⟩⟩
  · cases h
  · rw [digs] at h
    split at h
    · rename_i ha; cases h; exact Or.inl ⟨a, rfl, ha, rfl⟩
    · cases h
  · rw [digs] at h
    split at h
    · rename_i ha; cases h; exact Or.inr ⟨a, b, rfl, ha.1, ha.2, by omega⟩
    · cases h
  · cases h
theorem isD_ne {b : UInt8} (h : isD b = true) : 48 ≤ b.toNat ∧ b.toNat ≤ 57 := by unfold isD at h; simpa using h
theorem tok_no {f : Nat} {t : List UInt8} {n : Int} (h : tok f t = some n) : t ≠ [] ∧ ∀ b ∈ t, 48 ≤ b.toNat := by
  unfold tok at h
  cases hd : digs t with
  | some m =>
    rcases digs_some hd with ⟨a, rfl, ha, _⟩ | ⟨a, b, rfl, ha, hb, _⟩
    · exact ⟨by simp, by intro x hx; simp at hx; subst hx; exact (isD_ne ha).1⟩
    · exact ⟨by simp, by intro x hx; simp at hx; rcases hx with rfl | rfl <;> first | exact (isD_ne ha).1 | exact (isD_ne hb).1⟩
  | none =>
    rw [hd] at h
    simp only at h
    split at h
    · rename_i h3
      exact ⟨by intro e; subst e; simp at h3, fun b hb => by have := nm_letters h b hb; omega⟩
    · cases h
theorem tok_ge {f : Nat} {t : List UInt8} {n : Int} (h : tok f t = some n) : lo f ≤ n ∧ n ≤ wr f := by
  unfold tok at h
  cases hd : digs t with
  | some m =>
    rw [hd] at h
    simp only at h
    split at h
    · cases h; assumption
    · cases h
  | none =>
    rw [hd] at h
    simp only at h
    split at h
    · have := nm_bd h; have := wr_bd f; omega
    · cases h
theorem rDig_some {l r : List UInt8} {n : Int} (h : rDig l = some (n, r)) : ∃ t, l = t ++ r ∧ digs t = some n := by
  rcases l with _ | ⟨a, _ | ⟨b, l⟩⟩
  · cases h
  · rw [rDig] at h
    split at h
    · rename_i ha; cases h; exact ⟨[a], rfl, by rw [digs, if_pos ha]⟩
    · cases h
  · rw [rDig] at h
    split at h
    · rename_i ha
      split at h
      · rename_i hb; cases h; exact ⟨[a, b], rfl, by rw [digs, if_pos ⟨ha, hb⟩]; congr 1; omega⟩
      · cases h; exact ⟨[a], rfl, by rw [digs, if_pos ha]⟩
    · cases h
theorem digs_rDig {t r : List UInt8} {n : Int} (h : digs t = some n) (hr : ∀ b, r.head? = some b → isD b = false) : rDig (t ++ r) = some (n, r) := by
  rcases digs_some h with ⟨a, rfl, ha, rfl⟩ | ⟨a, b, rfl, ha, hb, rfl⟩
  · cases r with
    | nil => show rDig [a] = _; rw [rDig, if_pos ha]
    | cons b r => show rDig (a :: b :: r) = _; rw [rDig, if_pos ha, if_neg (by rw [hr b rfl]; decide)]
  · show rDig (a :: b :: r) = _
    rw [rDig, if_pos ha, if_pos hb]
theorem rNum_tok {f : Nat} {l r : List UInt8} {n : Int} (h : rNum f l = some (n, r)) : ∃ t, l = t ++ r ∧ tok f t = some n := by
  unfold rNum at h
  cases h1 : rName f l with
  | some p =>
    rw [h1] at h
    cases h
    unfold rName at h1
    split at h1
    · cases h1
    · rename_i h3
      cases h2 : nm f (l.take 3) with
      | none => rw [h2] at h1; cases h1
      | some m =>
        rw [h2] at h1
        cases h1
        refine ⟨l.take 3, (List.take_append_drop 3 l).symm, ?_⟩
        have hl : (l.take 3).length = 3 := by simp; omega
        unfold tok
        cases hd : digs (l.take 3) with
        | some k =>
          rcases digs_some hd with ⟨a, e, _⟩ | ⟨a, b, e, _⟩ <;> (rw [e] at hl; simp at hl)
        | none => simp only; rw [if_pos hl, h2]
  | none =>
    rw [h1] at h
    cases h2 : rDig l with
    | none => rw [h2] at h; cases h
    | some p =>
      rw [h2] at h
      simp only [Option.bind_some] at h
      split at h
      · rename_i hb
        cases h
        obtain ⟨t, e, hd⟩ := rDig_some h2
        exact ⟨t, e, by rw [tok, hd]; simp only; rw [if_pos hb]⟩
      · cases h
theorem rName_digit {f : Nat} {a : UInt8} {l : List UInt8} (h : a.toNat < 65) : rName f (a :: l) = none := by
  unfold rName
  split
  · rfl
  · cases hn : nm f ((a :: l).take 3) with
    | none => rfl
    | some m =>
      have := nm_letters hn a (by simp)
      omega
theorem tok_rNum {f : Nat} {t r : List UInt8} {n : Int} (h : tok f t = some n) (hr : ∀ b, r.head? = some b → isD b = false) : rNum f (t ++ r) = some (n, r) := by
  unfold tok at h
  cases hd : digs t with
  | some m =>
    rw [hd] at h
    simp only at h
    split at h
    · rename_i hb
      cases h
      have h0 : rName f (t ++ r) = none := by
        rcases digs_some hd with ⟨a, rfl, ha, _⟩ | ⟨a, b, rfl, ha, _, _⟩
        · exact rName_digit (by have := isD_ne ha; omega)
        · exact rName_digit (by have := isD_ne ha; omega)
      rw [rNum, h0]
      simp only
      rw [digs_rDig hd hr, Option.bind_some, if_pos hb]
    · cases h
  | none =>
    rw [hd] at h
    simp only at h
    split at h
    · rename_i h3
      have e1 : (t ++ r).take 3 = t := by rw [← h3]; simp
      have e2 : (t ++ r).drop 3 = r := by rw [← h3]; simp
      rw [rNum, rName, if_neg (by simp; omega), e1, e2, h]
      rfl
    · cases h
theorem rNum_no {f : Nat} {a : UInt8} {l : List UInt8} (h : a.toNat < 48) : rNum f (a :: l) = none := by
  cases hn : rNum f (a :: l) with
  | none => rfl
  | some p =>
    obtain ⟨t, e, ht⟩ := rNum_tok (n := p.1) (r := p.2) hn
    obtain ⟨h1, h2⟩ := tok_no ht
    cases t with
    | nil => exact absurd rfl h1
    | cons b t => injection e with e1 e2; subst e1; have := h2 a (by simp); omega
/-- of a text with a byte that no number has: where its first number ends -/
theorem rNum_cut {f : Nat} {c : UInt8} {x y : List UInt8} (hc : c.toNat < 48) (hx : c ∉ x) : (∃ n, tok f x = some n ∧ rNum f (x ++ c :: y) = some (n, c :: y)) ∨
    (tok f x = none ∧ ∀ n r, rNum f (x ++ c :: y) = some (n, r) → ∃ x2, x2 ≠ [] ∧ r = x2 ++ c :: y ∧ ∀ b ∈ x2, b ∈ x) := by
  cases ht : tok f x with
  | some n => exact Or.inl ⟨n, rfl, tok_rNum ht (fun b hb => by simp at hb; subst hb; unfold isD; simp; omega)⟩
  | none =>
    refine Or.inr ⟨rfl, fun n r hr => ?_⟩
    obtain ⟨t, e, h1⟩ := rNum_tok hr
    obtain ⟨_, h2⟩ := tok_no h1
    have hct : c ∉ t := fun hm => by have := h2 c hm; omega
    rcases List.append_eq_append_iff.1 e with ⟨a, e1, e2⟩ | ⟨a, e1, e2⟩
    · cases a with
      | nil => simp at e1 e2; subst e1; rw [h1] at ht; cases ht
      | cons b a => simp at e2; exact absurd (by rw [e1]; simp [← e2.1]) hct
    · cases a with
      | nil => simp at e1 e2; subst e1; rw [h1] at ht; cases ht
      | cons b a => exact ⟨b :: a, by simp, e2, fun z hz => by rw [e1]; simp at hz ⊢; exact Or.inr hz⟩
theorem rNum_end {f : Nat} {x : List UInt8} : (∃ n, tok f x = some n ∧ rNum f x = some (n, [])) ∨ (tok f x = none ∧ ∀ n r, rNum f x = some (n, r) → r ≠ [] ∧ ∀ b ∈ r, b ∈ x) := by
  cases ht : tok f x with
  | some n => exact Or.inl ⟨n, rfl, by have := tok_rNum (r := []) ht (by simp); simpa using this⟩
  | none =>
    refine Or.inr ⟨rfl, fun n r hr => ?_⟩
    obtain ⟨t, e, h1⟩ := rNum_tok hr
    refine ⟨fun h => ?_, fun b hb => by rw [e]; simp [hb]⟩
    subst h; simp at e; subst e; rw [h1] at ht; cases ht
theorem rDig_end {z : List UInt8} : (∃ n, digs z = some n ∧ rDig z = some (n, [])) ∨ (digs z = none ∧ ∀ n r, rDig z = some (n, r) → r ≠ []) := by
  cases hd : digs z with
  | some n => exact Or.inl ⟨n, rfl, by have := digs_rDig (r := []) hd (by simp); simpa using this⟩
  | none =>
    refine Or.inr ⟨rfl, fun n r hr h => ?_⟩
    obtain ⟨t, e, h1⟩ := rDig_some hr
    subst h; simp at e; subst e; rw [h1] at hd; cases hd
/-- a piece, by its parts -/
def rpc (f : Nat) (l : List UInt8) : Option (Int × Int × Int) :=
  let p := splt 47 l
  let s := if p.length = 2 then (digs (p.getD 1 [])).getD (-1) else 1
  if 2 < p.length then none
  else if p.getD 0 [] = [42] then (if 1 ≤ s then some (lo f, hi f, s) else none)
  else
    let q := splt 45 (p.getD 0 [])
    if 2 < q.length ∨ q.length = 1 ∧ p.length = 2 then none
    else (tok f (q.getD 0 [])).bind fun a => (tok f (q.getD (q.length - 1) [])).bind fun b => if 1 ≤ s ∧ a ≤ b then some (a, b, s) else none
theorem pc_star (f : Nat) (l : List UInt8) (h : l.head? = some 42) : pc f l = (rStep l.tail).bind fun s => if s.2 = [] then some (lo f, hi f, s.1) else none := by
  unfold pc rPiece
  rw [if_pos h]
  cases rStep l.tail with
  | none => rfl
  | some s => rfl
theorem rStep_no (l : List UInt8) (h : l.head? ≠ some 47) : rStep l = some (1, l) := by rw [rStep, if_neg h]
theorem tok_42 (f : Nat) (c : UInt8) (hc : c.toNat < 48) (l : List UInt8) : tok f (c :: l) = none := by
  cases h : tok f (c :: l) with
  | none => rfl
  | some n => have := (tok_no h).2 c (by simp); omega
theorem splt_two {c : UInt8} {x y : List UInt8} (hx : c ∉ x) : (c ∉ y → splt c (x ++ c :: y) = [x, y]) ∧ (c ∈ y → 2 < (splt c (x ++ c :: y)).length) := by
  rw [splt_app x y hx]
  refine ⟨fun hy => by rw [splt_none y hy], fun hy => ?_⟩
  rcases cut_cases c y with h | ⟨p, r, rfl, hp⟩
  · exact absurd hy h
  · rw [splt_app p r hp]
    have := splt_ne c r
    cases hs : splt c r with
    | nil => exact absurd hs this
    | cons a b => simp
theorem nothing {f : Nat} {l : List UInt8} (h : ∀ p, rPiece f l = some p → p.2 ≠ []) : pc f l = none := by
  unfold pc
  cases hp : rPiece f l with
  | none => rfl
  | some p => rw [Option.bind_some, if_neg (h p hp)]
theorem pc_num (f : Nat) (l : List UInt8) (h : l.head? ≠ some 42) : rPiece f l = (rNum f l).bind fun p => if p.2.head? = some 45 then (rNum f p.2.tail).bind fun q => if p.1 ≤ q.1 then (rStep q.2).map fun s => ((p.1, q.1, s.1), s.2) else none else some ((p.1, p.1, 1), p.2) := by
  rw [rPiece, if_neg h]
/-- behind a range's first number -/
theorem rest_eq (f : Nat) (a : Int) (v : List UInt8) (hv : (47 : UInt8) ∉ v) : ((rNum f v).bind fun q => if a ≤ q.1 then (rStep q.2).map fun s => ((a, q.1, s.1), s.2) else none).bind (fun p => if p.2 = [] then some p.1 else none)
    = (tok f v).bind fun b => if a ≤ b then some (a, b, 1) else none := by
  rcases rNum_end (f := f) (x := v) with ⟨b, h1, h2⟩ | ⟨h1, h2⟩
  · rw [h1, h2]
    simp only [Option.bind_some]
    by_cases hab : a ≤ b
    · rw [if_pos hab, if_pos hab, rStep_no [] (by simp)]; rfl
    · rw [if_neg hab, if_neg hab]; rfl
  · rw [h1]
    cases hr : rNum f v with
    | none => rfl
    | some q =>
      obtain ⟨q1, q2⟩ := h2 q.1 q.2 hr
      simp only [Option.bind_some, Option.bind_none]
      by_cases hab : a ≤ q.1
      · have hh : q.2.head? ≠ some 47 := fun e => hv (q2 47 (List.mem_of_mem_head? (by simp [e])))
        rw [if_pos hab, rStep_no _ hh]
        simp only [Option.map_some, Option.bind_some]
        rw [if_neg q1]
      · rw [if_neg hab]; rfl
theorem rest_step (f : Nat) (a : Int) (v z : List UInt8) (hv : (47 : UInt8) ∉ v) : ((rNum f (v ++ 47 :: z)).bind fun q => if a ≤ q.1 then (rStep q.2).map fun s => ((a, q.1, s.1), s.2) else none).bind (fun p => if p.2 = [] then some p.1 else none)
    = (tok f v).bind fun b => if 1 ≤ (digs z).getD (-1) ∧ a ≤ b then some (a, b, (digs z).getD (-1)) else none := by
  rcases rNum_cut (f := f) (c := 47) (x := v) (y := z) (by decide) hv with ⟨b, h1, h2⟩ | ⟨h1, h2⟩
  · rw [h1, h2]
    simp only [Option.bind_some]
    by_cases hab : a ≤ b
    · rw [if_pos hab, rStep, if_pos (show (47 :: z).head? = some 47 from rfl)]
      simp only [List.tail_cons]
      rcases rDig_end (z := z) with ⟨n, d1, d2⟩ | ⟨d1, d2⟩
      · rw [d1, d2]
        simp only [Option.bind_some, Option.getD_some]
        by_cases hn : 0 < n
        · rw [if_pos hn, if_pos (by omega)]; rfl
        · rw [if_neg hn, if_neg (by omega)]; rfl
      · rw [d1]
        cases hr : rDig z with
        | none => simp
        | some q =>
          have := d2 q.1 q.2 hr
          simp only [Option.bind_some, Option.getD_none]
          rw [if_neg (show ¬ (1 ≤ (-1 : Int) ∧ a ≤ b) by omega)]
          split
          · simp only [Option.map_some, Option.bind_some]; rw [if_neg this]
          · rfl
    · rw [if_neg hab, if_neg (by omega)]; rfl
  · rw [h1]
    cases hr : rNum f (v ++ 47 :: z) with
    | none => rfl
    | some q =>
      obtain ⟨x2, q1, q2, q3⟩ := h2 q.1 q.2 hr
      simp only [Option.bind_some, Option.bind_none]
      by_cases hab : a ≤ q.1
      · have hh : q.2.head? ≠ some 47 := fun e => by
          rw [q2] at e
          cases x2 with
          | nil => exact q1 rfl
          | cons b x2 => simp at e; subst e; exact hv (q3 47 (by simp))
        rw [if_pos hab, rStep_no _ hh]
        simp only [Option.map_some, Option.bind_some]
        rw [if_neg (by rw [q2]; simp)]
      · rw [if_neg hab]; rfl
theorem tok_45 (f : Nat) (y : List UInt8) (h : (45 : UInt8) ∈ y) : tok f y = none := by
  cases hn : tok f y with
  | none => rfl
  | some n => exact absurd ((tok_no hn).2 45 h) (by decide)
theorem pc_eq (f : Nat) (l : List UInt8) : rpc f l = pc f l := by
  rcases cut_cases 47 l with h47 | ⟨x, z, rfl, hx⟩
  · have hp : rpc f l = if l = [42] then some (lo f, hi f, 1) else (if 2 < (splt 45 l).length then none else (tok f ((splt 45 l).getD 0 [])).bind fun a => (tok f ((splt 45 l).getD ((splt 45 l).length - 1) [])).bind fun b => if a ≤ b then some (a, b, 1) else none) := by
      unfold rpc
      rw [splt_none l h47]
      simp
    rw [hp]
    by_cases hs : l = [42]
    · subst hs; rw [if_pos rfl, pc_star f _ rfl, rStep_no _ (by simp)]; rfl
    rw [if_neg hs]
    rcases cut_cases 45 l with h45 | ⟨x, y, rfl, hx⟩
    · rw [splt_none l h45]
      simp only [List.length_singleton, List.getD_cons_zero, Nat.sub_self]
      rw [if_neg (by omega)]
      by_cases h42 : l.head? = some 42
      · obtain ⟨r, rfl⟩ : ∃ r, l = 42 :: r := by
          cases l with
          | nil => cases h42
          | cons a r => injection h42 with h42; subst h42; exact ⟨r, rfl⟩
        have hr : r ≠ [] := fun e => hs (by rw [e])
        rw [tok_42 f 42 (by decide), pc_star f _ rfl, List.tail_cons, rStep_no _ (fun e => h47 (by simp [List.mem_of_mem_head? (show (47 : UInt8) ∈ r.head? by simp [e])]))]
        simp [hr]
      · unfold pc
        rw [pc_num f l h42]
        rcases rNum_end (f := f) (x := l) with ⟨b, h1, h2⟩ | ⟨h1, h2⟩
        · rw [h1, h2]; simp
        · rw [h1]
          cases hr : rNum f l with
          | none => rfl
          | some q =>
            obtain ⟨q1, q2⟩ := h2 q.1 q.2 hr
            have hh : q.2.head? ≠ some 45 := fun e => h45 (q2 45 (List.mem_of_mem_head? (by simp [e])))
            simp only [Option.bind_some, Option.bind_none]
            rw [if_neg hh, Option.bind_some, if_neg q1]
    · have hy47 : (47 : UInt8) ∉ y := fun e => h47 (by simp [e])
      have hx47 : (47 : UInt8) ∉ x := fun e => h47 (by simp [e])
      have hq : (if 2 < (splt 45 (x ++ 45 :: y)).length then none else (tok f ((splt 45 (x ++ 45 :: y)).getD 0 [])).bind fun a => (tok f ((splt 45 (x ++ 45 :: y)).getD ((splt 45 (x ++ 45 :: y)).length - 1) [])).bind fun b => if a ≤ b then some (a, b, (1 : Int)) else none) = (tok f x).bind fun a => (tok f y).bind fun b => if a ≤ b then some (a, b, 1) else none := by
        by_cases hy : (45 : UInt8) ∈ y
        · rw [if_pos ((splt_two hx).2 hy), tok_45 f y hy]; cases tok f x <;> rfl
        · rw [(splt_two hx).1 hy]; simp
      rw [hq]
      cases x with
      | nil =>
        rw [show tok f [] = none by unfold tok digs; rfl]
        symm
        apply nothing
        intro p hp
        rw [pc_num f _ (by simp)] at hp
        rw [show ([] ++ 45 :: y : List UInt8) = 45 :: y from rfl, rNum_no (by decide)] at hp
        cases hp
      | cons c x =>
        by_cases hc : c = 42
        · subst hc
          rw [tok_42 f 42 (by decide), Option.bind_none]
          rw [show (42 :: x ++ 45 :: y : List UInt8) = 42 :: (x ++ 45 :: y) from rfl, pc_star f _ rfl, List.tail_cons, rStep_no _ (fun e => by
            cases x with
            | nil => simp at e
            | cons d x => simp at e; subst e; exact hx47 (by simp))]
          simp
        · unfold pc
          rw [pc_num f _ (by simpa using hc)]
          rcases rNum_cut (f := f) (c := 45) (y := y) (by decide) hx with ⟨a, h1, h2⟩ | ⟨h1, h2⟩
          · rw [h1, h2]
            simp only [Option.bind_some, List.head?_cons, if_true, List.tail_cons]
            rw [rest_eq f a y hy47]
          · rw [h1]
            cases hr : rNum f (c :: x ++ 45 :: y) with
            | none => rfl
            | some q =>
              obtain ⟨x2, q1, q2, q3⟩ := h2 q.1 q.2 hr
              have hh : q.2.head? ≠ some 45 := fun e => by
                rw [q2] at e
                cases x2 with
                | nil => exact q1 rfl
                | cons b x2 => simp at e; subst e; exact hx (q3 45 (by simp))
              simp only [Option.bind_some, Option.bind_none]
              rw [if_neg hh, Option.bind_some, if_neg (by rw [q2]; simp)]
  · have hz : rpc f (x ++ 47 :: z) = if x = [42] then (if 1 ≤ (digs z).getD (-1) then some (lo f, hi f, (digs z).getD (-1)) else none) else (if (splt 45 x).length ≠ 2 then none else (tok f ((splt 45 x).getD 0 [])).bind fun a => (tok f ((splt 45 x).getD 1 [])).bind fun b => if 1 ≤ (digs z).getD (-1) ∧ a ≤ b then some (a, b, (digs z).getD (-1)) else none) := by
      unfold rpc
      by_cases hz : (47 : UInt8) ∈ z
      · have hd : digs z = none := by
          cases hd : digs z with
          | none => rfl
          | some n =>
            rcases digs_some hd with ⟨a, rfl, ha, _⟩ | ⟨a, b, rfl, ha, hb, _⟩
            · simp at hz; subst hz; exact absurd ha (by decide)
            · simp at hz; rcases hz with rfl | rfl
              · exact absurd ha (by decide)
              · exact absurd hb (by decide)
        simp only
        rw [if_pos ((splt_two hx).2 hz), hd]
        simp only [Option.getD_none]
        split
        · rfl
        · split
          · rfl
          · cases tok f ((splt 45 x).getD 0 []) with
            | none => rfl
            | some a =>
              cases tok f ((splt 45 x).getD 1 []) with
              | none => rfl
              | some b => simp only [Option.bind_some]; rw [if_neg (by omega)]
      · rw [(splt_two hx).1 hz]
        have hq : (splt 45 x).length ≠ 0 := fun e => splt_ne 45 x (List.length_eq_zero_iff.1 e)
        simp only [List.length_cons, List.length_nil, List.getD_cons_zero, List.getD_cons_succ]
        rw [if_neg (show ¬ 2 < 0 + 1 + 1 by omega)]
        simp only [if_true, and_true]
        by_cases h42 : x = [42]
        · rw [if_pos h42, if_pos h42]
        · rw [if_neg h42, if_neg h42]
          by_cases h2 : (splt 45 x).length = 2
          · rw [if_neg (by omega), if_neg (by omega), h2]
          · rw [if_pos (by omega), if_pos (by omega)]
    rw [hz]
    by_cases hs : x = [42]
    · subst hs
      rw [if_pos rfl, show ([42] ++ 47 :: z : List UInt8) = 42 :: 47 :: z from rfl, pc_star f _ rfl, List.tail_cons, rStep, if_pos (show (47 :: z).head? = some 47 from rfl), List.tail_cons]
      rcases rDig_end (z := z) with ⟨n, d1, d2⟩ | ⟨d1, d2⟩
      · rw [d1, d2]
        simp only [Option.bind_some, Option.getD_some]
        by_cases hn : 0 < n
        · rw [if_pos hn, if_pos (by omega)]; rfl
        · rw [if_neg hn, if_neg (by omega)]; rfl
      · rw [d1]
        cases hr : rDig z with
        | none => simp
        | some q =>
          have := d2 q.1 q.2 hr
          simp only [Option.bind_some, Option.getD_none]
          rw [if_neg (show ¬ (1 ≤ (-1 : Int)) by omega)]
          split
          · simp only [Option.bind_some]; rw [if_neg this]
          · rfl
    rw [if_neg hs]
    have hstar : ∀ y : List UInt8, x = 42 :: y → pc f (x ++ 47 :: z) = none := by
      intro y e
      subst e
      have hy : y ≠ [] := fun e => hs (by rw [e])
      rw [show (42 :: y ++ 47 :: z : List UInt8) = 42 :: (y ++ 47 :: z) from rfl, pc_star f _ rfl, List.tail_cons, rStep_no _ (fun e => by
        cases y with
        | nil => exact hy rfl
        | cons d y => simp at e; subst e; exact hx (by simp))]
      simp
    have hnil : x = [] → pc f (x ++ 47 :: z) = none := by
      intro e
      subst e
      apply nothing
      intro p hp
      rw [pc_num f _ (by simp), show ([] ++ 47 :: z : List UInt8) = 47 :: z from rfl, rNum_no (by decide)] at hp
      cases hp
    rcases cut_cases 45 x with h45 | ⟨u, v, rfl, hu⟩
    · rw [splt_none x h45, if_pos (by simp)]
      cases x with
      | nil => exact (hnil rfl).symm
      | cons c x =>
        by_cases hc : c = 42
        · subst hc; exact (hstar x rfl).symm
        · symm
          apply nothing
          intro p hp
          rw [pc_num f _ (by simpa using hc)] at hp
          rcases rNum_cut (f := f) (c := 47) (y := z) (by decide) hx with ⟨a, h1, h2⟩ | ⟨h1, h2⟩
          · rw [h2] at hp
            simp at hp
            rw [← hp]; simp
          · cases hr : rNum f (c :: x ++ 47 :: z) with
            | none => rw [hr] at hp; cases hp
            | some q =>
              obtain ⟨x2, q1, q2, q3⟩ := h2 q.1 q.2 hr
              have hh : q.2.head? ≠ some 45 := fun e => by
                rw [q2] at e
                cases x2 with
                | nil => exact q1 rfl
                | cons b x2 => simp at e; subst e; exact h45 (q3 45 (by simp))
              rw [hr, Option.bind_some, if_neg hh] at hp
              cases hp
              rw [q2]; simp
    · have hv47 : (47 : UInt8) ∉ v := fun e => hx (by simp [e])
      have hq : (if (splt 45 (u ++ 45 :: v)).length ≠ 2 then none else (tok f ((splt 45 (u ++ 45 :: v)).getD 0 [])).bind fun a => (tok f ((splt 45 (u ++ 45 :: v)).getD 1 [])).bind fun b => if 1 ≤ (digs z).getD (-1) ∧ a ≤ b then some (a, b, (digs z).getD (-1)) else none) = (tok f u).bind fun a => (tok f v).bind fun b => if 1 ≤ (digs z).getD (-1) ∧ a ≤ b then some (a, b, (digs z).getD (-1)) else none := by
        by_cases hv : (45 : UInt8) ∈ v
        · rw [if_pos (by have := (splt_two hu).2 hv; omega), tok_45 f v hv]; cases tok f u <;> rfl
        · rw [(splt_two hu).1 hv]; simp
      rw [hq]
      cases u with
      | nil =>
        rw [show tok f [] = none by unfold tok digs; rfl]
        symm
        apply nothing
        intro p hp
        rw [pc_num f _ (by simp)] at hp
        rw [show ([] ++ 45 :: v ++ 47 :: z : List UInt8) = 45 :: (v ++ 47 :: z) from rfl, rNum_no (by decide)] at hp
        cases hp
      | cons c u =>
        by_cases hc : c = 42
        · subst hc
          rw [tok_42 f 42 (by decide), Option.bind_none]
          exact (hstar (u ++ 45 :: v) rfl).symm
        · rw [show (c :: u ++ 45 :: v ++ 47 :: z : List UInt8) = c :: u ++ 45 :: (v ++ 47 :: z) by simp]
          unfold pc
          rw [pc_num f _ (by simpa using hc)]
          rcases rNum_cut (f := f) (c := 45) (y := v ++ 47 :: z) (by decide) hu with ⟨a, h1, h2⟩ | ⟨h1, h2⟩
          · rw [h1, h2]
            simp only [Option.bind_some, List.head?_cons, if_true, List.tail_cons]
            rw [rest_step f a v z hv47]
          · rw [h1]
            cases hr : rNum f (c :: u ++ 45 :: (v ++ 47 :: z)) with
            | none => rfl
            | some q =>
              obtain ⟨x2, q1, q2, q3⟩ := h2 q.1 q.2 hr
              have hh : q.2.head? ≠ some 45 := fun e => by
                rw [q2] at e
                cases x2 with
                | nil => exact q1 rfl
                | cons b x2 => simp at e; subst e; exact hu (q3 45 (by simp))
              simp only [Option.bind_some, Option.bind_none]
              rw [if_neg hh, Option.bind_some, if_neg (by rw [q2]; simp)]
end Go.Proofs.YtilgamjahediiaaGreatDoor.Crn
