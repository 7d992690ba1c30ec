/- Plain mathematics: what is sorted, and has no two of a kind; what a piece's numbers are. -/
import Derived.Test.YtilgamjahediiaaGreatDoorCrPure
import Derived.Lib.SlicesCompact
set_option linter.unusedVariables false
namespace Go.Proofs.YtilgamjahediiaaGreatDoor.Crn
theorem sorted_eq : ∀ {a b : List Int}, a.Pairwise (· < ·) → b.Pairwise (· < ·) → (∀ x, x ∈ a ↔ x ∈ b) → a = b
  | [], [], _, _, _ => rfl
  | [], y :: b, _, _, h => by have := (h y).2 (by simp); simp at this
  | x :: a, [], _, _, h => by have := (h x).1 (by simp); simp at this
  | x :: a, y :: b, ha, hb, h => by
    have ha' := List.pairwise_cons.1 ha
    have hb' := List.pairwise_cons.1 hb
    have hxy : x = y := by
      have h1 := (h x).1 (by simp)
      have h2 := (h y).2 (by simp)
      rcases List.mem_cons.1 h1 with e | h1
      · exact e
      · rcases List.mem_cons.1 h2 with e | h2
        · exact e.symm
        · have := ha'.1 y h2; have := hb'.1 x h1; omega
    subst hxy
    congr 1
    refine sorted_eq ha'.2 hb'.2 fun z => ?_
    constructor
    · intro hz
      have := (h z).1 (by simp [hz])
      rcases List.mem_cons.1 this with e | h2
      · have := ha'.1 z hz; omega
      · exact h2
    · intro hz
      have := (h z).2 (by simp [hz])
      rcases List.mem_cons.1 this with e | h2
      · have := hb'.1 z hz; omega
      · exact h2
theorem pick_mem (all : List Int) : ∀ (k : Nat) (n x : Int), x ∈ pick all k n ↔ n ≤ x ∧ x < n + k ∧ x ∈ all := by
  intro k
  induction k with
  | zero => intro n x; simp [pick]; omega
  | succ k ih =>
    intro n x
    rw [pick]
    by_cases h : all.contains n = true
    · rw [if_pos h, List.mem_cons, ih]
      have hn : n ∈ all := by simpa using h
      constructor
      · rintro (rfl | ⟨h1, h2, h3⟩)
        · exact ⟨Int.le_refl _, by omega, hn⟩
        · exact ⟨by omega, by omega, h3⟩
      · rintro ⟨h1, h2, h3⟩
        by_cases hx : x = n
        · exact Or.inl hx
        · exact Or.inr ⟨by omega, by omega, h3⟩
    · rw [if_neg h, ih]
      have hn : n ∉ all := by simpa using h
      constructor
      · rintro ⟨h1, h2, h3⟩; exact ⟨by omega, by omega, h3⟩
      · rintro ⟨h1, h2, h3⟩
        have : x ≠ n := fun e => hn (e ▸ h3)
        exact ⟨by omega, by omega, h3⟩
theorem pick_sorted (all : List Int) : ∀ (k : Nat) (n : Int), (pick all k n).Pairwise (· < ·) := by
  intro k
  induction k with
  | zero => intro n; simp [pick]
  | succ k ih =>
    intro n
    rw [pick]
    split
    · rw [List.pairwise_cons]
      exact ⟨fun x hx => by have := ((pick_mem all k (n + 1) x).1 hx).1; omega, ih _⟩
    · exact ih _
theorem lst_mem (f : Nat) (all : List Int) (x : Int) : x ∈ lst f all ↔ lo f ≤ x ∧ x ≤ hi f ∧ x ∈ all := by
  have := lo_bd f; have := hi_bd f
  unfold lst
  rw [pick_mem]
  constructor
  · rintro ⟨h1, h2, h3⟩; exact ⟨h1, by omega, h3⟩
  · rintro ⟨h1, h2, h3⟩; exact ⟨h1, by omega, h3⟩
theorem get_mem (zs : List Int) (j : Nat) (h : j < zs.length) : zs.toArray[j]! ∈ zs := by
  rw [getElem!_pos _ j (by simpa using h)]
  simp
theorem compact_mem (zs : List Int) (x : Int) : x ∈ Lib.compact zs ↔ x ∈ zs := by
  unfold Lib.compact Lib.compactUpTo
  rw [List.mem_map]
  constructor
  · rintro ⟨j, hj, rfl⟩
    rw [List.mem_filter, List.mem_range] at hj
    exact get_mem zs j hj.1
  · intro hx
    obtain ⟨i, hi, rfl⟩ := List.mem_iff_getElem.1 hx
    have key : ∀ (n j : Nat), j ≤ n → (hj : j < zs.length) → ∃ k, k < zs.length ∧ Lib.keeps zs.toArray k = true ∧ zs.toArray[k]! = zs[j] := by
      intro n
      induction n with
      | zero =>
        intro j h hj
        obtain rfl : j = 0 := by omega
        exact ⟨0, hj, by simp [Lib.keeps], by rw [getElem!_pos _ 0 (by simpa using hj)]; simp⟩
      | succ n ih =>
        intro j h hj
        by_cases h0 : j = 0
        · subst h0
          exact ⟨0, hj, by simp [Lib.keeps], by rw [getElem!_pos _ 0 (by simpa using hj)]; simp⟩
        · by_cases he : zs[j] = zs[j - 1]
          · obtain ⟨k, k1, k2, k3⟩ := ih (j - 1) (by omega) (by omega)
            exact ⟨k, k1, k2, by rw [k3, he]⟩
          · refine ⟨j, hj, ?_, by rw [getElem!_pos _ j (by simpa using hj)]; simp⟩
            apply Lib.keeps_pos
            rw [getElem!_pos _ j (by simpa using hj), getElem!_pos _ (j - 1) (by simp; omega)]
            simpa using he
    obtain ⟨k, k1, k2, k3⟩ := key i i (Nat.le_refl _) hi
    exact ⟨k, by rw [List.mem_filter, List.mem_range]; exact ⟨k1, k2⟩, k3⟩
theorem compact_sorted (zs : List Int) (h : zs.Pairwise (· ≤ ·)) : (Lib.compact zs).Pairwise (· < ·) := by
  unfold Lib.compact Lib.compactUpTo
  rw [List.pairwise_map, List.pairwise_filter]
  have hr : (List.range zs.length).Pairwise (fun a b => a < b ∧ b < zs.length) := by
    rw [List.pairwise_iff_getElem]
    intro i j hi hj hij
    simp at hi hj ⊢
    omega
  refine hr.imp ?_
  intro a b hab _ hk
  have g : ∀ k, (hk : k < zs.length) → zs.toArray[k]! = zs[k] := fun k hk => by rw [getElem!_pos _ k (by simpa using hk)]; simp
  unfold Lib.keeps at hk
  simp only [decide_eq_true_eq] at hk
  have hne : zs[b] ≠ zs[b - 1] := by
    rcases hk with h0 | h0
    · omega
    · rw [g b hab.2, g (b - 1) (by omega)] at h0; exact h0
  rw [g a (by omega), g b hab.2]
  rw [List.pairwise_iff_getElem] at h
  have h1 : zs[b - 1] ≤ zs[b] := h (b - 1) b (by omega) hab.2 (by omega)
  by_cases hab1 : a = b - 1
  · subst hab1; omega
  · have h2 : zs[a] ≤ zs[b - 1] := h a (b - 1) (by omega) (by omega) (by omega)
    omega
theorem srt_eq (f : Nat) (all : List Int) (h : ∀ x ∈ all, lo f ≤ x ∧ x ≤ hi f) : Lib.compact (all.mergeSort fun x y => decide (x ≤ y)) = lst f all := by
  apply sorted_eq
  · apply compact_sorted
    have := List.pairwise_mergeSort (le := fun (x y : Int) => decide (x ≤ y)) (fun a b c h1 h2 => by simp at *; omega) (fun a b => by simp; omega) all
    exact this.imp (fun h => by simpa using h)
  · exact pick_sorted _ _ _
  · intro x
    rw [compact_mem, List.mem_mergeSort, lst_mem]
    exact ⟨fun hx => ⟨(h x hx).1, (h x hx).2, hx⟩, fun hx => hx.2.2⟩
/-! What a piece's numbers are. -/
theorem rdg_bd {l r : List UInt8} {n : Int} (h : rDig l = some (n, r)) : 0 ≤ n ∧ n ≤ 99 := by
  rcases l with _ | ⟨a, _ | ⟨b, l⟩⟩
  · cases h
  · rw [rDig] at h
    split at h
    · rename_i ha
      cases h; have := dv_bd ha; omega
    · cases h
  · rw [rDig] at h
    split at h
    · rename_i ha
      have := dv_bd ha
      split at h
      · rename_i hb
        have := dv_bd hb
        cases h; omega
      · cases h; omega
    · cases h
theorem fnd_bd : ∀ (N t : List UInt8) (i : Int) {n : Int}, fnd N t i = some n → i ≤ n ∧ n < i + N.length / 3
  | a :: b :: c :: r, t, i, n, h => by
    rw [fnd] at h
    split at h
    · cases h; simp; omega
    · have := fnd_bd r t (i + 1) h; simp; omega
  | [], _, _, _, h => by simp [fnd] at h
  | [_], _, _, _, h => by simp [fnd] at h
  | [_, _], _, _, _, h => by simp [fnd] at h
theorem nm_bd {f : Nat} {t : List UInt8} {n : Int} (h : nm f t = some n) : lo f ≤ n ∧ n ≤ hi f := by
  have := fnd_bd _ _ _ h
  refine ⟨this.1, ?_⟩
  have h2 : lo f + ((nms f).length : Int) / 3 ≤ hi f + 1 := by
    by_cases h3 : f = 3
    · subst h3; decide
    · by_cases h4 : f = 4
      · subst h4; decide
      · have e : nms f = [] := by unfold nms; split <;> first | rfl | omega
        have := hi_bd f; have := lo_bd f
        rw [e]; simp; omega
  omega
theorem rnum_bd {f : Nat} {l r : List UInt8} {n : Int} (h : rNum f l = some (n, r)) : lo f ≤ n ∧ n ≤ wr f := by
  have := wr_bd f
  unfold rNum at h
  cases h1 : rName f l with
  | some p =>
    rw [h1] at h
    cases h
    unfold rName at h1
    split at h1
    · cases h1
    · cases h2 : nm f (l.take 3) with
      | none => rw [h2] at h1; cases h1
      | some m => rw [h2] at h1; cases h1; have := nm_bd h2; omega
  | none =>
    rw [h1] at h
    cases h2 : rDig l with
    | none => rw [h2] at h; cases h
    | some p =>
      rw [h2] at h
      simp only [Option.bind_some] at h
      split at h
      · cases h; omega
      · cases h
theorem rstep_bd {l r : List UInt8} {n : Int} (h : rStep l = some (n, r)) : 1 ≤ n ∧ n ≤ 99 := by
  unfold rStep at h
  split at h
  · cases h2 : rDig l.tail with
    | none => rw [h2] at h; cases h
    | some p =>
      rw [h2] at h
      simp only [Option.bind_some] at h
      have := rdg_bd h2
      split at h
      · cases h; omega
      · cases h
  · cases h; omega
theorem rpiece_bd {f : Nat} {l r : List UInt8} {a b s : Int} (h : rPiece f l = some ((a, b, s), r)) : lo f ≤ a ∧ a ≤ b ∧ b ≤ wr f ∧ 1 ≤ s ∧ s ≤ 99 := by
  have := wr_bd f; have := hi_bd f; have := lo_bd f
  unfold rPiece at h
  split at h
  · cases h2 : rStep l.tail with
    | none => rw [h2] at h; cases h
    | some p => rw [h2] at h; have := rstep_bd h2; cases h; omega
  · cases h2 : rNum f l with
    | none => rw [h2] at h; cases h
    | some p =>
      rw [h2] at h
      simp only [Option.bind_some] at h
      have b1 := rnum_bd h2
      split at h
      · cases h3 : rNum f p.2.tail with
        | none => rw [h3] at h; cases h
        | some q =>
          rw [h3] at h
          simp only [Option.bind_some] at h
          have b2 := rnum_bd h3
          split at h
          · cases h4 : rStep q.2 with
            | none => rw [h4] at h; cases h
            | some s' => rw [h4] at h; have := rstep_bd h4; cases h; omega
          · cases h
      · cases h; omega
theorem pc_bd {f : Nat} {l : List UInt8} {p : Int × Int × Int} (h : pc f l = some p) : lo f ≤ p.1 ∧ p.1 ≤ p.2.1 ∧ p.2.1 ≤ wr f ∧ 1 ≤ p.2.2 ∧ p.2.2 ≤ 99 := by
  unfold pc at h
  cases h1 : rPiece f l with
  | none => rw [h1] at h; cases h
  | some q =>
    rw [h1] at h
    simp only [Option.bind_some] at h
    split at h
    · obtain ⟨⟨a, b, s⟩, r⟩ := q
      cases h; exact rpiece_bd h1
    · cases h
theorem gat_bd {f : Nat} : ∀ {ps : List (List UInt8)} {l : List Int}, gat f ps = some l → (∀ x ∈ l, lo f ≤ x ∧ x ≤ hi f) ∧ (ps ≠ [] → l ≠ [])
  | [], l, h => by cases h; simp
  | t :: r, l, h => by
    rw [gat] at h
    cases h1 : pc f t with
    | none => rw [h1] at h; cases h
    | some q =>
      rw [h1] at h
      simp only [Option.bind_some] at h
      cases h2 : gat f r with
      | none => rw [h2] at h; cases h
      | some l2 =>
        rw [h2] at h
        cases h
        have b1 := pc_bd h1
        have b2 := gat_bd h2
        refine ⟨fun x hx => ?_, fun _ => ?_⟩
        · rcases List.mem_append.1 hx with hx | hx
          · obtain ⟨m, hm, rfl⟩ := List.mem_map.1 hx
            have := sq_bd b1.2.2.2.1 hm
            exact cnt_bd (by omega)
          · exact b2.1 x hx
        · rw [sq_step b1.2.2.2.1 b1.2.1]; simp
theorem prt_eq {f : Nat} {s : List UInt8} {l : List Int} (h : gat f (splt 44 s) = some l) : prt f s = some (Lib.compact (l.mergeSort fun x y => decide (x ≤ y))) ∧ l ≠ [] := by
  have := gat_bd h
  exact ⟨by rw [prt, h, srt_eq f l this.1]; rfl, this.2 (splt_ne _ _)⟩
end Go.Proofs.YtilgamjahediiaaGreatDoor.Crn
