/- Plain mathematics: what is written is read as it was; what is read may be. -/
import Derived.Test.YtcmdjpgabkjbpaaGreatDoorCrStepP
import Derived.Test.YtcmdjpgabkjbpaaGreatDoorCrEq
set_option linter.unusedVariables false
namespace Go.Proofs.YtcmdjpgabkjbpaaGreatDoor
open Go.ChangeShapes Go.WideShapes Go.ChangeAt Go.RowKit
open Crn Civ
theorem rises_of : ∀ {l : List Int} {m top : Int}, l.Pairwise (· < ·) → (∀ x ∈ l, m ≤ x ∧ x ≤ top) → rises m top l = true
  | [], _, _, _, _ => rfl
  | a :: r, m, top, hp, hb => by
    rw [List.pairwise_cons] at hp
    rw [rises, Bool.and_eq_true, decide_eq_true_eq]
    exact ⟨hb a (by simp), rises_of hp.2 (fun x hx => ⟨by have := hp.1 x hx; omega, (hb x (by simp [hx])).2⟩)⟩
theorem rises_pw : ∀ {l : List Int} {m top : Int}, rises m top l = true → l.Pairwise (· < ·)
  | [], _, _, _ => List.Pairwise.nil
  | a :: r, m, top, h => by
    rw [rises, Bool.and_eq_true, decide_eq_true_eq] at h
    rw [List.pairwise_cons]
    exact ⟨fun x hx => by have := rises_mem h.2 x hx; omega, rises_pw h.2⟩
theorem full_prt : prt 0 [42] = some (full 0) ∧ prt 1 [42] = some (full 1) ∧ prt 2 [42] = some (full 2) ∧ prt 3 [42] = some (full 3) ∧ prt 4 [42] = some (full 4) := ⟨by kernel_rfl, by kernel_rfl, by kernel_rfl, by kernel_rfl, by kernel_rfl⟩
theorem full_may : mayF 0 (full 0) true = true ∧ mayF 1 (full 1) true = true ∧ mayF 2 (full 2) true = true ∧ mayF 3 (full 3) true = true ∧ mayF 4 (full 4) true = true := ⟨by kernel_rfl, by kernel_rfl, by kernel_rfl, by kernel_rfl, by kernel_rfl⟩
theorem prt_full (k : Nat) (hk : k < 5) : prt k [42] = some (full k) := by
  obtain ⟨h0, h1, h2, h3, h4⟩ := full_prt
  rcases (show k = 0 ∨ k = 1 ∨ k = 2 ∨ k = 3 ∨ k = 4 by omega) with rfl | rfl | rfl | rfl | rfl
  · exact h0
  · exact h1
  · exact h2
  · exact h3
  · exact h4
theorem may_full (k : Nat) (hk : k < 5) : mayF k (full k) true = true := by
  obtain ⟨h0, h1, h2, h3, h4⟩ := full_may
  rcases (show k = 0 ∨ k = 1 ∨ k = 2 ∨ k = 3 ∨ k = 4 by omega) with rfl | rfl | rfl | rfl | rfl
  · exact h0
  · exact h1
  · exact h2
  · exact h3
  · exact h4
/-- what a part is read as may be -/
theorem prt_may {k : Nat} (hk : k < 5) {p : List UInt8} {l : List Int} (h : prt k p = some l) : mayF k l (decide (p = [42])) = true := by
  by_cases hp : p = [42]
  · subst hp
    rw [prt_full k hk] at h
    cases h
    exact may_full k hk
  · rw [decide_eq_false hp]
    unfold prt at h
    cases hg : gat k (splt 44 p) with
    | none => rw [hg] at h; cases h
    | some all =>
      rw [hg] at h
      cases h
      have hb := gat_bd hg
      have hne : all ≠ [] := hb.2 (splt_ne _ _)
      have hl : lst k all ≠ [] := by
        cases all with
        | nil => exact absurd rfl hne
        | cons a r =>
          have h1 := hb.1 a (by simp)
          intro e
          have : a ∈ lst k (a :: r) := (lst_mem k _ a).2 ⟨h1.1, h1.2, by simp⟩
          rw [e] at this; simp at this
      have hr : rises (lo k) (Crn.hi k) (lst k all) = true := rises_of (pick_sorted _ _ _) (fun x hx => by have := (lst_mem k all x).1 hx; exact ⟨this.1, this.2.1⟩)
      unfold mayF
      rw [hr]
      cases hq : lst k all with
      | nil => exact absurd hq hl
      | cons a r => rfl
theorem prs_may {s : List UInt8} {c : CR} (h : prs s = some c) : mayC c = true := by
  unfold prs at h
  split at h
  · rename_i h5
    match hs : splt 32 s, h5 with
    | [p0, p1, p2, p3, p4], _ =>
      rw [hs] at h
      simp only [prsL] at h
      cases h0 : prt 0 p0 with
      | none => rw [h0] at h; cases h
      | some l0 =>
        cases h1 : prt 1 p1 with
        | none => rw [h0, h1] at h; cases h
        | some l1 =>
          cases h2 : prt 2 p2 with
          | none => rw [h0, h1, h2] at h; cases h
          | some l2 =>
            cases h3 : prt 3 p3 with
            | none => rw [h0, h1, h2, h3] at h; cases h
            | some l3 =>
              cases h4 : prt 4 p4 with
              | none => rw [h0, h1, h2, h3, h4] at h; cases h
              | some l4 =>
                rw [h0, h1, h2, h3, h4] at h
                cases h
                have q0 := prt_may (by omega) h0
                have q1 := prt_may (by omega) h1
                have q2 := prt_may (by omega) h2
                have q3 := prt_may (by omega) h3
                have q4 := prt_may (by omega) h4
                show (mayF 0 l0 (decide (p0 = [42])) && mayF 1 l1 (decide (p1 = [42])) && mayF 2 l2 (decide (p2 = [42])) && mayF 3 l3 (decide (p3 = [42])) && mayF 4 l4 (decide (p4 = [42]))) = true
                rw [q0, q1, q2, q3, q4]; rfl
  · cases h
/-! What is written is read. -/
def chk1 (k n : Nat) : Bool := !(decide (lo k ≤ (n : Int)) && decide ((n : Int) ≤ Crn.hi k)) || decide (pc k (d2 n) = some ((n : Int), (n : Int), 1))
theorem tab1 : (List.range 5).all (fun k => (List.range 60).all (chk1 k)) = true := by kernel_rfl
theorem pc_d2 {k : Nat} (hk : k < 5) {n : Int} (h1 : lo k ≤ n) (h2 : n ≤ Crn.hi k) : pc k (d2 n) = some (n, n, 1) := by
  have := lo_bd k; have := hi_bd k
  obtain ⟨m, rfl⟩ : ∃ m : Nat, n = m := ⟨n.toNat, by omega⟩
  have h := List.all_eq_true.1 (List.all_eq_true.1 tab1 k (List.mem_range.2 hk)) m (List.mem_range.2 (by omega))
  unfold chk1 at h
  rw [decide_eq_true h1, decide_eq_true h2] at h
  exact of_decide_eq_true (by simpa using h)
theorem join_more (x y : List UInt8) (r : List (List UInt8)) (c : UInt8) : Lib.join (x :: y :: r) [c] = x ++ c :: Lib.join (y :: r) [c] := by simp [Lib.join, List.intercalate]
theorem splt_join (c : UInt8) : ∀ (xs : List (List UInt8)), xs ≠ [] → (∀ x ∈ xs, c ∉ x) → splt c (Lib.join xs [c]) = xs
  | [], h, _ => absurd rfl h
  | [x], _, h => by rw [Lib.join_one]; exact splt_none x (h x (by simp))
  | x :: y :: r, _, h => by
    rw [join_more, splt_app x _ (h x (by simp)), splt_join c (y :: r) (by simp) (fun z hz => h z (by simp [hz]))]
theorem mem_join (c b : UInt8) : ∀ (xs : List (List UInt8)), b ∈ Lib.join xs [c] → b = c ∨ ∃ x ∈ xs, b ∈ x
  | [], h => by simp [Lib.join] at h
  | [x], h => by rw [Lib.join_one] at h; exact Or.inr ⟨x, by simp, h⟩
  | x :: y :: r, h => by
    rw [join_more] at h
    rcases List.mem_append.1 h with h | h
    · exact Or.inr ⟨x, by simp, h⟩
    · rcases List.mem_cons.1 h with h | h
      · exact Or.inl h
      · rcases mem_join c b (y :: r) h with h | ⟨z, hz, hb⟩
        · exact Or.inl h
        · exact Or.inr ⟨z, by simp [hz], hb⟩
theorem gat_d2 {k : Nat} (hk : k < 5) : ∀ (l : List Int), (∀ x ∈ l, lo k ≤ x ∧ x ≤ Crn.hi k) → gat k (l.map d2) = some l
  | [], _ => rfl
  | a :: r, h => by
    have ha := h a (by simp)
    rw [List.map_cons, gat, pc_d2 hk ha.1 ha.2, gat_d2 hk r (fun x hx => h x (by simp [hx]))]
    simp only [Option.bind_some, Option.map_some]
    rw [sq_step (by omega) (Int.le_refl a), sq_end (by omega)]
    simp only [List.map_cons, List.map_nil, List.cons_append, List.nil_append, cnt]
    rw [if_neg (by omega)]
theorem lst_self {k : Nat} {l : List Int} (h : rises (lo k) (Crn.hi k) l = true) : lst k l = l := by
  apply sorted_eq
  · exact pick_sorted _ _ _
  · exact rises_pw h
  · intro x
    rw [lst_mem]
    exact ⟨fun hx => hx.2.2, fun hx => ⟨(rises_mem h x hx).1, (rises_mem h x hx).2, hx⟩⟩
theorem full_of {k : Nat} {l : List Int} (hk : k < 5) (h : mayF k l true = true) : l = full k := by
  have hf := may_full k hk
  simp only [mayF, Bool.and_eq_true, Bool.not_true, Bool.false_or, decide_eq_true_eq] at h hf
  have h1 := rises_pw h.1.2
  have h2 := rises_pw hf.1.2
  apply sorted_eq h1 h2
  intro x
  have key : ∀ {l : List Int} {m top : Int}, rises m top l = true → (l.length : Int) = top + 1 - m → ∀ x, m ≤ x → x ≤ top → x ∈ l := by
    intro l
    induction l with
    | nil => intro m top h hl x h1 h2; simp at hl; omega
    | cons a r ih =>
      intro m top h hl x h1 h2
      simp only [rises, Bool.and_eq_true, decide_eq_true_eq] at h
      have hr := rises_len h.2
      simp only [List.length_cons] at hl
      rw [Int.max_def] at hr
      have ha : a = m := by split at hr <;> omega
      by_cases hx : x = a
      · rw [hx]; exact List.mem_cons_self
      · exact List.mem_cons_of_mem _ (ih h.2 (by omega) x (by omega) h2)
  constructor
  · intro hx; have := rises_mem h.1.2 x hx; exact key hf.1.2 (by omega) x this.1 this.2
  · intro hx; have := rises_mem hf.1.2 x hx; exact key h.1.2 (by omega) x this.1 this.2
theorem ptx_back {k : Nat} (hk : k < 5) {l : List Int} {s : Bool} (h : mayF k l s = true) : prt k (ptx2 l s) = some l ∧ (32 : UInt8) ∉ ptx2 l s ∧ decide (ptx2 l s = [42]) = s := by
  obtain ⟨b1, b2, b3⟩ := mayF_bd h
  have := lo_bd k; have := hi_bd k
  cases s with
  | true =>
    have hl := full_of hk h
    subst hl
    exact ⟨prt_full k hk, by show (32 : UInt8) ∉ [42]; decide, rfl⟩
  | false =>
    have hr : rises (lo k) (Crn.hi k) l = true := by
      unfold mayF at h; simp only [Bool.and_eq_true] at h; exact h.1.2
    have hno : ∀ c : UInt8, c.toNat < 48 → ∀ x ∈ l.map d2, c ∉ x := by
      intro c hc x hx
      obtain ⟨m, hm, rfl⟩ := List.mem_map.1 hx
      have := b1 m hm
      exact d2_no m (by omega) (by omega) c hc
    have hno2 : ∀ c : UInt8, c.toNat < 48 → c ≠ 44 → c ∉ ptx2 l false := by
      intro c hc h44 hm
      unfold ptx2 at hm
      rw [if_neg (by decide)] at hm
      rcases mem_join _ _ _ hm with h | ⟨x, hx, hb⟩
      · exact h44 h
      · exact hno c hc x hx hb
    refine ⟨?_, hno2 32 (by decide) (by decide), decide_eq_false fun e => ?_⟩
    · unfold prt ptx2
      rw [if_neg (by decide), splt_join 44 _ (by simpa using b3) (hno 44 (by decide)), gat_d2 hk l b1]
      exact congrArg some (lst_self hr)
    · have := hno2 42 (by decide) (by decide)
      rw [e] at this; simp at this
theorem wt_back {c : CR} (h : mayC c = true) : ∃ c', prs (wtxt c) = some c' ∧ SameP c c' := by
  obtain ⟨p0, s0, t0⟩ := ptx_back (show 0 < 5 by omega) (mayC_at h 0 (by omega))
  obtain ⟨p1, s1, t1⟩ := ptx_back (show 1 < 5 by omega) (mayC_at h 1 (by omega))
  obtain ⟨p2, s2, t2⟩ := ptx_back (show 2 < 5 by omega) (mayC_at h 2 (by omega))
  obtain ⟨p3, s3, t3⟩ := ptx_back (show 3 < 5 by omega) (mayC_at h 3 (by omega))
  obtain ⟨p4, s4, t4⟩ := ptx_back (show 4 < 5 by omega) (mayC_at h 4 (by omega))
  have hs : splt 32 (wtxt c) = [ptx2 (c.L 0) (c.st 0), ptx2 (c.L 1) (c.st 1), ptx2 (c.L 2) (c.st 2), ptx2 (c.L 3) (c.st 3), ptx2 (c.L 4) (c.st 4)] := by
    rw [wtxt_2 h]
    unfold wtx2
    refine splt_join 32 _ (by simp) ?_
    intro x hx
    simp only [List.mem_cons, List.not_mem_nil, or_false] at hx
    rcases hx with rfl | rfl | rfl | rfl | rfl <;> assumption
  generalize ptx2 (c.L 0) (c.st 0) = q0 at *
  generalize ptx2 (c.L 1) (c.st 1) = q1 at *
  generalize ptx2 (c.L 2) (c.st 2) = q2 at *
  generalize ptx2 (c.L 3) (c.st 3) = q3 at *
  generalize ptx2 (c.L 4) (c.st 4) = q4 at *
  refine ⟨crOf [c.L 0, c.L 1, c.L 2, c.L 3, c.L 4] [q0, q1, q2, q3, q4], ?_, ?_⟩
  · unfold prs
    rw [hs]
    simp only [List.length_cons, List.length_nil, prsL, p0, p1, p2, p3, p4, Option.bind_some, Option.map_some]
    rfl
  · intro i hi
    rcases (show i = 0 ∨ i = 1 ∨ i = 2 ∨ i = 3 ∨ i = 4 by omega) with rfl | rfl | rfl | rfl | rfl
    · exact ⟨rfl, t0.symm⟩
    · exact ⟨rfl, t1.symm⟩
    · exact ⟨rfl, t2.symm⟩
    · exact ⟨rfl, t3.symm⟩
    · exact ⟨rfl, t4.symm⟩
end Go.Proofs.YtcmdjpgabkjbpaaGreatDoor
