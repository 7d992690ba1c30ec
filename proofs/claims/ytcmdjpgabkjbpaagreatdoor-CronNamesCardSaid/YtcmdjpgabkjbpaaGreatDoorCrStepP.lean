/- Plain mathematics: a range with a step, and a star with a step. -/
import Derived.Test.YtcmdjpgabkjbpaaGreatDoorCrStarP
import Derived.Test.YtcmdjpgabkjbpaaGreatDoorCrSame
set_option linter.unusedVariables false
namespace Go.Proofs.YtcmdjpgabkjbpaaGreatDoor
open Go.ChangeShapes Go.WideShapes Go.ChangeAt Go.RowKit
open Crn Civ
theorem d2_mem (n : Int) (h0 : 0 ≤ n) (h1 : n < 100) : ∀ b ∈ d2 n, 48 ≤ b.toNat ∧ b.toNat ≤ 57 := by
  unfold d2
  split
  · intro b hb; simp at hb; subst hb; simp; omega
  · intro b hb; simp at hb; rcases hb with rfl | rfl <;> simp <;> omega
theorem d2_no (n : Int) (h0 : 0 ≤ n) (h1 : n < 100) (c : UInt8) (hc : c.toNat < 48) : c ∉ d2 n := fun h => by have := d2_mem n h0 h1 c h; omega
theorem tok_60 : (List.range 60).all (fun n => decide (Crn.tok 0 (d2 n) = some (n : Int))) = true := by kernel_rfl
theorem tok_d2 (n : Int) (h0 : 0 ≤ n) (h1 : n ≤ 59) : Crn.tok 0 (d2 n) = some n := by
  obtain ⟨k, rfl⟩ : ∃ k : Nat, n = k := ⟨n.toNat, by omega⟩
  exact of_decide_eq_true (List.all_eq_true.1 tok_60 k (List.mem_range.2 (by omega)))
theorem dig_100 : (List.range 100).all (fun n => decide (digs (d2 n) = some (n : Int))) = true := by kernel_rfl
theorem dig_d2 (n : Int) (h0 : 0 ≤ n) (h1 : n ≤ 99) : digs (d2 n) = some n := by
  obtain ⟨k, rfl⟩ : ∃ k : Nat, n = k := ⟨n.toNat, by omega⟩
  exact of_decide_eq_true (List.all_eq_true.1 dig_100 k (List.mem_range.2 (by omega)))
theorem star_prt : prt 1 [42] = some (full 1) ∧ prt 2 [42] = some (full 2) ∧ prt 3 [42] = some (full 3) ∧ prt 4 [42] = some (full 4) := ⟨by kernel_rfl, by kernel_rfl, by kernel_rfl, by kernel_rfl⟩
theorem prs_min (p : List UInt8) (hp : (32 : UInt8) ∉ p) (l : List Int) (h : prt 0 p = some l) : prs (p ++ st4) = some (crOf [l, full 1, full 2, full 3, full 4] [p, [42], [42], [42], [42]]) := by
  have hs : splt 32 (p ++ st4) = [p, [42], [42], [42], [42]] := by
    rw [show p ++ st4 = p ++ 32 :: [42, 32, 42, 32, 42, 32, 42] from rfl, splt_app p _ hp]; rfl
  obtain ⟨s1, s2, s3, s4⟩ := star_prt
  unfold prs
  rw [hs]
  simp only [List.length_cons, List.length_nil, prsL, h, s1, s2, s3, s4, Option.bind_some, Option.map_some]
  rfl
theorem prt_one (p : List UInt8) (hp : (44 : UInt8) ∉ p) (q : Int × Int × Int) (h : pc 0 p = some q) : prt 0 p = some (lst 0 ((sq q.1 q.2.1 q.2.2).map (cnt 0))) := by
  unfold prt
  rw [splt_none p hp, gat, h]
  simp [gat]
theorem step_has (a b s n : Int) (h0 : 0 ≤ a) (h1 : b ≤ 59) (hs : 1 ≤ s) (n0 : 0 ≤ n) (n1 : n ≤ 59) : hasB (lst 0 ((sq a b s).map (cnt 0))) n = decide (a ≤ n ∧ n ≤ b ∧ (n - a) % s = 0) := by
  have hm : n ∈ lst 0 ((sq a b s).map (cnt 0)) ↔ (a ≤ n ∧ n ≤ b ∧ (n - a) % s = 0) := by
    rw [lst_mem, List.mem_map]
    constructor
    · rintro ⟨_, _, m, hm, e⟩
      have := sq_bd hs hm
      have h59 : Crn.hi 0 = 59 := rfl
      unfold cnt at e
      rw [if_neg (by omega)] at e
      subst e
      exact (sq_mem hs _ _ _ (Nat.le_refl _)).1 hm
    · intro h
      have h59 : Crn.hi 0 = 59 := rfl
      have h00 : lo 0 = 0 := rfl
      refine ⟨by omega, by omega, n, (sq_mem hs _ _ _ (Nat.le_refl _)).2 h, ?_⟩
      unfold cnt; rw [if_neg (by omega)]
  unfold hasB
  by_cases h : a ≤ n ∧ n ≤ b ∧ (n - a) % s = 0
  · rw [decide_eq_true h]; exact List.contains_iff_mem.2 (hm.2 h)
  · rw [decide_eq_false h]
    cases hc : (lst 0 ((sq a b s).map (cnt 0))).contains n with
    | false => rfl
    | true => exact absurd (hm.1 (List.contains_iff_mem.1 hc)) h
def rgS (a b s : Int) : List UInt8 := d2 a ++ 45 :: (d2 b ++ 47 :: d2 s)
def stS (s : Int) : List UInt8 := 42 :: 47 :: d2 s
theorem pc_rg (a b s : Int) (h0 : 0 ≤ a) (hab : a ≤ b) (h1 : b ≤ 59) (s0 : 1 ≤ s) (s1 : s ≤ 99) : pc 0 (rgS a b s) = some (a, b, s) := by
  rw [← pc_eq]
  have n47a := d2_no a h0 (by omega) 47 (by decide)
  have n47b := d2_no b (by omega) (by omega) 47 (by decide)
  have n47s := d2_no s (by omega) (by omega) 47 (by decide)
  have n45a := d2_no a h0 (by omega) 45 (by decide)
  have n45b := d2_no b (by omega) (by omega) 45 (by decide)
  have e : rgS a b s = (d2 a ++ 45 :: d2 b) ++ 47 :: d2 s := by simp [rgS]
  have hsp : splt 47 (rgS a b s) = [d2 a ++ 45 :: d2 b, d2 s] := by
    rw [e, splt_app _ _ (by simp; exact ⟨n47a, n47b⟩), splt_none _ n47s]
  have hsq : splt 45 (d2 a ++ 45 :: d2 b) = [d2 a, d2 b] := by rw [splt_app _ _ n45a, splt_none _ n45b]
  have hne : d2 a ++ 45 :: d2 b ≠ [42] := by
    intro h
    have := congrArg List.length h
    have h2 := (d2_len a).2; have h3 := (d2_len b).2
    simp at this; omega
  unfold rpc
  rw [hsp]
  simp only [List.length_cons, List.length_nil, List.getD_cons_zero, List.getD_cons_succ, dig_d2 s (by omega) s1, Option.getD_some]
  rw [if_neg (by omega), if_neg hne, hsq]
  simp [tok_d2 a h0 (by omega), tok_d2 b (by omega) h1, s0, hab]
theorem pc_st (s : Int) (s0 : 1 ≤ s) (s1 : s ≤ 99) : pc 0 (stS s) = some (0, 59, s) := by
  rw [← pc_eq]
  have n47s := d2_no s (by omega) (by omega) 47 (by decide)
  have hsp : splt 47 (stS s) = [[42], d2 s] := by
    rw [show stS s = [42] ++ 47 :: d2 s from rfl, splt_app [42] _ (by simp), splt_none _ n47s]
  unfold rpc
  rw [hsp]
  simp [dig_d2 s (by omega) s1, s0]
  exact ⟨rfl, rfl⟩
/-- what the tests ask -/
theorem rg_ok (a b s : Int) (h0 : 0 ≤ a) (hab : a ≤ b) (h1 : b ≤ 59) (s0 : 1 ≤ s) (s1 : s ≤ 99) : ∃ c, prs (rgS a b s ++ st4) = some c ∧ c.st 0 = false ∧ c.st 1 = true ∧ ∀ n, 0 ≤ n → n ≤ 59 → hasB (c.L 0) n = decide (a ≤ n ∧ n ≤ b ∧ (n - a) % s = 0) := by
  have n : ∀ c : UInt8, c.toNat < 45 → c ∉ rgS a b s := by
    intro c hc hm
    simp only [rgS, List.mem_append, List.mem_cons] at hm
    rcases hm with hm | rfl | hm | rfl | hm
    · exact d2_no a h0 (by omega) c (by omega) hm
    · revert hc; decide
    · exact d2_no b (by omega) (by omega) c (by omega) hm
    · revert hc; decide
    · exact d2_no s (by omega) (by omega) c (by omega) hm
  have hp := prt_one _ (n 44 (by decide)) _ (pc_rg a b s h0 hab h1 s0 s1)
  refine ⟨_, prs_min _ (n 32 (by decide)) _ hp, ?_, rfl, fun m m0 m1 => step_has a b s m h0 h1 s0 m0 m1⟩
  show decide (rgS a b s = [42]) = false
  refine decide_eq_false fun h => ?_
  have := n 42 (by decide)
  rw [h] at this; simp at this
theorem st_ok (s : Int) (s0 : 1 ≤ s) (s1 : s ≤ 99) : ∃ c, prs (stS s ++ st4) = some c ∧ c.st 0 = false ∧ ∀ n, 0 ≤ n → n ≤ 59 → hasB (c.L 0) n = decide (n % s = 0) := by
  have n : ∀ c : UInt8, c.toNat < 48 → c ≠ 42 → c ≠ 47 → c ∉ stS s := by
    intro c hc h42 h47 hm
    simp only [stS, List.mem_cons] at hm
    rcases hm with rfl | rfl | hm
    · exact h42 rfl
    · exact h47 rfl
    · exact d2_no s (by omega) (by omega) c hc hm
  have hp := prt_one _ (n 44 (by decide) (by decide) (by decide)) _ (pc_st s s0 s1)
  refine ⟨_, prs_min _ (n 32 (by decide) (by decide) (by decide)) _ hp, ?_, fun m m0 m1 => ?_⟩
  · show decide (stS s = [42]) = false
    exact decide_eq_false fun h => by simp [stS] at h
  · refine (step_has 0 59 s m (by omega) (by omega) s0 m0 m1).trans ?_
    rw [Int.sub_zero]
    exact decide_eq_decide.2 ⟨fun h => h.2.2, fun h => ⟨m0, m1, h⟩⟩
end Go.Proofs.YtcmdjpgabkjbpaaGreatDoor
