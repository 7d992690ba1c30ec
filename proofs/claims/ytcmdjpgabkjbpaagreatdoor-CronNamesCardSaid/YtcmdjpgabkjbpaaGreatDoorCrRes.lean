/- What a text parses to, as one word for both parsers. -/
import Derived.Test.YtcmdjpgabkjbpaaGreatDoorCrAwake
set_option linter.unusedVariables false
namespace Go.Proofs.YtcmdjpgabkjbpaaGreatDoor
open Go.ChangeShapes Go.WideShapes Go.ChangeAt Go.RowKit
open Crn Civ
/-- no schedule -/
def zC : CR := ⟨fun _ => [], fun _ => false⟩
def resP (l : List UInt8) : CR × Int := if 200 < l.length then (zC, 4) else match prs l with | none => (zC, 2) | some c => (c, 0)
theorem res_over {l : List UInt8} (h : 200 < l.length) : resP l = (zC, 4) := if_pos h
theorem res_some {l : List UInt8} {c : CR} (h : ¬ 200 < l.length) (hp : prs l = some c) : resP l = (c, 0) := by
  unfold resP; rw [if_neg h, hp]
theorem res_none {l : List UInt8} (h : ¬ 200 < l.length) (hp : prs l = none) : resP l = (zC, 2) := by
  unfold resP; rw [if_neg h, hp]
theorem res_cases (l : List UInt8) : (∃ d, resP l = (d, 0) ∧ prs l = some d) ∨ (resP l = (zC, 4) ∧ 200 < l.length) ∨ (resP l = (zC, 2) ∧ prs l = none) := by
  by_cases h : 200 < l.length
  · exact Or.inr (Or.inl ⟨res_over h, h⟩)
  · cases hp : prs l with
    | none => exact Or.inr (Or.inr ⟨res_none h hp, rfl⟩)
    | some c => exact Or.inl ⟨c, res_some h hp, rfl⟩
def zsl : Nat → Value := fun _ => .slice none 0 0
theorem z10_cr : (.agg z10 : Value) = crV zsl zC.st := rfl
theorem zC_cr (x : World) : Cr x zsl zC.L := fun i _ => Or.inl ⟨rfl, none, 0, rfl⟩
/-- a parse's result -/
theorem parse_res {l : List UInt8} {W W' : World} {e : Ending} (hp : ParsePost l W e W') : ∃ sl, e = .returned (.tuple #[crV sl (resP l).1.st, .int .i64 (resP l).2]) ∧ Cr W' sl (resP l).1.L ∧ Kept W W' := by
  unfold ParsePost at hp
  by_cases h : 200 < l.length
  · rw [if_pos h] at hp
    rw [res_over h]
    exact ⟨zsl, hp.1, zC_cr _, hp.2⟩
  · rw [if_neg h] at hp
    cases hq : prs l with
    | none =>
      rw [hq] at hp
      rw [res_none h hq]
      exact ⟨zsl, hp.1, zC_cr _, hp.2⟩
    | some c =>
      rw [hq] at hp
      rw [res_some h hq]
      obtain ⟨sl, h1, h2, h3⟩ := hp
      exact ⟨sl, h1, fun i hi => (h2 i hi).rs, h3⟩
theorem parse_as {l : List UInt8} {W W' : World} {e : Ending} {d : CR} {n : Int} (hd : resP l = (d, n)) (hp : ParsePost l W e W') : ∃ sl, e = .returned (.tuple #[crV sl d.st, .int .i64 n]) ∧ Cr W' sl d.L ∧ Kept W W' := by
  have := parse_res hp
  rw [hd] at this
  exact this
end Go.Proofs.YtcmdjpgabkjbpaaGreatDoor
