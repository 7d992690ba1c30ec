/- Plain mathematics: a month's and a day's name, in letters small or great, is its number; 7 is Sunday, too. -/
import Derived.Test.YtcmdjpgabkjbpaaGreatDoorCrStepP
set_option linter.unusedVariables false
namespace Go.Proofs.YtcmdjpgabkjbpaaGreatDoor
open Go.ChangeShapes Go.WideShapes Go.ChangeAt Go.RowKit
open Crn Civ
/-- a month's letter, a day's letter -/
def moL (m j : Nat) : UInt8 := (nms 3).getD (3 * m - 3 + j) 0
def dyL (w j : Nat) : UInt8 := (nms 4).getD (3 * w + j) 0
/-- a letter, great where a bit says so -/
def up (b : UInt8) (g i : Nat) : UInt8 := if g / 2 ^ i % 2 = 1 then b - 32 else b
def bs (m w : Nat) : List UInt8 := [moL m 0, moL m 1, moL m 2, 32, dyL w 0, dyL w 1, dyL w 2]
def nA (m g : Nat) : List UInt8 := [up (moL m 0) g 0, up (moL m 1) g 1, up (moL m 2) g 2]
def nB (w g : Nat) : List UInt8 := [up (dyL w 0) g 3, up (dyL w 1) g 4, up (dyL w 2) g 5]
def chkA (m g : Nat) : Bool := decide (prt 3 (nA m g) = some [(m : Int)]) && !(nA m g).contains 32
def chkB (w g : Nat) : Bool := decide (prt 4 (nB w g) = some [(w : Int)]) && !(nB w g).contains 32
theorem tabA : (List.range 12).all (fun m => (List.range 64).all (chkA (m + 1))) = true := by kernel_rfl
theorem tabB : (List.range 7).all (fun w => (List.range 64).all (chkB w)) = true := by kernel_rfl
theorem at_A {m g : Nat} (h1 : 1 ≤ m) (h2 : m ≤ 12) (h3 : g < 64) : prt 3 (nA m g) = some [(m : Int)] ∧ (32 : UInt8) ∉ nA m g := by
  have h := List.all_eq_true.1 (List.all_eq_true.1 tabA (m - 1) (List.mem_range.2 (by omega))) g (List.mem_range.2 h3)
  rw [Nat.sub_add_cancel h1] at h
  unfold chkA at h
  simp only [Bool.and_eq_true, decide_eq_true_eq, Bool.not_eq_true'] at h
  exact ⟨h.1, fun hm => by have := List.contains_iff_mem.2 hm; rw [h.2] at this; cases this⟩
theorem at_B {w g : Nat} (h2 : w ≤ 6) (h3 : g < 64) : prt 4 (nB w g) = some [(w : Int)] ∧ (32 : UInt8) ∉ nB w g := by
  have h := List.all_eq_true.1 (List.all_eq_true.1 tabB w (List.mem_range.2 (by omega))) g (List.mem_range.2 h3)
  unfold chkB at h
  simp only [Bool.and_eq_true, decide_eq_true_eq, Bool.not_eq_true'] at h
  exact ⟨h.1, fun hm => by have := List.contains_iff_mem.2 hm; rw [h.2] at this; cases this⟩
theorem nul_prt : prt 0 [48] = some [0] ∧ prt 1 [48] = some [0] ∧ prt 2 [42] = some (full 2) ∧ prt 3 [42] = some (full 3) ∧ prt 4 [55] = some [0] := ⟨by kernel_rfl, by kernel_rfl, by kernel_rfl, by kernel_rfl, by kernel_rfl⟩
abbrev st3 : List UInt8 := [48, 32, 48, 32, 42, 32]
def fsT (m w g : Nat) : List UInt8 := nA m g ++ 32 :: nB w g
theorem name_prs {m w g : Nat} (h1 : 1 ≤ m) (h2 : m ≤ 12) (h3 : w ≤ 6) (h4 : g < 64) : ∃ c, prs (st3 ++ fsT m w g) = some c ∧ c.L 3 = [(m : Int)] ∧ c.L 4 = [(w : Int)] := by
  obtain ⟨a1, a2⟩ := at_A h1 h2 h4
  obtain ⟨b1, b2⟩ := at_B h3 h4
  obtain ⟨z0, z1, z2, _, _⟩ := nul_prt
  have hs : splt 32 (st3 ++ fsT m w g) = [[48], [48], [42], nA m g, nB w g] := by
    unfold fsT
    generalize nA m g = A at *
    generalize nB w g = B at *
    rw [show st3 ++ (A ++ 32 :: B) = [48] ++ 32 :: ([48] ++ 32 :: ([42] ++ 32 :: (A ++ 32 :: B))) from rfl, splt_app [48] _ (by decide), splt_app [48] _ (by decide), splt_app [42] _ (by decide), splt_app A _ a2, splt_none B b2]
  refine ⟨crOf [[0], [0], full 2, [(m : Int)], [(w : Int)]] [[48], [48], [42], nA m g, nB w g], ?_, rfl, rfl⟩
  unfold prs
  rw [hs]
  simp only [List.length_cons, List.length_nil, prsL, z0, z1, z2, a1, b1, Option.bind_some, Option.map_some]
  rfl
abbrev st7 : List UInt8 := [48, 32, 48, 32, 42, 32, 42, 32, 55]
theorem seven_prs : ∃ c, prs st7 = some c ∧ c.L 4 = [0] := by
  obtain ⟨z0, z1, z2, z3, z4⟩ := nul_prt
  have hs : splt 32 st7 = [[48], [48], [42], [42], [55]] := by decide
  refine ⟨crOf [[0], [0], full 2, full 3, [0]] [[48], [48], [42], [42], [55]], ?_, rfl⟩
  unfold prs
  rw [hs]
  simp only [List.length_cons, List.length_nil, prsL, z0, z1, z2, z3, z4, Option.bind_some, Option.map_some]
  rfl
theorem bs_len (m w : Nat) : (bs m w).length = 7 := rfl
theorem fsT_len (m w g : Nat) : (fsT m w g).length = 7 := rfl
/-- the bit of a letter -/
def bt (j : Nat) : Nat := if 3 < j then j - 1 else j
theorem fsT_at (m w g j : Nat) (b : UInt8) (hj : (bs m w)[j]? = some b) : (fsT m w g)[j]? = some (if j = 3 then b else up b g (bt j)) := by
  have hlt := (List.getElem?_eq_some_iff.1 hj).1
  rw [bs_len] at hlt
  rcases (show j = 0 ∨ j = 1 ∨ j = 2 ∨ j = 3 ∨ j = 4 ∨ j = 5 ∨ j = 6 by omega) with rfl | rfl | rfl | rfl | rfl | rfl | rfl <;> (cases hj; rfl)
def chkC (m w : Nat) : Bool := (List.range 7).all fun j => j == 3 || decide (97 ≤ ((bs m w).getD j 0).toNat ∧ ((bs m w).getD j 0).toNat ≤ 122)
theorem tabC : (List.range 12).all (fun m => (List.range 7).all (chkC (m + 1))) = true := by kernel_rfl
theorem bs_bd {m w j : Nat} {b : UInt8} (h1 : 1 ≤ m) (h2 : m ≤ 12) (h3 : w ≤ 6) (hj : (bs m w)[j]? = some b) (h : j ≠ 3) : 97 ≤ b.toNat ∧ b.toNat ≤ 122 := by
  have hc := List.all_eq_true.1 (List.all_eq_true.1 tabC (m - 1) (List.mem_range.2 (by omega))) w (List.mem_range.2 (by omega))
  rw [Nat.sub_add_cancel h1] at hc
  have hlt := (List.getElem?_eq_some_iff.1 hj).1
  rw [bs_len] at hlt
  have := List.all_eq_true.1 hc j (List.mem_range.2 hlt)
  rw [Bool.or_eq_true, decide_eq_true_eq] at this
  rcases this with e | e
  · exact absurd (by simpa using e) h
  · rw [show (bs m w).getD j 0 = b by simp [List.getD, hj]] at e; exact e
theorem sub32 {b : UInt8} (h : 97 ≤ b.toNat) : ((b - 32).toNat : Int) = (b.toNat : Int) - 32 := by
  rw [UInt8.toNat_sub_of_le b 32 (by show (32 : UInt8).toNat ≤ b.toNat; have : (32 : UInt8).toNat = 32 := rfl; omega)]
  have : (32 : UInt8).toNat = 32 := rfl
  omega
theorem half (g t : Nat) : g / 2 ^ t / 2 = g / 2 ^ (t + 1) := by rw [Nat.div_div_eq_div_mul, Nat.pow_succ]
end Go.Proofs.YtcmdjpgabkjbpaaGreatDoor
