/- How a text parses (plain mathematics). -/
import Derived.Test.YtlmjopembcifiaaDoorStRefZ
namespace Go.Proofs.YtlmjopembcifiaaDoor
open Go.ChangeShapes Go.WideShapes Go.ChangeAt Go.RowKit
open Civ
/-! How a text parses (plain mathematics). -/
theorem rsign_drop {those l r : List UInt8} {c : UInt8} (h : rsign those l = some (c, r)) : r = l.drop 1 ∧ l.head? = some c ∧ those.contains c = true := by
  obtain ⟨rfl, h2⟩ := rsign_some h
  exact ⟨rfl, rfl, h2⟩
/-- the six numbers of a text -/
def N6 (l : List UInt8) : Int × Int × Int × Int × Int × Int :=
  (nz (rnum 4 0 (l.drop 0)), nz (rnum 2 0 (l.drop 5)), nz (rnum 2 0 (l.drop 8)), nz (rnum 2 0 (l.drop 11)), nz (rnum 2 0 (l.drop 14)), nz (rnum 2 0 (l.drop 17)))
/-- the signs of a text -/
def Signs (l : List UInt8) : Prop :=
  (rsign [45] (l.drop 4)).isSome = true ∧ (rsign [45] (l.drop 7)).isSome = true ∧ (rsign [84, 116] (l.drop 10)).isSome = true ∧ (rsign [58] (l.drop 13)).isSome = true ∧ (rsign [58] (l.drop 16)).isSome = true
def Nums (l : List UInt8) : Prop :=
  (rnum 4 0 (l.drop 0)).isSome = true ∧ (rnum 2 0 (l.drop 5)).isSome = true ∧ (rnum 2 0 (l.drop 8)).isSome = true ∧ (rnum 2 0 (l.drop 11)).isSome = true ∧ (rnum 2 0 (l.drop 14)).isSome = true ∧ (rnum 2 0 (l.drop 17)).isSome = true
theorem num_at {l : List UInt8} {k f : Nat} (h : (rnum k 0 (l.drop f)).isSome = true) : ∃ n, rnum k 0 (l.drop f) = some (n, l.drop (f + k)) := by
  rcases q : rnum k 0 (l.drop f) with _ | ⟨n, r⟩
  · rw [q] at h; cases h
  · obtain ⟨g, _, _⟩ := rnum_some _ _ _ _ _ q
    exact ⟨n, by rw [g, List.drop_drop]⟩
theorem sign_at {l those : List UInt8} {f : Nat} (h : (rsign those (l.drop f)).isSome = true) : ∃ c, rsign those (l.drop f) = some (c, l.drop (f + 1)) := by
  rcases q : rsign those (l.drop f) with _ | ⟨c, r⟩
  · rw [q] at h; cases h
  · obtain ⟨g, _, _⟩ := rsign_drop q
    exact ⟨c, by rw [g, List.drop_drop]⟩
theorem rciv_yes {l : List UInt8} (h : Signs l) (k : Nums l) : rciv l = some (N6 l, l.drop 19) := by
  obtain ⟨s1, s2, s3, s4, s5⟩ := h
  obtain ⟨k1, k2, k3, k4, k5, k6⟩ := k
  obtain ⟨c1, s1⟩ := sign_at s1
  obtain ⟨c2, s2⟩ := sign_at s2
  obtain ⟨c3, s3⟩ := sign_at s3
  obtain ⟨c4, s4⟩ := sign_at s4
  obtain ⟨c5, s5⟩ := sign_at s5
  obtain ⟨n1, k1⟩ := num_at k1
  obtain ⟨n2, k2⟩ := num_at k2
  obtain ⟨n3, k3⟩ := num_at k3
  obtain ⟨n4, k4⟩ := num_at k4
  obtain ⟨n5, k5⟩ := num_at k5
  obtain ⟨n6, k6⟩ := num_at k6
  unfold rciv N6
  rw [show rnum 4 0 l = rnum 4 0 (l.drop 0) from rfl, k1]
  simp only [Option.bind_some, s1, k2, s2, k3, s3, k4, s4, k5, s5, k6, nz]
theorem rciv_no {l : List UInt8} {x : (Int × Int × Int × Int × Int × Int) × List UInt8} (h : rciv l = some x) : Signs l ∧ Nums l := by
  unfold rciv at h
  rcases k1 : rnum 4 0 l with _ | ⟨n1, r1⟩
  · rw [k1] at h; cases h
  have g1 := (rnum_some _ _ _ _ _ k1).1
  rw [k1] at h; simp only [Option.bind_some] at h; rw [g1] at h
  rcases s1 : rsign [45] (l.drop 4) with _ | ⟨b1, t1⟩
  · rw [s1] at h; cases h
  have f1 := (rsign_drop s1).1
  rw [s1] at h; simp only [Option.bind_some] at h; rw [f1, List.drop_drop] at h
  rcases k2 : rnum 2 0 (l.drop 5) with _ | ⟨n2, r2⟩
  · rw [k2] at h; cases h
  have g2 := (rnum_some _ _ _ _ _ k2).1
  rw [k2] at h; simp only [Option.bind_some] at h; rw [g2, List.drop_drop] at h
  rcases s2 : rsign [45] (l.drop 7) with _ | ⟨b2, t2⟩
  · rw [s2] at h; cases h
  have f2 := (rsign_drop s2).1
  rw [s2] at h; simp only [Option.bind_some] at h; rw [f2, List.drop_drop] at h
  rcases k3 : rnum 2 0 (l.drop 8) with _ | ⟨n3, r3⟩
  · rw [k3] at h; cases h
  have g3 := (rnum_some _ _ _ _ _ k3).1
  rw [k3] at h; simp only [Option.bind_some] at h; rw [g3, List.drop_drop] at h
  rcases s3 : rsign [84, 116] (l.drop 10) with _ | ⟨b3, t3⟩
  · rw [s3] at h; cases h
  have f3 := (rsign_drop s3).1
  rw [s3] at h; simp only [Option.bind_some] at h; rw [f3, List.drop_drop] at h
  rcases k4 : rnum 2 0 (l.drop 11) with _ | ⟨n4, r4⟩
  · rw [k4] at h; cases h
  have g4 := (rnum_some _ _ _ _ _ k4).1
  rw [k4] at h; simp only [Option.bind_some] at h; rw [g4, List.drop_drop] at h
  rcases s4 : rsign [58] (l.drop 13) with _ | ⟨b4, t4⟩
  · rw [s4] at h; cases h
  have f4 := (rsign_drop s4).1
  rw [s4] at h; simp only [Option.bind_some] at h; rw [f4, List.drop_drop] at h
  rcases k5 : rnum 2 0 (l.drop 14) with _ | ⟨n5, r5⟩
  · rw [k5] at h; cases h
  have g5 := (rnum_some _ _ _ _ _ k5).1
  rw [k5] at h; simp only [Option.bind_some] at h; rw [g5, List.drop_drop] at h
  rcases s5 : rsign [58] (l.drop 16) with _ | ⟨b5, t5⟩
  · rw [s5] at h; cases h
  have f5 := (rsign_drop s5).1
  rw [s5] at h; simp only [Option.bind_some] at h; rw [f5, List.drop_drop] at h
  rcases k6 : rnum 2 0 (l.drop 17) with _ | ⟨n6, r6⟩
  · rw [k6] at h; cases h
  exact ⟨⟨by rw [s1]; rfl, by rw [s2]; rfl, by rw [s3]; rfl, by rw [s4]; rfl, by rw [s5]; rfl⟩, ⟨by rw [List.drop_zero, k1]; rfl, by rw [k2]; rfl, by rw [k3]; rfl, by rw [k4]; rfl, by rw [k5]; rfl, by rw [k6]; rfl⟩⟩
theorem parse_signs {l : List UInt8} (h : ¬ Signs l) : rparse l = none := by
  have : rciv l = none := by
    rcases q : rciv l with _ | x
    · rfl
    · exact absurd (rciv_no q).1 h
  simp only [rparse, rread, this, Option.bind_none]
noncomputable def may6 (p : Int × Int × Int × Int × Int × Int) : Bool := mayB p.1 p.2.1 p.2.2.1 p.2.2.2.1 p.2.2.2.2.1 p.2.2.2.2.2
def sec6 (p : Int × Int × Int × Int × Int × Int) : Int := sec p.1 p.2.1 p.2.2.1 p.2.2.2.1 p.2.2.2.2.1 p.2.2.2.2.2
theorem may_nums {l : List UInt8} (h : may6 (N6 l) = true) : Nums l := by
  unfold may6 N6 at h
  obtain ⟨⟨h1, h2, h3, h4⟩, ht⟩ := may_iff.1 h
  obtain ⟨m1, m2⟩ := ok_month h3 h4
  have t := tm_bd ht
  have key : ∀ o : Option (Int × List UInt8), 0 ≤ nz o → o.isSome = true := fun o ho => by
    rcases o with _ | x
    · simp [nz] at ho
    · rfl
  exact ⟨key _ (by simp only [] at h1 ⊢; omega), key _ (by simp only [] at m1 ⊢; omega), key _ (by simp only [] at h3 ⊢; omega), key _ t.1, key _ t.2.2.1, key _ t.2.2.2.2.1⟩
theorem parse_frac {l : List UInt8} (h : rfrac (l.drop 19) = none) : rparse l = none := by
  rcases q : rciv l with _ | ⟨p, r⟩
  · simp only [rparse, rread, q, Option.bind_none]
  · obtain ⟨s, k⟩ := rciv_no q
    rw [rciv_yes s k] at q
    cases q
    simp only [rparse, rread, rciv_yes s k, Option.bind_some, h, Option.bind_none]
theorem parse_eq {l r2 : List UInt8} (hs : Signs l) (hf : rfrac (l.drop 19) = some r2) : rparse l = if may6 (N6 l) = true then (zOut r2).map (fun z => sec6 (N6 l) - z) else none := by
  by_cases hn : Nums l
  · simp only [rparse, rread, rciv_yes hs hn, Option.bind_some, hf]
    rcases q : rzone r2 with _ | ⟨z, r3⟩
    · simp only [Option.bind_none, zOut, q, Option.map_none, ite_self]
    · simp only [Option.bind_some, zOut, q]
      cases r3 with
      | nil => simp only [if_true, Option.bind_some, Option.map_some]; rfl
      | cons b t => simp only [List.cons_ne_nil, if_false, Option.bind_none, Option.map_none, ite_self]
  · rw [if_neg (fun h => hn (may_nums h))]
    rcases q : rciv l with _ | ⟨p, r⟩
    · simp only [rparse, rread, q, Option.bind_none]
    · exact absurd (rciv_no q).2 hn
/-- a fraction -/
theorem frac_eq (r : List UInt8) : rfrac (46 :: r) = match r with
    | [] => none
    | c :: t => if digs.contains c = true then some ((c :: t).dropWhile (digs.contains ·)) else none := by
  rw [rfrac, if_pos rfl]
  cases r with
  | nil => rfl
  | cons c t =>
    rw [rnum, rsign_cons]
    by_cases hc : digs.contains c = true
    · have hc' : [48, 49, 50, 51, 52, 53, 54, 55, 56, 57].contains c = true := hc
      rw [if_pos hc']
      simp only [rnum, Option.map_some, if_pos hc, Lib.trimLeftS]
      rw [List.dropWhile_cons_of_pos hc]
    · have hc' : ¬ [48, 49, 50, 51, 52, 53, 54, 55, 56, 57].contains c = true := hc
      rw [if_neg hc']
      simp only [Option.map_none, if_neg hc]
theorem short_none {l : List UInt8} (h : l.length < 20) : rparse l = none := by
  rcases q : rciv l with _ | ⟨p, r⟩
  · simp only [rparse, rread, q, Option.bind_none]
  · obtain ⟨s, k⟩ := rciv_no q
    have hd : l.drop 19 = [] ∨ ∃ c, l.drop 19 = [c] := by
      cases hd : l.drop 19 with
      | nil => exact Or.inl rfl
      | cons c t => have := congrArg List.length hd; rw [List.length_drop] at this; simp at this; omega
    rcases hd with hd | ⟨c, hd⟩
    · have hf : rfrac (l.drop 19) = some [] := by rw [hd]; rfl
      rw [parse_eq s hf]
      have : zOut [] = none := rfl
      rw [this]; simp
    · have := congrArg List.length hd; rw [List.length_drop] at this; simp at this; omega
end Go.Proofs.YtlmjopembcifiaaDoor
