/- Plain mathematics of schedules and of their texts (no program in it). -/
import Derived.Lib.Split
import Derived.Lib.Case
import Derived.Lib.ItoaNum
import Derived.Lib.Join
import Derived.Lib.IndexMore
set_option linter.unusedVariables false
namespace Go.Proofs.YtilgamjahediiaaGreatDoor.Crn
/-- what stands between bytes of a kind -/
def splt (c : UInt8) : List UInt8 → List (List UInt8)
  | [] => [[]]
  | b :: r => if b = c then [] :: splt c r else match splt c r with | [] => [[b]] | p :: q => (b :: p) :: q
theorem splt_ne (c : UInt8) (l : List UInt8) : splt c l ≠ [] := by
  cases l with
  | nil => simp [splt]
  | cons b r => unfold splt; split
                · simp
                · split <;> simp
theorem splt_hit (c : UInt8) (r : List UInt8) : splt c (c :: r) = [] :: splt c r := by rw [splt, if_pos rfl]
theorem splt_miss {b c : UInt8} (h : b ≠ c) (r : List UInt8) : ∃ p q, splt c r = p :: q ∧ splt c (b :: r) = (b :: p) :: q := by
  cases hs : splt c r with
  | nil => exact absurd hs (splt_ne c r)
  | cons p q => exact ⟨p, q, rfl, by rw [splt, if_neg h, hs]⟩
theorem splt_app {c : UInt8} (p r : List UInt8) (h : c ∉ p) : splt c (p ++ c :: r) = p :: splt c r := by
  induction p with
  | nil => exact splt_hit c r
  | cons b p ih =>
    have hb : b ≠ c := fun e => h (by simp [e])
    have hp : c ∉ p := fun e => h (by simp [e])
    rw [List.cons_append, splt, if_neg hb, ih hp]
theorem splt_none {c : UInt8} (p : List UInt8) (h : c ∉ p) : splt c p = [p] := by
  induction p with
  | nil => rfl
  | cons b p ih =>
    have hb : b ≠ c := fun e => h (by simp [e])
    have hp : c ∉ p := fun e => h (by simp [e])
    rw [splt, if_neg hb, ih hp]
theorem cut_cases (c : UInt8) (l : List UInt8) : c ∉ l ∨ ∃ p r, l = p ++ c :: r ∧ c ∉ p := by
  induction l with
  | nil => simp
  | cons b l ih =>
    by_cases hb : b = c
    · exact Or.inr ⟨[], l, by simp [hb], by simp⟩
    · rcases ih with h | ⟨p, r, rfl, hp⟩
      · exact Or.inl (by simp; exact ⟨fun e => hb e.symm, h⟩)
      · exact Or.inr ⟨b :: p, r, by simp, by simp; exact ⟨fun e => hb e.symm, hp⟩⟩
theorem splt_mem {c : UInt8} : ∀ (l : List UInt8), ∀ t ∈ splt c l, c ∉ t ∧ t.length ≤ l.length
  | [], t, h => by simp [splt] at h; subst h; simp
  | b :: r, t, h => by
    by_cases hb : b = c
    · subst hb
      rw [splt_hit] at h
      rcases List.mem_cons.1 h with rfl | h
      · simp
      · have := splt_mem r t h; exact ⟨this.1, by simp; omega⟩
    · obtain ⟨p, q, h1, h2⟩ := splt_miss hb r
      rw [h2] at h
      rcases List.mem_cons.1 h with rfl | h
      · have := splt_mem r p (by rw [h1]; simp)
        exact ⟨by simp; exact ⟨fun e => hb e.symm, this.1⟩, by simp; omega⟩
      · have := splt_mem r t (by rw [h1]; simp [h])
        exact ⟨this.1, by simp; omega⟩
theorem splt_len (c : UInt8) : ∀ l : List UInt8, (splt c l).length ≤ l.length + 1
  | [] => by simp [splt]
  | b :: r => by
    have ih := splt_len c r
    by_cases hb : b = c
    · subst hb; rw [splt_hit]; simp; omega
    · obtain ⟨p, q, h1, h2⟩ := splt_miss hb r
      rw [h2]; rw [h1] at ih; simp at ih ⊢; omega
/-- the library's Split, at a byte -/
theorem occ_one (c : UInt8) (l : List UInt8) (i : Nat) : Lib.occAt l [c] i = (l[i]? == some c) := by
  unfold Lib.occAt
  cases h : l.drop i with
  | nil =>
    have : l.length ≤ i := by simpa using h
    rw [List.getElem?_eq_none this]; rfl
  | cons b r =>
    have : l[i]? = some b := by
      have := congrArg (·[0]?) h
      simpa [List.getElem?_drop] using this
    rw [this]
    simp only [List.isPrefixOf, Bool.and_true]
    by_cases hb : c = b
    · subst hb; simp
    · have h2 : ¬ b = c := fun e => hb e.symm
      rw [beq_eq_false_iff_ne.2 hb]; symm; simpa using h2
theorem index_miss {c : UInt8} {l : List UInt8} (h : c ∉ l) : Lib.index l [c] = -1 := by
  apply Lib.index_none
  intro j _
  rw [occ_one]
  cases hj : l[j]? with
  | none => rfl
  | some b =>
    have : b ∈ l := List.mem_of_getElem? hj
    simp; intro e; subst e; exact h this
theorem index_hit {c : UInt8} {p r : List UInt8} (h : c ∉ p) : Lib.index (p ++ c :: r) [c] = p.length := by
  apply Lib.index_first
  · simp
  · rw [occ_one]; simp
  · intro j hj
    rw [occ_one, List.getElem?_append_left hj]
    have : p[j] ∈ p := List.getElem_mem hj
    rw [List.getElem?_eq_getElem hj]
    simp; intro e; rw [e] at this; exact h this
theorem split_eq (c : UInt8) : ∀ (n : Nat) (l : List UInt8), l.length ≤ n → Lib.splitK [c] 0 (Lib.count l [c]) l = splt c l ∧ Lib.count l [c] + 1 = (splt c l).length := by
  intro n
  induction n with
  | zero =>
    intro l h
    obtain rfl : l = [] := by simpa using h
    rw [Lib.count_miss (index_miss (by simp))]
    exact ⟨rfl, rfl⟩
  | succ n ih =>
    intro l h
    rcases cut_cases c l with hm | ⟨p, r, rfl, hp⟩
    · rw [Lib.count_miss (index_miss hm), splt_none l hm]; exact ⟨rfl, rfl⟩
    · have hi := index_hit (r := r) hp
      have hd : (p ++ c :: r).drop (p.length + [c].length) = r := by simp
      have hr : r.length ≤ n := by simp at h; omega
      obtain ⟨i1, i2⟩ := ih r hr
      rw [Lib.count_hit (by simp) hi, hd, splt_app p r hp, Nat.add_comm 1, Lib.splitK, if_neg (by rw [hi]; simp), hi]
      refine ⟨?_, by simp; omega⟩
      rw [Int.toNat_natCast, hd, i1]; simp
/-! What a field may have. -/
def lo (f : Nat) : Int := if f = 2 ∨ f = 3 then 1 else 0
def hi (f : Nat) : Int := match f with | 0 => 59 | 1 => 23 | 2 => 31 | 3 => 12 | _ => 6
def wr (f : Nat) : Int := if f = 4 then 7 else hi f
def nms (f : Nat) : List UInt8 := match f with
  | 3 => [106, 97, 110, 102, 101, 98, 109, 97, 114, 97, 112, 114, 109, 97, 121, 106, 117, 110, 106, 117, 108, 97, 117, 103, 115, 101, 112, 111, 99, 116, 110, 111, 118, 100, 101, 99]
  | 4 => [115, 117, 110, 109, 111, 110, 116, 117, 101, 119, 101, 100, 116, 104, 117, 102, 114, 105, 115, 97, 116]
  | _ => []
def cnt (f : Nat) (n : Int) : Int := if hi f < n then lo f else n
theorem lo_bd (f : Nat) : 0 ≤ lo f ∧ lo f ≤ 1 := by unfold lo; split <;> omega
theorem hi_bd (f : Nat) : 6 ≤ hi f ∧ hi f ≤ 59 := by unfold hi; split <;> omega
theorem wr_bd (f : Nat) : hi f ≤ wr f ∧ wr f ≤ 59 := by
  unfold wr
  have := hi_bd f
  split
  · rename_i h; subst h; decide
  · omega
theorem wr_hi (f : Nat) (h : f ≠ 4) : wr f = hi f := by unfold wr; rw [if_neg h]
theorem cnt_bd {f : Nat} {n : Int} (h1 : lo f ≤ n) : lo f ≤ cnt f n ∧ cnt f n ≤ hi f := by
  unfold cnt
  have := hi_bd f; have := lo_bd f
  split <;> omega
/-! A number. -/
def isD (b : UInt8) : Bool := decide (48 ≤ b.toNat ∧ b.toNat ≤ 57)
def dv (b : UInt8) : Int := (b.toNat : Int) - 48
theorem dv_bd {b : UInt8} (h : isD b = true) : 0 ≤ dv b ∧ dv b ≤ 9 := by unfold isD at h; unfold dv; simp at h; omega
def rDig : List UInt8 → Option (Int × List UInt8)
  | [] => none
  | [a] => if isD a = true then some (dv a, []) else none
  | a :: b :: r => if isD a = true then (if isD b = true then some (dv a * 10 + dv b, r) else some (dv a, b :: r)) else none
def digs : List UInt8 → Option Int
  | [a] => if isD a = true then some (dv a) else none
  | [a, b] => if isD a = true ∧ isD b = true then some (10 * dv a + dv b) else none
  | _ => none
/-- the number of a name among names of three bytes -/
def fnd : List UInt8 → List UInt8 → Int → Option Int
  | a :: b :: c :: r, t, i => if [a, b, c] = t then some i else fnd r t (i + 1)
  | _, _, _ => none
def nm (f : Nat) (t : List UInt8) : Option Int := fnd (nms f) (t.map Lib.lowerB) (lo f)
def rName (f : Nat) (l : List UInt8) : Option (Int × List UInt8) := if l.length < 3 then none else (nm f (l.take 3)).map fun n => (n, l.drop 3)
def rNum (f : Nat) (l : List UInt8) : Option (Int × List UInt8) :=
  match rName f l with
  | some p => some p
  | none => (rDig l).bind fun p => if lo f ≤ p.1 ∧ p.1 ≤ wr f then some p else none
def rStep (l : List UInt8) : Option (Int × List UInt8) :=
  if l.head? = some 47 then (rDig l.tail).bind fun p => if 0 < p.1 then some p else none else some (1, l)
def rPiece (f : Nat) (l : List UInt8) : Option ((Int × Int × Int) × List UInt8) :=
  if l.head? = some 42 then (rStep l.tail).map fun s => ((lo f, hi f, s.1), s.2)
  else (rNum f l).bind fun p => if p.2.head? = some 45 then (rNum f p.2.tail).bind fun q => if p.1 ≤ q.1 then (rStep q.2).map fun s => ((p.1, q.1, s.1), s.2) else none
    else some ((p.1, p.1, 1), p.2)
def pc (f : Nat) (l : List UInt8) : Option (Int × Int × Int) := (rPiece f l).bind fun p => if p.2 = [] then some p.1 else none
/-! The numbers of pieces. -/
def sqf : Nat → Int → Int → Int → List Int
  | 0, _, _, _ => []
  | k + 1, a, b, s => if a ≤ b then a :: sqf k (a + s) b s else []
def sq (a b s : Int) : List Int := sqf (b + 1 - a).toNat a b s
theorem sqf_fuel (b s : Int) (hs : 1 ≤ s) : ∀ (k j : Nat) (a : Int), (b + 1 - a).toNat ≤ k → (b + 1 - a).toNat ≤ j → sqf k a b s = sqf j a b s := by
  intro k
  induction k with
  | zero =>
    intro j a h1 h2
    cases j with
    | zero => rfl
    | succ j => rw [sqf, sqf, if_neg (by omega)]
  | succ k ih =>
    intro j a h1 h2
    cases j with
    | zero => rw [sqf, sqf, if_neg (by omega)]
    | succ j =>
      rw [sqf, sqf]
      by_cases h : a ≤ b
      · rw [if_pos h, if_pos h, ih j (a + s) (by omega) (by omega)]
      · rw [if_neg h, if_neg h]
theorem sq_step {a b s : Int} (hs : 1 ≤ s) (h : a ≤ b) : sq a b s = a :: sq (a + s) b s := by
  unfold sq
  rw [show (b + 1 - a).toNat = (b - a).toNat + 1 by omega, sqf, if_pos h, sqf_fuel b s hs _ (b + 1 - (a + s)).toNat _ (by omega) (by omega)]
theorem sq_end {a b s : Int} (h : b < a) : sq a b s = [] := by
  unfold sq
  rw [show (b + 1 - a).toNat = 0 by omega, sqf]
theorem sq_mem {b s : Int} (hs : 1 ≤ s) : ∀ (k : Nat) (a m : Int), (b + 1 - a).toNat ≤ k → (m ∈ sq a b s ↔ a ≤ m ∧ m ≤ b ∧ (m - a) % s = 0) := by
  intro k
  induction k with
  | zero =>
    intro a m h
    rw [sq_end (by omega)]; simp; omega
  | succ k ih =>
    intro a m h
    by_cases hab : a ≤ b
    · rw [sq_step hs hab, List.mem_cons, ih (a + s) m (by omega)]
      have e : (m - (a + s)) % s = (m - a) % s := by rw [show m - (a + s) = m - a - s by omega, Int.sub_emod_right]
      rw [e]
      constructor
      · rintro (rfl | ⟨h1, h2, h3⟩)
        · exact ⟨Int.le_refl _, hab, by simp⟩
        · exact ⟨by omega, h2, h3⟩
      · rintro ⟨h1, h2, h3⟩
        by_cases hm : m = a
        · exact Or.inl hm
        · refine Or.inr ⟨?_, h2, h3⟩
          have h4 : s ≤ m - a := Int.le_of_dvd (by omega) (Int.dvd_of_emod_eq_zero h3)
          omega
    · rw [sq_end (by omega)]; simp; omega
theorem sq_bd {a b s : Int} (hs : 1 ≤ s) {m : Int} (h : m ∈ sq a b s) : a ≤ m ∧ m ≤ b := by
  have := (sq_mem hs _ a m (Nat.le_refl _)).1 h; exact ⟨this.1, this.2.1⟩
theorem sq_len {b s : Int} (hs : 1 ≤ s) : ∀ (k : Nat) (a : Int), (b + 1 - a).toNat ≤ k → (sq a b s).length ≤ k := by
  intro k
  induction k with
  | zero => intro a h; rw [sq_end (by omega)]; simp
  | succ k ih =>
    intro a h
    by_cases hab : a ≤ b
    · rw [sq_step hs hab]; have := ih (a + s) (by omega); simp; omega
    · rw [sq_end (by omega)]; simp
def gat (f : Nat) : List (List UInt8) → Option (List Int)
  | [] => some []
  | t :: r => (pc f t).bind fun q => (gat f r).map fun l => (sq q.1 q.2.1 q.2.2).map (cnt f) ++ l
/-- those numbers from n on, k at most, that a list has -/
def pick (all : List Int) : Nat → Int → List Int
  | 0, _ => []
  | k + 1, n => if all.contains n = true then n :: pick all k (n + 1) else pick all k (n + 1)
def lst (f : Nat) (all : List Int) : List Int := pick all (hi f + 1 - lo f).toNat (lo f)
def prt (f : Nat) (p : List UInt8) : Option (List Int) := (gat f (splt 44 p)).map (lst f)
def prsL : Nat → List (List UInt8) → Option (List (List Int))
  | _, [] => some []
  | f, p :: r => (prt f p).bind fun a => (prsL (f + 1) r).map fun l => a :: l
structure CR where
  L : Nat → List Int
  st : Nat → Bool
def crOf (ls : List (List Int)) (ps : List (List UInt8)) : CR := ⟨fun i => ls.getD i [], fun i => decide (ps.getD i [] = [42])⟩
def prs (s : List UInt8) : Option CR := if (splt 32 s).length = 5 then (prsL 0 (splt 32 s)).map fun ls => crOf ls (splt 32 s) else none
/-! Whether it may be. -/
def rises (least top : Int) : List Int → Bool
  | [] => true
  | a :: r => decide (least ≤ a ∧ a ≤ top) && rises (a + 1) top r
def mayF (f : Nat) (l : List Int) (s : Bool) : Bool := !l.isEmpty && rises (lo f) (hi f) l && (!s || decide ((l.length : Int) = hi f - lo f + 1))
def mayC (c : CR) : Bool := mayF 0 (c.L 0) (c.st 0) && mayF 1 (c.L 1) (c.st 1) && mayF 2 (c.L 2) (c.st 2) && mayF 3 (c.L 3) (c.st 3) && mayF 4 (c.L 4) (c.st 4)
/-! A schedule's text. -/
def ptxt (l : List Int) (s : Bool) : List UInt8 := if s = true then [42] else Lib.join (l.map Lib.itoa) [44]
def wtxt (c : CR) : List UInt8 := Lib.join [ptxt (c.L 0) (c.st 0), ptxt (c.L 1) (c.st 1), ptxt (c.L 2) (c.st 2), ptxt (c.L 3) (c.st 3), ptxt (c.L 4) (c.st 4)] [32]
end Go.Proofs.YtilgamjahediiaaGreatDoor.Crn
