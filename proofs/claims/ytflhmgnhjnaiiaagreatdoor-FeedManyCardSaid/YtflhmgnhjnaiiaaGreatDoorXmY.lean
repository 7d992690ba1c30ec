/- Several texts of this seat, one behind the other. -/
import Derived.Test.YtflhmgnhjnaiiaaGreatDoorXmX
import Derived.Test.YtflhmgnhjnaiiaaGreatDoorEnRX
import Derived.BigQuiet
import Derived.Laws.AppendOwnNone
import Derived.Deep.RegionHeld3
import Derived.Deep.CutBlock
import Derived.Deep.CutRange
set_option linter.unusedSimpArgs false
/- The document's own answers of layer xml: signs, names, local parts. -/
set_option linter.unusedVariables false
namespace Go.Proofs.YtflhmgnhjnaiiaaGreatDoor
open Go.ChangeShapes Go.WideShapes Go.ChangeAt Go.RowKit
open En Xm
/-- a range of bytes goes by a table -/
theorem sgn_at (f : Bool) (c : UInt8) (lo hi : Nat) (h1 : lo ≤ c.toNat) (h2 : c.toNat ≤ hi) (h3 : hi < 256) {b : Bool} (h : ∀ n : Fin 256, lo ≤ n.val → n.val ≤ hi → sgn f (UInt8.ofNat n.val) = b) : sgn f c = b := by
  have := h ⟨c.toNat, by omega⟩ h1 h2
  simp only [UInt8.ofNat_toNat] at this
  exact this
theorem allN_take {s : B} (h : allN s = true) (k : Nat) : allN (s.take k) = true := by
  cases s with
  | nil => simp [allN]
  | cons c r =>
    cases k with
    | zero => rfl
    | succ k =>
      unfold allN at h
      rw [Bool.and_eq_true] at h
      rw [List.take_succ_cons]
      unfold allN
      rw [Bool.and_eq_true]
      exact ⟨h.1, List.all_eq_true.2 (fun x hx => List.all_eq_true.1 h.2 x (List.mem_of_mem_take hx))⟩
theorem allN_snoc (a : B) (c : UInt8) : allN (a ++ [c]) = (allN a && sgn a.isEmpty c) := by
  cases a with
  | nil => simp [allN]
  | cons d a => simp [allN, Bool.and_assoc]
theorem take_snoc {s : B} {k : Nat} {c : UInt8} (h : s[k]? = some c) : s.take (k + 1) = s.take k ++ [c] := by rw [List.take_add_one, h]; rfl
theorem empty_take {s : B} {k : Nat} (h : k < s.length) : (s.take k).isEmpty = ((k : Int) == 0) := by
  cases k with
  | zero => simp
  | succ k =>
    cases s with
    | nil => simp at h
    | cons c s => simp; omega
end Go.Proofs.YtflhmgnhjnaiiaaGreatDoor
/- The document's own answers of layer xml: its reader's block, and what reads and moves it. -/
set_option linter.unusedVariables false
namespace Go.Proofs.YtflhmgnhjnaiiaaGreatDoor
open Go.ChangeShapes Go.WideShapes Go.ChangeAt Go.RowKit
open En Xm
/-- a call turns one block alone of what lay -/
structure Ob (b : Nat) (w w' : World) : Prop where
  os : w'.os = w.os
  tape : w'.tape = w.tape
  output : w'.output = w.output
  size : w.heap.size ≤ w'.heap.size
  block : ∀ k, k < w.heap.size → k ≠ b → w'.heap[k]? = w.heap[k]?
theorem Ob.refl (b : Nat) (w : World) : Ob b w w := ⟨rfl, rfl, rfl, Nat.le_refl _, fun _ _ _ => rfl⟩
theorem Ob.trans {b : Nat} {w x y : World} (h : Ob b w x) (k : Ob b x y) : Ob b w y :=
  ⟨k.os.trans h.os, k.tape.trans h.tape, k.output.trans h.output, Nat.le_trans h.size k.size, fun j hj hb => (k.block j (Nat.lt_of_lt_of_le hj h.size) hb).trans (h.block j hj hb)⟩
theorem Ob.kept {b : Nat} {w x y : World} (h : Ob b w x) (k : Kept x y) : Ob b w y :=
  h.trans ⟨k.os, k.tape, k.output, k.size, fun j hj _ => k.block j hj⟩
theorem Ob.drewN {b : Nat} {w x : World} (h : Ob b w x) (n : Nat) : Ob b w (x.drewN n) := h.kept ((Kept.refl x).drewN n)
theorem Ob.set {b : Nat} {w x : World} (h : Ob b w x) (j : Nat) (v : Value) : Ob b w (x.setCell ⟨b, j, none⟩ v) :=
  h.trans ⟨rfl, rfl, rfl, by simp [World.setCell], fun k hk hb => Below.heap_setCell _ _ _ _ hb⟩
theorem Ob.below {b B : Nat} {w w' : World} (h : Ob b w w') (hB : B ≤ b) (hw : B ≤ w.heap.size) : Below B w w' := ⟨h.os, h.tape, h.output, h.size, fun k hk => h.block k (by omega) (by omega)⟩
abbrev sV (s : B) : Value := .string ⟨s.toArray⟩
abbrev iV (n : Int) : Value := .int .i64 n
abbrev pV (b : Nat) : Value := .pointer (some ⟨b, 0, none⟩)
/-- the first error counts -/
def er1 (e e' : Int) : Int := if e = 0 then e' else e
theorem begins_at {s p : B} {at0 : Nat} (h : at0 ≤ s.length) : p.isPrefixOf (s.drop at0) = (decide ((p.length : Int) ≤ s.length - at0) && decide ((s.take (at0 + p.length)).drop at0 = p)) := by
  have e1 : (s.take (at0 + p.length)).drop at0 = (s.drop at0).take p.length := by rw [List.drop_take, Nat.add_sub_cancel_left]
  rw [e1, Bool.eq_iff_iff, List.isPrefixOf_iff_prefix, Bool.and_eq_true, decide_eq_true_eq, decide_eq_true_eq]
  constructor
  · intro q
    have := q.length_le
    rw [List.length_drop] at this
    refine ⟨by omega, ?_⟩
    obtain ⟨t, ht⟩ := q
    rw [← ht]; simp
  · rintro ⟨_, q⟩
    exact ⟨(s.drop at0).drop p.length, by conv => lhs; lhs; rw [← q]
                                          exact List.take_append_drop _ _⟩
theorem ret_bool' {a b : Bool} (h : a = b) : Ending.returned (.bool a) = .returned (.bool b) := by rw [h]
end Go.Proofs.YtflhmgnhjnaiiaaGreatDoor
/- The document's own answers of layer xml: what its reader takes: up to a text, spaces, a name. -/
set_option linter.unusedVariables false
namespace Go.Proofs.YtflhmgnhjnaiiaaGreatDoor
open Go.ChangeShapes Go.WideShapes Go.ChangeAt Go.RowKit
open En Xm
theorem quiet_eq {f : FuncId} {args : Array Value} {w : World} {n : Nat} {v : Value} (h : Calls Tryz.prog f args (w.drewN n) fun e w' => e = .returned v ∧ w.drewN n = w') : Calls Tryz.prog f args (w.drewN n) fun e w'' => e = .returned v ∧ ∃ m, w'' = w.drewN m :=
  h.mono fun e w'' h => ⟨h.1, n, h.2.symm⟩
theorem upt_short {p r : B} (hp : p ≠ []) (h : r.length < p.length) : upt p r = none := by
  cases e : upt p r with
  | none => rfl
  | some x =>
    have := congrArg List.length (upt_len hp (a := x.1) (u := x.2) e).2
    simp at this; omega
theorem drop_at2 {s : B} {k : Nat} {c : UInt8} (h : s[k]? = some c) : s.drop k = c :: s.drop (k + 1) := by
  obtain ⟨hk, h2⟩ := List.getElem?_eq_some_iff.1 h
  rw [List.drop_eq_getElem_cons hk, h2]
theorem upt_here {p s : B} {i : Nat} (hi : i < s.length) (h : p.isPrefixOf (s.drop i) = true) : upt p (s.drop i) = some ([], s.drop (i + p.length)) := by
  have hd := List.drop_eq_getElem_cons hi
  rw [hd] at h ⊢
  rw [upt, if_pos h, ← hd, List.drop_drop]
theorem upt_on {p s : B} {at0 i : Nat} (ha : at0 ≤ i) (hi : i < s.length) (h : p.isPrefixOf (s.drop i) = false) (hI : upt p (s.drop at0) = (upt p (s.drop i)).map fun x => ((s.take i).drop at0 ++ x.1, x.2)) :
    upt p (s.drop at0) = (upt p (s.drop (i + 1))).map fun x => ((s.take (i + 1)).drop at0 ++ x.1, x.2) := by
  have hd := List.drop_eq_getElem_cons hi
  have ht : s.take (i + 1) = s.take i ++ [s[i]] := by rw [List.take_add_one, List.getElem?_eq_getElem hi]; rfl
  rw [hI, hd]
  rw [hd] at h
  rw [upt, if_neg (by rw [h]; decide), ht, List.drop_append_of_le_length (by rw [List.length_take]; omega), Option.map_map]
  congr 1
  funext x
  simp
theorem skip_on {s : B} {k : Nat} {c : UInt8} (h : s[k]? = some c) : skip (s.drop k) = if spB c = true then skip (s.drop (k + 1)) else s.drop k := by
  rw [drop_at2 h]
  unfold skip
  rw [List.dropWhile_cons]
end Go.Proofs.YtflhmgnhjnaiiaaGreatDoor
/- The document's own answers of layer xml: a name that is taken. -/
set_option linter.unusedVariables false
namespace Go.Proofs.YtflhmgnhjnaiiaaGreatDoor
open Go.ChangeShapes Go.WideShapes Go.ChangeAt Go.RowKit
open En Xm
theorem nmS_end {t y : B} (h : allN t = true) (hy : ∀ c r, y = c :: r → sgn t.isEmpty c = false) : nmS (t ++ y) = (t, y) := by
  cases t with
  | nil =>
    cases y with
    | nil => rfl
    | cons c r => rw [List.nil_append, nmS, if_neg (by rw [show sgn true c = false from hy c r rfl]; decide)]
  | cons c r =>
    unfold allN at h
    rw [Bool.and_eq_true] at h
    rw [List.cons_append, nmS, if_pos h.1]
    have e1 : (r ++ y).takeWhile (sgn false) = r := by
      rw [List.takeWhile_append_of_pos (fun a ha => List.all_eq_true.1 h.2 a ha)]
      cases y with
      | nil => simp
      | cons d y => rw [List.takeWhile_cons, if_neg (by rw [show sgn false d = false from hy d y rfl]; decide)]; simp
    have e2 : (r ++ y).dropWhile (sgn false) = y := by
      rw [List.dropWhile_append_of_pos (fun a ha => List.all_eq_true.1 h.2 a ha)]
      cases y with
      | nil => rfl
      | cons d y => rw [List.dropWhile_cons, if_neg (by rw [show sgn false d = false from hy d y rfl]; decide)]
    rw [e1, e2]
theorem sub_snoc {s : B} {a k : Nat} {c : UInt8} (ha : a ≤ k) (h : s[k]? = some c) : (s.take (k + 1)).drop a = (s.take k).drop a ++ [c] := by
  have hk := (List.getElem?_eq_some_iff.1 h).1
  rw [take_snoc h, List.drop_append_of_le_length (by rw [List.length_take]; omega)]
theorem sub_all {s : B} {a k : Nat} (ha : a ≤ k) (hk : k ≤ s.length) : s.drop a = (s.take k).drop a ++ s.drop k := by
  have : s.drop a = (s.take k ++ s.drop k).drop a := by rw [List.take_append_drop]
  rw [this, List.drop_append_of_le_length (by rw [List.length_take]; omega)]
theorem sub_empty {s : B} {a k : Nat} (ha : a ≤ k) (hk : k ≤ s.length) : ((s.take k).drop a).isEmpty = ((k : Int) == (a : Int)) := by
  have hl : ((s.take k).drop a).length = k - a := by rw [List.length_drop, List.length_take]; omega
  rw [Bool.eq_iff_iff, List.isEmpty_iff, beq_iff_eq]
  constructor
  · intro e
    rw [e] at hl
    simp at hl; omega
  · intro e
    exact List.length_eq_zero_iff.1 (by omega)
end Go.Proofs.YtflhmgnhjnaiiaaGreatDoor
/- The document's own answers of layer xml: an attribute that is taken. -/
set_option linter.unusedVariables false
namespace Go.Proofs.YtflhmgnhjnaiiaaGreatDoor
open Go.ChangeShapes Go.WideShapes Go.ChangeAt Go.RowKit
open En Xm
abbrev atV (a : Atr) : Value := .agg #[sV a.1, sV a.2]
/-- an attribute in a block of its own -/
def Ba (k : Nat) (a : Atr) (w : World) : Prop := w.heap[k]? = some (.cells #[sV a.1, sV a.2] 120 (0, 0))
theorem Ba.lt {k : Nat} {a : Atr} {w : World} (h : Ba k a w) : k < w.heap.size := (Array.getElem?_eq_some_iff.1 h).1
theorem Ba.cs {k : Nat} {a : Atr} {w : World} (h : Ba k a w) : w.cell? ⟨k, 0, none⟩ = some (sV a.1) ∧ w.cell? ⟨k, 1, none⟩ = some (sV a.2) := by
  unfold Ba at h
  simp [World.cell?, h]
theorem Ba.fz {k : Nat} {a : Atr} {w : World} (h : Ba k a w) (j : Nat) : w.frozen? ⟨k, j, none⟩ = false := Lib.frozen_of_heap h j
theorem Ba.ob {k b : Nat} {a : Atr} {w w' : World} (h : Ba k a w) (o : Ob b w w') (hne : k ≠ b) : Ba k a w' := (o.block k h.lt hne).trans h
theorem Ba.kept {k : Nat} {a : Atr} {w w' : World} (h : Ba k a w) (o : Kept w w') : Ba k a w' := (o.block k h.lt).trans h
theorem ba_new (w : World) (a : Atr) : Ba w.heap.size a (w.alloc (.cells #[sV a.1, sV a.2] 120)) := by
  show (w.heap.push _)[w.heap.size]? = _
  simp
theorem nm_drop (r : B) (s : B) (at0 : Nat) (hr : r = s.drop at0) (ha : at0 ≤ s.length) : s.drop (s.length - (nmS r).2.length) = (nmS r).2 ∧ (nmS r).2.length ≤ s.length := by
  have h1 := nmS_eq r
  have h2 := nmS_len r
  have h3 : r.length = s.length - at0 := by rw [hr, List.length_drop]
  have h4 : (nmS r).2.length ≤ s.length := by omega
  refine ⟨?_, h4⟩
  have : s.drop (at0 + (nmS r).1.length) = (nmS r).2 := by
    rw [← List.drop_drop, ← hr]
    have e := congrArg (List.drop (nmS r).1.length) h1
    rw [List.drop_left] at e
    exact e
  rw [show s.length - (nmS r).2.length = at0 + (nmS r).1.length by omega, this]
theorem upt_drop {p r a u s : B} {at0 : Nat} (hp : p ≠ []) (hr : r = s.drop at0) (ha : at0 ≤ s.length) (h : upt p r = some (a, u)) : s.drop (s.length - u.length) = u ∧ u.length ≤ s.length := by
  have h1 := (upt_len hp h).2
  have h3 : r.length = s.length - at0 := by rw [hr, List.length_drop]
  have h2 := congrArg List.length h1
  simp only [List.length_append] at h2
  refine ⟨?_, by omega⟩
  have : s.drop (at0 + (a ++ p).length) = u := by
    rw [← List.drop_drop, ← hr, h1, List.drop_left]
  rw [show s.length - u.length = at0 + (a ++ p).length by rw [List.length_append]; omega, this]
theorem er2 {e e' : Int} (h : e = 0 ∨ e = 2) (h' : e' = 0 ∨ e' = 2) : er1 e e' = 0 ∨ er1 e e' = 2 := by
  unfold er1; split <;> assumption
/-- what an attribute comes to -/
theorem atr_sum {r nm t raw : B} {q : UInt8} {e1 e2 e3 e4 : Int} {L at2 : Nat} (hn : nmS r = (nm, 61 :: q :: t)) (hq : q = 34 ∨ q = 39)
    (h1 : e1 = if isN nm = true then 0 else 2) (h2 : (∃ u, upt [q] t = some (raw, u) ∧ at2 = L - u.length ∧ e2 = e1) ∨ (upt [q] t = none ∧ raw = [] ∧ at2 = L ∧ e2 = er1 e1 2))
    (h3 : e3 = if 60 ∈ raw then er1 e2 2 else e2) (h4 : e4 = if (gone raw).2 = true then e3 else er1 e3 2) :
    match atr r with
    | some (a, u) => a = (nm, deT raw) ∧ at2 = L - u.length ∧ e4 = 0
    | none => e4 = 2 := by
  have g2 : er1 2 2 = 2 := rfl
  have g0 : er1 0 2 = 2 := rfl
  unfold atr
  rw [hn]
  try simp only
  by_cases hN : isN nm = true
  · rw [if_pos hN] at h1 ⊢
    try simp only
    rw [if_pos hq]
    rcases h2 with ⟨u, hu, ha, he⟩ | ⟨hu, hr, ha, he⟩
    · rw [hu]
      try simp only
      by_cases h60 : 60 ∈ raw
      · rw [if_pos h60] at h3 ⊢
        try simp only
        rw [h4, h3, he, h1, g0]
        split <;> rfl
      · rw [if_neg h60] at h3 ⊢
        by_cases hg : (gone raw).2 = true
        · rw [if_pos hg] at h4 ⊢
          exact ⟨by rw [deT_ok hg], ha, by rw [h4, h3, he, h1]⟩
        · rw [if_neg hg] at h4 ⊢
          try simp only
          rw [h4, h3, he, h1, g0]
    · rw [hu]
      try simp only
      have h6 : ¬ (60 : UInt8) ∈ raw := by rw [hr]; simp
      rw [if_neg h6] at h3
      rw [h4, h3, he, h1, g0]
      split <;> rfl
  · rw [if_neg hN] at h1 ⊢
    have k2 : e2 = 2 := by
      rcases h2 with ⟨u, hu, ha, he⟩ | ⟨hu, hr, ha, he⟩
      · rw [he, h1]
      · rw [he, h1, g2]
    have k3 : e3 = 2 := by rw [h3, k2, g2]; split <;> rfl
    try simp only
    rw [h4, k3, g2]
    split <;> rfl
theorem er11 (e : Int) : er1 (er1 e 2) 2 = er1 e 2 := by
  unfold er1
  by_cases h : e = 0
  · rw [if_pos h]; rfl
  · rw [if_neg h, if_neg h]
theorem mem60 {raw : B} {k : Nat} {c : UInt8} (h : raw[k]? = some c) : (60 ∈ raw.take (k + 1)) ↔ (60 ∈ raw.take k ∨ c = 60) := by
  rw [take_snoc h, List.mem_append, List.mem_singleton]
  constructor
  · rintro (h | h)
    · exact Or.inl h
    · exact Or.inr h.symm
  · rintro (h | h)
    · exact Or.inl h
    · exact Or.inr h.symm
theorem atr_no {r : B} (h : ∀ q t, (nmS r).2 = 61 :: q :: t → ¬ (q = 34 ∨ q = 39)) : atr r = none := by
  unfold atr
  split
  · split
    · rename_i q t e
      rw [if_neg (h q t e)]
    · rfl
  · rfl
theorem pfx_two {q : UInt8} {y : B} : ([61, q] : B).isPrefixOf y = true ↔ ∃ t, y = 61 :: q :: t := by
  rw [List.isPrefixOf_iff_prefix]
  constructor
  · rintro ⟨t, rfl⟩; exact ⟨t, rfl⟩
  · rintro ⟨t, rfl⟩; exact ⟨t, rfl⟩
theorem Ba.set2 {k : Nat} {a : Atr} {w : World} (h : Ba k a w) (a' : Atr) : Ba k a' ((w.setCell ⟨k, 0, none⟩ (sV a'.1)).setCell ⟨k, 1, none⟩ (sV a'.2)) := by
  unfold Ba at h ⊢
  simp [World.setCell, Array.getElem?_modify, h]
theorem Ba.other {k j : Nat} {a : Atr} {w : World} (h : Ba k a w) (hne : k ≠ j) (i : Nat) (v : Value) : Ba k a (w.setCell ⟨j, i, none⟩ v) := (Below.heap_setCell _ _ _ _ hne).trans h
theorem Ob.setNew {b : Nat} {w x : World} (h : Ob b w x) {j : Nat} (hj : w.heap.size ≤ j) (i : Nat) (v : Value) : Ob b w (x.setCell ⟨j, i, none⟩ v) :=
  ⟨h.os, h.tape, h.output, by simpa [World.setCell] using h.size, fun k hk hb => (Below.heap_setCell _ _ _ _ (show k ≠ j by omega)).trans (h.block k hk hb)⟩
theorem Ba.set1 {k : Nat} {a : Atr} {w : World} (h : Ba k a w) (v : B) : Ba k (a.1, v) (w.setCell ⟨k, 1, none⟩ (sV v)) := by
  unfold Ba at h ⊢
  simp [World.setCell, Array.getElem?_modify, h]
end Go.Proofs.YtflhmgnhjnaiiaaGreatDoor
/- The document's own answers of layer xml: pieces and open elements in slices of the call's own; text, close. -/
set_option linter.unusedVariables false
namespace Go.Proofs.YtflhmgnhjnaiiaaGreatDoor
open Go.ChangeShapes Go.WideShapes Go.ChangeAt Go.RowKit
open En Xm
theorem infoS : (Tryz.prog.info? 9).map (fun i => (i.zero, i.size, i.bytes)) = some (some (.string ⟨#[]⟩), 1, 16) := by kernel_rfl
theorem infoA : (Tryz.prog.info? 120).map (fun i => (i.zero, i.size, i.bytes)) = some (some (.agg #[.string ⟨#[]⟩, .string ⟨#[]⟩]), 2, 32) := by kernel_rfl
theorem infoT : (Tryz.prog.info? 43).map (fun i => (i.zero, i.size, i.bytes)) = some (some (.agg #[.int .i64 0, .string ⟨#[]⟩, .string ⟨#[]⟩, .slice none 0 0]), 4, 64) := by kernel_rfl
/-- texts in a slice of the call's own -/
def OwnS (B0 : Nat) (v : Value) (ls : List B) (w : World) : Prop := w.ownsRow B0 9 1 v ls.length (ls.map sV)
/-- attributes -/
def AtsO (B0 : Nat) (v : Value) (al : List Atr) (w : World) : Prop := w.ownsRow B0 120 2 v al.length (al.flatMap fun a => [sV a.1, sV a.2])
def tkCells (l : List Tk) (vs : List Value) : List Value := (l.zip vs).flatMap fun p => [iV p.1.1, sV p.1.2.1, sV p.1.2.2.1, p.2]
def AllA (B0 : Nat) (vs : List Value) (l : List Tk) (w : World) : Prop := ∀ (i : Nat) (t : Tk) (x : Value), l[i]? = some t → vs[i]? = some x → AtsO B0 x t.2.2.2 w
/-- pieces -/
def TokO (B0 : Nat) (v : Value) (l : List Tk) (w : World) : Prop :=
  ∃ vs : List Value, vs.length = l.length ∧ w.ownsRow B0 43 4 v l.length (tkCells l vs) ∧ AllA B0 vs l w
theorem own_kind {w : World} {B0 : Nat} {e : TypeId} {size : Nat} {v : Value} {n : Nat} {xs : List Value} (h : w.ownsRow B0 e size v n xs) : ∀ g, v.ownBlock = some g → ∃ c, w.heap[g]? = some (.cells c e (0, 0)) := by
  intro g hg
  rcases h.2 with ⟨rfl, _⟩ | ⟨g', cap, cur, rfl, _, hh, _⟩
  · simp [Value.ownBlock] at hg
  · simp [Value.ownBlock] at hg
    subst hg
    exact ⟨cur, hh⟩
/-- what turns is a row of none of these types -/
def NoRow (e : TypeId) (w : World) (row : Option Nat) : Prop := ∀ r, row = some r → ∀ c, w.heap[r]? ≠ some (.cells c e (0, 0))
theorem own_keep {w w' : World} {B0 : Nat} {e : TypeId} {size : Nat} {v : Value} {n : Nat} {xs : List Value} {row : Option Nat} (h : w.ownsRow B0 e size v n xs) (hg : w.grownBy w' row) (hr : NoRow e w row) : w'.ownsRow B0 e size v n xs := by
  refine World.ownsRow.kept h hg ?_
  cases hv : v.ownBlock with
  | none => exact Or.inl rfl
  | some g =>
    refine Or.inr (fun e' => ?_)
    obtain ⟨c, hc⟩ := own_kind h g hv
    exact hr g e'.symm c hc
theorem NoRow.none {e : TypeId} {w : World} : NoRow e w none := fun r h => by cases h
theorem NoRow.of {e e' : TypeId} {w : World} {r : Nat} {c : Array Value} {fz : Nat × Nat} (h : w.heap[r]? = some (.cells c e' fz)) (hne : e' ≠ e) : NoRow e w (some r) := fun r' h' c' hc => by
  cases h'
  rw [h] at hc
  cases hc
  exact hne rfl
theorem NoRow.own {w : World} {B0 : Nat} {e e' : TypeId} {size : Nat} {v : Value} {n : Nat} {xs : List Value} (h : w.ownsRow B0 e' size v n xs) (hne : e' ≠ e) : NoRow e w v.ownBlock := fun r hr c hc => by
  obtain ⟨c', hc'⟩ := own_kind h r hr
  rw [hc'] at hc
  cases hc
  exact hne rfl
theorem NoRow.fresh {e : TypeId} {w : World} {r : Nat} (h : w.heap.size ≤ r) : NoRow e w (some r) := fun r' h' c hc => by
  cases h'
  have := (Array.getElem?_eq_some_iff.1 hc).1
  omega
theorem OwnS.keep {w w' : World} {B0 : Nat} {v : Value} {ls : List B} {row : Option Nat} (h : OwnS B0 v ls w) (hg : w.grownBy w' row) (hr : NoRow 9 w row) : OwnS B0 v ls w' := own_keep h hg hr
theorem AllA.keep {w w' : World} {B0 : Nat} {vs : List Value} {l : List Tk} {row : Option Nat} (h : AllA B0 vs l w) (hg : w.grownBy w' row) (hr : NoRow 120 w row) : AllA B0 vs l w' :=
  fun i t x h1 h2 => own_keep (h i t x h1 h2) hg hr
theorem TokO.keep {w w' : World} {B0 : Nat} {v : Value} {l : List Tk} {row : Option Nat} (h : TokO B0 v l w) (hg : w.grownBy w' row) (hr : NoRow 120 w row) (hr2 : NoRow 43 w row) : TokO B0 v l w' := by
  obtain ⟨vs, h1, h2, h3⟩ := h
  exact ⟨vs, h1, own_keep h2 hg hr2, h3.keep hg hr⟩
theorem Ob.grown {b : Nat} {w w' : World} (h : Ob b w w') : w.grownBy w' (some b) := ⟨h.os, h.tape, h.output, h.size, fun k hk hne => h.block k hk (fun e => hne (by rw [e]))⟩
theorem tkCells_snoc {l : List Tk} {vs : List Value} (h : vs.length = l.length) (t : Tk) (x : Value) : tkCells (l ++ [t]) (vs ++ [x]) = tkCells l vs ++ [iV t.1, sV t.2.1, sV t.2.2.1, x] := by
  unfold tkCells
  rw [List.zip_append h.symm, List.flatMap_append]
  rfl
theorem AllA.snoc {B0 : Nat} {vs : List Value} {l : List Tk} {w : World} (h : AllA B0 vs l w) (hl : vs.length = l.length) {t : Tk} {x : Value} (hx : AtsO B0 x t.2.2.2 w) : AllA B0 (vs ++ [x]) (l ++ [t]) w := by
  intro i t' x' h1 h2
  by_cases q : i < l.length
  · rw [List.getElem?_append_left q] at h1
    rw [List.getElem?_append_left (by omega)] at h2
    exact h i t' x' h1 h2
  · rw [List.getElem?_append_right (by omega)] at h1
    rw [List.getElem?_append_right (by omega), hl] at h2
    have hi : i - l.length = 0 := by
      by_cases q2 : i - l.length = 0
      · exact q2
      · rw [List.getElem?_eq_none (by simp; omega)] at h1; cases h1
    rw [hi] at h1 h2
    simp only [List.getElem?_cons_zero, Option.some.injEq] at h1 h2
    subst h1 h2
    exact hx
/-- a piece more -/
theorem TokO.snoc {B0 : Nat} {v v' : Value} {l : List Tk} {w w' : World} {t : Tk} {x : Value} {vs : List Value} (hv : vs.length = l.length) (ho : w.ownsRow B0 43 4 v l.length (tkCells l vs)) (ha : AllA B0 vs l w) (hx : AtsO B0 x t.2.2.2 w)
    (hg : w.grownBy w' v.ownBlock) (h7 : w'.ownsRow B0 43 4 v' (l.length + 1) (tkCells l vs ++ [iV t.1, sV t.2.1, sV t.2.2.1, x])) : TokO B0 v' (l ++ [t]) w' := by
  refine ⟨vs ++ [x], by simp [hv], ?_, ?_⟩
  · rw [tkCells_snoc hv, List.length_append]; exact h7
  · exact (ha.keep hg (NoRow.own ho (by decide))).snoc hv (own_keep hx hg (NoRow.own ho (by decide)))
theorem AtsO.nil (B0 : Nat) (w : World) : AtsO B0 (.slice none 0 0) [] w := World.ownsRow_nil _ _ _ _
theorem grown_none {w w' : World} {row : Option Nat} (h : w.grownBy w' none) : w.grownBy w' row := ⟨h.os, h.tape, h.output, h.size, fun k hk _ => h.block k hk (by simp)⟩
theorem own_slice {w : World} {B0 : Nat} {e : TypeId} {size : Nat} {v : Value} {n : Nat} {xs : List Value} (h : w.ownsRow B0 e size v n xs) : ∃ ao cap, v = .slice ao n cap := by
  rcases h.2 with ⟨h1, h2⟩ | ⟨g, cap, _, h1, _⟩
  · exact ⟨none, 0, by rw [h1, h2]⟩
  · exact ⟨_, _, h1⟩
end Go.Proofs.YtflhmgnhjnaiiaaGreatDoor
/- The document's own answers of layer xml: the end of an element. -/
set_option linter.unusedVariables false
namespace Go.Proofs.YtflhmgnhjnaiiaaGreatDoor
open Go.ChangeShapes Go.WideShapes Go.ChangeAt Go.RowKit
open En Xm
theorem last_of {o : List B} (h : o ≠ []) : o[o.length - 1]? = o.getLast? := by rw [List.getLast?_eq_getElem?]
theorem own_some {w : World} {B0 : Nat} {e : TypeId} {size : Nat} {v : Value} {n : Nat} {xs : List Value} (h : w.ownsRow B0 e size v n xs) (hn : n ≠ 0) : ∃ g cap, v = .slice (some ⟨g, 0, none⟩) n cap ∧ n ≤ cap ∧ cap ≤ maxLen := by
  rcases h.2 with ⟨_, h2⟩ | ⟨g, cap, _, h1, _, _, h2, h3, _⟩
  · exact absurd h2 hn
  · exact ⟨g, cap, h1, h2, h3⟩
end Go.Proofs.YtflhmgnhjnaiiaaGreatDoor
/- The document's own answers of layer xml: plain text. -/
set_option linter.unusedVariables false
namespace Go.Proofs.YtflhmgnhjnaiiaaGreatDoor
open Go.ChangeShapes Go.WideShapes Go.ChangeAt Go.RowKit
open En Xm
theorem plain_at {s : B} {at0 k : Nat} (ha : at0 ≤ k) (hk : k ≤ s.length) (h1 : ∀ c ∈ (s.take k).drop at0, c ≠ (60 : UInt8)) (h2 : k = s.length ∨ ∃ r, s.drop k = 60 :: r) :
    (s.drop at0).takeWhile (· != 60) = (s.take k).drop at0 ∧ (s.drop at0).dropWhile (· != 60) = s.drop k := by
  have hp : ∀ c ∈ (s.take k).drop at0, ((c : UInt8) != 60) = true := fun c hc => by rw [bne_iff_ne]; exact h1 c hc
  rw [sub_all ha hk, List.takeWhile_append_of_pos hp, List.dropWhile_append_of_pos hp]
  rcases h2 with rfl | ⟨r, hr⟩
  · simp
  · rw [hr, List.takeWhile_cons, if_neg (by decide), List.dropWhile_cons, if_neg (by decide)]
    simp
end Go.Proofs.YtflhmgnhjnaiiaaGreatDoor
/- The document's own answers of layer xml: the end of an element, read. -/
set_option linter.unusedVariables false
namespace Go.Proofs.YtflhmgnhjnaiiaaGreatDoor
open Go.ChangeShapes Go.WideShapes Go.ChangeAt Go.RowKit
open En Xm
theorem suf_drop {s y z : B} (hy : s.drop (s.length - y.length) = y) (hl : y.length ≤ s.length) (hz : z <:+ y) : s.drop (s.length - z.length) = z ∧ z.length ≤ s.length := by
  obtain ⟨t, ht⟩ := hz
  have h1 := congrArg List.length ht
  rw [List.length_append] at h1
  refine ⟨?_, by omega⟩
  have : s.drop (s.length - y.length + t.length) = z := by
    rw [← List.drop_drop, hy, ← ht, List.drop_left]
  rw [show s.length - z.length = s.length - y.length + t.length by omega, this]
theorem skip_suf (y : B) : skip y <:+ y := by unfold skip; exact List.dropWhile_suffix _
theorem pfx_one {q : UInt8} {y : B} : ([q] : B).isPrefixOf y = true ↔ ∃ t, y = q :: t := by
  rw [List.isPrefixOf_iff_prefix]
  constructor
  · rintro ⟨t, rfl⟩; exact ⟨t, rfl⟩
  · rintro ⟨t, rfl⟩; exact ⟨t, rfl⟩
end Go.Proofs.YtflhmgnhjnaiiaaGreatDoor
/- The document's own answers of layer xml: an element's beginning, its attributes. -/
set_option linter.unusedVariables false
namespace Go.Proofs.YtflhmgnhjnaiiaaGreatDoor
open Go.ChangeShapes Go.WideShapes Go.ChangeAt Go.RowKit
open En Xm
/-- a piece in a block of its own -/
def Bt (k : Nat) (nm : B) (xa : Value) (w : World) : Prop := w.heap[k]? = some (.cells #[iV 0, sV nm, sV [], xa] 43 (0, 0))
theorem Bt.lt {k : Nat} {nm : B} {xa : Value} {w : World} (h : Bt k nm xa w) : k < w.heap.size := (Array.getElem?_eq_some_iff.1 h).1
theorem Bt.cs {k : Nat} {nm : B} {xa : Value} {w : World} (h : Bt k nm xa w) : w.cell? ⟨k, 0, none⟩ = some (iV 0) ∧ w.cell? ⟨k, 1, none⟩ = some (sV nm) ∧ w.cell? ⟨k, 2, none⟩ = some (sV []) ∧ w.cell? ⟨k, 3, none⟩ = some xa := by
  unfold Bt at h
  simp [World.cell?, h]
theorem Bt.fz {k : Nat} {nm : B} {xa : Value} {w : World} (h : Bt k nm xa w) (j : Nat) : w.frozen? ⟨k, j, none⟩ = false := Lib.frozen_of_heap h j
theorem Bt.ob {k b : Nat} {nm : B} {xa : Value} {w w' : World} (h : Bt k nm xa w) (o : Ob b w w') (hne : k ≠ b) : Bt k nm xa w' := (o.block k h.lt hne).trans h
theorem Bt.kept {k : Nat} {nm : B} {xa : Value} {w w' : World} (h : Bt k nm xa w) (o : Kept w w') : Bt k nm xa w' := (o.block k h.lt).trans h
theorem Bt.grow {k : Nat} {nm : B} {xa : Value} {w w' : World} {row : Option Nat} (h : Bt k nm xa w) (hg : w.grownBy w' row) (hr : NoRow 43 w row) : Bt k nm xa w' := (hg.block k h.lt (fun e' => hr k e'.symm _ h)).trans h
theorem Bt.set3 {k : Nat} {nm : B} {xa : Value} {w : World} (h : Bt k nm xa w) (v : Value) : Bt k nm v (w.setCell ⟨k, 3, none⟩ v) := by
  unfold Bt at h ⊢
  simp [World.setCell, Array.getElem?_modify, h]
theorem bt_new (w : World) (nm : B) : Bt w.heap.size nm (.slice none 0 0) (w.alloc (.cells #[iV 0, sV nm, sV [], .slice none 0 0] 43)) := by
  show (w.heap.push _)[w.heap.size]? = _
  simp
theorem own_mono {w : World} {B0 B1 : Nat} {e : TypeId} {size : Nat} {v : Value} {n : Nat} {xs : List Value} (h : w.ownsRow B1 e size v n xs) (hB : B0 ≤ B1) : w.ownsRow B0 e size v n xs := by
  refine ⟨h.1, ?_⟩
  rcases h.2 with h2 | ⟨g, cap, cur, h1, h2, h3⟩
  · exact Or.inl h2
  · exact Or.inr ⟨g, cap, cur, h1, Nat.le_trans hB h2, h3⟩
theorem AtsO.ob {B1 b : Nat} {xa : Value} {al : List Atr} {w w' : World} (h : AtsO B1 xa al w) (o : Ob b w w') (hR : ∀ c, w.heap[b]? ≠ some (.cells c 120 (0, 0))) : AtsO B1 xa al w' :=
  own_keep h o.grown (fun r hr => by cases hr; exact hR)
theorem AtsO.kept {B1 : Nat} {xa : Value} {al : List Atr} {w w' : World} (h : AtsO B1 xa al w) (k : Kept w w') : AtsO B1 xa al w' := own_keep h (k.grownBy none) NoRow.none
theorem Ob.row {b : Nat} {w x y : World} {row : Option Nat} (h : Ob b w x) (hg : x.grownBy y row) (hr : ∀ k, row = some k → w.heap.size ≤ k) : Ob b w y :=
  ⟨hg.os.trans h.os, hg.tape.trans h.tape, hg.output.trans h.output, Nat.le_trans h.size hg.size, fun k hk hb => (hg.block k (Nat.lt_of_lt_of_le hk h.size) (fun e => by have := hr k e.symm; omega)).trans (h.block k hk hb)⟩
/-- how far the attributes have been read -/
def AtI (s y : B) (at1 : Nat) (acc : List Atr) (e : Int) : Prop :=
  at1 ≤ s.length ∧ ((e = 0 ∧ ∃ f, (s.drop at1).length < f ∧ atrs (y.length + 1) y [] = atrs f (s.drop at1) acc) ∨ (e = 2 ∧ atrs (y.length + 1) y [] = none))
def dup (acc : List Atr) (a : Atr) : Bool := (acc.map (·.1)).contains a.1
theorem dup_take {acc : List Atr} {a x : Atr} {k : Nat} (h : acc[k]? = some x) : dup (acc.take (k + 1)) a = (dup (acc.take k) a || x.1 == a.1) := by
  unfold dup
  rw [List.take_add_one, h]
  simp [Bool.beq_comm]
  rw [Bool.eq_iff_iff]; simp
theorem atr_suf {r u : B} {a : Atr} (h : atr r = some (a, u)) : u <:+ r := by
  have e := nmS_eq r
  unfold atr at h
  split at h
  · split at h
    · rename_i q t e1
      split at h
      · split at h
        · rename_i raw v e2
          split at h
          · cases h
          · split at h
            · simp only [Option.some.injEq, Prod.mk.injEq] at h
              obtain ⟨_, rfl⟩ := h
              have e3 := (upt_len (by simp) e2).2
              rw [e1, e3] at e
              exact ⟨(nmS r).1 ++ 61 :: q :: (raw ++ [q]), by conv => rhs; rw [e]
                                                              simp⟩
            · cases h
        · cases h
      · cases h
    · cases h
  · cases h
theorem atI_next {s y : B} {at1 at2 at3 : Nat} {acc : List Atr} (h : AtI s y at1 acc 0) (h2 : s.drop at2 = skip (s.drop at1)) (hl2 : at2 ≤ s.length) (hte : tagEnd (s.drop at2) = false) (hsp : ¬ at2 = at1) (hne : at2 < s.length) {a : Atr} {e3 e4 : Int} (hl3 : at3 ≤ s.length)
    (h3 : match atr (s.drop at2) with
      | some (a', u) => a = a' ∧ at3 = s.length - u.length ∧ e3 = 0
      | none => e3 = 2) (h4 : e4 = if dup acc a = true then er1 e3 2 else e3) : AtI s y at3 (acc ++ [a]) e4 := by
  refine ⟨hl3, ?_⟩
  rcases h.2 with ⟨_, f, hf, hA⟩ | ⟨q, _⟩
  · show (e4 = 0 ∧ ∃ f, (s.drop at3).length < f ∧ atrs (y.length + 1) y [] = atrs f (s.drop at3) (acc ++ [a])) ∨ (e4 = 2 ∧ atrs (y.length + 1) y [] = none)
    generalize atrs (y.length + 1) y [] = Z at hA ⊢
    cases f with
    | zero => omega
    | succ f =>
      have hlen : (skip (s.drop at1)).length ≠ (s.drop at1).length := by
        rw [← h2, List.length_drop, List.length_drop]
        have := h.1
        omega
      have hnn : skip (s.drop at1) ≠ [] := by
        rw [← h2]
        intro e
        have := congrArg List.length e
        rw [List.length_drop] at this
        simp at this; omega
      rw [atrs, ← h2, hte, if_neg (by decide), h2, if_neg (by rintro (q | q); exact hlen q; exact hnn q), ← h2] at hA
      have e00 : er1 0 2 = 2 := rfl
      have e22 : er1 2 2 = 2 := rfl
      cases hq : atr (s.drop at2) with
      | none =>
        rw [hq] at h3 hA
        simp only at h3 hA
        right
        refine ⟨?_, hA⟩
        rw [h4, h3, e22]; split <;> rfl
      | some x =>
        obtain ⟨a', u⟩ := x
        rw [hq] at h3 hA
        simp only at h3 hA
        obtain ⟨rfl, rfl, rfl⟩ := h3
        by_cases hd : dup acc a = true
        · rw [if_pos hd, e00] at h4
          right
          refine ⟨h4, ?_⟩
          rw [hA, if_pos (show (acc.map (·.1)).contains a.1 = true from hd)]
        · rw [if_neg hd] at h4
          left
          refine ⟨h4, f, ?_, ?_⟩
          · have hul := atr_len hq
            have := skip_len (s.drop at1)
            rw [← h2] at this
            have hu2 : u.length ≤ s.length := by rw [List.length_drop] at hul; omega
            rw [List.length_drop]
            omega
          · rw [hA, if_neg (show ¬ (acc.map (·.1)).contains a.1 = true from hd)]
            have hsd := suf_drop (s := s) (y := s.drop at2) (z := u) (by rw [List.length_drop, show s.length - (s.length - at2) = at2 by omega]) (by rw [List.length_drop]; omega) (atr_suf hq)
            rw [hsd.1]
  · cases q
theorem tag_end (y : B) : tagEnd y = (([62] : B).isPrefixOf y || ([47, 62] : B).isPrefixOf y) := by
  rw [Bool.eq_iff_iff, Bool.or_eq_true, pfx_one, List.isPrefixOf_iff_prefix]
  unfold tagEnd
  constructor
  · intro h
    split at h
    · exact Or.inl ⟨_, rfl⟩
    · rename_i t; exact Or.inr ⟨t, rfl⟩
    · cases h
  · rintro (⟨t, rfl⟩ | ⟨t, rfl⟩)
    · rfl
    · rfl
theorem flat2 : ∀ {acc : List Atr} {k : Nat} {x : Atr}, acc[k]? = some x → (acc.flatMap fun a => [sV a.1, sV a.2])[2 * k]? = some (sV x.1)
  | [], k, x, h => by simp at h
  | a :: acc, 0, x, h => by
    simp only [List.getElem?_cons_zero, Option.some.injEq] at h
    subst h; rfl
  | a :: acc, k + 1, x, h => by
    simp only [List.getElem?_cons_succ] at h
    rw [List.flatMap_cons, show 2 * (k + 1) = 2 * k + 2 by omega]
    exact flat2 h
theorem atI_bad {s y : B} {at1 at2 : Nat} {acc : List Atr} (h : AtI s y at1 acc 0) (h2 : s.drop at2 = skip (s.drop at1)) (hte : tagEnd (s.drop at2) = false) (hb : at2 = at1 ∨ s.length ≤ at2) : atrs (y.length + 1) y [] = none := by
  rcases h.2 with ⟨_, f, hf, hA⟩ | ⟨q, _⟩
  · rw [hA]
    cases f with
    | zero => omega
    | succ f =>
      rw [atrs, ← h2, hte, if_neg (by decide), if_pos]
      rcases hb with rfl | q
      · exact Or.inl rfl
      · exact Or.inr (List.drop_eq_nil_of_le q)
  · cases q
theorem atI_end {s y : B} {at1 at2 : Nat} {acc : List Atr} (h : AtI s y at1 acc 0) (h2 : s.drop at2 = skip (s.drop at1)) (hte : tagEnd (s.drop at2) = true) : atrs (y.length + 1) y [] = some (acc, s.drop at2) := by
  rcases h.2 with ⟨_, f, hf, hA⟩ | ⟨q, _⟩
  · rw [hA]
    cases f with
    | zero => omega
    | succ f => rw [atrs, ← h2, hte, if_pos rfl]
  · cases q
end Go.Proofs.YtflhmgnhjnaiiaaGreatDoor
/- Appends to slices of texts and of pieces, at the operation. -/
set_option linter.unusedVariables false
namespace Go.Proofs.YtflhmgnhjnaiiaaGreatDoor
open Go.ChangeShapes Go.WideShapes Go.ChangeAt Go.RowKit
open En Xm
/-- a slice of texts, copied -/
theorem wp_copyS {op : Oper} {a : Act} {w : World} {K : Act → World → Prop} {Q : Exit → Act → World → Prop} (sx x : Operand) (ho : op.op = .call { callee := .builtin .append, args := #[sx, x], argTypes := #[78, 78] })
    (hs : a.eval sx = .slice none 0 0) (B0 : Nat) (ov : Value) (ls : List B) (hx : a.eval x = ov) (hO : OwnS B0 ov ls w) (hl : ls.length ≤ 10000000)
    (h : ∀ v' w', OwnS w.heap.size v' ls w' → w.grownBy w' none → K (a.put op.dst v') w') : op.wp Tryz.prog a w K Q := by
  obtain ⟨i0, hi, hz0, hz1, hz2⟩ := info_parts infoS
  rcases hO.2 with ⟨h1, h2⟩ | ⟨g, cap, cur, h1, hrest⟩
  · have hls : ls = [] := List.length_eq_zero_iff.1 h2
    subst hls
    have hrun := run_append_owned_none (P := Tryz.prog) (w := w) B0 78 op.type 9 i0 1 Tryz.underlying78 hi (.slice none 0 0) 0 [] (World.ownsRow_nil _ _ _ _)
    have hK := h (.slice none 0 0) w (World.ownsRow_nil _ _ _ _) ⟨rfl, rfl, rfl, Nat.le_refl _, fun _ _ _ => rfl⟩
    unfold Oper.wp
    simp [execOp, ho, resolve, invoke, builtin, hs, hx, h1, hrun, Result.andThen]
    exact hK
  · have hO2 := hO
    rw [h1] at hO2
    refine wp_append_own w sx x 78 ho w.heap.size 9 i0 _ 1 16 Tryz.underlying78 hi hz0 hz1 hz2 rfl (by decide) _ 0 [] hs (World.ownsRow_nil _ _ _ _) ⟨g, 0, none⟩ ls.length cap (ls.map sV) (hx.trans h1) (by simp) (World.ownsRow.cells hO2 rfl) (fun u hu => by rw [List.mem_map] at hu; obtain ⟨y, _, rfl⟩ := hu; rfl) (by unfold maxLen; omega) (by omega) (Nat.le_refl _) ?_
    intro v' w' h2 h3 _
    refine h v' w' ?_ h3
    unfold OwnS
    simpa using h2
/-- a text more -/
theorem wp_pushS {op : Oper} {a : Act} {w : World} {K : Act → World → Prop} {Q : Exit → Act → World → Prop} (sx x : Operand) (ho : op.op = .call { callee := .builtin .append, args := #[sx, x], argTypes := #[78, 78] })
    (B0 : Nat) (v : Value) (ls : List B) (t : B) (k : Nat) (hs : a.eval sx = v) (hO : OwnS B0 v ls w) (hx : a.eval x = .slice (some ⟨k, 0, none⟩) 1 1) (hc : w.cell? ⟨k, 0, none⟩ = some (sV t)) (hl : ls.length ≤ 10000000) (hB : B0 ≤ w.heap.size)
    (h : ∀ v' w', OwnS B0 v' (ls ++ [t]) w' → w.grownBy w' v.ownBlock → K (a.put op.dst v') w') : op.wp Tryz.prog a w K Q := by
  obtain ⟨i0, hi, hz0, hz1, hz2⟩ := info_parts infoS
  refine wp_append_own w sx x 78 ho B0 9 i0 _ 1 16 Tryz.underlying78 hi hz0 hz1 hz2 rfl (by decide) v ls.length (ls.map sV) hs hO ⟨k, 0, none⟩ 1 1 [sV t] hx rfl (fun j u hj => ?_) (fun u hu => by simp at hu; subst hu; rfl) (by unfold maxLen; omega) (by omega) hB ?_
  · match j, hj with
    | 0, hj => simp at hj; subst hj; simpa [Addr.add] using hc
  · intro v' w' h2 h3 _
    refine h v' w' ?_ h3
    unfold OwnS
    rw [List.length_append, List.map_append]
    exact h2
/-- a piece more -/
theorem wp_pushT {op : Oper} {a : Act} {w : World} {K : Act → World → Prop} {Q : Exit → Act → World → Prop} (sx x : Operand) (ho : op.op = .call { callee := .builtin .append, args := #[sx, x], argTypes := #[44, 44] })
    (B0 : Nat) (v : Value) (l : List Tk) (vs : List Value) (t : Tk) (xa : Value) (k : Nat) (hs : a.eval sx = v) (hT : w.ownsRow B0 43 4 v l.length (tkCells l vs)) (hx : a.eval x = .slice (some ⟨k, 0, none⟩) 1 1)
    (hc : w.cell? ⟨k, 0, none⟩ = some (iV t.1) ∧ w.cell? ⟨k, 1, none⟩ = some (sV t.2.1) ∧ w.cell? ⟨k, 2, none⟩ = some (sV t.2.2.1) ∧ w.cell? ⟨k, 3, none⟩ = some xa) (h1 : xa.oneCell' = true) (hl : l.length ≤ 1000000) (hB : B0 ≤ w.heap.size)
    (h : ∀ v' w', w'.ownsRow B0 43 4 v' (l.length + 1) (tkCells l vs ++ [iV t.1, sV t.2.1, sV t.2.2.1, xa]) → w.grownBy w' v.ownBlock → K (a.put op.dst v') w') : op.wp Tryz.prog a w K Q := by
  obtain ⟨i0, hi, hz0, hz1, hz2⟩ := info_parts infoT
  obtain ⟨c0, c1, c2, c3⟩ := hc
  refine wp_append_own w sx x 44 ho B0 43 i0 _ 4 64 Tryz.underlying44 hi hz0 hz1 hz2 rfl (by decide) v l.length (tkCells l vs) hs hT ⟨k, 0, none⟩ 1 1 [iV t.1, sV t.2.1, sV t.2.2.1, xa] hx rfl (fun j u hj => ?_) (fun u hu => ?_) (by unfold maxLen; omega) (by omega) hB ?_
  · match j, hj with
    | 0, hj => simp at hj; subst hj; simpa [Addr.add] using c0
    | 1, hj => simp at hj; subst hj; simpa [Addr.add] using c1
    | 2, hj => simp at hj; subst hj; simpa [Addr.add] using c2
    | 3, hj => simp at hj; subst hj; simpa [Addr.add] using c3
  · simp at hu; rcases hu with rfl | rfl | rfl | rfl
    · rfl
    · rfl
    · rfl
    · exact h1
  · intro v' w' h2 h3 _
    exact h v' w' h2 h3
end Go.Proofs.YtflhmgnhjnaiiaaGreatDoor
/- The document's own answers of layer xml: an element's beginning, read. -/
set_option linter.unusedVariables false
namespace Go.Proofs.YtflhmgnhjnaiiaaGreatDoor
open Go.ChangeShapes Go.WideShapes Go.ChangeAt Go.RowKit
open En Xm
theorem Bt.other {k j : Nat} {nm : B} {xa : Value} {w : World} (h : Bt k nm xa w) (hne : k ≠ j) (i : Nat) (v : Value) : Bt k nm xa (w.setCell ⟨j, i, none⟩ v) := (Below.heap_setCell _ _ _ _ hne).trans h
theorem tagEnd_two {y : B} (h : tagEnd y = true) : (∃ v, y = 62 :: v) ∨ (∃ v, y = 47 :: 62 :: v) := by
  unfold tagEnd at h
  split at h
  · exact Or.inl ⟨_, rfl⟩
  · exact Or.inr ⟨_, rfl⟩
  · cases h
theorem drop_len {s v : B} {a : Nat} (h : s.drop a = v) (ha : a ≤ s.length) : s.length - v.length = a := by
  have := congrArg List.length h
  rw [List.length_drop] at this
  omega
theorem drop_tl {s v : B} {a : Nat} {c : UInt8} (h : s.drop a = c :: v) : s.drop (a + 1) = v ∧ a + 1 ≤ s.length := by
  have h1 := congrArg List.length h
  rw [List.length_drop, List.length_cons] at h1
  refine ⟨?_, by omega⟩
  rw [← List.drop_drop, h]; rfl
/-- copied, and one more: a slice of texts -/
theorem pushed_ne {B0 : Nat} {v v1 : Value} {ls ls1 : List B} {W W' : World} (h : OwnS B0 v ls W) (hg : W.grownBy W' none) (h1 : OwnS B0 v1 ls1 W') (hnew : ∀ g, v1.ownBlock = some g → W.heap.size ≤ g) : ∀ g, v1.ownBlock = some g → v.ownBlock ≠ some g := fun g hg1 hg2 => by
  have := (World.ownsRow.lt h g hg2).2
  have := hnew g hg1
  omega
end Go.Proofs.YtflhmgnhjnaiiaaGreatDoor
/- The document's own answers of layer xml: a step of its reader. -/
set_option linter.unusedVariables false
namespace Go.Proofs.YtflhmgnhjnaiiaaGreatDoor
open Go.ChangeShapes Go.WideShapes Go.ChangeAt Go.RowKit
open En Xm
theorem pfx_room {p s : B} {at0 : Nat} (h : p.isPrefixOf (s.drop at0) = true) (ha : at0 ≤ s.length) : at0 + p.length ≤ s.length := by
  have := pfx_len h
  rw [List.length_drop] at this
  omega
end Go.Proofs.YtflhmgnhjnaiiaaGreatDoor
