/- What the code of package ident asks of a world: utf8's tables, and how addresses begin. -/
import Derived.Test.YtpkkpjonlogliaaDoorEnA
import Derived.Test.YtpkkpjonlogliaaDoorShelf
import Derived.Carry
set_option linter.unusedSimpArgs false
set_option linter.unusedVariables false
namespace Go.Proofs.YtpkkpjonlogliaaDoor
open Go.ChangeShapes Go.WideShapes Go.ChangeAt Go.RowKit
open En
theorem set_push (a : Array Obj) (x y : Obj) : (a.push x).setIfInBounds a.size y = a.push y := by
  apply Array.ext_getElem?
  intro i
  rw [Array.getElem?_setIfInBounds, Array.getElem?_push, Array.getElem?_push]
  by_cases h : a.size = i
  · subst h; simp
  · rw [if_neg h, if_neg (fun e => h e.symm), if_neg (fun e => h e.symm)]
theorem ba_beq (a b : List UInt8) : ((ByteArray.mk a.toArray) == (ByteArray.mk b.toArray)) = decide (a = b) := by
  rw [Bool.eq_iff_iff, MapKept.bytes_beq, decide_eq_true_iff]
  constructor
  · intro e
    have := congrArg (fun z => z.data.toList) e
    simpa using this
  · intro e; rw [e]
/-- the two kinds of addresses, with the port that goes without saying -/
def webC : Array Value := #[.string ⟨#[104, 116, 116, 112, 58, 47, 47]⟩, .string ⟨#[58, 56, 48]⟩, .string ⟨#[104, 116, 116, 112, 115, 58, 47, 47]⟩, .string ⟨#[58, 52, 52, 51]⟩]
def WebsP (w : World) : Prop := ∀ (j : Nat) (v : Value), webC[j]? = some v → w.cell? ⟨0, j, none⟩ = some v
/-- what the code needs of a world -/
def Env (w : World) : Prop := Lib.Utf8Tabs 1 2 w ∧ WebsP w ∧ ∃ m, w.cell? ⟨3, 0, none⟩ = some (.int .i64 m)
set_option maxRecDepth 100000 in
theorem cell_lt {w : World} {a : Addr} {v : Value} (h : w.cell? a = some v) : a.block < w.heap.size := by
  by_cases q : a.block < w.heap.size
  · exact q
  · unfold World.cell? at h
    rw [Array.getElem?_eq_none (by omega)] at h
    simp at h
set_option maxRecDepth 100000 in
theorem Kept.yes {w w' : World} (k : Kept w w') {a : Addr} {v : Value} (h : w.cell? a = some v) : w'.cell? a = some v := (k.cell (cell_lt h)).trans h
theorem Env.kept {w w' : World} (h : Env w) (k : Kept w w') : Env w' := by
  obtain ⟨⟨h1, h2⟩, h3, m, h4⟩ := h
  exact ⟨⟨fun c hc => k.yes (h1 c hc), fun i hi => ⟨k.yes (h2 i hi).1, k.yes (h2 i hi).2⟩⟩, fun j v hv => k.yes (h3 j v hv), m, k.yes h4⟩
end Go.Proofs.YtpkkpjonlogliaaDoor
