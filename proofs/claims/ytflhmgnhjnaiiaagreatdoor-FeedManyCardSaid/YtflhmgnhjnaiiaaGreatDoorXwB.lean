/- The chapter's example. -/
import Derived.Test.YtflhmgnhjnaiiaaGreatDoorXmZ
import Derived.Great.Walk
import Derived.Lib.SlBytesConst
set_option linter.unusedSimpArgs false
set_option linter.unusedVariables false
namespace Go.Proofs.YtflhmgnhjnaiiaaGreatDoor
open Go.ChangeShapes Go.WideShapes Go.ChangeAt Go.RowKit
open En Xm
theorem brd_new (w : World) (l : B) (t : TypeId) (cs : Array Value) (h : cs = (l.map fun b => Value.int .u8 b.toNat).toArray) (c : Nat) (hc : l.length ≤ c) (m : Nat × Nat) : BRd (.slice (some ⟨w.heap.size, 0, none⟩) l.length c) l (w.alloc (.cells cs t m)) :=
  ⟨_, _, rfl, fun _ => ⟨_, _, rfl, hc, fun i x hx => by
    rw [Nat.zero_add]
    simp [World.cell?, World.alloc, -World.alloc_eq, h, hx]⟩⟩
def exC : Array Value := #[Value.int IntKind.u8 60, Value.int IntKind.u8 97, Value.int IntKind.u8 32, Value.int IntKind.u8 98, Value.int IntKind.u8 61, Value.int IntKind.u8 34, Value.int IntKind.u8 49, Value.int IntKind.u8 34, Value.int IntKind.u8 62, Value.int IntKind.u8 120, Value.int IntKind.u8 38, Value.int IntKind.u8 97, Value.int IntKind.u8 109, Value.int IntKind.u8 112, Value.int IntKind.u8 59, Value.int IntKind.u8 60, Value.int IntKind.u8 99, Value.int IntKind.u8 47, Value.int IntKind.u8 62, Value.int IntKind.u8 60, Value.int IntKind.u8 47, Value.int IntKind.u8 97, Value.int IntKind.u8 62]
def exA : Array Value := #[Value.string { data := #[98] }, Value.string { data := #[49] }]
def exT (b : Nat) : Array Value := #[Value.int IntKind.i64 0, Value.string { data := #[97] }, Value.string { data := #[] },
          Value.slice (some { block := b, off := 0 }) 1 1, Value.int IntKind.i64 2,
          Value.string { data := #[] }, Value.string { data := #[120, 38] }, Value.slice none 0 0,
          Value.int IntKind.i64 0, Value.string { data := #[99] }, Value.string { data := #[] }, Value.slice none 0 0,
          Value.int IntKind.i64 1, Value.string { data := #[99] }, Value.string { data := #[] }, Value.slice none 0 0,
          Value.int IntKind.i64 1, Value.string { data := #[97] }, Value.string { data := #[] }, Value.slice none 0 0]
abbrev exW (x : World) : World := (x.alloc (.cells exA 120)).alloc (.cells (exT x.heap.size) 43)
theorem exW_two (x : World) (j : Nat) (v : Value) (h : (exT x.heap.size)[j]? = some v) : (exW x).cell? ⟨x.heap.size + 1, j, none⟩ = some v := by
  have q := (Kept.refl (exW x)).new j h
  rwa [show (x.alloc (.cells exA 120)).heap.size = x.heap.size + 1 from by simp] at q
theorem exW_one (x : World) (j : Nat) (v : Value) (h : exA[j]? = some v) : (exW x).cell? ⟨x.heap.size, j, none⟩ = some v := by
  simp [exW, World.cell?, World.alloc, -World.alloc_eq, Array.getElem?_push, h]
theorem at_nil (w : World) : AtRd (.slice none 0 0) [] w := ⟨_, _, rfl, fun h => absurd rfl h⟩
theorem exW_at (x : World) : AtRd (.slice (some ⟨x.heap.size, 0, none⟩) 1 1) [([98], [49])] (exW x) := by
  refine ⟨_, _, rfl, fun _ => ⟨_, _, rfl, by decide, fun i t ht => ?_⟩⟩
  match i, ht with
  | 0, ht =>
    cases ht
    exact ⟨exW_one x 0 _ rfl, exW_one x 1 _ rfl⟩
theorem exW_rd (x : World) : TkRd (.slice (some ⟨x.heap.size + 1, 0, none⟩) 5 5) exL (exW x) := by
  refine ⟨_, _, rfl, fun _ => ⟨_, _, rfl, by decide, fun i t ht => ?_⟩⟩
  match i, ht with
  | 0, ht =>
    cases ht
    exact ⟨_, exW_two x 0 _ rfl, exW_two x 1 _ rfl, exW_two x 2 _ rfl, exW_two x 3 _ rfl, exW_at x⟩
  | 1, ht =>
    cases ht
    exact ⟨_, exW_two x 4 _ rfl, exW_two x 5 _ rfl, exW_two x 6 _ rfl, exW_two x 7 _ rfl, at_nil _⟩
  | 2, ht =>
    cases ht
    exact ⟨_, exW_two x 8 _ rfl, exW_two x 9 _ rfl, exW_two x 10 _ rfl, exW_two x 11 _ rfl, at_nil _⟩
  | 3, ht =>
    cases ht
    exact ⟨_, exW_two x 12 _ rfl, exW_two x 13 _ rfl, exW_two x 14 _ rfl, exW_two x 15 _ rfl, at_nil _⟩
  | 4, ht =>
    cases ht
    exact ⟨_, exW_two x 16 _ rfl, exW_two x 17 _ rfl, exW_two x 18 _ rfl, exW_two x 19 _ rfl, at_nil _⟩
theorem exW_kept (x : World) : Kept x (exW x) := ((Kept.refl x).alloc _).alloc _
theorem exL_at : ∀ t ∈ exL, t.2.2.2.length ≤ 1000000 := by decide
end Go.Proofs.YtflhmgnhjnaiiaaGreatDoor
