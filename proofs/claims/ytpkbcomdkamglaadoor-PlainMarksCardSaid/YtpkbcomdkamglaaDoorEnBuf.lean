/- Bytes that grow in a call; bytes that are made a text. -/
import Derived.Test.YtpkbcomdkamglaaDoorKept
import Derived.Test.YtpkbcomdkamglaaDoorEnPure
import Derived.Lib.AppendStr
import Derived.Lib.BufferRead
import Derived.Great.BuildSlice
import Derived.Maps.AppendAt
import Derived.Deep.Cut
set_option linter.unusedSimpArgs false
set_option linter.unusedVariables false
namespace Go.Proofs.YtpkbcomdkamglaaDoor
open Go.ChangeShapes Go.WideShapes Go.ChangeAt Go.RowKit
open En
theorem info8 : (Tryd.prog.info? 5).map (fun i => (i.zero, i.size, i.bytes)) = some (some (.int .u8 0), 1, 1) := by kernel_rfl
theorem byte_at (l : List UInt8) (k : Nat) (a : UInt8) (h : l[k]? = some a) (hk : k < (ByteArray.mk l.toArray).size) : (ByteArray.mk l.toArray)[k]'hk = a := by
  obtain ⟨h1, h2⟩ := List.getElem?_eq_some_iff.1 h
  rw [← h2]; rfl
theorem eb_ret {a b : Bool} (h : a = b) : Ending.returned (.bool a) = .returned (.bool b) := by rw [h]
theorem u8_eq {a b : UInt8} (h : (a.toNat : Int) = (b.toNat : Int)) : a = b := UInt8.toNat_inj.1 (by omega)
theorem u8_ne {a b : UInt8} (h : ¬ (a.toNat : Int) = (b.toNat : Int)) : ¬ a = b := fun e => h (by rw [e])
/-- the cells of bytes -/
abbrev bc (l : List UInt8) : List Value := l.map fun b => Value.int .u8 (b.toNat : Int)
/-- bytes, in a slice that has grown since a world -/
def OutB (B : Nat) (v : Value) (l : List UInt8) (x : World) : Prop := x.ownsRow B 5 1 v l.length (bc l)
theorem OutB.nil (B : Nat) (x : World) : OutB B (.slice none 0 0) [] x := World.ownsRow_nil _ _ _ _
theorem OutB.kept {B : Nat} {v : Value} {l : List UInt8} {x x' : World} (h : OutB B v l x) (k : Kept x x') : OutB B v l x' :=
  World.ownsRow.kept h (k.grownBy none) (by cases hv : v.ownBlock <;> simp)
theorem OutB.slice {B : Nat} {v : Value} {l : List UInt8} {x : World} (h : OutB B v l x) : ∃ ao cap, v = .slice ao l.length cap := by
  rcases h.2 with ⟨h1, h2⟩ | ⟨g, cap, _, h1, _⟩
  · exact ⟨none, 0, by rw [h1, h2]⟩
  · exact ⟨_, _, h1⟩
def OutBIn (B : Nat) (X : World) (l : List UInt8) (v : Value) (x : World) : Prop := ∃ ao cap, v = .slice ao l.length cap ∧ OutB B v l x ∧ Kept X x
theorem kept_grown {B : Nat} {X y w7 : World} {l : List UInt8} {v : Value} (hB : X.heap.size ≤ B) (hl : OutB B v l y) (hk : Kept X y) (hg : y.grownBy w7 v.ownBlock) : Kept X w7 :=
  ⟨hg.os.trans hk.os, hg.output.trans hk.output, Nat.le_trans hk.size hg.size, fun j hj => by
    have q1 := hk.size
    have q3 := hl.lt
    rw [hg.block j (by omega) (fun e => by have := q3 j (e.symm); omega), hk.block j hj], hg.tape.trans hk.tape⟩
theorem outB_in {B : Nat} {X w7 : World} {l u : List UInt8} {v' : Value} (kk : Kept X w7) (hown' : w7.ownsRow B 5 1 v' (l.length + u.length) (bc l ++ bc u)) : OutBIn B X (l ++ u) v' w7 := by
  have h : OutB B v' (l ++ u) w7 := by unfold OutB bc; rw [List.map_append, List.length_append]; exact hown'
  obtain ⟨ao, cap, hv⟩ := h.slice
  exact ⟨ao, cap, hv, h, kk⟩
/-- a byte more -/
theorem outB_one {B : Nat} {X y w7 : World} {l : List UInt8} {b : UInt8} {v v' : Value} (hB : X.heap.size ≤ B) (hl : OutB B v l y) (hk : Kept X y) {o : Obj} (hg : (y.alloc o).grownBy w7 v.ownBlock)
    (hown' : w7.ownsRow B 5 1 v' (l.length + 1) (bc l ++ [.int .u8 (b.toNat : Int)])) : OutBIn B X (l ++ [b]) v' w7 :=
  outB_in (kept_grown hB (hl.kept ((Kept.refl y).alloc o)) (hk.alloc o) hg) hown'
/-- a text's bytes more -/
theorem outB_str {B : Nat} {X y w7 : World} {l u : List UInt8} {v v' : Value} (hB : X.heap.size ≤ B) (hl : OutB B v l y) (hk : Kept X y) (hg : y.grownBy w7 v.ownBlock)
    (hown' : w7.ownsRow B 5 1 v' (l.length + (ByteArray.mk u.toArray).size) (bc l ++ Lib.strCells ⟨u.toArray⟩)) : OutBIn B X (l ++ u) v' w7 :=
  outB_in (kept_grown hB hl hk hg) (by
    have e : Lib.strCells ⟨u.toArray⟩ = bc u := by simp [Lib.strCells, bc]
    have e2 : (ByteArray.mk u.toArray).size = u.length := List.size_toArray
    rw [e, e2] at hown'; exact hown')
theorem conv_out {B : Nat} {v : Value} {l : List UInt8} {x : World} (h : OutB B v l x) : (convert 30 9 v).run Tryd.prog x = .ok (.string ⟨l.toArray⟩) x := by
  rcases h.2 with ⟨h1, h2⟩ | ⟨g, cap, cur, h1, h2⟩
  · obtain rfl : l = [] := List.length_eq_zero_iff.1 h2
    subst h1
    exact Lib.run_convert_nil_bytes x _ _ 5 0 Tryd.underlying30 Tryd.underlying5 Tryd.underlying9
  · subst h1
    refine run_convert_bytes_back x _ _ 5 ⟨g, 0, none⟩ cap l Tryd.underlying30 Tryd.underlying5 Tryd.underlying9 (fun j hj => ?_)
    exact World.ownsRow.cells h (g := g) rfl j _ (by simp [bc, List.getElem?_eq_getElem hj])
end Go.Proofs.YtpkbcomdkamglaaDoor
