/- Package head: all words of a text. -/
import Derived.Test.YtdhhlcgmkkpldaaGreatDoorHdCw
set_option linter.unusedSimpArgs false
set_option linter.unusedVariables false
namespace Go.Proofs.YtdhhlcgmkkpldaaGreatDoor.Hd
open Go.ChangeShapes Go.WideShapes Go.ChangeAt Go.RowKit Go.Shelf
attribute [local go_sem] Oper.semAt_some
theorem kept_below {w x y : World} (h : Kept w x) {n : Nat} (k : Below n x y) (hn : w.heap.size ≤ n) : Kept w y :=
  ⟨k.os.trans h.os, k.output.trans h.output, Nat.le_trans h.size k.size, fun j hj => (k.block j (by omega)).trans (h.block j hj), k.tape.trans h.tape⟩
theorem below_save {n : Nat} {w A B : World} {M : Nat → Obj → Prop} (h : Below n w A) (k : Save M A B) (hn : n ≤ A.heap.size) (hm : ∀ j o, j < n → ¬ M j o) : Below n w B :=
  ⟨k.os.trans h.os, k.tape.trans h.tape, k.output.trans h.output, Nat.le_trans h.size k.size, fun j hj => by
    obtain ⟨ob, hob⟩ := at_some (A := A) (k := j) (by omega)
    rw [k.block j ob hob (hm j ob hj), ← hob, h.block j hj]⟩
/-- where the list lies that is made -/
structure AsI (B0 b n1 : Nat) (v : Value) (ls : List B) (w V : World) : Prop where
  bx : Bv 39 b v V
  ow : OwnS n1 v ls V
  k : Below B0 w V
  sz : n1 ≤ V.heap.size
theorem AsI.turn {B0 b n1 : Nat} {v : Value} {ls : List B} {w V V' : World} {T : Nat → Prop} (h : AsI B0 b n1 v ls w V) (k : Save (Itn T n1) V V') (hT : ∀ k, T k → B0 ≤ k ∧ k < b) (hb : b < n1) (hB : B0 ≤ b) : AsI B0 b n1 v ls w V' := by
  have hsz := h.sz
  refine ⟨h.bx.save k (fun q => ?_), own_turn h.ow k (fun g c hg q => ?_), below_save h.k k (by omega) (fun j o hj q => ?_), Nat.le_trans h.sz k.size⟩
  · rcases q with q | q
    · have := hT _ q; omega
    · omega
  · rcases q with q | q
    · have := hT _ q; omega
    · cases q.2
  · rcases q with q | q
    · have := hT _ q; omega
    · omega
theorem AsI.kept {B0 b n1 : Nat} {v : Value} {ls : List B} {w V V' : World} (h : AsI B0 b n1 v ls w V) (k : Kept V V') (hB : B0 ≤ n1) : AsI B0 b n1 v ls w V' :=
  ⟨h.bx.kept k, OwnS.kept h.ow k, h.k.trans (k.below (by have := h.sz; omega)), Nat.le_trans h.sz k.size⟩
end Go.Proofs.YtdhhlcgmkkpldaaGreatDoor.Hd
