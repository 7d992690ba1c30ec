/- A builder's block across calls. -/
import Derived.Test.YtpkkpjonlogliaaDoorEnN
import Derived.Test.YtpkkpjonlogliaaDoorEnBd
set_option linter.unusedSimpArgs false
set_option linter.unusedVariables false
namespace Go.Proofs.YtpkkpjonlogliaaDoor
open Go.ChangeShapes Go.WideShapes Go.ChangeAt Go.RowKit
open En
theorem Bd.kept {B b : Nat} {l : List UInt8} {w w' : World} (h : Bd B b l w) (k : Kept w w') : Bd B b l w' := by
  have key : ∀ p, Lib.BuilderAtF 54 5 B b p (Lib.byteCells l) w → Lib.BuilderAtF 54 5 B b p (Lib.byteCells l) w' := fun p q => by
    obtain ⟨hB, v, hb, hown, hne⟩ := q
    exact ⟨hB, v, (k.block b (Array.getElem?_eq_some_iff.1 hb).1).trans hb, World.ownsRowF.kept hown (k.grownBy none) (by cases hv : v.ownBlock <;> simp), hne⟩
  exact h.elim (fun q => .inl (key _ q)) (fun q => .inr (key _ q))
theorem Wrote.iter {B b k p : Nat} {l : List UInt8} {w w' : World} {s : ByteArray} (h : Wrote B b l w w') (hk : w.heap[k]? = some (.stringIter s p)) (hne : k ≠ b) : w'.heap[k]? = some (.stringIter s p) := h.others.iter hk hne
end Go.Proofs.YtpkkpjonlogliaaDoor
