/- What package xml's contracts ask of the world, of a row's. -/
import Derived.Test.YtknggeplnffegaaGreatDoorEnEnv
import Derived.Test.YtknggeplnffegaaGreatDoorXwA
set_option linter.unusedVariables false
namespace Go.Proofs.YtknggeplnffegaaGreatDoor
open Go.ChangeShapes Go.WideShapes Go.ChangeAt Go.RowKit
open En Xm
theorem glob_lt {W : World} (h : W.ShapedOpen Tryz.prog) {g : Nat} (hg : g < Tryz.prog.globals.size) (h0 : (((begin Tryz.prog (fun _ _ => 0) default).world.heap[g]?).bind Obj.row?).isSome = true) : g < W.heap.size := by
  obtain ⟨⟨zero, t⟩, h0⟩ := Option.isSome_iff_exists.1 h0
  obtain ⟨cs, hh, _⟩ := h.1 g zero t hg h0
  exact (Array.getElem?_eq_some_iff.1 hh).1
theorem ex_of {W : World} (hS : W.ShapedOpen Tryz.prog) (hL : laidMet Tryz.prog laid7 W) : EX W.heap.size W := by
  refine ⟨env_of hL, ?_, ?_⟩
  · exact cell_of_shapedOpen_int (g := 0) (t := 3) (zero := #[.int .i64 0]) hS (of_decide_eq_true (by kernel_rfl)) (by kernel_rfl) (by kernel_rfl) (by kernel_rfl) (by kernel_rfl) Tryz.underlying3
  · intro j hj
    simp only [List.mem_cons, List.not_mem_nil, or_false] at hj
    rcases hj with rfl | rfl | rfl | rfl
    · exact glob_lt hS (of_decide_eq_true (by kernel_rfl)) (by kernel_rfl)
    · exact glob_lt hS (of_decide_eq_true (by kernel_rfl)) (by kernel_rfl)
    · exact glob_lt hS (of_decide_eq_true (by kernel_rfl)) (by kernel_rfl)
    · exact glob_lt hS (of_decide_eq_true (by kernel_rfl)) (by kernel_rfl)
end Go.Proofs.YtknggeplnffegaaGreatDoor
