/- Package reply: three numbers of a code are compared. -/
import Derived.Test.YtdfmnjoklehifaaDoorRpE
import Derived.Laws.StructEq
set_option linter.unusedSimpArgs false
set_option linter.unusedVariables false
namespace Go.Proofs.YtdfmnjoklehifaaDoor.Bk.Rp
open Go.ChangeShapes Go.WideShapes Go.ChangeAt Go.RowKit Go.Shelf
set_option maxRecDepth 100000 in
theorem eq_m3 (a b : M3) (w : World) : (Op.equalIn 10000 23 (m3V a) (m3V b)).run Tryd.prog w = .ok (decide (a = b)) w := by
  have hE : ∀ (x y : Int) (W : World), (Op.equalIn 9999 3 (iV x) (iV y)).run Tryd.prog W = .ok (x == y) W := fun x y W => run_equalIn_int W 9998 3 .i64 .i64 x y Tryd.underlying3
  have p0 : ∀ (x y z : Int) (W : World), (part 3 #[iV x, iV y, iV z] (0 * 1)).run Tryd.prog W = .ok (iV x) W := fun _ _ _ _ => rfl
  have p1 : ∀ (x y z : Int) (W : World), (part 3 #[iV x, iV y, iV z] ((0 + 1) * 1)).run Tryd.prog W = .ok (iV y) W := fun _ _ _ _ => rfl
  have p2 : ∀ (x y z : Int) (W : World), (part 3 #[iV x, iV y, iV z] ((0 + 1 + 1) * 1)).run Tryd.prog W = .ok (iV z) W := fun _ _ _ _ => rfl
  have hs : ∀ W : World, (sizeOf 3).run Tryd.prog W = .ok 1 W := fun W => by kernel_rfl
  rw [show (10000 : Nat) = 9999 + 1 from rfl, Op.equalIn]
  simp only [Sem.run_bind, run_underlying Tryd.underlying23, Result.andThen_ok]
  obtain ⟨a0, a1, a2⟩ := a
  obtain ⟨b0, b1, b2⟩ := b
  simp only [hs, Result.andThen_ok]
  rw [Std.Legacy.Range.forIn_eq_forIn_range']
  simp only [Std.Legacy.Range.size, List.range', Nat.sub_zero, Nat.add_sub_cancel, Nat.div_one, List.forIn_cons, List.forIn_nil, Sem.run_bind, hs, Result.andThen_ok, Sem.run_ite, Sem.run_pure, p0, hE]
  cases h0 : (a0 == b0) with
  | false =>
    have : a0 ≠ b0 := beq_eq_false_iff_ne.1 h0
    simp [this]
  | true =>
    have e0 : a0 = b0 := beq_iff_eq.1 h0
    simp only [Bool.not_true, Bool.false_eq_true, if_false, Result.andThen_ok, Sem.run_bind, Sem.run_ite, Sem.run_pure, p1, hE]
    cases h1 : (a1 == b1) with
    | false =>
      have : a1 ≠ b1 := beq_eq_false_iff_ne.1 h1
      simp [this]
    | true =>
      have e1 : a1 = b1 := beq_iff_eq.1 h1
      simp only [Bool.not_true, Bool.false_eq_true, if_false, Result.andThen_ok, Sem.run_bind, Sem.run_ite, Sem.run_pure, p2, hE]
      cases h2 : (a2 == b2) with
      | false =>
        have : a2 ≠ b2 := beq_eq_false_iff_ne.1 h2
        simp [this]
      | true =>
        have e2 : a2 = b2 := beq_iff_eq.1 h2
        simp [e0, e1, e2]
theorem eql_m3 (a b : M3) (w : World) : (binOp .eql 23 (m3V a) (m3V b)).run Tryd.prog w = .ok (.bool (decide (a = b))) w := by
  rw [run_eql_struct, eq_m3]; rfl
end Go.Proofs.YtdfmnjoklehifaaDoor.Bk.Rp
