/- A day and time among the arguments, read and written back. -/
import Derived.Test.YtlmjopembcifiaaDoorStOpen
namespace Go.Proofs.YtlmjopembcifiaaDoor
open Go.ChangeShapes Go.WideShapes Go.ChangeAt Go.RowKit
open Civ
def Fit6 (y m d h i s : Int) : Prop := (Lit.int .i64 y).wf = true ∧ (Lit.int .i64 m).wf = true ∧ (Lit.int .i64 d).wf = true ∧ (Lit.int .i64 h).wf = true ∧ (Lit.int .i64 i).wf = true ∧ (Lit.int .i64 s).wf = true
theorem cells23 : Tryd.prog.cellsOf 23 = 6 := by kernel_rfl
theorem cells3 : Tryd.prog.cellsOf 3 = 1 := by kernel_rfl
theorem list6 {α : Type} {l : List α} (h : l.length = 6) : ∃ a b c d e f, l = [a, b, c, d, e, f] := by
  match l, h with
  | [a, b, c, d, e, f], _ => exact ⟨a, b, c, d, e, f, rfl⟩
set_option maxRecDepth 100000 in
theorem open_civ {H : Type} {enc : TypeId × Value → H} {w : World} {base : Nat} {spare : Nat → Bool} {held : Bool} {r : Reach} {b0 : Nat} {v : Value} {d : DataW H} {p : List MemPlace}
    (hval : Value.okWide Tryd.prog w r b0 23 v) (h : DataW.Trod enc Tryd.prog w base spare held 23 v d p) :
    ∃ y m e g i c, v = civ y m e g i c ∧ d = .agg [.lit (.int .i64 y), .lit (.int .i64 m), .lit (.int .i64 e), .lit (.int .i64 g), .lit (.int .i64 i), .lit (.int .i64 c)] ∧ p = [] ∧ Fit6 y m e g i c := by
  obtain ⟨cs, rfl⟩ : ∃ cs, v = .agg cs := by
    unfold Value.okWide at hval
    simp only [Tryd.underlying23] at hval
    obtain ⟨cs, hv, _⟩ := hval
    exact ⟨cs, hv⟩
  clear hval
  obtain ⟨fuel, hf⟩ := h
  obtain ⟨xs, n, rfl, hx, hl, hlen, hel⟩ := DataW.trod_struct Tryd.underlying23 hf
  have hc : Value.cells (.agg cs) = cs := rfl
  rw [hc] at hl hel
  rw [cells23] at hl
  obtain ⟨l⟩ := cs
  obtain ⟨c0, c1, c2, c3, c4, c5, rfl⟩ := list6 (show l.length = 6 from hl)
  obtain ⟨x0, x1, x2, x3, x4, x5, rfl⟩ := list6 (show xs.length = 6 from hlen)
  have e0 : DataW.trod enc Tryd.prog w base spare held n 3 (([c0, c1, c2, c3, c4, c5].drop 0).take (Tryd.prog.cellsOf 3)) = some x0 := hel 0 _ rfl
  have e1 : DataW.trod enc Tryd.prog w base spare held n 3 (([c0, c1, c2, c3, c4, c5].drop 1).take (Tryd.prog.cellsOf 3)) = some x1 := hel 1 _ rfl
  have e2 : DataW.trod enc Tryd.prog w base spare held n 3 (([c0, c1, c2, c3, c4, c5].drop 2).take (Tryd.prog.cellsOf 3)) = some x2 := hel 2 _ rfl
  have e3 : DataW.trod enc Tryd.prog w base spare held n 3 (([c0, c1, c2, c3, c4, c5].drop 3).take (Tryd.prog.cellsOf 3)) = some x3 := hel 3 _ rfl
  have e4 : DataW.trod enc Tryd.prog w base spare held n 3 (([c0, c1, c2, c3, c4, c5].drop 4).take (Tryd.prog.cellsOf 3)) = some x4 := hel 4 _ rfl
  have e5 : DataW.trod enc Tryd.prog w base spare held n 3 (([c0, c1, c2, c3, c4, c5].drop 5).take (Tryd.prog.cellsOf 3)) = some x5 := hel 5 _ rfl
  rw [cells3] at e0 e1 e2 e3 e4 e5
  obtain ⟨z0, a0, b0, q0⟩ := DataW.trod_int Tryd.underlying3 (show DataW.trod _ _ _ _ _ _ _ 3 [c0] = some x0 from e0)
  obtain ⟨z1, a1, b1, q1⟩ := DataW.trod_int Tryd.underlying3 (show DataW.trod _ _ _ _ _ _ _ 3 [c1] = some x1 from e1)
  obtain ⟨z2, a2, b2, q2⟩ := DataW.trod_int Tryd.underlying3 (show DataW.trod _ _ _ _ _ _ _ 3 [c2] = some x2 from e2)
  obtain ⟨z3, a3, b3, q3⟩ := DataW.trod_int Tryd.underlying3 (show DataW.trod _ _ _ _ _ _ _ 3 [c3] = some x3 from e3)
  obtain ⟨z4, a4, b4, q4⟩ := DataW.trod_int Tryd.underlying3 (show DataW.trod _ _ _ _ _ _ _ 3 [c4] = some x4 from e4)
  obtain ⟨z5, a5, b5, q5⟩ := DataW.trod_int Tryd.underlying3 (show DataW.trod _ _ _ _ _ _ _ 3 [c5] = some x5 from e5)
  cases a0; cases a1; cases a2; cases a3; cases a4; cases a5
  subst b0 b1 b2 b3 b4 b5
  simp only [Prod.mk.injEq] at hx
  exact ⟨z0, z1, z2, z3, z4, z5, rfl, hx.1, hx.2, q0, q1, q2, q3, q4, q5⟩
theorem shut_civ {H : Type} {enc : TypeId × Value → H} {w : World} {base : Nat} {spare : Nat → Bool} {held : Bool} {y m d h i s : Int} (F : Fit6 y m d h i s) :
    DataW.Trod enc Tryd.prog w base spare held 23 (civ y m d h i s) (.agg [.lit (.int .i64 y), .lit (.int .i64 m), .lit (.int .i64 d), .lit (.int .i64 h), .lit (.int .i64 i), .lit (.int .i64 s)]) [] := by
  obtain ⟨q0, q1, q2, q3, q4, q5⟩ := F
  refine ⟨2, ?_⟩
  have := trod_struct_mk (enc := enc) (P := Tryd.prog) (w := w) (base := base) (spare := spare) (held := held) (n := 1) (cs := [.int .i64 y, .int .i64 m, .int .i64 d, .int .i64 h, .int .i64 i, .int .i64 s])
    (xs := [(.lit (.int .i64 y), []), (.lit (.int .i64 m), []), (.lit (.int .i64 d), []), (.lit (.int .i64 h), []), (.lit (.int .i64 i), []), (.lit (.int .i64 s), [])]) Tryd.underlying23 (by kernel_rfl)
    (by simp [DataW.trod, Tryd.underlying3, cells3, q0, q1, q2, q3, q4, q5])
  simpa [Value.cells] using this
theorem fit_bd {y m d h i s : Int} (F : Fit6 y m d h i s) : (-9223372036854775808 ≤ y ∧ y ≤ 9223372036854775807) ∧ (-9223372036854775808 ≤ m ∧ m ≤ 9223372036854775807) ∧ (-9223372036854775808 ≤ d ∧ d ≤ 9223372036854775807) ∧ (-9223372036854775808 ≤ h ∧ h ≤ 9223372036854775807) ∧ (-9223372036854775808 ≤ i ∧ i ≤ 9223372036854775807) ∧ (-9223372036854775808 ≤ s ∧ s ≤ 9223372036854775807) :=
  ⟨i64_bd F.1, i64_bd F.2.1, i64_bd F.2.2.1, i64_bd F.2.2.2.1, i64_bd F.2.2.2.2.1, i64_bd F.2.2.2.2.2⟩
end Go.Proofs.YtlmjopembcifiaaDoor
