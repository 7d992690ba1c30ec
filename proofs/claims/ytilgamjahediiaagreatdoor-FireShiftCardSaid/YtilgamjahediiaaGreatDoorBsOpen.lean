/- Zones, rules, days and times among the arguments, read and written back. -/
import Derived.Test.YtilgamjahediiaaGreatDoorRows
import Derived.Test.YtilgamjahediiaaGreatDoorBsSt
import Derived.Test.YtilgamjahediiaaGreatDoorBsZn
import Derived.OpenShut
import Derived.ChangeSame
import Derived.Stop.LaidErr
import Derived.ChangeMaps5
namespace Go.Proofs.YtilgamjahediiaaGreatDoor
open Go.ChangeShapes Go.WideShapes Go.ChangeAt Go.RowKit
open Civ Zn
theorem i64_bd {n : Int} (h : (Lit.int .i64 n).wf = true) : -9223372036854775808 ≤ n ∧ n ≤ 9223372036854775807 := by
  simpa [Lit.wf, IntKind.min, IntKind.max, IntKind.signed, IntKind.bits] using h
def Fit6 (y m d h i s : Int) : Prop := (Lit.int .i64 y).wf = true ∧ (Lit.int .i64 m).wf = true ∧ (Lit.int .i64 d).wf = true ∧ (Lit.int .i64 h).wf = true ∧ (Lit.int .i64 i).wf = true ∧ (Lit.int .i64 s).wf = true
theorem cells23 : Tryz.prog.cellsOf 34 = 6 := by kernel_rfl
theorem cells3 : Tryz.prog.cellsOf 3 = 1 := by kernel_rfl
theorem list6 {α : Type} {l : List α} (h : l.length = 6) : ∃ a b c d e f, l = [a, b, c, d, e, f] := by
  match l, h with
  | [a, b, c, d, e, f], _ => exact ⟨a, b, c, d, e, f, rfl⟩
set_option maxRecDepth 100000 in
theorem open_civ {H : Type} {enc : TypeId × Value → H} {w : World} {base : Nat} {spare : Nat → Bool} {held : Bool} {r : Reach} {b0 : Nat} {v : Value} {d : DataW H} {p : List MemPlace}
    (hval : Value.okWide Tryz.prog w r b0 34 v) (h : DataW.Trod enc Tryz.prog w base spare held 34 v d p) :
    ∃ y m e g i c, v = civ y m e g i c ∧ d = .agg [.lit (.int .i64 y), .lit (.int .i64 m), .lit (.int .i64 e), .lit (.int .i64 g), .lit (.int .i64 i), .lit (.int .i64 c)] ∧ p = [] ∧ Fit6 y m e g i c := by
  obtain ⟨cs, rfl⟩ : ∃ cs, v = .agg cs := by
    unfold Value.okWide at hval
    simp only [Tryz.underlying34] at hval
    obtain ⟨cs, hv, _⟩ := hval
    exact ⟨cs, hv⟩
  clear hval
  obtain ⟨fuel, hf⟩ := h
  obtain ⟨xs, n, rfl, hx, hl, hlen, hel⟩ := DataW.trod_struct Tryz.underlying34 hf
  have hc : Value.cells (.agg cs) = cs := rfl
  rw [hc] at hl hel
  rw [cells23] at hl
  obtain ⟨l⟩ := cs
  obtain ⟨c0, c1, c2, c3, c4, c5, rfl⟩ := list6 (show l.length = 6 from hl)
  obtain ⟨x0, x1, x2, x3, x4, x5, rfl⟩ := list6 (show xs.length = 6 from hlen)
  have e0 : DataW.trod enc Tryz.prog w base spare held n 3 (([c0, c1, c2, c3, c4, c5].drop 0).take (Tryz.prog.cellsOf 3)) = some x0 := hel 0 _ rfl
  have e1 : DataW.trod enc Tryz.prog w base spare held n 3 (([c0, c1, c2, c3, c4, c5].drop 1).take (Tryz.prog.cellsOf 3)) = some x1 := hel 1 _ rfl
  have e2 : DataW.trod enc Tryz.prog w base spare held n 3 (([c0, c1, c2, c3, c4, c5].drop 2).take (Tryz.prog.cellsOf 3)) = some x2 := hel 2 _ rfl
  have e3 : DataW.trod enc Tryz.prog w base spare held n 3 (([c0, c1, c2, c3, c4, c5].drop 3).take (Tryz.prog.cellsOf 3)) = some x3 := hel 3 _ rfl
  have e4 : DataW.trod enc Tryz.prog w base spare held n 3 (([c0, c1, c2, c3, c4, c5].drop 4).take (Tryz.prog.cellsOf 3)) = some x4 := hel 4 _ rfl
  have e5 : DataW.trod enc Tryz.prog w base spare held n 3 (([c0, c1, c2, c3, c4, c5].drop 5).take (Tryz.prog.cellsOf 3)) = some x5 := hel 5 _ rfl
  rw [cells3] at e0 e1 e2 e3 e4 e5
  obtain ⟨z0, a0, b0, q0⟩ := DataW.trod_int Tryz.underlying3 (show DataW.trod _ _ _ _ _ _ _ 3 [c0] = some x0 from e0)
  obtain ⟨z1, a1, b1, q1⟩ := DataW.trod_int Tryz.underlying3 (show DataW.trod _ _ _ _ _ _ _ 3 [c1] = some x1 from e1)
  obtain ⟨z2, a2, b2, q2⟩ := DataW.trod_int Tryz.underlying3 (show DataW.trod _ _ _ _ _ _ _ 3 [c2] = some x2 from e2)
  obtain ⟨z3, a3, b3, q3⟩ := DataW.trod_int Tryz.underlying3 (show DataW.trod _ _ _ _ _ _ _ 3 [c3] = some x3 from e3)
  obtain ⟨z4, a4, b4, q4⟩ := DataW.trod_int Tryz.underlying3 (show DataW.trod _ _ _ _ _ _ _ 3 [c4] = some x4 from e4)
  obtain ⟨z5, a5, b5, q5⟩ := DataW.trod_int Tryz.underlying3 (show DataW.trod _ _ _ _ _ _ _ 3 [c5] = some x5 from e5)
  cases a0; cases a1; cases a2; cases a3; cases a4; cases a5
  subst b0 b1 b2 b3 b4 b5
  simp only [Prod.mk.injEq] at hx
  exact ⟨z0, z1, z2, z3, z4, z5, rfl, hx.1, hx.2, q0, q1, q2, q3, q4, q5⟩
theorem shut_civ {H : Type} {enc : TypeId × Value → H} {w : World} {base : Nat} {spare : Nat → Bool} {held : Bool} {y m d h i s : Int} (F : Fit6 y m d h i s) :
    DataW.Trod enc Tryz.prog w base spare held 34 (civ y m d h i s) (.agg [.lit (.int .i64 y), .lit (.int .i64 m), .lit (.int .i64 d), .lit (.int .i64 h), .lit (.int .i64 i), .lit (.int .i64 s)]) [] := by
  obtain ⟨q0, q1, q2, q3, q4, q5⟩ := F
  refine ⟨2, ?_⟩
  have := trod_struct_mk (enc := enc) (P := Tryz.prog) (w := w) (base := base) (spare := spare) (held := held) (n := 1) (cs := [.int .i64 y, .int .i64 m, .int .i64 d, .int .i64 h, .int .i64 i, .int .i64 s])
    (xs := [(.lit (.int .i64 y), []), (.lit (.int .i64 m), []), (.lit (.int .i64 d), []), (.lit (.int .i64 h), []), (.lit (.int .i64 i), []), (.lit (.int .i64 s), [])]) Tryz.underlying34 (by kernel_rfl)
    (by simp [DataW.trod, Tryz.underlying3, cells3, q0, q1, q2, q3, q4, q5])
  simpa [Value.cells] using this
def Fit5 (r : Ru) : Prop := (Lit.int .i64 r.k).wf = true ∧ (Lit.int .i64 r.m).wf = true ∧ (Lit.int .i64 r.w).wf = true ∧ (Lit.int .i64 r.d).wf = true ∧ (Lit.int .i64 r.a).wf = true
def ruD {H : Type} (r : Ru) : DataW H := .agg [.lit (.int .i64 r.k), .lit (.int .i64 r.m), .lit (.int .i64 r.w), .lit (.int .i64 r.d), .lit (.int .i64 r.a)]
def zoD {H : Type} (z : Zo) : DataW H := .agg [.lit (.string z.std), .lit (.int .i64 z.off), .lit (.bool z.has), .lit (.string z.dst), .lit (.int .i64 z.ahead), ruD z.fr, ruD z.to]
def FitZ (z : Zo) : Prop := z.std.length ≤ maxLen ∧ (Lit.int .i64 z.off).wf = true ∧ z.dst.length ≤ maxLen ∧ (Lit.int .i64 z.ahead).wf = true ∧ Fit5 z.fr ∧ Fit5 z.to
theorem cellsR : Tryz.prog.cellsOf 23 = 5 := by kernel_rfl
theorem cellsZ : Tryz.prog.cellsOf 25 = 15 := by kernel_rfl
theorem cellsI : Tryz.prog.cellsOf 3 = 1 := by kernel_rfl
theorem cellsS : Tryz.prog.cellsOf 9 = 1 := by kernel_rfl
theorem cellsB : Tryz.prog.cellsOf 4 = 1 := by kernel_rfl
theorem list5 {α : Type} {l : List α} (h : l.length = 5) : ∃ a b c d e, l = [a, b, c, d, e] := by
  match l, h with
  | [a, b, c, d, e], _ => exact ⟨a, b, c, d, e, rfl⟩
theorem list7 {α : Type} {l : List α} (h : l.length = 7) : ∃ a b c d e f g, l = [a, b, c, d, e, f, g] := by
  match l, h with
  | [a, b, c, d, e, f, g], _ => exact ⟨a, b, c, d, e, f, g, rfl⟩
theorem list15 {α : Type} {l : List α} (h : l.length = 15) : ∃ c0 c1 c2 c3 c4 c5 c6 c7 c8 c9 c10 c11 c12 c13 c14, l = [c0, c1, c2, c3, c4, c5, c6, c7, c8, c9, c10, c11, c12, c13, c14] := by
  match l, h with
  | [c0, c1, c2, c3, c4, c5, c6, c7, c8, c9, c10, c11, c12, c13, c14], _ => exact ⟨c0, c1, c2, c3, c4, c5, c6, c7, c8, c9, c10, c11, c12, c13, c14, rfl⟩
set_option maxRecDepth 100000 in
theorem open_ru {H : Type} {enc : TypeId × Value → H} {w : World} {base : Nat} {spare : Nat → Bool} {held : Bool} {fuel : Nat} {c0 c1 c2 c3 c4 : Value} {x : DataW H × List MemPlace}
    (h : DataW.trod enc Tryz.prog w base spare held fuel 23 [c0, c1, c2, c3, c4] = some x) :
    ∃ r : Ru, c0 = .int .i64 r.k ∧ c1 = .int .i64 r.m ∧ c2 = .int .i64 r.w ∧ c3 = .int .i64 r.d ∧ c4 = .int .i64 r.a ∧ x = (ruD r, []) ∧ Fit5 r := by
  obtain ⟨xs, n, rfl, hx, hl, hlen, hel⟩ := DataW.trod_struct Tryz.underlying23 h
  obtain ⟨x0, x1, x2, x3, x4, rfl⟩ := list5 (show xs.length = 5 from hlen)
  have e0 : DataW.trod enc Tryz.prog w base spare held n 3 (([c0, c1, c2, c3, c4].drop 0).take (Tryz.prog.cellsOf 3)) = some x0 := hel 0 _ rfl
  have e1 : DataW.trod enc Tryz.prog w base spare held n 3 (([c0, c1, c2, c3, c4].drop 1).take (Tryz.prog.cellsOf 3)) = some x1 := hel 1 _ rfl
  have e2 : DataW.trod enc Tryz.prog w base spare held n 3 (([c0, c1, c2, c3, c4].drop 2).take (Tryz.prog.cellsOf 3)) = some x2 := hel 2 _ rfl
  have e3 : DataW.trod enc Tryz.prog w base spare held n 3 (([c0, c1, c2, c3, c4].drop 3).take (Tryz.prog.cellsOf 3)) = some x3 := hel 3 _ rfl
  have e4 : DataW.trod enc Tryz.prog w base spare held n 3 (([c0, c1, c2, c3, c4].drop 4).take (Tryz.prog.cellsOf 3)) = some x4 := hel 4 _ rfl
  rw [cellsI] at e0 e1 e2 e3 e4
  obtain ⟨z0, a0, b0, q0⟩ := DataW.trod_int Tryz.underlying3 (show DataW.trod _ _ _ _ _ _ _ 3 [c0] = some x0 from e0)
  obtain ⟨z1, a1, b1, q1⟩ := DataW.trod_int Tryz.underlying3 (show DataW.trod _ _ _ _ _ _ _ 3 [c1] = some x1 from e1)
  obtain ⟨z2, a2, b2, q2⟩ := DataW.trod_int Tryz.underlying3 (show DataW.trod _ _ _ _ _ _ _ 3 [c2] = some x2 from e2)
  obtain ⟨z3, a3, b3, q3⟩ := DataW.trod_int Tryz.underlying3 (show DataW.trod _ _ _ _ _ _ _ 3 [c3] = some x3 from e3)
  obtain ⟨z4, a4, b4, q4⟩ := DataW.trod_int Tryz.underlying3 (show DataW.trod _ _ _ _ _ _ _ 3 [c4] = some x4 from e4)
  cases a0; cases a1; cases a2; cases a3; cases a4
  subst b0 b1 b2 b3 b4
  exact ⟨⟨z0, z1, z2, z3, z4⟩, rfl, rfl, rfl, rfl, rfl, hx, q0, q1, q2, q3, q4⟩
theorem shut_ru {H : Type} {enc : TypeId × Value → H} {w : World} {base : Nat} {spare : Nat → Bool} {held : Bool} {r : Ru} (F : Fit5 r) :
    DataW.trod enc Tryz.prog w base spare held 2 23 [.int .i64 r.k, .int .i64 r.m, .int .i64 r.w, .int .i64 r.d, .int .i64 r.a] = some (ruD r, []) := by
  obtain ⟨q0, q1, q2, q3, q4⟩ := F
  exact trod_struct_mk (enc := enc) (P := Tryz.prog) (w := w) (base := base) (spare := spare) (held := held) (n := 1) (cs := [.int .i64 r.k, .int .i64 r.m, .int .i64 r.w, .int .i64 r.d, .int .i64 r.a])
    (xs := [(.lit (.int .i64 r.k), []), (.lit (.int .i64 r.m), []), (.lit (.int .i64 r.w), []), (.lit (.int .i64 r.d), []), (.lit (.int .i64 r.a), [])]) Tryz.underlying23 (by kernel_rfl)
    (by simp [DataW.trod, Tryz.underlying3, cellsI, q0, q1, q2, q3, q4])
set_option maxRecDepth 100000 in
theorem open_rule {H : Type} {enc : TypeId × Value → H} {w : World} {base : Nat} {spare : Nat → Bool} {held : Bool} {r : Reach} {b0 : Nat} {v : Value} {d : DataW H} {p : List MemPlace}
    (hval : Value.okWide Tryz.prog w r b0 23 v) (h : DataW.Trod enc Tryz.prog w base spare held 23 v d p) :
    ∃ r : Ru, v = ruV r ∧ d = ruD r ∧ p = [] ∧ Fit5 r := by
  obtain ⟨cs, rfl⟩ : ∃ cs, v = .agg cs := by
    unfold Value.okWide at hval
    simp only [Tryz.underlying23] at hval
    obtain ⟨cs, hv, _⟩ := hval
    exact ⟨cs, hv⟩
  clear hval
  obtain ⟨fuel, hf⟩ := h
  obtain ⟨xs, n, rfl, hx, hl, hlen, hel⟩ := DataW.trod_struct Tryz.underlying23 hf
  rw [cellsR] at hl
  obtain ⟨l⟩ := cs
  obtain ⟨c0, c1, c2, c3, c4, rfl⟩ := list5 (show l.length = 5 from hl)
  obtain ⟨r, rfl, rfl, rfl, rfl, rfl, hd, F⟩ := open_ru (show DataW.trod _ _ _ _ _ _ _ 23 [c0, c1, c2, c3, c4] = some _ from hf)
  simp only [Prod.mk.injEq] at hd
  exact ⟨r, rfl, hd.1, hd.2, F⟩
theorem shut_rule {H : Type} {enc : TypeId × Value → H} {w : World} {base : Nat} {spare : Nat → Bool} {held : Bool} {r : Ru} (F : Fit5 r) :
    DataW.Trod enc Tryz.prog w base spare held 23 (ruV r) (ruD r) [] := ⟨2, shut_ru F⟩
theorem toList_mk (s : ByteArray) : ⟨s.data.toList.toArray⟩ = s := by simp
set_option maxRecDepth 100000 in
theorem open_zone {H : Type} {enc : TypeId × Value → H} {w : World} {base : Nat} {spare : Nat → Bool} {held : Bool} {r : Reach} {b0 : Nat} {v : Value} {d : DataW H} {p : List MemPlace}
    (hval : Value.okWide Tryz.prog w r b0 25 v) (h : DataW.Trod enc Tryz.prog w base spare held 25 v d p) :
    ∃ z : Zo, v = zoV z ∧ d = zoD z ∧ p = [] ∧ FitZ z := by
  obtain ⟨cs, rfl⟩ : ∃ cs, v = .agg cs := by
    unfold Value.okWide at hval
    simp only [Tryz.underlying25] at hval
    obtain ⟨cs, hv, _⟩ := hval
    exact ⟨cs, hv⟩
  clear hval
  obtain ⟨fuel, hf⟩ := h
  obtain ⟨xs, n, rfl, hx, hl, hlen, hel⟩ := DataW.trod_struct Tryz.underlying25 hf
  have hc : Value.cells (.agg cs) = cs := rfl
  rw [hc] at hl hel
  rw [cellsZ] at hl
  obtain ⟨l⟩ := cs
  obtain ⟨c0, c1, c2, c3, c4, c5, c6, c7, c8, c9, c10, c11, c12, c13, c14, rfl⟩ := list15 (show l.length = 15 from hl)
  obtain ⟨x0, x1, x2, x3, x4, x5, x6, rfl⟩ := list7 (show xs.length = 7 from hlen)
  have e0 : DataW.trod enc Tryz.prog w base spare held n 9 (([c0, c1, c2, c3, c4, c5, c6, c7, c8, c9, c10, c11, c12, c13, c14].drop 0).take (Tryz.prog.cellsOf 9)) = some x0 := hel 0 _ rfl
  have e1 : DataW.trod enc Tryz.prog w base spare held n 3 (([c0, c1, c2, c3, c4, c5, c6, c7, c8, c9, c10, c11, c12, c13, c14].drop 1).take (Tryz.prog.cellsOf 3)) = some x1 := hel 1 _ rfl
  have e2 : DataW.trod enc Tryz.prog w base spare held n 4 (([c0, c1, c2, c3, c4, c5, c6, c7, c8, c9, c10, c11, c12, c13, c14].drop 2).take (Tryz.prog.cellsOf 4)) = some x2 := hel 2 _ rfl
  have e3 : DataW.trod enc Tryz.prog w base spare held n 9 (([c0, c1, c2, c3, c4, c5, c6, c7, c8, c9, c10, c11, c12, c13, c14].drop 3).take (Tryz.prog.cellsOf 9)) = some x3 := hel 3 _ rfl
  have e4 : DataW.trod enc Tryz.prog w base spare held n 3 (([c0, c1, c2, c3, c4, c5, c6, c7, c8, c9, c10, c11, c12, c13, c14].drop 4).take (Tryz.prog.cellsOf 3)) = some x4 := hel 4 _ rfl
  have e5 : DataW.trod enc Tryz.prog w base spare held n 23 (([c0, c1, c2, c3, c4, c5, c6, c7, c8, c9, c10, c11, c12, c13, c14].drop 5).take (Tryz.prog.cellsOf 23)) = some x5 := hel 5 _ rfl
  have e6 : DataW.trod enc Tryz.prog w base spare held n 23 (([c0, c1, c2, c3, c4, c5, c6, c7, c8, c9, c10, c11, c12, c13, c14].drop 10).take (Tryz.prog.cellsOf 23)) = some x6 := hel 6 _ rfl
  rw [cellsS] at e0 e3
  rw [cellsI] at e1 e4
  rw [cellsB] at e2
  rw [cellsR] at e5 e6
  obtain ⟨s0, a0, b0, q0⟩ := DataW.trod_string Tryz.underlying9 (show DataW.trod _ _ _ _ _ _ _ 9 [c0] = some x0 from e0)
  obtain ⟨z1, a1, b1, q1⟩ := DataW.trod_int Tryz.underlying3 (show DataW.trod _ _ _ _ _ _ _ 3 [c1] = some x1 from e1)
  obtain ⟨z2, a2, b2⟩ := DataW.trod_bool Tryz.underlying4 (show DataW.trod _ _ _ _ _ _ _ 4 [c2] = some x2 from e2)
  obtain ⟨s3, a3, b3, q3⟩ := DataW.trod_string Tryz.underlying9 (show DataW.trod _ _ _ _ _ _ _ 9 [c3] = some x3 from e3)
  obtain ⟨z4, a4, b4, q4⟩ := DataW.trod_int Tryz.underlying3 (show DataW.trod _ _ _ _ _ _ _ 3 [c4] = some x4 from e4)
  obtain ⟨r5, rfl, rfl, rfl, rfl, rfl, b5, q5⟩ := open_ru (show DataW.trod _ _ _ _ _ _ _ 23 [c5, c6, c7, c8, c9] = some x5 from e5)
  obtain ⟨r6, rfl, rfl, rfl, rfl, rfl, b6, q6⟩ := open_ru (show DataW.trod _ _ _ _ _ _ _ 23 [c10, c11, c12, c13, c14] = some x6 from e6)
  cases a0; cases a1; cases a2; cases a3; cases a4
  subst b0 b1 b2 b3 b4 b5 b6
  simp only [Prod.mk.injEq] at hx
  refine ⟨⟨s0.data.toList, z1, z2, s3.data.toList, z4, r5, r6⟩, ?_, hx.1, hx.2, ?_, q1, ?_, q4, q5, q6⟩
  · show Value.agg _ = Value.agg _
    simp only [toList_mk]
  · simpa using q0
  · simpa using q3
theorem shut_zone {H : Type} {enc : TypeId × Value → H} {w : World} {base : Nat} {spare : Nat → Bool} {held : Bool} {z : Zo} (F : FitZ z) :
    DataW.Trod enc Tryz.prog w base spare held 25 (zoV z) (zoD z) [] := by
  obtain ⟨q0, q1, q3, q4, q5, q6⟩ := F
  refine ⟨3, ?_⟩
  have r5 := shut_ru (enc := enc) (w := w) (base := base) (spare := spare) (held := held) q5
  have r6 := shut_ru (enc := enc) (w := w) (base := base) (spare := spare) (held := held) q6
  have hs0 : (ByteArray.mk z.std.toArray).size ≤ maxLen := q0
  have hs3 : (ByteArray.mk z.dst.toArray).size ≤ maxLen := q3
  exact trod_struct_mk (enc := enc) (P := Tryz.prog) (w := w) (base := base) (spare := spare) (held := held) (n := 2) (cs := [.string ⟨z.std.toArray⟩, .int .i64 z.off, .bool z.has, .string ⟨z.dst.toArray⟩, .int .i64 z.ahead, .int .i64 z.fr.k, .int .i64 z.fr.m, .int .i64 z.fr.w, .int .i64 z.fr.d, .int .i64 z.fr.a, .int .i64 z.to.k, .int .i64 z.to.m, .int .i64 z.to.w, .int .i64 z.to.d, .int .i64 z.to.a])
    (xs := [(.lit (.string z.std), []), (.lit (.int .i64 z.off), []), (.lit (.bool z.has), []), (.lit (.string z.dst), []), (.lit (.int .i64 z.ahead), []), (ruD z.fr, []), (ruD z.to, [])]) Tryz.underlying25 (by kernel_rfl)
    (by
      have t0 : DataW.trod enc Tryz.prog w base spare held 2 9 [.string ⟨z.std.toArray⟩] = some (.lit (.string z.std), []) := by simp [DataW.trod, Tryz.underlying9]; exact q0
      have t3 : DataW.trod enc Tryz.prog w base spare held 2 9 [.string ⟨z.dst.toArray⟩] = some (.lit (.string z.dst), []) := by simp [DataW.trod, Tryz.underlying9]; exact q3
      have t1 : DataW.trod enc Tryz.prog w base spare held 2 3 [.int .i64 z.off] = some (.lit (.int .i64 z.off), []) := by simp [DataW.trod, Tryz.underlying3, q1]
      have t4 : DataW.trod enc Tryz.prog w base spare held 2 3 [.int .i64 z.ahead] = some (.lit (.int .i64 z.ahead), []) := by simp [DataW.trod, Tryz.underlying3, q4]
      have t2 : DataW.trod enc Tryz.prog w base spare held 2 4 [.bool z.has] = some (.lit (.bool z.has), []) := by simp [DataW.trod, Tryz.underlying4]
      simp [cellsS, cellsI, cellsB, cellsR, t0, t1, t2, t3, t4, r5, r6])
end Go.Proofs.YtilgamjahediiaaGreatDoor
