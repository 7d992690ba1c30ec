/- Contracts of package cron: whether a day and time is one of a schedule. -/
import Derived.Test.YtcmdjpgabkjbpaaGreatDoorCrDay
set_option linter.unusedVariables false
namespace Go.Proofs.YtcmdjpgabkjbpaaGreatDoor
open Go.ChangeShapes Go.WideShapes Go.ChangeAt Go.RowKit
open Crn Civ
noncomputable def matchC (c : CR) (y m d h i s : Int) : Bool := mayB y m d h i s && decide (s = 0) && hasB (c.L 0) i && hasB (c.L 1) h && dayC c y m d
/-- a day and time in a block of its own -/
def Bc (b : Nat) (y m d h i s : Int) (x : World) : Prop := x.heap[b]? = some (.cells #[.int .i64 y, .int .i64 m, .int .i64 d, .int .i64 h, .int .i64 i, .int .i64 s] 34)
theorem Bc.lt {b : Nat} {y m d h i s : Int} {x : World} (H : Bc b y m d h i s x) : b < x.heap.size := (Array.getElem?_eq_some_iff.1 H).1
theorem Bc.kept {b : Nat} {y m d h i s : Int} {x x' : World} (H : Bc b y m d h i s x) (k : Kept x x') : Bc b y m d h i s x' := (k.block b H.lt).trans H
theorem cells6 {b : Nat} {y m d h i s : Int} {x : World} (H : Bc b y m d h i s x) : x.cell? ⟨b, 0, none⟩ = some (.int .i64 y) ∧ x.cell? ⟨b, 1, none⟩ = some (.int .i64 m) ∧ x.cell? ⟨b, 2, none⟩ = some (.int .i64 d) ∧ x.cell? ⟨b, 3, none⟩ = some (.int .i64 h) ∧ x.cell? ⟨b, 4, none⟩ = some (.int .i64 i) ∧ x.cell? ⟨b, 5, none⟩ = some (.int .i64 s) :=
  ⟨cell_of H rfl, cell_of H rfl, cell_of H rfl, cell_of H rfl, cell_of H rfl, cell_of H rfl⟩
set_option maxRecDepth 100000 in
set_option maxHeartbeats 2000000 in
theorem match_any (c : CR) (sl : Nat → Value) (y m d h i s : Int) (w : World) (hc : Cr w sl c.L) : Calls Tryz.prog 22 #[crV sl c.st, civ y m d h i s] w fun e w' => e = .returned (.bool (matchC c y m d h i s)) ∧ Kept w w' := by
  have q0 := (Kept.refl w).alloc (.cells (cr10 sl c.st) 27)
  have b0 := Cb.new sl c.st w
  have q1 := (Kept.refl (w.alloc (.cells (cr10 sl c.st) 27))).alloc (.cells #[.int .i64 y, .int .i64 m, .int .i64 d, .int .i64 h, .int .i64 i, .int .i64 s] 34)
  have d0 : Bc (w.alloc (.cells (cr10 sl c.st) 27)).heap.size y m d h i s ((w.alloc (.cells (cr10 sl c.st) 27)).alloc (.cells #[.int .i64 y, .int .i64 m, .int .i64 d, .int .i64 h, .int .i64 i, .int .i64 s] 34)) := new_block _ _
  have hsz : (w.alloc (.cells (cr10 sl c.st) 27)).heap.size = w.heap.size + 1 := by simp
  rw [hsz] at d0
  have B1 := Lib.hid (b0.kept q1)
  have C1 := Lib.hid ((hc.kept q0).kept q1)
  have K1 := Lib.hid (q0.trans q1)
  have D1 := Lib.hid d0
  clear hc q0 q1 b0 d0 hsz
  have HD := Lib.hid (show matchC c y m d h i s = (mayB y m d h i s && decide (s = 0) && hasB (c.L 0) i && hasB (c.L 1) h && dayC c y m d) from rfl)
  go_enter Tryz.func22, Tryz.ntmps22
  go_upto_region 1 with (fail)
  generalize (w.alloc (.cells (cr10 sl c.st) 27)).alloc (.cells #[.int .i64 y, .int .i64 m, .int .i64 d, .int .i64 h, .int .i64 i, .int .i64 s] 34) = x1 at *
  obtain ⟨e0, e1, e2, e3, e4, e5, e6, e7, e8, e9⟩ := cells10 B1.out
  obtain ⟨u0, u1, u2, u3, u4, u5⟩ := cells6 D1.out
  go_wp2_with fail
  refine (may_any y m d h i s _).mono ?_
  rintro e x2 ⟨rfl, k2⟩
  have B2 := Lib.hid (B1.out.kept k2); have C2 := Lib.hid (C1.out.kept k2); have K2 := Lib.hid (K1.out.trans k2); have D2 := Lib.hid (D1.out.kept k2)
  clear k2 B1 C1 K1 D1
  clear e0 e1 e2 e3 e4 e5 e6 e7 e8 e9 u0 u1 u2 u3 u4 u5
  cases h1 : mayB y m d h i s with
  | false =>
    have HR := Lib.hid (show matchC c y m d h i s = false by rw [HD.out, h1]; simp)
    clear h1
    obtain ⟨e0, e1, e2, e3, e4, e5, e6, e7, e8, e9⟩ := cells10 B2.out
    obtain ⟨u0, u1, u2, u3, u4, u5⟩ := cells6 D2.out
    go_wp2
    go_ret
    exact ⟨ret_bool HR.out.symm, K2.out⟩
  | true =>
    by_cases h2 : ¬ s = 0
    · have h2' := decide_eq_false h2
      have HR := Lib.hid (show matchC c y m d h i s = false by rw [HD.out, h2']; simp)
      clear h2' h1
      obtain ⟨e0, e1, e2, e3, e4, e5, e6, e7, e8, e9⟩ := cells10 B2.out
      obtain ⟨u0, u1, u2, u3, u4, u5⟩ := cells6 D2.out
      go_wp2
      go_ret
      exact ⟨ret_bool HR.out.symm, K2.out⟩
    have h2' := decide_eq_true (show s = 0 by omega)
    have HE := Lib.hid (show matchC c y m d h i s = (hasB (c.L 0) i && hasB (c.L 1) h && dayC c y m d) by rw [HD.out, h1, h2']; rfl)
    clear HD h1 h2'
    have HD := HE; clear HE
    obtain ⟨e0, e1, e2, e3, e4, e5, e6, e7, e8, e9⟩ := cells10 B2.out
    obtain ⟨u0, u1, u2, u3, u4, u5⟩ := cells6 D2.out
    go_wp2_with fail
    refine (chas_any sl c.st c.L 0 (by omega) i _ C2.out).mono ?_
    rintro e x3 ⟨rfl, k3⟩
    have B3 := Lib.hid (B2.out.kept k3); have C3 := Lib.hid (C2.out.kept k3); have K3 := Lib.hid (K2.out.trans k3); have D3 := Lib.hid (D2.out.kept k3)
    clear k3 B2 C2 K2 D2
    clear e0 e1 e2 e3 e4 e5 e6 e7 e8 e9 u0 u1 u2 u3 u4 u5
    cases h3 : hasB (c.L 0) i with
    | false =>
      have HR := Lib.hid (show matchC c y m d h i s = false by rw [HD.out, h3]; simp)
      clear h3
      obtain ⟨e0, e1, e2, e3, e4, e5, e6, e7, e8, e9⟩ := cells10 B3.out
      obtain ⟨u0, u1, u2, u3, u4, u5⟩ := cells6 D3.out
      go_wp2
      go_ret
      exact ⟨ret_bool HR.out.symm, K3.out⟩
    | true =>
      have HE := Lib.hid (show matchC c y m d h i s = (hasB (c.L 1) h && dayC c y m d) by rw [HD.out, h3]; rfl)
      clear HD h3
      have HD := HE; clear HE
      obtain ⟨e0, e1, e2, e3, e4, e5, e6, e7, e8, e9⟩ := cells10 B3.out
      obtain ⟨u0, u1, u2, u3, u4, u5⟩ := cells6 D3.out
      go_wp2_with fail
      refine (chas_any sl c.st c.L 1 (by omega) h _ C3.out).mono ?_
      rintro e x4 ⟨rfl, k4⟩
      have B4 := Lib.hid (B3.out.kept k4); have C4 := Lib.hid (C3.out.kept k4); have K4 := Lib.hid (K3.out.trans k4); have D4 := Lib.hid (D3.out.kept k4)
      clear k4 B3 C3 K3 D3
      clear e0 e1 e2 e3 e4 e5 e6 e7 e8 e9 u0 u1 u2 u3 u4 u5
      cases h4 : hasB (c.L 1) h with
      | false =>
        have HR := Lib.hid (show matchC c y m d h i s = false by rw [HD.out, h4]; simp)
        clear h4
        obtain ⟨e0, e1, e2, e3, e4, e5, e6, e7, e8, e9⟩ := cells10 B4.out
        obtain ⟨u0, u1, u2, u3, u4, u5⟩ := cells6 D4.out
        go_wp2
        go_ret
        exact ⟨ret_bool HR.out.symm, K4.out⟩
      | true =>
        have HE := Lib.hid (show matchC c y m d h i s = dayC c y m d by rw [HD.out, h4]; rfl)
        clear HD h4
        obtain ⟨e0, e1, e2, e3, e4, e5, e6, e7, e8, e9⟩ := cells10 B4.out
        obtain ⟨u0, u1, u2, u3, u4, u5⟩ := cells6 D4.out
        go_wp2_with fail
        refine (day_any c sl y m d _ C4.out).mono ?_
        rintro e x5 ⟨rfl, k5⟩
        have B5 := Lib.hid (B4.out.kept k5); have C5 := Lib.hid (C4.out.kept k5); have K5 := Lib.hid (K4.out.trans k5); have D5 := Lib.hid (D4.out.kept k5)
        clear k5 B4 C4 K4 D4
        clear e0 e1 e2 e3 e4 e5 e6 e7 e8 e9 u0 u1 u2 u3 u4 u5
        generalize dayC c y m d = b at *
        obtain ⟨e0, e1, e2, e3, e4, e5, e6, e7, e8, e9⟩ := cells10 B5.out
        obtain ⟨u0, u1, u2, u3, u4, u5⟩ := cells6 D5.out
        go_wp2
        go_ret
        exact ⟨ret_bool HE.out.symm, K5.out⟩
end Go.Proofs.YtcmdjpgabkjbpaaGreatDoor
