/- Contracts of package local: which years, rules and seconds; the first day of a month; a rule's day. -/
import Derived.Test.YtcgmefojokndhaaLcPure
import Derived.Test.YtcgmefojokndhaaBsZn
import Derived.Test.YtcgmefojokndhaaBsSt
namespace Go.Proofs.Ytcgmefojokndhaa
open Go.ChangeShapes Go.WideShapes Go.ChangeAt Go.RowKit
open Civ Zn Lc
def yrB (y : Int) : Bool := decide (1960 ≤ y ∧ y ≤ 10010)
def scB (t : Int) : Bool := decide (0 ≤ t ∧ t ≤ 253402300799)
theorem isYear_any (y : Int) (w : World) :
    Calls Try.prog 31 #[.int .i64 y] w fun e w' => e = .returned (.bool (yrB y)) ∧ w = w' := by
  go_enter Try.func31, Try.ntmps31
  go_wp2
  all_goals (go_ret; refine ⟨ret_bool ?_, rfl⟩; first | (simp [yrB, *]; done) | (simp [yrB, *]; intros; omega))
theorem isSecond_any (t : Int) (w : World) :
    Calls Try.prog 41 #[.int .i64 t] w fun e w' => e = .returned (.bool (scB t)) ∧ w = w' := by
  go_enter Try.func41, Try.ntmps41
  go_wp2
  all_goals (go_ret; refine ⟨ret_bool ?_, rfl⟩; first | (simp [scB, *]; done) | (simp [scB, *]; intros; omega))
/-- a rule in a block of its own -/
def Br (b : Nat) (r : Ru) (x : World) : Prop := x.heap[b]? = some (.cells #[.int .i64 r.k, .int .i64 r.m, .int .i64 r.w, .int .i64 r.d, .int .i64 r.a] 23)
theorem Br.lt {b : Nat} {r : Ru} {x : World} (h : Br b r x) : b < x.heap.size := (Array.getElem?_eq_some_iff.1 h).1
theorem Br.kept {b : Nat} {r : Ru} {x x' : World} (h : Br b r x) (k : Kept x x') : Br b r x' := (k.block b h.lt).trans h
theorem Br.c0 {b : Nat} {r : Ru} {x : World} (h : Br b r x) : x.cell? ⟨b, 0, none⟩ = some (.int .i64 r.k) := by unfold Br at h; simp [World.cell?, h]
theorem Br.c1 {b : Nat} {r : Ru} {x : World} (h : Br b r x) : x.cell? ⟨b, 1, none⟩ = some (.int .i64 r.m) := by unfold Br at h; simp [World.cell?, h]
theorem Br.c2 {b : Nat} {r : Ru} {x : World} (h : Br b r x) : x.cell? ⟨b, 2, none⟩ = some (.int .i64 r.w) := by unfold Br at h; simp [World.cell?, h]
theorem Br.c3 {b : Nat} {r : Ru} {x : World} (h : Br b r x) : x.cell? ⟨b, 3, none⟩ = some (.int .i64 r.d) := by unfold Br at h; simp [World.cell?, h]
theorem Br.c4 {b : Nat} {r : Ru} {x : World} (h : Br b r x) : x.cell? ⟨b, 4, none⟩ = some (.int .i64 r.a) := by unfold Br at h; simp [World.cell?, h]
theorem br_new (w : World) (r : Ru) : Br w.heap.size r (w.alloc (.cells #[.int .i64 r.k, .int .i64 r.m, .int .i64 r.w, .int .i64 r.d, .int .i64 r.a] 23)) := by
  show (w.heap.push _)[w.heap.size]? = _
  simp
theorem may_of_rule (r : Ru) : mayZ ⟨[83, 84, 68], 0, true, [68, 83, 84], 0, r, ⟨1, 0, 0, 0, 0⟩⟩ = mayR r := by
  have h1 : mayN [83, 84, 68] = true := by decide
  have h2 : mayN [68, 83, 84] = true := by decide
  have h3 : mayR ⟨1, 0, 0, 0, 0⟩ = true := by decide
  unfold mayZ
  simp only [h1, h2, h3]
  simp [offB]
set_option maxRecDepth 100000 in
set_option maxHeartbeats 1000000 in
theorem lRule_any (r : Ru) (w : World) :
    Calls Try.prog 32 #[ruV r] w fun e w' => e = .returned (.bool (mayR r)) ∧ Kept w w' := by
  have b0 := br_new w r
  have kw := (Kept.refl w).alloc (.cells #[.int .i64 r.k, .int .i64 r.m, .int .i64 r.w, .int .i64 r.d, .int .i64 r.a] 23)
  have HM := Lib.hid (may_of_rule r)
  go_enter Try.func32, Try.ntmps32
  go_upto_region 1 with (fail)
  generalize w.alloc (.cells #[.int .i64 r.k, .int .i64 r.m, .int .i64 r.w, .int .i64 r.d, .int .i64 r.a] 23) = x at *
  have B := Lib.hid b0; have K := Lib.hid kw; clear b0 kw
  have c0 := B.out.c0
  have c1 := B.out.c1
  have c2 := B.out.c2
  have c3 := B.out.c3
  have c4 := B.out.c4
  go_wp2_with fail
  refine (zMay_any ⟨[83, 84, 68], 0, true, [68, 83, 84], 0, r, ⟨1, 0, 0, 0, 0⟩⟩ _).mono ?_
  rintro e w1 ⟨rfl, k1⟩
  rw [HM.out]
  go_wp2
  go_ret
  exact ⟨rfl, K.out.trans k1⟩
end Go.Proofs.Ytcgmefojokndhaa
