/- Contracts of package stamp: the deferred function of a reading. -/
import Derived.Test.YtlmjopembcifiaaDoorStAhead
import Derived.Recover
import Derived.RegionTactic
import Derived.ChangeAlike
namespace Go.Proofs.YtlmjopembcifiaaDoor
open Go.ChangeShapes Go.WideShapes Go.ChangeAt Go.RowKit
open Civ
theorem ta_nil (w : World) : (Instr.typeAssert .nilIface 20 74 true).run Tryd.prog w = .ok (.tuple #[.agg #[.int .i64 0], .bool false]) w := by kernel_rfl
theorem ta_hit (v : Value) (w : World) : (Instr.typeAssert (.iface 74 v) 20 74 true).run Tryd.prog w = .ok (.tuple #[v, .bool true]) w := by kernel_rfl
/-- below a block's number all is as it was -/
structure KeptTo (n : Nat) (w w' : World) : Prop where
  os : w'.os = w.os
  output : w'.output = w.output
  size : w.heap.size ≤ w'.heap.size
  block : ∀ k, k < n → w'.heap[k]? = w.heap[k]?
theorem KeptTo.refl (n : Nat) (w : World) : KeptTo n w w := ⟨rfl, rfl, Nat.le_refl _, fun _ _ => rfl⟩
theorem KeptTo.trans {n : Nat} {a b c : World} (h : KeptTo n a b) (k : KeptTo n b c) : KeptTo n a c :=
  ⟨k.os.trans h.os, k.output.trans h.output, Nat.le_trans h.size k.size, fun i hi => (k.block i hi).trans (h.block i hi)⟩
theorem KeptTo.of_only {n bk : Nat} {w w' : World} (h : Only bk w w') (hn : n ≤ bk) (hw : n ≤ w.heap.size) : KeptTo n w w' := ⟨h.os, h.output, h.size, fun k hk => h.block k (by omega) (by omega)⟩
theorem KeptTo.drew {n : Nat} {w w' : World} (h : KeptTo n w w') : KeptTo n w w'.drew := ⟨h.os, h.output, h.size, h.block⟩
theorem KeptTo.alloc {n : Nat} {w w' : World} (h : KeptTo n w w') (hn : n ≤ w'.heap.size) (o : Obj) : KeptTo n w (w'.alloc o) :=
  h.trans ⟨rfl, rfl, by simp, fun k hk => Below.heap_alloc _ _ _ (by omega)⟩
theorem KeptTo.set {n : Nat} {w w' : World} (h : KeptTo n w w') {a : Addr} (ha : n ≤ a.block) (v : Value) : KeptTo n w (w'.setCell a v) :=
  ⟨h.os, h.output, by simpa [World.setCell] using h.size, fun k hk => (Below.heap_setCell _ _ _ _ (by omega)).trans (h.block k hk)⟩
set_option maxRecDepth 100000 in
theorem catch_idle (p q r : Addr) (w : World) :
    CallsD Tryd.prog 55 #[.pointer (some p), .pointer (some q), .pointer (some r)] .returning w fun e u' w' => e = .returned (.tuple #[]) ∧ u' = .returning ∧ Kept w w' := by
  refine callsD_of_wpS Tryd.func55 rfl fun c₀ cs hu => ?_
  rw [show (#[Value.pointer (some p), .pointer (some q), .pointer (some r)] ++ Array.replicate (Tryd.f55.ntmps - #[Value.pointer (some p), .pointer (some q), .pointer (some r)].size) undef) = #[Value.pointer (some p), .pointer (some q), .pointer (some r), undef, undef, undef, undef, undef, undef, undef, undef, undef, undef, undef] from rfl]
  apply wpS_seq
  apply wpS_region
  simp [wpOpsS, go_sem, recoverD, hu, Exit.thenS, ta_nil]
  refine wpS_of_wp ?_
  go_wp2
  cases c₀
  simp_all [bodyPostS, results, Tryd.results55]
  exact (Kept.refl w).alloc _
def CatchPost (n : Nat) (w : World) (w' : World) : Prop :=
  KeptTo n w w' ∧ (∀ j, j < 6 → w'.cell? ⟨n, j, none⟩ = some (.int .i64 0)) ∧ w'.cell? ⟨n + 1, 0, none⟩ = some (.int .i64 0) ∧ w'.cell? ⟨n + 2, 0, none⟩ = some (.int .i64 2)
set_option maxRecDepth 100000 in
set_option maxHeartbeats 1000000 in
theorem catch_panicking (n : Nat) (y m d h i s b c : Int) (w : World) (hn : n + 2 < w.heap.size)
    (c0 : w.cell? ⟨n, 0, none⟩ = some (.int .i64 y)) (c1 : w.cell? ⟨n, 1, none⟩ = some (.int .i64 m)) (c2 : w.cell? ⟨n, 2, none⟩ = some (.int .i64 d))
    (c3 : w.cell? ⟨n, 3, none⟩ = some (.int .i64 h)) (c4 : w.cell? ⟨n, 4, none⟩ = some (.int .i64 i)) (c5 : w.cell? ⟨n, 5, none⟩ = some (.int .i64 s))
    (c6 : w.cell? ⟨n + 1, 0, none⟩ = some (.int .i64 b)) (c7 : w.cell? ⟨n + 2, 0, none⟩ = some (.int .i64 c))
    (f0 : ∀ j, w.frozen? ⟨n, j, none⟩ = false) (f1 : w.frozen? ⟨n + 1, 0, none⟩ = false) (f2 : w.frozen? ⟨n + 2, 0, none⟩ = false) :
    CallsD Tryd.prog 55 #[.pointer (some ⟨n, 0, none⟩), .pointer (some ⟨n + 1, 0, none⟩), .pointer (some ⟨n + 2, 0, none⟩)] (.panicking [{ v := faultV, recovered := false }]) w fun e u' w' => e = .returned (.tuple #[]) ∧ u' = .panicking [{ v := faultV, recovered := true }] ∧ CatchPost n w w' := by
  refine callsD_of_wpS Tryd.func55 rfl fun c₀ cs hu => ?_
  rw [show (#[Value.pointer (some ⟨n, 0, none⟩), .pointer (some ⟨n + 1, 0, none⟩), .pointer (some ⟨n + 2, 0, none⟩)] ++ Array.replicate (Tryd.f55.ntmps - #[Value.pointer (some ⟨n, 0, none⟩), .pointer (some ⟨n + 1, 0, none⟩), .pointer (some ⟨n + 2, 0, none⟩)].size) undef) = #[Value.pointer (some ⟨n, 0, none⟩), .pointer (some ⟨n + 1, 0, none⟩), .pointer (some ⟨n + 2, 0, none⟩), undef, undef, undef, undef, undef, undef, undef, undef, undef, undef, undef] from rfl]
  apply wpS_seq
  apply wpS_region
  simp [wpOpsS, go_sem, recoverD, hu, Exit.thenS, ta_hit]
  refine wpS_of_wp ?_
  have g := (Kept.refl w).alloc (.cells #[Value.int IntKind.i64 2] 74)
  have e0 := (Kept.refl (w.alloc (.cells #[Value.int IntKind.i64 2] 74))).new 0 rfl
  have hz : n ≤ (w.alloc (.cells #[Value.int IntKind.i64 2] 74)).heap.size := by simp; omega
  have kt := (KeptTo.refl n w).alloc (by omega) (.cells #[Value.int IntKind.i64 2] 74)
  have d0 := (g.cell (a := ⟨n, 0, none⟩) (by show n < _; omega)).trans c0
  have d1 := (g.cell (a := ⟨n, 1, none⟩) (by show n < _; omega)).trans c1
  have d2 := (g.cell (a := ⟨n, 2, none⟩) (by show n < _; omega)).trans c2
  have d3 := (g.cell (a := ⟨n, 3, none⟩) (by show n < _; omega)).trans c3
  have d4 := (g.cell (a := ⟨n, 4, none⟩) (by show n < _; omega)).trans c4
  have d5 := (g.cell (a := ⟨n, 5, none⟩) (by show n < _; omega)).trans c5
  have d6 := (g.cell (a := ⟨n + 1, 0, none⟩) (by show n + 1 < _; omega)).trans c6
  have d7 := (g.cell (a := ⟨n + 2, 0, none⟩) (by show n + 2 < _; omega)).trans c7
  have g0 : ∀ j, (w.alloc (.cells #[Value.int IntKind.i64 2] 74)).frozen? ⟨n, j, none⟩ = false := fun j => (g.frozen (a := ⟨n, j, none⟩) (by show n < _; omega)).trans (f0 j)
  have g1 := (g.frozen (a := ⟨n + 1, 0, none⟩) (by show n + 1 < _; omega)).trans f1
  have g2 := (g.frozen (a := ⟨n + 2, 0, none⟩) (by show n + 2 < _; omega)).trans f2
  have ne0 : ¬ n = w.heap.size := by omega
  have ne1 : ¬ n + 1 = w.heap.size := by omega
  have ne2 : ¬ n + 2 = w.heap.size := by omega
  have ne0' : ¬ w.heap.size = n := by omega
  have ne1' : ¬ w.heap.size = n + 1 := by omega
  have ne2' : ¬ w.heap.size = n + 2 := by omega
  clear c0 c1 c2 c3 c4 c5 c6 c7 f0 f1 f2 g
  generalize w.alloc (.cells #[Value.int IntKind.i64 2] 74) = W at *
  go_wp2
  go_region
  refine ⟨rfl, _, rfl, .tuple #[], by simp [results, Tryd.results55], rfl, rfl, ?_, ?_, ?_, ?_⟩
  · exact ((((((((kt.set (Nat.le_refl _) _).set (Nat.le_refl _) _).set (Nat.le_refl _) _).set (Nat.le_refl _) _).set (Nat.le_refl _) _).set (Nat.le_refl _) _).set (a := ⟨n + 1, 0, none⟩) (Nat.le_succ _) _).set (a := ⟨n + 2, 0, none⟩) (by show n ≤ n + 2; omega) _).drew
  · intro j hj
    have : j = 0 ∨ j = 1 ∨ j = 2 ∨ j = 3 ∨ j = 4 ∨ j = 5 := by omega
    rcases this with rfl | rfl | rfl | rfl | rfl | rfl <;> simp [go_sem, *]
  · simp [go_sem, *]
  · simp [go_sem, *]
end Go.Proofs.YtlmjopembcifiaaDoor
