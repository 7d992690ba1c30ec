/- Contracts of package cron: the deferred function of a reading. -/
import Derived.Test.YtilgamjahediiaaGreatDoorCrF
import Derived.Recover
import Derived.RegionTactic
import Derived.ChangeAlike
import Derived.Deep.RegionHeld3
import Derived.Test.YtilgamjahediiaaGreatDoorBsZn
set_option linter.unusedVariables false
namespace Go.Proofs.YtilgamjahediiaaGreatDoor
open Go.ChangeShapes Go.WideShapes Go.ChangeAt Go.RowKit
open Crn
theorem ta_nil (w : World) : (Instr.typeAssert .nilIface 20 112 true).run Tryz.prog w = .ok (.tuple #[.agg #[.int .i64 0], .bool false]) w := by kernel_rfl
theorem ta_hit (v : Value) (w : World) : (Instr.typeAssert (.iface 112 v) 20 112 true).run Tryz.prog w = .ok (.tuple #[v, .bool true]) w := by kernel_rfl
/-- a schedule, as a value: five slices, and five marks -/
abbrev cr10 (sl : Nat → Value) (st : Nat → Bool) : Array Value := #[sl 0, sl 1, sl 2, sl 3, sl 4, .bool (st 0), .bool (st 1), .bool (st 2), .bool (st 3), .bool (st 4)]
abbrev crV (sl : Nat → Value) (st : Nat → Bool) : Value := .agg (cr10 sl st)
abbrev z10 : Array Value := #[.slice none 0 0, .slice none 0 0, .slice none 0 0, .slice none 0 0, .slice none 0 0, .bool false, .bool false, .bool false, .bool false, .bool false]
/-- all but one block is as it was -/
structure Bar (bk : Nat) (w w' : World) : Prop where
  os : w'.os = w.os
  output : w'.output = w.output
  tape : w'.tape = w.tape
  size : w.heap.size ≤ w'.heap.size
  block : ∀ k, k < w.heap.size → k ≠ bk → w'.heap[k]? = w.heap[k]?
theorem Bar.refl (bk : Nat) (w : World) : Bar bk w w := ⟨rfl, rfl, rfl, Nat.le_refl _, fun _ _ _ => rfl⟩
theorem Bar.trans {bk : Nat} {a b c : World} (h : Bar bk a b) (k : Bar bk b c) : Bar bk a c :=
  ⟨k.os.trans h.os, k.output.trans h.output, k.tape.trans h.tape, Nat.le_trans h.size k.size, fun i hi hn => (k.block i (Nat.lt_of_lt_of_le hi h.size) hn).trans (h.block i hi hn)⟩
theorem Bar.of {bk : Nat} {w w' : World} (h : Kept w w') : Bar bk w w' := ⟨h.os, h.output, h.tape, h.size, fun k hk _ => h.block k hk⟩
theorem Bar.set {w w' : World} {bk : Nat} (h : Bar bk w w') (j : Nat) (v : Value) : Bar bk w (w'.setCell ⟨bk, j, none⟩ v) :=
  ⟨h.os, h.output, h.tape, by simpa [World.setCell] using h.size, fun k hk hn => (Below.heap_setCell _ _ _ _ hn).trans (h.block k hk hn)⟩
theorem Ss.bar {g bk : Nat} {ps : List (List UInt8)} {x x' : World} (h : Ss g ps x) (k : Bar bk x x') (hn : g ≠ bk) : Ss g ps x' := (k.block g h.lt hn).trans h
theorem KOut.bar {B bk : Nat} {v : Value} {l : List Int} {x x' : World} (h : KOut B v l x) (k : Bar bk x x') (hb : bk < B) : KOut B v l x' := by
  refine ⟨h.1, h.2.imp id ?_⟩
  rintro ⟨g, cap, cur, h1, h2, h3, h4⟩
  exact ⟨g, cap, cur, h1, h2, (k.block g (Array.getElem?_eq_some_iff.1 h3).1 (by omega)).trans h3, h4⟩
theorem Tb.bar {n bk : Nat} {w w' : World} (h : Tb n w) (hb : n ≤ bk) (o : Bar bk w w') : Tb n w' := by
  obtain ⟨w0, h0, hn, hB⟩ := h
  exact ⟨w0, h0, hn, below_trans hB hB.size (fun i hi => o.block i (Nat.lt_of_lt_of_le hi hB.size) (by omega)) o.os o.output o.tape o.size⟩
theorem fro_of {x : World} {n : Nat} {cs : Array Value} {t : TypeId} (h : x.heap[n]? = some (.cells cs t)) (j : Nat) : x.frozen? ⟨n, j, none⟩ = false := by
  simp [World.frozen?, h]
theorem block_set {x : World} {n j : Nat} {cs : Array Value} {t : TypeId} (h : x.heap[n]? = some (.cells cs t)) (v : Value) : (x.setCell ⟨n, j, none⟩ v).heap[n]? = some (.cells (cs.setIfInBounds j v) t) := by
  simp [World.setCell, Array.getElem?_modify, h]
/-- within a reading: the two results' blocks -/
structure Rd (w : World) (cs : Array Value) (e : Int) (x : World) : Prop where
  k : Kept w x
  b0 : x.heap[w.heap.size]? = some (.cells cs 30)
  b1 : x.heap[w.heap.size + 1]? = some (.cells #[.int .i64 e] 42)
theorem Rd.lt {w : World} {cs : Array Value} {e : Int} {x : World} (h : Rd w cs e x) : w.heap.size + 1 < x.heap.size := (Array.getElem?_eq_some_iff.1 h.b1).1
theorem Rd.kept {w x x' : World} {cs : Array Value} {e : Int} (h : Rd w cs e x) (k : Kept x x') : Rd w cs e x' :=
  ⟨h.k.trans k, (k.block _ (by have := h.lt; omega)).trans h.b0, (k.block _ h.lt).trans h.b1⟩
theorem Rd.putc {w x : World} {cs : Array Value} {e : Int} (h : Rd w cs e x) (j : Nat) (v : Value) : Rd w (cs.setIfInBounds j v) e (x.setCell ⟨w.heap.size, j, none⟩ v) :=
  ⟨h.k.setCell (Nat.le_refl _) _, block_set h.b0 v, (Below.heap_setCell _ _ _ _ (show w.heap.size + 1 ≠ w.heap.size by omega)).trans h.b1⟩
theorem Rd.pute {w x : World} {cs : Array Value} {e : Int} (h : Rd w cs e x) (e' : Int) : Rd w cs e' (x.setCell ⟨w.heap.size + 1, 0, none⟩ (.int .i64 e')) :=
  ⟨h.k.setCell (a := ⟨w.heap.size + 1, 0, none⟩) (Nat.le_succ _) _, (Below.heap_setCell _ _ _ _ (show w.heap.size ≠ w.heap.size + 1 by omega)).trans h.b0, block_set h.b1 _⟩
theorem arr10 (cs : Array Value) (h : cs.size = 10) : ∃ a0 a1 a2 a3 a4 a5 a6 a7 a8 a9, cs = #[a0, a1, a2, a3, a4, a5, a6, a7, a8, a9] := by
  obtain ⟨l⟩ := cs
  match l, h with
  | [a0, a1, a2, a3, a4, a5, a6, a7, a8, a9], _ => exact ⟨a0, a1, a2, a3, a4, a5, a6, a7, a8, a9, rfl⟩
theorem Rd.drew {w x : World} {cs : Array Value} {e : Int} (h : Rd w cs e x) : Rd w cs e x.drew := ⟨h.k.drew, h.b0, h.b1⟩
theorem Rd.setRow {w x : World} {cs : Array Value} {e : Int} (h : Rd w cs e x) (cs' : Array Value) : Rd w cs' e (x.setRow w.heap.size cs') :=
  ⟨h.k.setRow (Nat.le_refl _) _, setRow_heap _ _ _ _ _ _ h.b0, (setRow_other _ _ _ _ (by omega)).trans h.b1⟩
set_option maxRecDepth 100000 in
theorem catch_idle (p q : Addr) (w : World) :
    CallsD Tryz.prog 109 #[.pointer (some p), .pointer (some q)] .returning w fun e u' w' => e = .returned (.tuple #[]) ∧ u' = .returning ∧ Kept w w' := by
  refine callsD_of_wpS Tryz.func109 rfl fun c₀ cs hu => ?_
  rw [show (#[Value.pointer (some p), .pointer (some q)] ++ Array.replicate (Tryz.f109.ntmps - #[Value.pointer (some p), .pointer (some q)].size) undef) = #[Value.pointer (some p), .pointer (some q), undef, undef, undef, undef, undef, undef, undef, undef, undef, undef, undef] from rfl]
  apply wpS_seq
  apply wpS_region
  simp [wpOpsS, go_sem, recoverD, hu, Exit.thenS, ta_nil]
  refine wpS_of_wp ?_
  go_wp2
  cases c₀
  simp_all [bodyPostS, results, Tryz.results109]
  exact (Kept.refl w).alloc _
set_option maxRecDepth 100000 in
set_option maxHeartbeats 1000000 in
theorem catch_panicking (w x : World) (cs0 : Array Value) (h10 : cs0.size = 10) (R : Rd w cs0 0 x) :
    CallsD Tryz.prog 109 #[.pointer (some ⟨w.heap.size, 0, none⟩), .pointer (some ⟨w.heap.size + 1, 0, none⟩)] (.panicking [{ v := faultV, recovered := false }]) x fun e u' w' => e = .returned (.tuple #[]) ∧ u' = .panicking [{ v := faultV, recovered := true }] ∧ Rd w z10 2 w' := by
  refine callsD_of_wpS Tryz.func109 rfl fun c₀ cs hu => ?_
  rw [show (#[Value.pointer (some ⟨w.heap.size, 0, none⟩), .pointer (some ⟨w.heap.size + 1, 0, none⟩)] ++ Array.replicate (Tryz.f109.ntmps - #[Value.pointer (some ⟨w.heap.size, 0, none⟩), .pointer (some ⟨w.heap.size + 1, 0, none⟩)].size) undef) = #[Value.pointer (some ⟨w.heap.size, 0, none⟩), .pointer (some ⟨w.heap.size + 1, 0, none⟩), undef, undef, undef, undef, undef, undef, undef, undef, undef, undef, undef] from rfl]
  apply wpS_seq
  apply wpS_region
  simp [wpOpsS, go_sem, recoverD, hu, Exit.thenS, ta_hit]
  refine wpS_of_wp ?_
  have R1 := Lib.hid (R.kept ((Kept.refl x).alloc (.cells #[Value.int IntKind.i64 2] 112)))
  have d0 := new_cell x #[Value.int IntKind.i64 2] 112 0 _ rfl
  have hn := R.lt
  clear R
  generalize hX : x.alloc (.cells #[Value.int IntKind.i64 2] 112) = X at *
  have hne : x.heap.size ≠ w.heap.size := by omega
  have hne' : x.heap.size ≠ w.heap.size + 1 := by omega
  clear hX
  go_wp2_with fail
  refine wp_region_held_drew (S := fun y => y.cell? ⟨x.heap.size, 0, none⟩ = some (.int .i64 2)) (by kernel_rfl) d0 (fun hS0 => ?_)
  refine wpAnyH_take (i := 0) (oi := { dst := some 10, op := Go.Op.build 30 #[], type := 30, pos := "reader.go:24", after := #[], guard := none }) (v := ?va0) rfl (by kernel_rfl) (by kernel_rfl) (by kernel_rfl) (fun _ _ _ h => h) (Or.inl ⟨by rfl, ?ya0⟩) (by assumption) ?ra0
  case ya0 => (intro wq hSw; (try dsimp only at hSw); go_simp; try with_reducible rfl)
  simp only [Act.put, List.setIfInBounds_toArray, List.set_cons_zero, List.set_cons_succ]
  refine wpAnyH_take (i := 1) (oi := { dst := some 11, op := Go.Op.fieldAddr 112 (Go.Operand.tmp 2) 0, type := 0, pos := "reader.go:24", after := #[{ on := 3, ground := Go.Ground.gcOnly Go.Departure.lateStores }], guard := none }) (v := ?va1) rfl (by kernel_rfl) (by kernel_rfl) (by kernel_rfl) (fun _ _ _ h => h) (Or.inl ⟨by rfl, ?ya1⟩) (by assumption) ?ra1
  case ya1 => (intro wq hSw; (try dsimp only at hSw); go_simp; try with_reducible rfl)
  simp only [Act.put, List.setIfInBounds_toArray, List.set_cons_zero, List.set_cons_succ]
  refine wpAnyH_take (i := 2) (oi := { dst := some 12, op := Go.Op.load 42 (Go.Operand.tmp 11), type := 42, pos := "reader.go:24", after := #[{ on := 1, ground := Go.Ground.data }, { on := 3, ground := Go.Ground.gcOnly Go.Departure.lateStores }], guard := none }) (v := ?va2) rfl (by kernel_rfl) (by kernel_rfl) (by kernel_rfl) (fun _ _ _ h => h) (Or.inl ⟨by rfl, ?ya2⟩) (by assumption) ?ra2
  case ya2 => (intro wq hSw; (try dsimp only at hSw); go_simp; try with_reducible rfl)
  simp only [Act.put, List.setIfInBounds_toArray, List.set_cons_zero, List.set_cons_succ]
  refine wpAnyH_ready (rs := [3]) (by kernel_rfl) (by simp) (AllReadyH.cons (o := { dst := none, op := Go.Op.store 30 (Go.Operand.tmp 0) (Go.Operand.tmp 10), type := 0, pos := "reader.go:24", after := #[{ on := 0, ground := Go.Ground.data }, { on := 0, ground := Go.Ground.phase }, { on := 1, ground := Go.Ground.textOnly Go.Departure.lateStores }, { on := 2, ground := Go.Ground.textOnly Go.Departure.lateStores }], guard := none }) rfl (fun K hK => ?_) AllReadyH.nil)
  rw [if_pos (by rfl)]
  refine wp_store_row 30 _ _ rfl w.heap.size z10 rfl rfl 30 cs0 R1.out.b0 (by kernel_rfl) h10 (by simp [Value.oneCell']) ?_
  have R2 := Lib.hid (R1.out.drew.setRow z10)
  have d2 : (X.drew.setRow w.heap.size z10).cell? ⟨x.heap.size, 0, none⟩ = some (.int .i64 2) := (cell_setRow_other _ _ _ _ hne).trans d0
  generalize X.drew.setRow w.heap.size z10 = Y at *
  refine Shut.out hK _ _ d2 (fun hSb => ?_)
  clear hK K
  try simp only [Act.put]
  have e1 := cell_of (j := 0) R2.out.b1 rfl
  have g1 := fro_of R2.out.b1 0
  have R3 := Lib.hid (R2.out.pute 2)
  have d3 : (Y.setCell ⟨w.heap.size + 1, 0, none⟩ (.int .i64 2)).cell? ⟨x.heap.size, 0, none⟩ = some (.int .i64 2) := by
    have := R3.out; unfold World.cell?; rw [Below.heap_setCell _ _ _ _ hne']; exact d2
  refine wpAnyH_ready (rs := [4]) (by kernel_rfl) (by simp) (AllReadyH.cons (o := { dst := none, op := Go.Op.store 42 (Go.Operand.tmp 1) (Go.Operand.tmp 12), type := 0, pos := "reader.go:24", after := #[{ on := 2, ground := Go.Ground.data }, { on := 3, ground := Go.Ground.chain }, { on := 0, ground := Go.Ground.phase }, { on := 1, ground := Go.Ground.phase }, { on := 2, ground := Go.Ground.phase }, { on := 3, ground := Go.Ground.phase }], guard := none }) rfl (fun K hK => ?_) AllReadyH.nil)
  go_simp
  refine Shut.out hK _ _ d3 (fun hSb => ?_)
  clear hK K
  try simp only [Act.put, List.setIfInBounds_toArray, List.set_cons_zero, List.set_cons_succ]
  refine wpAnyH_done (by kernel_rfl) ?_ _
  refine ⟨rfl, _, rfl, .tuple #[], by simp [results, Tryz.results109], rfl, rfl, ?_⟩
  exact R3.out
end Go.Proofs.YtilgamjahediiaaGreatDoor
