/- Package xml: a whole document is read; Tokens. -/
import Derived.Test.YtflhmgnhjnaiiaaGreatDoorXpH
import Derived.Recover
import Derived.RegionTactic
import Derived.ChangeAlike
import Derived.Deep.RegionHeld3
set_option linter.unusedSimpArgs false
set_option linter.unusedVariables false
namespace Go.Proofs.YtflhmgnhjnaiiaaGreatDoor
open Go.ChangeShapes Go.WideShapes Go.ChangeAt Go.RowKit
open En Xm
theorem ta_nil (w : World) : (Instr.typeAssert .nilIface 20 75 true).run Tryz.prog w = .ok (.tuple #[.agg #[.int .i64 0], .bool false]) w := by kernel_rfl
theorem ta_hit (v : Value) (w : World) : (Instr.typeAssert (.iface 75 v) 20 75 true).run Tryz.prog w = .ok (.tuple #[v, .bool true]) w := by kernel_rfl
/-- within a reading: the two results' blocks -/
structure Rz (w : World) (v : Value) (e : Int) (x : World) : Prop where
  k : Kept w x
  b0 : x.heap[w.heap.size]? = some (.cells #[v] 44 (0, 0))
  b1 : x.heap[w.heap.size + 1]? = some (.cells #[iV e] 27 (0, 0))
theorem Rz.lt {w : World} {v : Value} {e : Int} {x : World} (h : Rz w v e x) : w.heap.size + 1 < x.heap.size := (Array.getElem?_eq_some_iff.1 h.b1).1
theorem Rz.kept {w x x' : World} {v : Value} {e : Int} (h : Rz w v e x) (k : Kept x x') : Rz w v e x' :=
  ⟨h.k.trans k, (k.block _ (by have := h.lt; omega)).trans h.b0, (k.block _ h.lt).trans h.b1⟩
theorem Rz.putv {w x : World} {v : Value} {e : Int} (h : Rz w v e x) (v' : Value) : Rz w v' e (x.setCell ⟨w.heap.size, 0, none⟩ v') := by
  refine ⟨h.k.setCell (Nat.le_refl _) _, ?_, (Below.heap_setCell _ _ _ _ (show w.heap.size + 1 ≠ w.heap.size by omega)).trans h.b1⟩
  have := h.b0
  simp [World.setCell, Array.getElem?_modify, this]
theorem Rz.pute {w x : World} {v : Value} {e : Int} (h : Rz w v e x) (e' : Int) : Rz w v e' (x.setCell ⟨w.heap.size + 1, 0, none⟩ (iV e')) := by
  refine ⟨h.k.setCell (a := ⟨w.heap.size + 1, 0, none⟩) (Nat.le_succ _) _, (Below.heap_setCell _ _ _ _ (show w.heap.size ≠ w.heap.size + 1 by omega)).trans h.b0, ?_⟩
  have := h.b1
  simp [World.setCell, Array.getElem?_modify, this]
theorem Rz.drew {w x : World} {v : Value} {e : Int} (h : Rz w v e x) : Rz w v e x.drew := h.kept (Kept.refl x).drew
theorem Rz.c0 {w x : World} {v : Value} {e : Int} (h : Rz w v e x) : x.cell? ⟨w.heap.size, 0, none⟩ = some v := by
  have := h.b0
  simp [World.cell?, this]
theorem Rz.c1 {w x : World} {v : Value} {e : Int} (h : Rz w v e x) : x.cell? ⟨w.heap.size + 1, 0, none⟩ = some (iV e) := by
  have := h.b1
  simp [World.cell?, this]
theorem Rz.f0 {w x : World} {v : Value} {e : Int} (h : Rz w v e x) : x.frozen? ⟨w.heap.size, 0, none⟩ = false := Lib.frozen_of_heap h.b0 0
theorem Rz.f1 {w x : World} {v : Value} {e : Int} (h : Rz w v e x) : x.frozen? ⟨w.heap.size + 1, 0, none⟩ = false := Lib.frozen_of_heap h.b1 0
theorem new_cell1 (x : World) (v : Value) (t : TypeId) : (x.alloc (.cells #[v] t)).cell? ⟨x.heap.size, 0, none⟩ = some v := by
  have h : (x.alloc (.cells #[v] t)).heap[x.heap.size]? = some (.cells #[v] t (0, 0)) := by
    show (x.heap.push _)[x.heap.size]? = _
    simp
  unfold World.cell?
  rw [h]
  rfl
set_option maxRecDepth 100000 in
theorem catch_idle (p q : Addr) (w : World) :
    CallsD Tryz.prog 30 #[.pointer (some p), .pointer (some q)] .returning w fun e u' w' => e = .returned (.tuple #[]) ∧ u' = .returning ∧ Kept w w' := by
  refine callsD_of_wpS Tryz.func30 rfl fun c₀ cs hu => ?_
  rw [show (#[Value.pointer (some p), .pointer (some q)] ++ Array.replicate (Tryz.f30.ntmps - #[Value.pointer (some p), .pointer (some q)].size) undef) = #[Value.pointer (some p), .pointer (some q), undef, undef, undef, undef, undef, undef, undef, undef, undef, undef] from rfl]
  apply wpS_seq
  apply wpS_region
  simp [wpOpsS, go_sem, recoverD, hu, Exit.thenS, ta_nil]
  refine wpS_of_wp ?_
  go_wp2
  cases c₀
  simp_all [bodyPostS, results, Tryz.results30]
  exact (Kept.refl w).alloc _
set_option maxRecDepth 100000 in
set_option maxHeartbeats 1000000 in
theorem catch_panicking (n : Int) (w x : World) (v0 : Value) (R : Rz w v0 0 x) :
    CallsD Tryz.prog 30 #[.pointer (some ⟨w.heap.size, 0, none⟩), .pointer (some ⟨w.heap.size + 1, 0, none⟩)] (.panicking [{ v := faultV n, recovered := false }]) x fun e u' w' => e = .returned (.tuple #[]) ∧ u' = .panicking [{ v := faultV n, recovered := true }] ∧ Rz w (.slice none 0 0) n w' := by
  refine callsD_of_wpS Tryz.func30 rfl fun c₀ cs hu => ?_
  rw [show (#[Value.pointer (some ⟨w.heap.size, 0, none⟩), .pointer (some ⟨w.heap.size + 1, 0, none⟩)] ++ Array.replicate (Tryz.f30.ntmps - #[Value.pointer (some ⟨w.heap.size, 0, none⟩), .pointer (some ⟨w.heap.size + 1, 0, none⟩)].size) undef) = #[Value.pointer (some ⟨w.heap.size, 0, none⟩), .pointer (some ⟨w.heap.size + 1, 0, none⟩), undef, undef, undef, undef, undef, undef, undef, undef, undef, undef] from rfl]
  apply wpS_seq
  apply wpS_region
  simp [wpOpsS, go_sem, recoverD, hu, Exit.thenS, ta_hit]
  refine wpS_of_wp ?_
  have R1 := Lib.hid (R.kept ((Kept.refl x).alloc (.cells #[Value.int IntKind.i64 n] 75)))
  have d0 := new_cell1 x (Value.int IntKind.i64 n) 75
  have hn := R.lt
  clear R
  generalize hX : x.alloc (.cells #[Value.int IntKind.i64 n] 75) = X at *
  have hne : x.heap.size ≠ w.heap.size := by omega
  have hne' : x.heap.size ≠ w.heap.size + 1 := by omega
  clear hX
  go_wp2_with fail
  refine wp_region_held_drew (S := fun y => y.cell? ⟨x.heap.size, 0, none⟩ = some (.int .i64 n)) (by kernel_rfl) d0 (fun hS0 => ?_)
  refine wpAnyH_take (i := 0) (oi := { dst := some 10, op := Go.Op.fieldAddr 75 (Go.Operand.tmp 2) 0, type := 0, pos := "reader.go:51", after := #[{ on := 2, ground := Go.Ground.gcOnly Go.Departure.lateStores }], guard := none }) (v := ?va0) rfl (by kernel_rfl) (by kernel_rfl) (by kernel_rfl) (fun _ _ _ h => h) (Or.inl ⟨by rfl, ?ya0⟩) (by assumption) ?ra0
  case ya0 => (intro wq hSw; (try dsimp only at hSw); go_simp; try with_reducible rfl)
  simp only [Act.put, List.setIfInBounds_toArray, List.set_cons_zero, List.set_cons_succ]
  refine wpAnyH_take (i := 1) (oi := { dst := some 11, op := Go.Op.load 27 (Go.Operand.tmp 10), type := 27, pos := "reader.go:51", after := #[{ on := 0, ground := Go.Ground.data }, { on := 2, ground := Go.Ground.gcOnly Go.Departure.lateStores }], guard := none }) (v := ?va1) rfl (by kernel_rfl) (by kernel_rfl) (by kernel_rfl) (fun _ _ _ h => h) (Or.inl ⟨by rfl, ?ya1⟩) (by assumption) ?ra1
  case ya1 => (intro wq hSw; (try dsimp only at hSw); go_simp; try with_reducible rfl)
  simp only [Act.put, List.setIfInBounds_toArray, List.set_cons_zero, List.set_cons_succ]
  have R2 := Lib.hid R1.out.drew
  have e0 := R2.out.c0
  have f0 := R2.out.f0
  refine wpAnyH_ready (rs := [2]) (by kernel_rfl) (by simp) (AllReadyH.cons (o := { dst := none, op := Go.Op.store 44 (Go.Operand.tmp 0) (Go.Operand.const (Go.Value.slice none 0 0)), type := 0, pos := "reader.go:51", after := #[{ on := 0, ground := Go.Ground.textOnly Go.Departure.lateStores }, { on := 1, ground := Go.Ground.textOnly Go.Departure.lateStores }], guard := none }) rfl (fun K hK => ?_) AllReadyH.nil)
  go_simp
  have R3 : Hid (Rz w (.slice none 0 0) 0 (X.setCell ⟨w.heap.size, 0, none⟩ (.slice none 0 0)).drew) := Lib.hid (R1.out.putv (.slice none 0 0)).drew
  have d3 : (X.setCell ⟨w.heap.size, 0, none⟩ (.slice none 0 0)).drew.cell? ⟨x.heap.size, 0, none⟩ = some (.int .i64 n) := by
    show (X.setCell ⟨w.heap.size, 0, none⟩ (.slice none 0 0)).cell? _ = _
    unfold World.cell?; rw [Below.heap_setCell _ _ _ _ hne]; exact d0
  refine Shut.out hK _ _ d3 (fun hSb => ?_)
  clear hK K
  try simp only [Act.put, List.setIfInBounds_toArray, List.set_cons_zero, List.set_cons_succ]
  generalize (X.setCell ⟨w.heap.size, 0, none⟩ (.slice none 0 0)).drew = Y at *
  have e1 := R3.out.c1
  have f1 := R3.out.f1
  refine wpAnyH_ready (rs := [3]) (by kernel_rfl) (by simp) (AllReadyH.cons (o := { dst := none, op := Go.Op.store 27 (Go.Operand.tmp 1) (Go.Operand.tmp 11), type := 0, pos := "reader.go:51", after := #[{ on := 1, ground := Go.Ground.data }, { on := 2, ground := Go.Ground.chain }, { on := 0, ground := Go.Ground.phase }, { on := 1, ground := Go.Ground.phase }, { on := 2, ground := Go.Ground.phase }], guard := none }) rfl (fun K hK => ?_) AllReadyH.nil)
  go_simp
  have R4 := Lib.hid (R3.out.pute n)
  have d4 : (Y.setCell ⟨w.heap.size + 1, 0, none⟩ (.int .i64 n)).cell? ⟨x.heap.size, 0, none⟩ = some (.int .i64 n) := by
    unfold World.cell?; rw [Below.heap_setCell _ _ _ _ hne']; exact d3
  refine Shut.out hK _ _ d4 (fun hSb => ?_)
  clear hK K
  try simp only [Act.put, List.setIfInBounds_toArray, List.set_cons_zero, List.set_cons_succ]
  refine wpAnyH_done (by kernel_rfl) ?_ _
  refine ⟨rfl, _, rfl, .tuple #[], by simp [results, Tryz.results30], rfl, rfl, ?_⟩
  exact R4.out
/-- pieces, and an error -/
def TkP (d : List Tk × Int) (w : World) (e : Ending) (w' : World) : Prop := Kept w w' ∧ ∃ v, e = .returned (.tuple #[v, iV d.2]) ∧ TokO w.heap.size v d.1 w'
theorem tok_nil (B0 : Nat) (w : World) : TokO B0 (.slice none 0 0) [] w := ⟨[], rfl, World.ownsRow_nil _ _ _ _, fun i t x h _ => by simp at h⟩
def rdS (doc : B) : List Tk × Int := match Xm.run doc.length ⟨doc, [], 0, []⟩ with
  | .er e => ([], e)
  | .ok s => if s.o ≠ [] ∨ s.n = 0 then ([], 2) else (s.l, 0)
theorem tok_rdS (b : B) : tok b = if 100000 < b.length then ([], 4) else rdS b := rfl
theorem read_results (n : Nat) (a : Option Addr) (m c : Nat) (e : Int) (tmps : Array Value) (x : World) (h2 : tmps[2]? = some (.pointer (some ⟨n, 0, none⟩))) (h3 : tmps[3]? = some (.pointer (some ⟨n + 1, 0, none⟩)))
    (c0 : x.cell? ⟨n, 0, none⟩ = some (.slice a m c)) (c1 : x.cell? ⟨n + 1, 0, none⟩ = some (iV e)) :
    (results Tryz.f20 tmps).run Tryz.prog x = .ok (.tuple #[.slice a m c, iV e]) x := by
  simp [results, Tryz.results20, go_sem, *]
theorem read_out {w x : World} {v0 : Value} {k : Int} {d : List Tk × Int} (R : Rz w v0 0 x) (hd : d = ([], k)) (tmps : Array Value)
    (h2 : tmps[2]? = some (.pointer (some ⟨w.heap.size, 0, none⟩))) (h3 : tmps[3]? = some (.pointer (some ⟨w.heap.size + 1, 0, none⟩))) :
    Leaves Tryz.prog Tryz.f20 tmps (TkP d w) [{ target := .fn (.func 30) #[.pointer (some ⟨w.heap.size, 0, none⟩), .pointer (some ⟨w.heap.size + 1, 0, none⟩)], args := #[] }] (.panicking [{ v := faultV k, recovered := false }]) x := by
  refine leaves_cons (f := 30) (args := #[.pointer (some ⟨w.heap.size, 0, none⟩), .pointer (some ⟨w.heap.size + 1, 0, none⟩)]) (by simp) (by simp [go_sem]) ?_
  refine (catch_panicking k w x v0 R).mono ?_
  rintro e u' w'' ⟨rfl, rfl, R2⟩
  show Leaves Tryz.prog Tryz.f20 tmps (TkP d w) [] .returning w''
  subst hd
  exact ⟨_, read_results w.heap.size none 0 0 k tmps w'' h2 h3 R2.c0 R2.c1, R2.k, _, rfl, tok_nil _ _⟩
theorem read_done {w x : World} {a : Option Addr} {m c : Nat} {d : List Tk × Int} (R : Rz w (.slice a m c) 0 x) (hd : d.2 = 0) (hT : TokO w.heap.size (.slice a m c) d.1 x) (tmps : Array Value)
    (h2 : tmps[2]? = some (.pointer (some ⟨w.heap.size, 0, none⟩))) (h3 : tmps[3]? = some (.pointer (some ⟨w.heap.size + 1, 0, none⟩))) :
    Leaves Tryz.prog Tryz.f20 tmps (TkP d w) [{ target := .fn (.func 30) #[.pointer (some ⟨w.heap.size, 0, none⟩), .pointer (some ⟨w.heap.size + 1, 0, none⟩)], args := #[] }] .returning x := by
  refine leaves_cons (f := 30) (args := #[.pointer (some ⟨w.heap.size, 0, none⟩), .pointer (some ⟨w.heap.size + 1, 0, none⟩)]) (by simp) (by simp [go_sem]) ?_
  refine (catch_idle _ _ _).mono ?_
  rintro e u' w'' ⟨rfl, rfl, kc⟩
  show Leaves Tryz.prog Tryz.f20 tmps (TkP d w) [] .returning w''
  have kd := R.kept kc
  exact ⟨_, read_results w.heap.size a m c 0 tmps w'' h2 h3 kd.c0 kd.c1, kd.k, _, by rw [hd], hT.keep (kc.grownBy none) NoRow.none NoRow.none⟩
/-! how many pieces a step adds -/
theorem put_bd (x : B) (o : List B) (l : List Tk) : (put x o l).length ≤ l.length + 1 := by
  unfold put
  split
  · omega
  · simp
theorem shut_bd {nm r : B} {s s' : St} (h : shut nm r s = .ok s') : s'.l.length = s.l.length + 1 ∧ s'.o.length ≤ s.o.length := by
  obtain ⟨_, rfl⟩ := shut_ok h
  exact ⟨by simp, by simp⟩
theorem step_bd {s s' : St} (h : Xm.step s = .ok s') : s'.l.length ≤ s.l.length + 2 ∧ (s.o.length ≤ 20 → s'.o.length ≤ 20) := by
  have pass : ∀ (p : B) (k : Nat), passS p k s = .ok s' → s'.l.length ≤ s.l.length + 2 ∧ (s.o.length ≤ 20 → s'.o.length ≤ 20) := fun p k h => by
    unfold passS at h
    split at h
    · cases h
    · cases h
      exact ⟨by simp, fun q => q⟩
  unfold Xm.step at h
  split at h
  · unfold plainS at h
    simp only at h
    split at h
    · cases h
    · cases h
      exact ⟨by have := put_bd (gone (s.r.takeWhile (· != 60))).1 s.o s.l; simp only; omega, fun q => q⟩
  split at h
  · exact pass _ _ h
  split at h
  · exact pass _ _ h
  split at h
  · unfold dataS at h
    split at h
    · cases h
    · rename_i a u e
      split at h
      · cases h
      · cases h
        exact ⟨by have := put_bd a s.o s.l; simp only; omega, fun q => q⟩
  split at h
  · exact pass _ _ h
  split at h
  · unfold endS at h
    simp only at h
    split at h
    · split at h
      · have := shut_bd h
        exact ⟨by omega, fun q => by omega⟩
      · cases h
    · cases h
  · unfold openS at h
    simp only at h
    split at h
    · split at h
      · cases h
      · split at h
        · cases h
        · split at h
          · cases h
          · rename_i hd
            split at h
            · cases h
              exact ⟨by simp, fun q => by simp; omega⟩
            · have := shut_bd h
              simp only [List.length_append, List.length_cons, List.length_nil] at this
              exact ⟨by omega, fun q => by omega⟩
            · cases h
    · cases h
theorem Rz.bo {w x x' : World} {v : Value} {e : Int} {B0 b : Nat} (h : Rz w v e x) (k : Bo B0 b x x') (hb : w.heap.size + 1 < b) (hB : w.heap.size + 1 < B0) : Rz w v e x' :=
  ⟨{ os := k.os.trans h.k.os, output := k.output.trans h.k.output, tape := k.tape.trans h.k.tape, size := Nat.le_trans h.k.size k.size, block := fun j hj => (k.block j (by omega) (by omega)).trans (h.k.block j hj) },
   (k.block _ (by omega) (by omega)).trans h.b0, (k.block _ (by omega) (by omega)).trans h.b1⟩
theorem TokO.mono {B0 B1 : Nat} {v : Value} {l : List Tk} {w : World} (h : TokO B1 v l w) (hB : B0 ≤ B1) : TokO B0 v l w := by
  obtain ⟨vs, h1, h2, h3⟩ := h
  exact ⟨vs, h1, own_mono h2 hB, fun i t x q1 q2 => own_mono (h3 i t x q1 q2) hB⟩
set_option maxRecDepth 100000 in
set_option maxHeartbeats 4000000 in
theorem read_any (doc : B) (w : World) (hE : EX w.heap.size w) (hl : doc.length ≤ 100000) : Calls Tryz.prog 20 #[sV doc] w (TkP (rdS doc) w) := by
  have hmf : ∀ (fn : Fn) (first cap : Array Value) (w : World), (Instr.makeFunc fn first cap).run Tryz.prog w = .ok (.func fn first cap) w := fun _ _ _ _ => rfl
  have q : ∀ (A B C D : Obj), ((((w.alloc A).alloc B).alloc C).alloc D).heap = (((w.heap.push A).push B).push C).push D := fun _ _ _ _ => rfl
  have S0 : Hid (Rdy w.heap.size (w.heap.size + 4) (w.heap.size + 2) ⟨doc, [], 0, []⟩ ((((w.alloc (.cells #[.slice none 0 0] 44)).alloc (.cells #[iV 0] 27)).alloc (.cells #[sV doc, .slice none 0 0, .bool false, .slice none 0 0] 80)).alloc (.cells kdC 99)) ∧
      Rz w (.slice none 0 0) 0 ((((w.alloc (.cells #[.slice none 0 0] 44)).alloc (.cells #[iV 0] 27)).alloc (.cells #[sV doc, .slice none 0 0, .bool false, .slice none 0 0] 80)).alloc (.cells kdC 99)) ∧
      Kd (w.heap.size + 3) ((((w.alloc (.cells #[.slice none 0 0] 44)).alloc (.cells #[iV 0] 27)).alloc (.cells #[sV doc, .slice none 0 0, .bool false, .slice none 0 0] 80)).alloc (.cells kdC 99))) := Lib.hid (by
    have kk := ((((Kept.refl w).alloc (.cells #[.slice none 0 0] 44)).alloc (.cells #[iV 0] 27)).alloc (.cells #[sV doc, .slice none 0 0, .bool false, .slice none 0 0] 80)).alloc (.cells kdC 99)
    refine ⟨⟨⟨by omega, by simp, fun h => absurd rfl h, .slice none 0 0, .slice none 0 0, ?_, World.ownsRow_nil _ _ _ _, tok_nil _ _⟩, hE.kept kk, by omega, by omega, hl, by simp, by simp⟩, ⟨kk, ?_, ?_⟩, ?_⟩
    · unfold PB
      rw [q, Array.getElem?_push, if_neg (by simp), Array.getElem?_push, if_pos (by simp)]
      rfl
    · rw [q, Array.getElem?_push, if_neg (by simp; omega), Array.getElem?_push, if_neg (by simp; omega), Array.getElem?_push, if_neg (by simp), Array.getElem?_push, if_pos rfl]
    · rw [q, Array.getElem?_push, if_neg (by simp), Array.getElem?_push, if_neg (by simp), Array.getElem?_push, if_pos (by simp)]
    · unfold Kd
      rw [q, Array.getElem?_push, if_pos (by simp)])
  clear q hE
  have HR := Lib.hid (show rdS doc = (match Xm.run doc.length ⟨doc, [], 0, []⟩ with
    | .er e => ([], e)
    | .ok s => if s.o ≠ [] ∨ s.n = 0 then ([], 2) else (s.l, 0)) from rfl)
  generalize rdS doc = d at *
  generalize hrun : Xm.run doc.length ⟨doc, [], 0, []⟩ = rr at *
  have HRN := Lib.hid hrun
  clear hrun
  go_enter_defers Tryz.func20, Tryz.ntmps20
  go_wp2_with fail
  refine (kinds_any _).mono ?_
  rintro e x2 ⟨rfl, rfl⟩
  generalize (((w.alloc (.cells #[.slice none 0 0] 44)).alloc (.cells #[iV 0] 27)).alloc (.cells #[sV doc, .slice none 0 0, .bool false, .slice none 0 0] 80)).alloc (.cells kdC 99) = X2 at *
  have hk3 : (((w.alloc (.cells #[.slice none 0 0] 44)).alloc (.cells #[iV 0] 27)).alloc (.cells #[sV doc, .slice none 0 0, .bool false, .slice none 0 0] 80)).heap.size = w.heap.size + 3 := by simp
  rw [hk3]
  clear hk3
  go_wp2_with fail
  obtain ⟨b, hbe⟩ : ∃ b, b = w.heap.size + 2 := ⟨_, rfl⟩
  obtain ⟨k0, hke⟩ : ∃ k0, k0 = w.heap.size + 3 := ⟨_, rfl⟩
  obtain ⟨B0, hBe⟩ : ∃ B0, B0 = w.heap.size + 4 := ⟨_, rfl⟩
  rw [← hbe, ← hke, ← hBe] at S0
  rw [show w.heap.size + 1 + 1 = b by omega, ← hke]
  have hb1 : w.heap.size + 1 < b := by omega
  have hb2 : b < k0 := by omega
  have hb3 : k0 < B0 := by omega
  clear hbe hke hBe
  go_loopw [] (fun wr => ∃ (s : St) (f : Nat), Hid (Rdy w.heap.size B0 b s wr) ∧ Hid (Bo B0 b X2 wr) ∧ Hid (Xm.run f s = rr) ∧ s.r.length ≤ f ∧ s.l.length + 2 * s.r.length ≤ 200000 ∧ s.o.length ≤ 20) (fun wr => strN ((wr.cell? ⟨b, 0, none⟩).getD undef))
  case atStart => exact ⟨⟨doc, [], 0, []⟩, doc.length, Lib.hid S0.out.1, Lib.hid (Bo.refl _ _ _), HRN, Nat.le_refl _, by simp; omega, by simp⟩
  case round =>
    obtain ⟨s, f, hR, hB, hF, hf, hll, hol⟩ := hrel
    have K1 := Lib.hid (show Kd k0 wr from (hB.out.block _ (by omega) (by omega)).trans S0.out.2.2)
    have Z1 := Lib.hid (S0.out.2.1.bo hB.out (by omega) (by omega))
    clear HRN
    obtain ⟨ov, lv, hP, ⟨oa, oc, hov⟩, _⟩ := hR.out.1.of
    obtain ⟨c0, c1, c2, c3⟩ := hP.cs
    have hmes : strN ((wr.cell? ⟨b, 0, none⟩).getD undef) = s.r.length := by rw [c0]; exact strN_sV s.r
    by_cases hr : s.r = []
    · have hrun : Xm.run f s = .ok s := by cases f with
        | zero => rfl
        | succ f => rw [Xm.run, if_pos hr]
      have HD : Hid (d = if s.o ≠ [] ∨ s.n = 0 then ([], 2) else (s.l, 0)) := Lib.hid (by rw [HR.out, ← hF.out, hrun])
      rw [hr] at c0
      subst hov
      by_cases hbad : s.o ≠ [] ∨ s.n = 0
      · have Z := fun (tmps : Array Value) => read_out (k := 2) (d := d) Z1.out (by rw [HD.out, if_pos hbad]) tmps
        have HZ := Lib.hid Z
        by_cases hn : 1 ≤ s.n
        · have ho : s.o ≠ [] := by
            rcases hbad with q | q
            · exact q
            · omega
          have hpos : 0 < s.o.length := List.length_pos_iff.2 ho
          rw [decide_eq_true hn] at c2
          have hlen : ((s.o.length : Int) == 0) = false := by simp; exact ho
          clear HR HD Z Z1 K1 hR hB hF hP hbad hn hrun hmes S0 c3
          go_wp2_with fail
          refine (need_not _ (by simp) _).mono ?_
          rintro e w4 ⟨rfl, rfl⟩
          exact HZ.out _ rfl rfl
        · rw [decide_eq_false hn] at c2
          clear HR HD Z Z1 K1 hR hB hF hP hbad hn hrun hmes S0 c3 c1
          go_wp2_with fail
          refine (need_no _).mono ?_
          rintro e w4 ⟨rfl, rfl⟩
          exact HZ.out _ rfl rfl
      · simp only [not_or, ne_eq, Decidable.not_not] at hbad
        have hlen : s.o.length = 0 := by rw [hbad.1]; rfl
        rw [hlen] at c1
        rw [decide_eq_true (show 1 ≤ s.n by omega)] at c2
        obtain ⟨_, _, _, ov', lv', hP', _, hT'⟩ := hR.out.1
        have hlv : lv' = lv := by
          have := hP'.cs.2.2.2
          rw [c3] at this
          cases this; rfl
        subst hlv
        obtain ⟨la, lc, hlv⟩ : ∃ la lc, lv' = .slice la s.l.length lc := by
          obtain ⟨vs, _, h2, _⟩ := hT'
          exact own_slice h2
        subst hlv
        have hd2 : d = (s.l, 0) := by rw [HD.out, if_neg (by simp [hbad.1, hbad.2])]
        have Y1 := Z1.out.putv (.slice la s.l.length lc)
        have Y2 := Y1.pute 0
        have T1 := hT'.keep ((Ob.refl w.heap.size wr).set 0 (.slice la s.l.length lc)).grown (NoRow.of Z1.out.b0 (by decide)) (NoRow.of Z1.out.b0 (by decide))
        have T2 := T1.keep ((Ob.refl (w.heap.size + 1) _).set 0 (iV 0)).grown (NoRow.of Y1.b1 (by decide)) (NoRow.of Y1.b1 (by decide))
        have HZ := Lib.hid (fun (tmps : Array Value) => read_done (d := d) Y2 (by rw [hd2]) (by rw [hd2]; exact T2.mono (by omega)) tmps)
        have e0 := Z1.out.c0
        have f0 := Z1.out.f0
        have e1 := Y1.c1
        have f1 := Y1.f1
        clear HR HD Z1 K1 hR hB hF hP hP' hT' hrun hmes S0 Y1 Y2 T1 T2 hd2 hbad
        go_wp2_with fail
        refine (need_yes _).mono ?_
        rintro e w4 ⟨rfl, rfl⟩
        go_wp2
        exact HZ.out _ rfl rfl
    · have hne : s.r.isEmpty = false := by simpa using hr
      have HP := Lib.hid (ppiece_any w.heap.size B0 b k0 s wr hR.out K1.out (by omega))
      have hrl := hR.out.2.2.2.2.1
      have hE := Lib.hid (And.intro hR.out.2.1 hB.out)
      clear c1 c2 c3 hR hB K1 hP
      go_wp2_with fail
      refine HP.out.mono ?_
      intro e w3 h3
      cases hst : Xm.step s with
      | er k =>
        obtain ⟨b3, h3'⟩ := h3
        rw [hst] at h3'
        subst h3'
        have hrun : Xm.run f s = .er k := by
          cases f with
          | zero => exact absurd (List.length_eq_zero_iff.1 (by omega)) hr
          | succ f => rw [Xm.run, if_neg hr, hst]
        exact read_out (Z1.out.bo b3 (by omega) (by omega)) (by rw [HR.out, ← hF.out, hrun]) _ rfl rfl
      | ok s' =>
        obtain ⟨b3, h3'⟩ := h3
        rw [hst] at h3'
        obtain ⟨rfl, h3''⟩ := h3'
        obtain ⟨f', rfl⟩ : ∃ f', f = f' + 1 := by
          cases f with
          | zero => exact absurd (List.length_eq_zero_iff.1 (by omega)) hr
          | succ f => exact ⟨f, rfl⟩
        have hrun : Hid (Xm.run f' s' = rr) := Lib.hid (by
          rw [← hF.out, Xm.run, if_neg hr, hst])
        have hlt := step_len hr hst
        have hbd := step_bd hst
        have R3 : Hid (Rdy w.heap.size B0 b s' w3) := Lib.hid ⟨h3'', hE.out.1.bo b3 (by omega) (by omega), by omega, by omega, by omega, by omega, by have := hbd.2 hol; omega⟩
        have B3 := Lib.hid (hE.out.2.trans b3)
        have hms2 : strN ((w3.cell? ⟨b, 0, none⟩).getD undef) = s'.r.length := by
          obtain ⟨_, _, hP3, _⟩ := h3''.of
          rw [hP3.cs.1]; exact strN_sV _
        have hol' := hbd.2 hol
        have hll' : s'.l.length + 2 * s'.r.length ≤ 200000 := by omega
        clear h3'' b3 hst HP hE hF
        go_wp2
        go_roundw
        case rel => exact ⟨s', f', R3, B3, hrun, by omega, hll', hol'⟩
        case measure =>
          rw [hmes]
          show strN ((w3.cell? ⟨b, 0, none⟩).getD undef) < s.r.length
          rw [hms2]; exact hlt
set_option maxRecDepth 100000 in
theorem ptokens_any (g : Option Addr) (m c : Nat) (doc : B) (w : World) (hE : EX w.heap.size w) (hm : m = doc.length) (hcv : m ≤ 100000 → (convert 30 9 (.slice g m c)).run Tryz.prog w = .ok (sV doc) w) :
    Calls Tryz.prog 14 #[.slice g m c] w (TkP (tok doc) w) := by
  subst hm
  by_cases hl : doc.length ≤ 100000
  · have HT := Lib.hid (show tok doc = rdS doc by rw [tok_rdS, if_neg (by omega)])
    have HR := Lib.hid (read_any doc w hE (by omega))
    have hcv1 := hcv hl
    have hd : ¬ (100000 : Int) < doc.length := by omega
    clear hE hcv hl
    go_enter Tryz.func14, Tryz.ntmps14
    go_wp2_with fail
    refine HR.out.mono ?_
    rintro e w1 ⟨k1, v, rfl, hT⟩
    rw [← HT.out] at hT ⊢
    generalize tok doc = d at *
    obtain ⟨la, lc, hv⟩ : ∃ la lc, v = .slice la d.1.length lc := by
      obtain ⟨vs, _, h2, _⟩ := hT
      exact own_slice h2
    subst hv
    have Z := Lib.hid (show TkP d w (.returned (.tuple #[.slice la d.1.length lc, iV d.2])) w1 from ⟨k1, _, rfl, hT⟩)
    clear k1 hT HR HT
    go_wp2
    go_ret2
    exact Z.out
  · have HT := Lib.hid (show tok doc = ([], 4) by rw [tok_rdS, if_pos (by omega)])
    have hd : (100000 : Int) < doc.length := by omega
    clear hE hcv hl
    go_enter Tryz.func14, Tryz.ntmps14
    go_wp2
    go_ret2
    rw [HT.out]
    exact ⟨Kept.refl w, _, rfl, tok_nil _ _⟩
end Go.Proofs.YtflhmgnhjnaiiaaGreatDoor
