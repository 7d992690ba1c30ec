/- The frame of a call: what lay in memory when it began lies there still (blocks may have come behind). -/
import Derived.Test.YtdfmnjoklehifaaDoorChecked
import Derived.Below
import Derived.RowKit3
import Derived.Lib.LaidTab
import Derived.WalkKit
import Derived.ProofKit
import Derived.Lib.Hide
import Derived.Sort.Grow
import Derived.Deep.Draws
set_option linter.unusedSimpArgs false
set_option linter.unusedVariables false
namespace Go.Proofs.YtdfmnjoklehifaaDoor
open Go.ChangeShapes Go.WideShapes Go.ChangeAt Go.RowKit

structure Kept (w w' : World) : Prop where
  os : w'.os = w.os
  output : w'.output = w.output
  size : w.heap.size ≤ w'.heap.size
  block : ∀ k, k < w.heap.size → w'.heap[k]? = w.heap[k]?
  tape : w'.tape = w.tape

theorem Kept.refl (w : World) : Kept w w := ⟨rfl, rfl, Nat.le_refl _, fun _ _ => rfl, rfl⟩
theorem Kept.trans {a b c : World} (h : Kept a b) (k : Kept b c) : Kept a c :=
  ⟨k.os.trans h.os, k.output.trans h.output, Nat.le_trans h.size k.size, fun i hi => (k.block i (Nat.lt_of_lt_of_le hi h.size)).trans (h.block i hi), k.tape.trans h.tape⟩
theorem Kept.of_eq {w w' : World} (h : w = w') : Kept w w' := h ▸ Kept.refl w
theorem Kept.of_below {w w' : World} (h : Below w.heap.size w w') : Kept w w' := ⟨h.os, h.output, h.size, h.block, h.tape⟩
theorem Kept.of_grown {w w' : World} (h : Kept w w') : Kept w w' := h
theorem Kept.drew {w w' : World} (h : Kept w w') : Kept w w'.drew := ⟨h.os, h.output, h.size, h.block, h.tape⟩
theorem Kept.grownBy {w w' : World} (h : Kept w w') (row : Option Nat) : w.grownBy w' row := ⟨h.os, h.tape, h.output, h.size, fun k hk _ => h.block k hk⟩
theorem Kept.below {w w' : World} (h : Kept w w') {B : Nat} (hB : B ≤ w.heap.size) : Below B w w' := ⟨h.os, h.tape, h.output, h.size, fun k hk => h.block k (Nat.lt_of_lt_of_le hk hB)⟩
theorem Kept.drewN {w w' : World} (h : Kept w w') (n : Nat) : Kept w (w'.drewN n) := ⟨h.os, h.output, h.size, h.block, h.tape⟩
theorem Kept.alloc {w w' : World} (h : Kept w w') (o : Obj) : Kept w (w'.alloc o) :=
  h.trans ⟨rfl, rfl, by simp, fun k hk => Below.heap_alloc _ _ _ hk, rfl⟩
theorem Kept.setCell {w w' : World} (h : Kept w w') {a : Addr} (ha : w.heap.size ≤ a.block) (v : Value) : Kept w (w'.setCell a v) :=
  ⟨h.os, h.output, by simpa [World.setCell] using h.size, fun k hk => (Below.heap_setCell _ _ _ _ (by omega)).trans (h.block k hk), h.tape⟩
theorem Kept.grow {w w' : World} (h : Kept w w') (os : Array Obj) : Kept w (Go.Sort.grow w' os) :=
  h.trans ⟨rfl, rfl, by show _ ≤ (w'.heap ++ os).size; simp, fun k hk => by show (w'.heap ++ os)[k]? = _; rw [Array.getElem?_append_left hk], rfl⟩
theorem Kept.cell {w w' : World} (h : Kept w w') {a : Addr} (ha : a.block < w.heap.size) : w'.cell? a = w.cell? a := by
  unfold World.cell?; rw [h.block _ ha]
theorem Kept.frozen {w w' : World} (h : Kept w w') {a : Addr} (ha : a.block < w.heap.size) : w'.frozen? a = w.frozen? a := by
  unfold World.frozen?; rw [h.block _ ha]
theorem Kept.var {w w' : World} (h : Kept w w') {P : Program} {n : String} {x : Array Value} (hx : w.var? P n = some x) : w'.var? P n = some x := by
  unfold World.var? at hx ⊢
  cases hg : P.globalNamed n with
  | none => rw [hg] at hx; simp at hx
  | some g =>
    rw [hg] at hx
    simp only [Option.bind_some] at hx ⊢
    have hlt : g < w.heap.size := by
      by_cases hl : g < w.heap.size
      · exact hl
      · rw [Array.getElem?_eq_none (by omega)] at hx; simp at hx
    rw [h.block g hlt]; exact hx
theorem Kept.tab {w w' : World} (h : Kept w w') {P : Program} {n : String} {k : IntKind} {zs : List Int} (hx : Lib.TabIs P w n k zs) : Lib.TabIs P w' n k zs := h.var hx
theorem Kept.but {w w' : World} (h : Kept w w') (may : MemPlace → Prop) : w.keptBut w' may := by
  refine ⟨h.os, h.output, fun i hi => ?_⟩
  rw [h.block i hi]
  rcases w.heap[i]? with _ | ⟨c, t, fr⟩ | ⟨es, ck⟩ <;> simp

theorem Kept.back {w w1 : World} {o : Obj} (k : Kept (w.alloc o) w1) : Kept w w1 := ((Kept.refl w).alloc o).trans k
/-- A block that was laid ahead of a call reads behind it as it did. -/
theorem Kept.new {w w1 : World} {cs : Array Value} {t : TypeId} (k : Kept (w.alloc (.cells cs t)) w1) (j : Nat) {v : Value} (h : cs[j]? = some v) : w1.cell? ⟨w.heap.size, j, none⟩ = some v := by
  have hb : w1.heap[w.heap.size]? = some (.cells cs t) := by
    rw [k.block w.heap.size (by simp)]
    show (w.heap.push _)[w.heap.size]? = _
    simp
  simp [World.cell?, hb, h]
theorem Kept.new2 {w w1 : World} {cs : Array Value} {t : TypeId} (k : Kept (w.alloc (.cells cs t)) w1) (j : Nat) {v : Value} (h : cs[j]? = some v) : ∀ o, (w1.alloc o).cell? ⟨w.heap.size, j, none⟩ = some v := fun o =>
  (((Kept.refl w1).alloc o).cell (a := ⟨w.heap.size, j, none⟩) (by show w.heap.size < w1.heap.size; have := k.size; simp at this; omega)).trans (k.new j h)
theorem Kept.newF {w w1 : World} {cs : Array Value} {t : TypeId} (k : Kept (w.alloc (.cells cs t)) w1) (j : Nat) : w1.frozen? ⟨w.heap.size, j, none⟩ = false := by
  have hb : w1.heap[w.heap.size]? = some (.cells cs t) := by
    rw [k.block w.heap.size (by simp)]
    show (w.heap.push _)[w.heap.size]? = _
    simp
  simp [World.frozen?, hb]
/-- What the row asks of a call that answers as it should and keeps what lay in memory. -/
theorem post_of_kept {P : Program} {H : Type} {enc : TypeId × Value → H} {f : Func} {s : ChangeSpec} {apart fresh handsOn again : Bool} {W W' : World} {args : Array Value} {v : Value} {ds gs : List (DataW H)} {before pa pv : List MemPlace}
    (hW : DataW.Whole enc P f.params.toList s.vars apart W args.toList ds gs before)
    (hres : ∀ (b : Nat) (sp : Nat → Bool) (hd : Bool), DataW.TrodAll enc P W' b sp hd f.resultTypes.toList (v.resultList f.resultTypes.size) (s.fn H (ds ++ gs)).results [])
    (hargs : ∀ sp : Nat → Bool, (∀ p ∈ before, sp p.block = true) → DataW.TrodAll enc P W' 0 sp true f.params.toList args.toList (s.fn H (ds ++ gs)).args pa)
    (hvars : ∀ sp : Nat → Bool, (∀ p ∈ before, sp p.block = true) → DataW.TrodVars enc P W' sp s.vars (s.fn H (ds ++ gs)).vars pv)
    (hps : before = pa ++ pv) (hk : Kept W W')
    (hok : ∀ (j : Nat) (t : TypeId) (r : Value), f.resultTypes[j]? = some t → (v.resultList f.resultTypes.size)[j]? = some r → Value.okWide P W' .any 0 t r) :
    s.post enc P f apart fresh handsOn again W args v W' := by
  have hold : ∀ p ∈ before, (fun b => decide (b < W.heap.size)) p.block = true := fun p hp => by simpa using hW.lt p hp
  refine ⟨ds, gs, before, [], pa, pv, hW, hres _ _ _, hargs _ hold, hvars _ hold, World.keptBut_mono (fun p hp => ⟨hp, ?_⟩) (hk.but (· ∈ before)), fun _ => ?_⟩
  · rw [hps, List.mem_append] at hp
    exact Or.inr hp
  · have hlt := hW.lt
    obtain ⟨_, _, _, _, _, hz, hn⟩ := hW
    refine ⟨hok, _, _, ([] ++ pa) ++ pv, ⟨[] ++ pa, pv, trodAll_append (hargs _ (fun _ _ => rfl)) (hres _ _ _), hvars _ (fun _ _ => rfl), rfl, ?_, ?_⟩, ?_⟩
    · intro b off hp
      have hp' : MemPlace.cell b off ∈ before := by rw [hps]; simpa using hp
      rw [hk.frozen (hlt _ hp')]
      exact hz b off hp'
    · intro ha
      have := hn ha
      rw [hps] at this
      simpa using this
    · intro p hp _
      rw [hps]
      simpa using hp
theorem cell_lt {w : World} {a : Addr} {v : Value} (h : w.cell? a = some v) : a.block < w.heap.size := by
  by_cases q : a.block < w.heap.size
  · exact q
  · unfold World.cell? at h
    rw [Array.getElem?_eq_none (by omega)] at h
    simp at h
theorem Kept.yes {w w' : World} (k : Kept w w') {a : Addr} {v : Value} (h : w.cell? a = some v) : w'.cell? a = some v := (k.cell (cell_lt h)).trans h
end Go.Proofs.YtdfmnjoklehifaaDoor
