/- Rows of texts and of answers: a call's own, and those that are read; a reader's block. -/
import Derived.Test.YtdfmnjoklehifaaDoorRpPure
import Derived.Test.YtdfmnjoklehifaaDoorRpRg
import Derived.Test.YtdfmnjoklehifaaDoorBxB
import Derived.Lib.BufStepsIn
import Derived.Great.BuildSlice
import Derived.Deep.Cut
import Derived.Deep.CutBlock
import Derived.Deep.CutRange
import Derived.Deep.QuietTactic
import Derived.Deep.RegionHeld3
import Derived.BigQuiet
import Derived.RegionTactic
import Derived.ChangeAlike
set_option linter.unusedSimpArgs false
set_option linter.unusedVariables false
namespace Go.Proofs.YtdfmnjoklehifaaDoor.Bk.Rp
open Go.ChangeShapes Go.WideShapes Go.ChangeAt Go.RowKit Go.Shelf
theorem ext_of (l : List UInt8) (a b : Nat) : (ByteArray.mk l.toArray).extract a b = ⟨((l.take b).drop a).toArray⟩ := by
  apply ByteArray.ext
  rw [ByteArray.data_extract]
  simp [List.drop_take]
theorem cut_from (l : List UInt8) (x : Int) (a : Nat) (hx : x = a) (h1 : a ≤ l.length) (W : World) :
    (Instr.slice 9 (.string ⟨l.toArray⟩) (some (.int .i64 x)) none none).run Tryd.prog W = .ok (.string ⟨(l.drop a).toArray⟩) W := by
  subst hx
  have hs : (ByteArray.mk l.toArray).size = l.length := List.size_toArray
  rw [run_slice_string_l W 9 _ Tryd.underlying9 .i64 _ (by omega) (by rw [hs]; omega), hs]
  rw [show (a : Int).toNat = a by omega, ext_of, List.take_length]
theorem cut_to (l : List UInt8) (b : Nat) (h1 : b ≤ l.length) (W : World) :
    (Instr.slice 9 (.string ⟨l.toArray⟩) none (some (.int .i64 b)) none).run Tryd.prog W = .ok (.string ⟨(l.take b).toArray⟩) W := by
  have hs : (ByteArray.mk l.toArray).size = l.length := List.size_toArray
  rw [run_slice_string_h W 9 _ Tryd.underlying9 .i64 _ (by omega) (by rw [hs]; omega)]
  rw [show (b : Int).toNat = b by omega, ext_of, List.drop_zero]
theorem cut_both (l : List UInt8) (a b : Nat) (h1 : a ≤ b) (h2 : b ≤ l.length) (W : World) :
    (Instr.slice 9 (.string ⟨l.toArray⟩) (some (.int .i64 a)) (some (.int .i64 b)) none).run Tryd.prog W = .ok (.string ⟨((l.take b).drop a).toArray⟩) W := by
  rw [run_slice_string W 9 _ .i64 .i64 _ _ Tryd.underlying9 (by omega) (by omega) (by show (b : Int) ≤ l.length; omega)]
  rw [show (a : Int).toNat = a by omega, show (b : Int).toNat = b by omega, ext_of]
theorem app_mk (a b : B) : (⟨a.toArray⟩ ++ ⟨b.toArray⟩ : ByteArray) = ⟨(a ++ b).toArray⟩ := str_app a b
/-! boxes -/
theorem cell_at {x : World} {n j : Nat} {cs : Array Value} {t : TypeId} {v : Value} (h : x.heap[n]? = some (.cells cs t)) (hv : cs[j]? = some v) : x.cell? ⟨n, j, none⟩ = some v := by
  simp [World.cell?, h, hv]
/-- a value in a block of its own -/
def Bv (t : TypeId) (b : Nat) (v : Value) (W : World) : Prop := W.heap[b]? = some (.cells #[v] t)
theorem Bv.lt {t : TypeId} {b : Nat} {v : Value} {W : World} (h : Bv t b v W) : b < W.heap.size := (Array.getElem?_eq_some_iff.1 h).1
theorem Bv.c {t : TypeId} {b : Nat} {v : Value} {W : World} (h : Bv t b v W) : W.cell? ⟨b, 0, none⟩ = some v := cell_at h rfl
theorem Bv.kept {t : TypeId} {b : Nat} {v : Value} {W W' : World} (h : Bv t b v W) (k : Kept W W') : Bv t b v W' := (k.block _ h.lt).trans h
theorem Bv.new (W : World) (v : Value) (t : TypeId) : Bv t W.heap.size v (W.alloc (.cells #[v] t)) := World.alloc_heap_new W _
theorem Bv.set {t : TypeId} {b : Nat} {v : Value} {A : World} (h : Bv t b v A) (v' : Value) : Bv t b v' (A.setCell ⟨b, 0, none⟩ v') := by
  unfold Bv at h ⊢
  simp [World.setCell, Array.getElem?_modify, h]
theorem Bv.other {t : TypeId} {b b' : Nat} {v : Value} {A : World} (h : Bv t b v A) (hne : b ≠ b') (j : Nat) (v' : Value) : Bv t b v (A.setCell ⟨b', j, none⟩ v') :=
  (Below.heap_setCell _ _ _ _ hne).trans h
theorem Bv.frz {t : TypeId} {b : Nat} {v : Value} {A : World} (h : Bv t b v A) : A.frozen? ⟨b, 0, none⟩ = false := by unfold Bv at h; simp [World.frozen?, h]
theorem Bv.grown {t : TypeId} {b : Nat} {x : Value} {V y : World} {row : Option Nat} (h : Bv t b x V) (hg : V.grownBy y row) (hne : row ≠ some b) : Bv t b x y := (hg.block b h.lt (fun e => hne e.symm)).trans h
theorem set_other {W : World} {b : Nat} {o : Obj} (h : W.heap[b]? = some o) {a : Addr} {v : Value} (ha : b ≠ a.block) : (W.setCell a v).heap[b]? = some o := by
  rw [Below.heap_setCell _ _ _ _ ha]; exact h
/-! texts -/
theorem infoS : (Tryd.prog.info? 9).map (fun i => (i.zero, i.size, i.bytes)) = some (some (.string ⟨#[]⟩), 1, 16) := by kernel_rfl
/-- texts in a slice of the call's own -/
def OwnS (B0 : Nat) (v : Value) (ls : List B) (w : World) : Prop := w.ownsRow B0 9 1 v ls.length (ls.map sV)
theorem OwnS.nil (B0 : Nat) (w : World) : OwnS B0 (.slice none 0 0) [] w := World.ownsRow_nil _ _ _ _
theorem OwnS.kept {B0 : Nat} {v : Value} {ls : List B} {w w' : World} (h : OwnS B0 v ls w) (k : Kept w w') : OwnS B0 v ls w' := own_keep h (k.grownBy none) NoRow.none
theorem run_pushS (w : World) (B0 : Nat) (ty : TypeId) (v : Value) (ls : List B) (t : B) (k : Nat) (hO : OwnS B0 v ls w) (hc : w.cell? ⟨k, 0, none⟩ = some (sV t)) (hl : ls.length ≤ 10000000) (hB : B0 ≤ w.heap.size) :
    ∃ v' w', (Builtin.append_ #[22, 22] ty #[v, .slice (some ⟨k, 0, none⟩) 1 1]).run Tryd.prog w = .ok v' w' ∧ OwnS B0 v' (ls ++ [t]) w' ∧ w.grownBy w' v.ownBlock ∧ (v'.ownBlock = v.ownBlock ∨ v'.ownBlock = some w.heap.size) := by
  obtain ⟨i0, hi, hz0, hz1, hz2⟩ := info_parts infoS
  obtain ⟨v', w', hr, h2, h3, _, h5⟩ := run_append_own_at (P := Tryd.prog) (w := w) B0 22 ty 9 i0 _ 1 16 Tryd.underlying22 hi hz0 hz1 hz2 rfl (by decide) v ls.length (ls.map sV) hO ⟨k, 0, none⟩ 1 1 [sV t] rfl (fun j u hj => by
    match j, hj with
    | 0, hj => simp at hj; subst hj; simpa [Addr.add] using hc) (fun u hu => by simp at hu; subst hu; rfl) (by unfold maxLen; omega) (by omega) hB
  refine ⟨v', w', hr, ?_, h3, h5⟩
  unfold OwnS
  rw [List.length_append, List.map_append]
  exact h2
theorem wp_ok {op : Oper} {a : Act} {w w' : World} {v' : Value} {K : Act → World → Prop} {Q : Exit → Act → World → Prop} (sx x : Operand) (t1 t2 : TypeId) (ho : op.op = .call { callee := .builtin .append, args := #[sx, x], argTypes := #[t1, t2] })
    (hr : (Builtin.append_ #[t1, t2] op.type #[a.eval sx, a.eval x]).run Tryd.prog w = .ok v' w') (h : K (a.put op.dst v') w') : op.wp Tryd.prog a w K Q := by
  unfold Oper.wp execOp
  simp only [ho, resolve, invoke, builtin, Sem.run_bind, Sem.run_pure, Result.andThen_ok, List.map_toArray, List.map_cons, List.map_nil, hr]
  exact h
theorem wpList_pushS {ops : Array Oper} {rest : List Oper} {op : Oper} {a : Act} {w : World} {Q : Exit → Act → World → Prop} (hg : op.guard = none) (sx x : Operand) (ho : op.op = .call { callee := .builtin .append, args := #[sx, x], argTypes := #[22, 22] })
    (B0 : Nat) (v : Value) (ls : List B) (t : B) (k : Nat) (hs : a.eval sx = v) (hO : OwnS B0 v ls w) (hx : a.eval x = .slice (some ⟨k, 0, none⟩) 1 1) (hc : w.cell? ⟨k, 0, none⟩ = some (sV t)) (hl : ls.length ≤ 10000000) (hB : B0 ≤ w.heap.size)
    (h : ∀ v' w', OwnS B0 v' (ls ++ [t]) w' → w.grownBy w' v.ownBlock → wpList Tryd.prog ops Q rest (a.put op.dst v') w') : wpList Tryd.prog ops Q (op :: rest) a w := by
  obtain ⟨v', w', hr, h2, h3, _⟩ := run_pushS w B0 op.type v ls t k hO hc hl hB
  exact wpList_plain hg fun K hK => wp_ok sx x _ _ ho (by rw [hs, hx]; exact hr) (hK _ _ (h v' w' h2 h3))
/-- texts, to be read -/
def SRd (v : Value) (ls : List B) (w : World) : Prop := ∃ a c, v = .slice a ls.length c ∧ (ls ≠ [] → ∃ g o, a = some ⟨g, o, none⟩ ∧ ls.length ≤ c ∧ ∀ (i : Nat) (t : B), ls[i]? = some t → w.cell? ⟨g, o + i, none⟩ = some (sV t))
theorem SRd.kept {v : Value} {ls : List B} {w w' : World} (h : SRd v ls w) (k : Kept w w') : SRd v ls w' := by
  obtain ⟨a, c, hv, h⟩ := h
  refine ⟨a, c, hv, fun hne => ?_⟩
  obtain ⟨g, o, ha, hc, h⟩ := h hne
  exact ⟨g, o, ha, hc, fun i t ht => k.yes (h i t ht)⟩
theorem SRd.slice {v : Value} {ls : List B} {w : World} (h : SRd v ls w) : ∃ a c, v = .slice a ls.length c := by
  obtain ⟨a, c, hv, _⟩ := h
  exact ⟨a, c, hv⟩
theorem SRd.at {v : Value} {ls : List B} {w : World} (h : SRd v ls w) {i : Nat} {t : B} (ht : ls[i]? = some t) : ∃ g o c, v = .slice (some ⟨g, o, none⟩) ls.length c ∧ ls.length ≤ c ∧ w.cell? ⟨g, o + i, none⟩ = some (sV t) := by
  obtain ⟨a, c, hv, h⟩ := h
  obtain ⟨g, o, ha, hc, hp⟩ := h (by rintro rfl; simp at ht)
  rw [ha] at hv
  exact ⟨g, o, c, hv, hc, hp i t ht⟩
theorem OwnS.rd {B0 : Nat} {v : Value} {ls : List B} {w : World} (h : OwnS B0 v ls w) : SRd v ls w := by
  rcases h.2 with ⟨h1, h2⟩ | ⟨g, cap, cur, h1, _, _, hc, _⟩
  · exact ⟨none, 0, by rw [h1, h2], fun hne => absurd (List.length_eq_zero_iff.1 h2) hne⟩
  · refine ⟨some ⟨g, 0, none⟩, cap, h1, fun _ => ⟨g, 0, rfl, hc, fun i t ht => ?_⟩⟩
    have h' := h
    rw [h1] at h'
    have := World.ownsRow.cells h' rfl i (sV t) (by simp [ht])
    rwa [Addr.add_lit] at this
/-- within [B0, D): a row's block -/
def Und (D : Nat) (v : Value) : Prop := ∀ g, v.ownBlock = some g → g < D
theorem Und.mono {D D' : Nat} {v : Value} (h : Und D v) (hd : D ≤ D') : Und D' v := fun g hg => Nat.lt_of_lt_of_le (h g hg) hd
theorem OwnS.und {B0 : Nat} {v : Value} {ls : List B} {w : World} (h : OwnS B0 v ls w) : Und w.heap.size v := fun g hg => (World.ownsRow.lt h g hg).2
theorem OwnS.mono {B0 B1 : Nat} {v : Value} {ls : List B} {w : World} (h : OwnS B1 v ls w) (hB : B0 ≤ B1) : OwnS B0 v ls w := own_mono h hB
/-! below a place all but one block is as it was -/
structure Bo (B0 b : Nat) (w w' : World) : Prop where
  os : w'.os = w.os
  tape : w'.tape = w.tape
  output : w'.output = w.output
  size : w.heap.size ≤ w'.heap.size
  block : ∀ k, k < B0 → k ≠ b → w'.heap[k]? = w.heap[k]?
theorem Bo.refl (B0 b : Nat) (w : World) : Bo B0 b w w := ⟨rfl, rfl, rfl, Nat.le_refl _, fun _ _ _ => rfl⟩
theorem Bo.trans {B0 b : Nat} {w x y : World} (h : Bo B0 b w x) (k : Bo B0 b x y) : Bo B0 b w y :=
  ⟨k.os.trans h.os, k.tape.trans h.tape, k.output.trans h.output, Nat.le_trans h.size k.size, fun j hj hb => (k.block j hj hb).trans (h.block j hj hb)⟩
theorem Bo.mono {B0 B1 b : Nat} {w x : World} (h : Bo B1 b w x) (hB : B0 ≤ B1) : Bo B0 b w x := ⟨h.os, h.tape, h.output, h.size, fun k hk hb => h.block k (by omega) hb⟩
theorem Bo.of {B0 b : Nat} {w w' : World} (k : Kept w w') (hB : B0 ≤ w.heap.size) : Bo B0 b w w' := ⟨k.os, k.tape, k.output, k.size, fun j hj _ => k.block j (by omega)⟩
theorem Bo.set {B0 b : Nat} (w : World) (j : Nat) (v : Value) : Bo B0 b w (w.setCell ⟨b, j, none⟩ v) := ⟨rfl, rfl, rfl, by simp [World.setCell], fun k hk hb => Below.heap_setCell _ _ _ _ hb⟩
theorem Bo.grown {B0 b : Nat} {w w' : World} {row : Option Nat} (hg : w.grownBy w' row) (hB : B0 ≤ w.heap.size) (hr : ∀ k, row = some k → B0 ≤ k) : Bo B0 b w w' :=
  ⟨hg.os, hg.tape, hg.output, hg.size, fun k hk _ => hg.block k (by omega) (fun e => by have := hr k e.symm; omega)⟩
theorem Bo.kept {b : Nat} {w w' : World} (h : Bo (b + 1) b w w') (hb : w.heap.size = b) : Kept w w' := ⟨h.os, h.output, h.size, fun k hk => h.block k (by omega) (by omega), h.tape⟩
theorem Bo.yes {B0 b : Nat} {w w' : World} (h : Bo B0 b w w') {a : Addr} {v : Value} (hv : w.cell? a = some v) (h1 : a.block < B0) (h2 : a.block ≠ b) : w'.cell? a = some v := by
  unfold World.cell? at hv ⊢; rw [h.block _ h1 h2]; exact hv
/-! answers -/
theorem infoR : (Tryd.prog.info? 25).map (fun i => (i.zero, i.size, i.bytes)) = some (some (.agg #[.int .i64 0, .slice none 0 0, .int .i64 0, .int .i64 0, .int .i64 0]), 5, 56) := by kernel_rfl
abbrev r5 (x : Rep) (v : Value) : List Value := [iV x.1, v, iV x.2.2.1, iV x.2.2.2.1, iV x.2.2.2.2]
abbrev repV (x : Rep) (v : Value) : Value := .agg #[iV x.1, v, iV x.2.2.1, iV x.2.2.2.1, iV x.2.2.2.2]
def rpCells (l : List Rep) (vs : List Value) : List Value := (l.zip vs).flatMap fun p => r5 p.1 p.2
theorem rpCells_len : ∀ (l : List Rep) (vs : List Value), vs.length = l.length → (rpCells l vs).length = 5 * l.length
  | [], vs, h => by simp [rpCells]
  | x :: l, [], h => by simp at h
  | x :: l, v :: vs, h => by
    have := rpCells_len l vs (by simpa using h)
    simp only [rpCells, List.zip_cons_cons, List.flatMap_cons, List.length_append, List.length_cons, List.length_nil] at this ⊢
    omega
theorem rpCells_app {l m : List Rep} {vs us : List Value} (h : vs.length = l.length) : rpCells (l ++ m) (vs ++ us) = rpCells l vs ++ rpCells m us := by
  unfold rpCells
  rw [List.zip_append h.symm, List.flatMap_append]
theorem rpCells_at : ∀ {l : List Rep} {vs : List Value} {k : Nat} {x : Rep} {v : Value}, l[k]? = some x → vs[k]? = some v → (rpCells l vs)[k * 5]? = some (iV x.1) ∧ (rpCells l vs)[k * 5 + 1]? = some v ∧ (rpCells l vs)[k * 5 + 2]? = some (iV x.2.2.1) ∧ (rpCells l vs)[k * 5 + 3]? = some (iV x.2.2.2.1) ∧ (rpCells l vs)[k * 5 + 4]? = some (iV x.2.2.2.2)
  | [], vs, k, x, v, h, _ => by simp at h
  | y :: l, [], k, x, v, _, h => by simp at h
  | y :: l, u :: vs, 0, x, v, h, h2 => by
    simp only [List.getElem?_cons_zero, Option.some.injEq] at h h2
    subst h h2
    exact ⟨rfl, rfl, rfl, rfl, rfl⟩
  | y :: l, u :: vs, k + 1, x, v, h, h2 => by
    have := rpCells_at (l := l) (vs := vs) (k := k) (by simpa using h) (by simpa using h2)
    unfold rpCells at this ⊢
    rw [List.zip_cons_cons, List.flatMap_cons, show (k + 1) * 5 = k * 5 + 5 by omega, show k * 5 + 5 + 1 = k * 5 + 1 + 5 by omega, show k * 5 + 5 + 2 = k * 5 + 2 + 5 by omega, show k * 5 + 5 + 3 = k * 5 + 3 + 5 by omega, show k * 5 + 5 + 4 = k * 5 + 4 + 5 by omega]
    exact this
/-- the lines of answers, in rows of blocks from B0 up to below D -/
def AllU (B0 D : Nat) (vs : List Value) (l : List Rep) (w : World) : Prop := ∀ (i : Nat) (x : Rep) (v : Value), l[i]? = some x → vs[i]? = some v → OwnS B0 v x.2.1 w ∧ Und D v
/-- answers in a slice of the call's own -/
def RpU (B0 D : Nat) (v : Value) (l : List Rep) (w : World) : Prop :=
  ∃ vs : List Value, vs.length = l.length ∧ w.ownsRow B0 25 5 v l.length (rpCells l vs) ∧ AllU B0 D vs l w
theorem RpU.nil (B0 D : Nat) (w : World) : RpU B0 D (.slice none 0 0) [] w := ⟨[], rfl, World.ownsRow_nil _ _ _ _, fun i x v h => by simp at h⟩
theorem RpU.slice {B0 D : Nat} {v : Value} {l : List Rep} {w : World} (h : RpU B0 D v l w) : ∃ a c, v = .slice a l.length c := by
  obtain ⟨vs, _, h, _⟩ := h
  exact own_slice h
theorem AllU.mono {B0 B1 D D' : Nat} {vs : List Value} {l : List Rep} {w : World} (h : AllU B1 D vs l w) (hb : B0 ≤ B1) (hd : D ≤ D') : AllU B0 D' vs l w := fun i x v h1 h2 => ⟨(h i x v h1 h2).1.mono hb, (h i x v h1 h2).2.mono hd⟩
theorem RpU.mono {B0 B1 D D' : Nat} {v : Value} {l : List Rep} {w : World} (h : RpU B1 D v l w) (hb : B0 ≤ B1) (hd : D ≤ D') : RpU B0 D' v l w := by
  obtain ⟨vs, h1, h2, h3⟩ := h
  exact ⟨vs, h1, own_mono h2 hb, h3.mono hb hd⟩
/-- what turns is a row of texts from D on, or of another type -/
def Far (D : Nat) (w : World) (row : Option Nat) : Prop := ∀ r, row = some r → D ≤ r ∨ ∀ c, w.heap[r]? ≠ some (.cells c 9 (0, 0))
theorem Far.none {D : Nat} {w : World} : Far D w none := fun r h => by cases h
theorem Far.own {D : Nat} {w : World} {B0 : Nat} {e' : TypeId} {size : Nat} {v : Value} {n : Nat} {xs : List Value} (h : w.ownsRow B0 e' size v n xs) (hne : e' ≠ 9) : Far D w v.ownBlock := fun r hr => Or.inr (NoRow.own h hne r hr)
theorem Far.of {D : Nat} {w : World} {r : Nat} {c : Array Value} {e' : TypeId} {fz : Nat × Nat} (h : w.heap[r]? = some (.cells c e' fz)) (hne : e' ≠ 9) : Far D w (some r) := fun r' h' => Or.inr fun c' hc => by
  cases h'; rw [h] at hc; cases hc; exact hne rfl
theorem NoRow.of {e e' : TypeId} {w : World} {r : Nat} {c : Array Value} {fz : Nat × Nat} (h : w.heap[r]? = some (.cells c e' fz)) (hne : e' ≠ e) : NoRow e w (some r) := fun r' h' c' hc => by
  cases h'; rw [h] at hc; cases hc; exact hne rfl
theorem AllU.keep {B0 D : Nat} {vs : List Value} {l : List Rep} {w w' : World} {row : Option Nat} (h : AllU B0 D vs l w) (hg : w.grownBy w' row) (hr : Far D w row) : AllU B0 D vs l w' := fun i x v h1 h2 => by
  obtain ⟨q1, q2⟩ := h i x v h1 h2
  refine ⟨?_, q2⟩
  refine World.ownsRow.kept q1 hg ?_
  cases hv : v.ownBlock with
  | none => exact Or.inl rfl
  | some g =>
    refine Or.inr (fun e' => ?_)
    rcases hr g e'.symm with q | q
    · have := q2 g hv; omega
    · obtain ⟨c, hc⟩ := own_kind q1 g hv
      exact q c hc
theorem RpU.keep {B0 D : Nat} {v : Value} {l : List Rep} {w w' : World} {row : Option Nat} (h : RpU B0 D v l w) (hg : w.grownBy w' row) (hr : Far D w row) (hr2 : NoRow 25 w row) : RpU B0 D v l w' := by
  obtain ⟨vs, h1, h2, h3⟩ := h
  exact ⟨vs, h1, own_keep h2 hg hr2, h3.keep hg hr⟩
theorem RpU.kept {B0 D : Nat} {v : Value} {l : List Rep} {w w' : World} (h : RpU B0 D v l w) (k : Kept w w') : RpU B0 D v l w' := h.keep (k.grownBy none) Far.none NoRow.none
/-- answers, to be read -/
def RpAt (g o : Nat) (x : Rep) (w : World) : Prop := ∃ v, w.cell? ⟨g, o, none⟩ = some (iV x.1) ∧ w.cell? ⟨g, o + 1, none⟩ = some v ∧ w.cell? ⟨g, o + 2, none⟩ = some (iV x.2.2.1) ∧ w.cell? ⟨g, o + 3, none⟩ = some (iV x.2.2.2.1) ∧ w.cell? ⟨g, o + 4, none⟩ = some (iV x.2.2.2.2) ∧ SRd v x.2.1 w
def RpRd (v : Value) (l : List Rep) (w : World) : Prop := ∃ a c, v = .slice a l.length c ∧ (l ≠ [] → ∃ g o, a = some ⟨g, o, none⟩ ∧ l.length ≤ c ∧ ∀ (i : Nat) (x : Rep), l[i]? = some x → RpAt g (o + i * 5) x w)
theorem RpAt.kept {g o : Nat} {x : Rep} {w w' : World} (h : RpAt g o x w) (k : Kept w w') : RpAt g o x w' := by
  obtain ⟨v, h0, h1, h2, h3, h4, h5⟩ := h
  exact ⟨v, k.yes h0, k.yes h1, k.yes h2, k.yes h3, k.yes h4, h5.kept k⟩
theorem RpRd.kept {v : Value} {l : List Rep} {w w' : World} (h : RpRd v l w) (k : Kept w w') : RpRd v l w' := by
  obtain ⟨a, c, hv, h⟩ := h
  refine ⟨a, c, hv, fun hne => ?_⟩
  obtain ⟨g, o, ha, hc, h⟩ := h hne
  exact ⟨g, o, ha, hc, fun i e he => (h i e he).kept k⟩
theorem RpRd.slice {v : Value} {l : List Rep} {w : World} (h : RpRd v l w) : ∃ a c, v = .slice a l.length c := by
  obtain ⟨a, c, hv, _⟩ := h
  exact ⟨a, c, hv⟩
theorem RpRd.at {v : Value} {l : List Rep} {w : World} (h : RpRd v l w) {i : Nat} {x : Rep} (hx : l[i]? = some x) : ∃ g o c, v = .slice (some ⟨g, o, none⟩) l.length c ∧ l.length ≤ c ∧ RpAt g (o + i * 5) x w := by
  obtain ⟨a, c, hv, h⟩ := h
  obtain ⟨g, o, ha, hc, h⟩ := h (fun q => by rw [q] at hx; simp at hx)
  rw [ha] at hv
  exact ⟨g, o, c, hv, hc, h i x hx⟩
theorem RpRd.nil (w : World) : RpRd (.slice none 0 0) [] w := ⟨none, 0, rfl, fun h => absurd rfl h⟩
theorem RpU.rd {B0 D : Nat} {v : Value} {l : List Rep} {w : World} (h : RpU B0 D v l w) : RpRd v l w := by
  obtain ⟨vs, h1, h2, h3⟩ := h
  by_cases hne : l = []
  · obtain ⟨a, c, hv⟩ := own_slice h2
    exact ⟨a, c, hv, fun q => absurd hne q⟩
  · obtain ⟨g, cap, hv, hc, _⟩ := own_some h2 (fun e => hne (List.length_eq_zero_iff.1 e))
    refine ⟨_, cap, hv, fun _ => ⟨g, 0, rfl, hc, fun i x hx => ?_⟩⟩
    have hi := (List.getElem?_eq_some_iff.1 hx).1
    obtain ⟨u, hu⟩ : ∃ u, vs[i]? = some u := ⟨_, List.getElem?_eq_getElem (by omega)⟩
    rw [hv] at h2
    obtain ⟨f0, f1, f2, f3, f4⟩ := rpCells_at hx hu
    rw [Nat.zero_add]
    exact ⟨u, by rw [World.ownsRow.cellAt h2 (i * 5) (by omega), f0], by rw [World.ownsRow.cellAt h2 (i * 5 + 1) (by omega), f1], by rw [World.ownsRow.cellAt h2 (i * 5 + 2) (by omega), f2], by rw [World.ownsRow.cellAt h2 (i * 5 + 3) (by omega), f3], by rw [World.ownsRow.cellAt h2 (i * 5 + 4) (by omega), f4], (h3 i x u hx hu).1.rd⟩
theorem AllU.snoc {B0 D : Nat} {vs : List Value} {l : List Rep} {w : World} (h : AllU B0 D vs l w) (hl : vs.length = l.length) {x : Rep} {v : Value} (hx : OwnS B0 v x.2.1 w) (hu : Und D v) : AllU B0 D (vs ++ [v]) (l ++ [x]) w := by
  intro i x' v' h1 h2
  by_cases q : i < l.length
  · rw [List.getElem?_append_left q] at h1
    rw [List.getElem?_append_left (by omega)] at h2
    exact h i x' v' h1 h2
  · rw [List.getElem?_append_right (by omega)] at h1
    rw [List.getElem?_append_right (by omega), hl] at h2
    have hi : i - l.length = 0 := by
      by_cases q2 : i - l.length = 0
      · exact q2
      · rw [List.getElem?_eq_none (by simp; omega)] at h1; cases h1
    rw [hi] at h1 h2
    simp only [List.getElem?_cons_zero, Option.some.injEq] at h1 h2
    subst h1 h2
    exact ⟨hx, hu⟩
/-- an answer more -/
theorem run_pushR (w : World) (B0 D : Nat) (ty : TypeId) (v : Value) (l : List Rep) (x : Rep) (lv : Value) (k : Nat) (hO : RpU B0 D v l w) (hL : OwnS B0 lv x.2.1 w) (hLU : Und D lv)
    (h0 : w.cell? ⟨k, 0, none⟩ = some (iV x.1)) (h1 : w.cell? ⟨k, 1, none⟩ = some lv) (h2 : w.cell? ⟨k, 2, none⟩ = some (iV x.2.2.1)) (h3 : w.cell? ⟨k, 3, none⟩ = some (iV x.2.2.2.1)) (h4 : w.cell? ⟨k, 4, none⟩ = some (iV x.2.2.2.2)) (hl : l.length ≤ 10000000) (hB : B0 ≤ w.heap.size) :
    ∃ v' w', (Builtin.append_ #[32, 32] ty #[v, .slice (some ⟨k, 0, none⟩) 1 1]).run Tryd.prog w = .ok v' w' ∧ RpU B0 D v' (l ++ [x]) w' ∧ w.grownBy w' v.ownBlock ∧ (v'.ownBlock = v.ownBlock ∨ v'.ownBlock = some w.heap.size) ∧ (∃ vs, w.ownsRow B0 25 5 v l.length (rpCells l vs)) := by
  obtain ⟨i0, hi, hz0, hz1, hz2⟩ := info_parts infoR
  obtain ⟨vs, hv, hR, hA⟩ := hO
  obtain ⟨la, lc, hlv⟩ := own_slice hL
  obtain ⟨v', w', hr, q2, q3, _, q5⟩ := run_append_own_at (P := Tryd.prog) (w := w) B0 32 ty 25 i0 _ 5 56 Tryd.underlying32 hi hz0 hz1 hz2 rfl (by decide) v l.length (rpCells l vs) hR ⟨k, 0, none⟩ 1 1 (r5 x lv) rfl (fun j u hj => by
    match j, hj with
    | 0, hj => simp at hj; subst hj; simpa [Addr.add] using h0
    | 1, hj => simp at hj; subst hj; simpa [Addr.add] using h1
    | 2, hj => simp at hj; subst hj; simpa [Addr.add] using h2
    | 3, hj => simp at hj; subst hj; simpa [Addr.add] using h3
    | 4, hj => simp at hj; subst hj; simpa [Addr.add] using h4) (fun u hu => by simp at hu; rcases hu with rfl | rfl | rfl | rfl | rfl <;> first | rfl | (rw [hlv]; rfl)) (by unfold maxLen; omega) (by omega) hB
  refine ⟨v', w', hr, ⟨vs ++ [lv], by simp [hv], ?_, (hA.keep q3 (Far.own hR (by decide))).snoc hv (own_keep hL q3 (NoRow.own hR (by decide))) hLU⟩, q3, q5, vs, hR⟩
  rw [List.length_append, rpCells_app hv]
  simpa [rpCells] using q2
/-! the reader -/
theorem infoD : (Tryd.prog.info? 59).map (fun i => (i.zero, i.size)) = some (some (.agg #[.bool false, .int .i64 0, .slice none 0 0, .int .i64 0, .int .i64 0, .int .i64 0, .string ⟨#[]⟩]), 7) := by kernel_rfl
abbrev pV (b : Nat) : Value := .pointer (some ⟨b, 0, none⟩)
/-- a reader's block -/
def RdB (b : Nat) (bad : Bool) (c : Int) (lv : Value) (r : B) (w : World) : Prop := w.heap[b]? = some (.cells #[.bool bad, iV c, lv, iV 0, iV 0, iV 0, sV r] 59 (0, 0))
section
variable {b : Nat} {bad : Bool} {c : Int} {lv : Value} {r : B} {w w' : World}
theorem RdB.lt (h : RdB b bad c lv r w) : b < w.heap.size := (Array.getElem?_eq_some_iff.1 h).1
theorem RdB.cs (h : RdB b bad c lv r w) : w.cell? ⟨b, 0, none⟩ = some (.bool bad) ∧ w.cell? ⟨b, 1, none⟩ = some (iV c) ∧ w.cell? ⟨b, 2, none⟩ = some lv ∧ w.cell? ⟨b, 3, none⟩ = some (iV 0) ∧ w.cell? ⟨b, 4, none⟩ = some (iV 0) ∧ w.cell? ⟨b, 5, none⟩ = some (iV 0) ∧ w.cell? ⟨b, 6, none⟩ = some (sV r) :=
  ⟨cell_at h rfl, cell_at h rfl, cell_at h rfl, cell_at h rfl, cell_at h rfl, cell_at h rfl, cell_at h rfl⟩
theorem RdB.frz (h : RdB b bad c lv r w) (j : Nat) : w.frozen? ⟨b, j, none⟩ = false := by unfold RdB at h; simp [World.frozen?, h]
theorem RdB.kept (h : RdB b bad c lv r w) (k : Kept w w') : RdB b bad c lv r w' := (k.block _ h.lt).trans h
theorem RdB.grow {row : Option Nat} (h : RdB b bad c lv r w) (hg : w.grownBy w' row) (hr : NoRow 59 w row) : RdB b bad c lv r w' := (hg.block b h.lt (fun e' => hr b e'.symm _ h)).trans h
theorem RdB.setC (h : RdB b bad c lv r w) (c' : Int) : RdB b bad c' lv r (w.setCell ⟨b, 1, none⟩ (iV c')) := by
  unfold RdB at h ⊢
  simp [World.setCell, Array.getElem?_modify, h]
theorem RdB.setL (h : RdB b bad c lv r w) (lv' : Value) : RdB b bad c lv' r (w.setCell ⟨b, 2, none⟩ lv') := by
  unfold RdB at h ⊢
  simp [World.setCell, Array.getElem?_modify, h]
theorem RdB.setR (h : RdB b bad c lv r w) (r' : B) : RdB b bad c lv r' (w.setCell ⟨b, 6, none⟩ (sV r')) := by
  unfold RdB at h ⊢
  simp [World.setCell, Array.getElem?_modify, h]
end
/-- what a reader holds -/
def RS (D b : Nat) (s : Option St) (w : World) : Prop := b < D ∧ D ≤ w.heap.size ∧ match s with
  | none => RdB b true 0 (.slice none 0 0) [] w
  | some s => ∃ lv, RdB b false s.1 lv s.2.2 w ∧ OwnS D lv s.2.1 w
end Go.Proofs.YtdfmnjoklehifaaDoor.Bk.Rp
