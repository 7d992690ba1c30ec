/- Several texts of this seat, one behind the other. -/
import Derived.Test.YtgpocnnolieijaaGreatDoorChecked
import Derived.Below
import Derived.RowKit3
import Derived.Lib.LaidTab
import Derived.WalkKit
import Derived.ProofKit
import Derived.Lib.Hide
import Derived.Sort.Grow
import Derived.Deep.Draws
import Derived.Laws.AppendOwnNone
import Derived.Lib.AppendStr
import Derived.Maps.AppendAt
import Derived.Laws.IdiomStrings
import Derived.Lib.ConvBytes
import Derived.RowKit
import Derived.KernelRfl
import Derived.Lib.Bytealg
import Derived.Lib.TrimByte
import Derived.Lib.Replace
import Derived.Deep.Cut
import Derived.Deep.QuietTactic
import Derived.BigQuiet
import Derived.RegionTactic
import Derived.ChangeAlike
/- The frame of a call: what lay in memory when it began lies there still (blocks may have come behind). -/
set_option linter.unusedSimpArgs false
set_option linter.unusedVariables false
namespace Go.Proofs.YtgpocnnolieijaaGreatDoor
open Go.ChangeShapes Go.WideShapes Go.ChangeAt Go.RowKit

structure Kept (w w' : World) : Prop where
  os : w'.os = w.os
  output : w'.output = w.output
  size : w.heap.size ≤ w'.heap.size
  block : ∀ k, k < w.heap.size → w'.heap[k]? = w.heap[k]?
  tape : w'.tape = w.tape

theorem Kept.refl (w : World) : Kept w w := ⟨rfl, rfl, Nat.le_refl _, fun _ _ => rfl, rfl⟩
theorem Kept.trans {a b c : World} (h : Kept a b) (k : Kept b c) : Kept a c :=
  ⟨k.os.trans h.os, k.output.trans h.output, Nat.le_trans h.size k.size, fun i hi => (k.block i (Nat.lt_of_lt_of_le hi h.size)).trans (h.block i hi), k.tape.trans h.tape⟩
theorem Kept.of_eq {w w' : World} (h : w = w') : Kept w w' := h ▸ Kept.refl w
theorem Kept.of_below {w w' : World} (h : Below w.heap.size w w') : Kept w w' := ⟨h.os, h.output, h.size, h.block, h.tape⟩
theorem Kept.of_grown {w w' : World} (h : Kept w w') : Kept w w' := h
theorem Kept.drew {w w' : World} (h : Kept w w') : Kept w w'.drew := ⟨h.os, h.output, h.size, h.block, h.tape⟩
theorem Kept.grownBy {w w' : World} (h : Kept w w') (row : Option Nat) : w.grownBy w' row := ⟨h.os, h.tape, h.output, h.size, fun k hk _ => h.block k hk⟩
theorem Kept.below {w w' : World} (h : Kept w w') {B : Nat} (hB : B ≤ w.heap.size) : Below B w w' := ⟨h.os, h.tape, h.output, h.size, fun k hk => h.block k (Nat.lt_of_lt_of_le hk hB)⟩
theorem Kept.drewN {w w' : World} (h : Kept w w') (n : Nat) : Kept w (w'.drewN n) := ⟨h.os, h.output, h.size, h.block, h.tape⟩
theorem Kept.alloc {w w' : World} (h : Kept w w') (o : Obj) : Kept w (w'.alloc o) :=
  h.trans ⟨rfl, rfl, by simp, fun k hk => Below.heap_alloc _ _ _ hk, rfl⟩
theorem Kept.setCell {w w' : World} (h : Kept w w') {a : Addr} (ha : w.heap.size ≤ a.block) (v : Value) : Kept w (w'.setCell a v) :=
  ⟨h.os, h.output, by simpa [World.setCell] using h.size, fun k hk => (Below.heap_setCell _ _ _ _ (by omega)).trans (h.block k hk), h.tape⟩
theorem Kept.grow {w w' : World} (h : Kept w w') (os : Array Obj) : Kept w (Go.Sort.grow w' os) :=
  h.trans ⟨rfl, rfl, by show _ ≤ (w'.heap ++ os).size; simp, fun k hk => by show (w'.heap ++ os)[k]? = _; rw [Array.getElem?_append_left hk], rfl⟩
theorem Kept.cell {w w' : World} (h : Kept w w') {a : Addr} (ha : a.block < w.heap.size) : w'.cell? a = w.cell? a := by
  unfold World.cell?; rw [h.block _ ha]
theorem Kept.frozen {w w' : World} (h : Kept w w') {a : Addr} (ha : a.block < w.heap.size) : w'.frozen? a = w.frozen? a := by
  unfold World.frozen?; rw [h.block _ ha]
theorem Kept.var {w w' : World} (h : Kept w w') {P : Program} {n : String} {x : Array Value} (hx : w.var? P n = some x) : w'.var? P n = some x := by
  unfold World.var? at hx ⊢
  cases hg : P.globalNamed n with
  | none => rw [hg] at hx; simp at hx
  | some g =>
    rw [hg] at hx
    simp only [Option.bind_some] at hx ⊢
    have hlt : g < w.heap.size := by
      by_cases hl : g < w.heap.size
      · exact hl
      · rw [Array.getElem?_eq_none (by omega)] at hx; simp at hx
    rw [h.block g hlt]; exact hx
theorem Kept.tab {w w' : World} (h : Kept w w') {P : Program} {n : String} {k : IntKind} {zs : List Int} (hx : Lib.TabIs P w n k zs) : Lib.TabIs P w' n k zs := h.var hx
theorem Kept.but {w w' : World} (h : Kept w w') (may : MemPlace → Prop) : w.keptBut w' may := by
  refine ⟨h.os, h.output, fun i hi => ?_⟩
  rw [h.block i hi]
  rcases w.heap[i]? with _ | ⟨c, t, fr⟩ | ⟨es, ck⟩ <;> simp

theorem Kept.back {w w1 : World} {o : Obj} (k : Kept (w.alloc o) w1) : Kept w w1 := ((Kept.refl w).alloc o).trans k
/-- A block that was laid ahead of a call reads behind it as it did. -/
theorem Kept.new {w w1 : World} {cs : Array Value} {t : TypeId} (k : Kept (w.alloc (.cells cs t)) w1) (j : Nat) {v : Value} (h : cs[j]? = some v) : w1.cell? ⟨w.heap.size, j, none⟩ = some v := by
  have hb : w1.heap[w.heap.size]? = some (.cells cs t) := by
    rw [k.block w.heap.size (by simp)]
    show (w.heap.push _)[w.heap.size]? = _
    simp
  simp [World.cell?, hb, h]
theorem Kept.new2 {w w1 : World} {cs : Array Value} {t : TypeId} (k : Kept (w.alloc (.cells cs t)) w1) (j : Nat) {v : Value} (h : cs[j]? = some v) : ∀ o, (w1.alloc o).cell? ⟨w.heap.size, j, none⟩ = some v := fun o =>
  (((Kept.refl w1).alloc o).cell (a := ⟨w.heap.size, j, none⟩) (by show w.heap.size < w1.heap.size; have := k.size; simp at this; omega)).trans (k.new j h)
theorem Kept.newF {w w1 : World} {cs : Array Value} {t : TypeId} (k : Kept (w.alloc (.cells cs t)) w1) (j : Nat) : w1.frozen? ⟨w.heap.size, j, none⟩ = false := by
  have hb : w1.heap[w.heap.size]? = some (.cells cs t) := by
    rw [k.block w.heap.size (by simp)]
    show (w.heap.push _)[w.heap.size]? = _
    simp
  simp [World.frozen?, hb]
/-- What the row asks of a call that answers as it should and keeps what lay in memory. -/
theorem post_of_kept {P : Program} {H : Type} {enc : TypeId × Value → H} {f : Func} {s : ChangeSpec} {apart fresh handsOn again : Bool} {W W' : World} {args : Array Value} {v : Value} {ds gs : List (DataW H)} {before pa pv : List MemPlace}
    (hW : DataW.Whole enc P f.params.toList s.vars apart W args.toList ds gs before)
    (hres : ∀ (b : Nat) (sp : Nat → Bool) (hd : Bool), DataW.TrodAll enc P W' b sp hd f.resultTypes.toList (v.resultList f.resultTypes.size) (s.fn H (ds ++ gs)).results [])
    (hargs : ∀ sp : Nat → Bool, (∀ p ∈ before, sp p.block = true) → DataW.TrodAll enc P W' 0 sp true f.params.toList args.toList (s.fn H (ds ++ gs)).args pa)
    (hvars : ∀ sp : Nat → Bool, (∀ p ∈ before, sp p.block = true) → DataW.TrodVars enc P W' sp s.vars (s.fn H (ds ++ gs)).vars pv)
    (hps : before = pa ++ pv) (hk : Kept W W')
    (hok : ∀ (j : Nat) (t : TypeId) (r : Value), f.resultTypes[j]? = some t → (v.resultList f.resultTypes.size)[j]? = some r → Value.okWide P W' .any 0 t r) :
    s.post enc P f apart fresh handsOn again W args v W' := by
  have hold : ∀ p ∈ before, (fun b => decide (b < W.heap.size)) p.block = true := fun p hp => by simpa using hW.lt p hp
  refine ⟨ds, gs, before, [], pa, pv, hW, hres _ _ _, hargs _ hold, hvars _ hold, World.keptBut_mono (fun p hp => ⟨hp, ?_⟩) (hk.but (· ∈ before)), fun _ => ?_⟩
  · rw [hps, List.mem_append] at hp
    exact Or.inr hp
  · have hlt := hW.lt
    obtain ⟨_, _, _, _, _, hz, hn⟩ := hW
    refine ⟨hok, _, _, ([] ++ pa) ++ pv, ⟨[] ++ pa, pv, trodAll_append (hargs _ (fun _ _ => rfl)) (hres _ _ _), hvars _ (fun _ _ => rfl), rfl, ?_, ?_⟩, ?_⟩
    · intro b off hp
      have hp' : MemPlace.cell b off ∈ before := by rw [hps]; simpa using hp
      rw [hk.frozen (hlt _ hp')]
      exact hz b off hp'
    · intro ha
      have := hn ha
      rw [hps] at this
      simpa using this
    · intro p hp _
      rw [hps]
      simpa using hp
end Go.Proofs.YtgpocnnolieijaaGreatDoor
/- Rows of bytes: a call's own, and those that are read; a text made bytes, bytes made a text. -/
set_option linter.unusedSimpArgs false
set_option linter.unusedVariables false
namespace Go.Proofs.YtgpocnnolieijaaGreatDoor
open Go.ChangeShapes Go.WideShapes Go.ChangeAt Go.RowKit
abbrev B := List UInt8
abbrev sV (s : B) : Value := .string ⟨s.toArray⟩
abbrev iV (n : Int) : Value := .int .i64 n
theorem info8 : (Tryz.prog.info? 5).map (fun i => (i.zero, i.size, i.bytes)) = some (some (.int .u8 0), 1, 1) := by kernel_rfl
theorem byte_at (l : List UInt8) (k : Nat) (a : UInt8) (h : l[k]? = some a) (hk : k < (ByteArray.mk l.toArray).size) : (ByteArray.mk l.toArray)[k]'hk = a := by
  obtain ⟨h1, h2⟩ := List.getElem?_eq_some_iff.1 h
  rw [← h2]; rfl
theorem eb_ret {a b : Bool} (h : a = b) : Ending.returned (.bool a) = .returned (.bool b) := by rw [h]
/-- the cells of bytes -/
abbrev byteCells (l : List UInt8) : List Value := l.map fun b => Value.int .u8 (b.toNat : Int)
theorem str_cells (l : List UInt8) : Lib.strCells ⟨l.toArray⟩ = byteCells l := by simp [Lib.strCells, byteCells]
theorem byteCells_app (a b : List UInt8) : byteCells (a ++ b) = byteCells a ++ byteCells b := by simp [byteCells]
theorem cell_lt {w : World} {a : Addr} {v : Value} (h : w.cell? a = some v) : a.block < w.heap.size := by
  by_cases q : a.block < w.heap.size
  · exact q
  · unfold World.cell? at h
    rw [Array.getElem?_eq_none (by omega)] at h
    simp at h
set_option maxRecDepth 100000 in
theorem Kept.yes {w w' : World} (k : Kept w w') {a : Addr} {v : Value} (h : w.cell? a = some v) : w'.cell? a = some v := (k.cell (cell_lt h)).trans h
theorem own_kind {w : World} {B0 : Nat} {e : TypeId} {size : Nat} {v : Value} {n : Nat} {xs : List Value} (h : w.ownsRow B0 e size v n xs) : ∀ g, v.ownBlock = some g → ∃ c, w.heap[g]? = some (.cells c e (0, 0)) := by
  intro g hg
  rcases h.2 with ⟨rfl, _⟩ | ⟨g', cap, cur, rfl, _, hh, _⟩
  · simp [Value.ownBlock] at hg
  · simp [Value.ownBlock] at hg
    subst hg
    exact ⟨cur, hh⟩
/-- what turns is a row of none of these types -/
def NoRow (e : TypeId) (w : World) (row : Option Nat) : Prop := ∀ r, row = some r → ∀ c, w.heap[r]? ≠ some (.cells c e (0, 0))
theorem own_keep {w w' : World} {B0 : Nat} {e : TypeId} {size : Nat} {v : Value} {n : Nat} {xs : List Value} {row : Option Nat} (h : w.ownsRow B0 e size v n xs) (hg : w.grownBy w' row) (hr : NoRow e w row) : w'.ownsRow B0 e size v n xs := by
  refine World.ownsRow.kept h hg ?_
  cases hv : v.ownBlock with
  | none => exact Or.inl rfl
  | some g =>
    refine Or.inr (fun e' => ?_)
    obtain ⟨c, hc⟩ := own_kind h g hv
    exact hr g e'.symm c hc
theorem NoRow.none {e : TypeId} {w : World} : NoRow e w none := fun r h => by cases h
theorem NoRow.own {w : World} {B0 : Nat} {e e' : TypeId} {size : Nat} {v : Value} {n : Nat} {xs : List Value} (h : w.ownsRow B0 e' size v n xs) (hne : e' ≠ e) : NoRow e w v.ownBlock := fun r hr c hc => by
  obtain ⟨c', hc'⟩ := own_kind h r hr
  rw [hc'] at hc
  cases hc
  exact hne rfl
theorem own_slice {w : World} {B0 : Nat} {e : TypeId} {size : Nat} {v : Value} {n : Nat} {xs : List Value} (h : w.ownsRow B0 e size v n xs) : ∃ ao cap, v = .slice ao n cap := by
  rcases h.2 with ⟨h1, h2⟩ | ⟨g, cap, _, h1, _⟩
  · exact ⟨none, 0, by rw [h1, h2]⟩
  · exact ⟨_, _, h1⟩
theorem own_some {w : World} {B0 : Nat} {e : TypeId} {size : Nat} {v : Value} {n : Nat} {xs : List Value} (h : w.ownsRow B0 e size v n xs) (hn : n ≠ 0) : ∃ g cap, v = .slice (some ⟨g, 0, none⟩) n cap ∧ n ≤ cap ∧ cap ≤ maxLen := by
  rcases h.2 with ⟨_, h2⟩ | ⟨g, cap, _, h1, _, _, h2, h3, _⟩
  · exact absurd h2 hn
  · exact ⟨g, cap, h1, h2, h3⟩
theorem own_mono {w : World} {B0 B1 : Nat} {e : TypeId} {size : Nat} {v : Value} {n : Nat} {xs : List Value} (h : w.ownsRow B1 e size v n xs) (hB : B0 ≤ B1) : w.ownsRow B0 e size v n xs := by
  refine ⟨h.1, ?_⟩
  rcases h.2 with h2 | ⟨g, cap, cur, h1, h2, h3⟩
  · exact Or.inl h2
  · exact Or.inr ⟨g, cap, cur, h1, Nat.le_trans hB h2, h3⟩
/-- bytes, to be read -/
def BRd (v : Value) (l : B) (w : World) : Prop := ∃ a c, v = .slice a l.length c ∧ (a = none → c = 0) ∧ (l ≠ [] → ∃ g o, a = some ⟨g, o, none⟩ ∧ l.length ≤ c ∧ ∀ (i : Nat) (x : UInt8), l[i]? = some x → w.cell? ⟨g, o + i, none⟩ = some (.int .u8 x.toNat))
theorem BRd.kept {v : Value} {l : B} {w w' : World} (h : BRd v l w) (k : Kept w w') : BRd v l w' := by
  obtain ⟨a, c, hv, hz, h⟩ := h
  refine ⟨a, c, hv, hz, fun hne => ?_⟩
  obtain ⟨g, o, ha, hc, h⟩ := h hne
  exact ⟨g, o, ha, hc, fun i t ht => k.yes (h i t ht)⟩
theorem BRd.slice {v : Value} {l : B} {w : World} (h : BRd v l w) : ∃ a c, v = .slice a l.length c := by
  obtain ⟨a, c, hv, _⟩ := h
  exact ⟨a, c, hv⟩
/-- a byte that is there lies there -/
theorem BRd.at {v : Value} {l : B} {w : World} (h : BRd v l w) {i : Nat} {x : UInt8} (hx : l[i]? = some x) : ∃ g o c, v = .slice (some ⟨g, o, none⟩) l.length c ∧ l.length ≤ c ∧ w.cell? ⟨g, o + i, none⟩ = some (.int .u8 x.toNat) := by
  obtain ⟨a, c, hv, _, h⟩ := h
  obtain ⟨g, o, ha, hc, hp⟩ := h (by rintro rfl; simp at hx)
  rw [ha] at hv
  exact ⟨g, o, c, hv, hc, hp i x hx⟩
theorem conv_none (c : Nat) (w : World) : (convert 26 9 (.slice none 0 c)).run Tryz.prog w = .ok (sV []) w := by kernel_rfl
theorem BRd.conv {v : Value} {l : B} {w : World} (h : BRd v l w) : (convert 26 9 v).run Tryz.prog w = .ok (sV l) w := by
  obtain ⟨a, c, rfl, _, h⟩ := h
  cases l with
  | nil =>
    cases a with
    | none => exact conv_none c w
    | some a => exact run_convert_bytes_back w _ _ _ a c [] Tryz.underlying26 Tryz.underlying5 Tryz.underlying9 (fun j hj => absurd hj (by simp))
  | cons b l =>
    obtain ⟨g, o, rfl, hc, h⟩ := h (by simp)
    exact run_convert_bytes_back w _ _ _ ⟨g, o, none⟩ c (b :: l) Tryz.underlying26 Tryz.underlying5 Tryz.underlying9 (fun j hj => by rw [Addr.add_lit]; exact h j _ (List.getElem?_eq_getElem hj))
theorem str_app (a b : B) : (⟨a.toArray⟩ ++ ⟨b.toArray⟩ : ByteArray) = ⟨(a ++ b).toArray⟩ := by
  apply ByteArray.ext; simp [ByteArray.data_append]
theorem str_lit (s : B) : (⟨s.toArray⟩ : ByteArray).size = s.length := by simp [ByteArray.size]
/-- bytes of a text -/
theorem to_bytes (s : B) (w : World) : ∃ c w', (convert 9 26 (sV s)).run Tryz.prog w = .ok (.slice (some ⟨w.heap.size, 0, none⟩) s.length c) w' ∧ Kept w w' ∧ BRd (.slice (some ⟨w.heap.size, 0, none⟩) s.length c) s w' := by
  have h := Lib.run_convert_string_bytes (P := Tryz.prog) w 9 26 5 ⟨s.toArray⟩ Tryz.underlying9 Tryz.underlying26 Tryz.underlying5
  rw [str_lit] at h
  refine ⟨_, _, h, ?_, ?_⟩
  · exact ⟨rfl, rfl, by rw [Lib.bytesWorld_size]; omega, fun k hk => Lib.bytesWorld_at_old w _ _ k hk, rfl⟩
  · refine ⟨_, _, rfl, fun e => (by cases e), fun _ => ⟨_, _, rfl, grownCap_ge _ _ _ _, fun i x hx => ?_⟩⟩
    have hi : i < s.length := (List.getElem?_eq_some_iff.1 hx).1
    rw [Nat.zero_add, Lib.bytesWorld_cell w _ _ i (by rw [str_lit]; exact hi)]
    simp [List.getD, hx]
theorem kept_row {w y z : World} {row : Option Nat} (k : Kept w y) (hg : y.grownBy z row) (hr : ∀ g, row = some g → w.heap.size ≤ g) : Kept w z :=
  ⟨hg.os.trans k.os, hg.output.trans k.output, Nat.le_trans k.size hg.size, fun j hj => (hg.block j (Nat.lt_of_lt_of_le hj k.size) (fun e => by have := hr j e.symm; omega)).trans (k.block j hj), hg.tape.trans k.tape⟩
theorem grown_cell {y z : World} {row : Option Nat} {a : Addr} {v : Value} (hg : y.grownBy z row) (h : y.cell? a = some v) (hne : row ≠ some a.block) : z.cell? a = some v := by
  have hlt : a.block < y.heap.size := by
    unfold World.cell? at h
    split at h
    · rename_i c e1 e2 hb; exact (Array.getElem?_eq_some_iff.1 hb).1
    · cases h
  have hb := hg.block a.block hlt (Ne.symm hne)
  unfold World.cell? at h ⊢
  rw [hb]
  exact h
/-- bytes in a slice of the call's own -/
def OwnB (B0 : Nat) (v : Value) (l : B) (w : World) : Prop := w.ownsRow B0 5 1 v l.length (byteCells l)
theorem OwnB.nil (B0 : Nat) (w : World) : OwnB B0 (.slice none 0 0) [] w := World.ownsRow_nil _ _ _ _
theorem OwnB.kept {B0 : Nat} {v : Value} {l : B} {w w' : World} (h : OwnB B0 v l w) (k : Kept w w') : OwnB B0 v l w' := own_keep h (k.grownBy none) (fun r hr => by cases hr)
theorem OwnB.rd {B0 : Nat} {v : Value} {l : B} {w : World} (h : OwnB B0 v l w) : BRd v l w := by
  rcases h.2 with ⟨h1, h2⟩ | ⟨g, cap, cur, h1, _, _, hc, _⟩
  · refine ⟨none, 0, by rw [h1, h2], fun _ => rfl, fun hne => absurd (List.length_eq_zero_iff.1 h2) hne⟩
  · refine ⟨some ⟨g, 0, none⟩, cap, h1, fun e => (by cases e), fun hne => ⟨g, 0, rfl, hc, fun i x hx => ?_⟩⟩
    have h' := h
    rw [h1] at h'
    have := World.ownsRow.cells h' rfl i (.int .u8 x.toNat) (by simp [byteCells, hx])
    rwa [Addr.add_lit] at this
/-- a text more -/
theorem wp_strB {op : Oper} {a : Act} {w : World} {K : Act → World → Prop} {Q : Exit → Act → World → Prop} (sx x : Operand) (ho : op.op = .call { callee := .builtin .append, args := #[sx, x], argTypes := #[26, 9] })
    (B0 : Nat) (v : Value) (l t : B) (hs : a.eval sx = v) (hO : OwnB B0 v l w) (hx : a.eval x = .string ⟨t.toArray⟩) (hl : l.length + t.length ≤ 100000000000000) (hB : B0 ≤ w.heap.size)
    (h : ∀ v' w', OwnB B0 v' (l ++ t) w' → w.grownBy w' v.ownBlock → K (a.put op.dst v') w') : op.wp Tryz.prog a w K Q := by
  obtain ⟨i0, hi, hz0, hz1, hz2⟩ := info_parts info8
  have hsz : (ByteArray.mk t.toArray).size = t.length := List.size_toArray
  obtain ⟨v', w', hr, h2, h3, h4⟩ := Lib.run_append_own_string (P := Tryz.prog) w B0 26 9 op.type 5 i0 Tryz.underlying26 Tryz.underlying9 hi hz0 hz1 hz2 v l.length (byteCells l) hO ⟨t.toArray⟩ (by rw [hsz]; unfold maxLen; omega) (by rw [hsz]; omega) hB
  rw [hsz, str_cells, ← byteCells_app] at h2
  unfold Oper.wp execOp
  simp only [ho, resolve, invoke, builtin, Sem.run_bind, Sem.run_pure, Result.andThen_ok, List.map_toArray, List.map_cons, List.map_nil, hs, hx, hr]
  exact h v' w' (by unfold OwnB; rw [List.length_append]; exact h2) h3
/-- a byte more -/
theorem wp_byteB {op : Oper} {a : Act} {w : World} {K : Act → World → Prop} {Q : Exit → Act → World → Prop} (sx x : Operand) (ho : op.op = .call { callee := .builtin .append, args := #[sx, x], argTypes := #[26, 26] })
    (B0 : Nat) (v : Value) (l : B) (t : UInt8) (k : Nat) (hs : a.eval sx = v) (hO : OwnB B0 v l w) (hx : a.eval x = .slice (some ⟨k, 0, none⟩) 1 1) (hc : w.cell? ⟨k, 0, none⟩ = some (.int .u8 t.toNat)) (hl : l.length ≤ 100000000000000) (hB : B0 ≤ w.heap.size)
    (h : ∀ v' w', OwnB B0 v' (l ++ [t]) w' → w.grownBy w' v.ownBlock → K (a.put op.dst v') w') : op.wp Tryz.prog a w K Q := by
  obtain ⟨i0, hi, hz0, hz1, hz2⟩ := info_parts info8
  refine wp_append_own w sx x 26 ho B0 5 i0 _ 1 1 Tryz.underlying26 hi hz0 hz1 hz2 rfl (by decide) v l.length (byteCells l) hs hO ⟨k, 0, none⟩ 1 1 [.int .u8 t.toNat] hx rfl (fun j u hj => ?_) (fun u hu => by simp at hu; subst hu; rfl) (by unfold maxLen; omega) (by omega) hB ?_
  · match j, hj with
    | 0, hj => simp at hj; subst hj; simpa [Addr.add] using hc
  · intro v' w' h2 h3 _
    refine h v' w' ?_ h3
    unfold OwnB
    rw [List.length_append, byteCells_app]
    exact h2
/-- bytes more, of a slice that is read -/
theorem wp_sliceB {op : Oper} {a : Act} {w : World} {K : Act → World → Prop} {Q : Exit → Act → World → Prop} (sx x : Operand) (ho : op.op = .call { callee := .builtin .append, args := #[sx, x], argTypes := #[26, 26] })
    (B0 : Nat) (v xv : Value) (l t : B) (hs : a.eval sx = v) (hO : OwnB B0 v l w) (hx : a.eval x = xv) (hR : BRd xv t w) (hl : l.length + t.length ≤ 100000000000000) (hB : B0 ≤ w.heap.size)
    (h : ∀ v' w', OwnB B0 v' (l ++ t) w' → w.grownBy w' v.ownBlock → K (a.put op.dst v') w') : op.wp Tryz.prog a w K Q := by
  obtain ⟨i0, hi, hz0, hz1, hz2⟩ := info_parts info8
  obtain ⟨ad, c, rfl, hz, hR⟩ := hR
  cases ad with
  | none =>
    have hc : c = 0 := hz rfl
    subst hc
    have ht : t = [] := by
      cases t with
      | nil => rfl
      | cons b t => obtain ⟨g, o, ha, _⟩ := hR (by simp); cases ha
    subst ht
    have hrun := run_append_owned_none (P := Tryz.prog) (w := w) B0 26 op.type 5 i0 1 Tryz.underlying26 hi v l.length (byteCells l) hO
    have hK := h v w (by rw [List.append_nil]; exact hO) ⟨rfl, rfl, rfl, Nat.le_refl _, fun _ _ _ => rfl⟩
    unfold Oper.wp
    simp [execOp, ho, resolve, invoke, builtin, hs, hx, hrun, Result.andThen]
    exact hK
  | some ad =>
    refine wp_append_own w sx x 26 ho B0 5 i0 _ 1 1 Tryz.underlying26 hi hz0 hz1 hz2 rfl (by decide) v l.length (byteCells l) hs hO ad t.length c (byteCells t) hx (by simp [byteCells]) (fun j u hj => ?_) (fun u hu => by simp only [byteCells, List.mem_map] at hu; obtain ⟨b, _, rfl⟩ := hu; rfl) (by unfold maxLen; omega) (by omega) hB ?_
    · have hj' := hj
      simp only [byteCells, List.getElem?_map, Option.map_eq_some_iff] at hj'
      obtain ⟨b, hb, rfl⟩ := hj'
      obtain ⟨g, o, ha, _, hcell⟩ := hR (by rintro rfl; simp at hb)
      cases ha
      rw [Addr.add_lit]
      exact hcell j b hb
    · intro v' w' h2 h3 _
      refine h v' w' ?_ h3
      unfold OwnB
      rw [List.length_append, byteCells_app]
      exact h2
/-- some of the bytes -/
theorem BRd.sub {g o n c : Nat} {l : B} {w : World} (h : BRd (.slice (some ⟨g, o, none⟩) n c) l w) (i j : Nat) (hi : i ≤ j) (hj : j ≤ l.length) : BRd (.slice (some ⟨g, o + i, none⟩) (j - i) (c - i)) ((l.take j).drop i) w := by
  obtain ⟨a, c', hv, _, h⟩ := h
  cases hv
  have hlen : ((l.take j).drop i).length = j - i := by simp; omega
  refine ⟨some ⟨g, o + i, none⟩, c - i, by rw [hlen], fun e => (by cases e), fun hne => ?_⟩
  obtain ⟨g', o', ha, hc, h⟩ := h (by rintro rfl; simp at hne)
  cases ha
  refine ⟨g, o + i, rfl, by rw [hlen]; omega, fun k x hx => ?_⟩
  rw [List.getElem?_drop, List.getElem?_take] at hx
  split at hx
  · rw [Nat.add_assoc]; exact h _ _ hx
  · cases hx
/-- bytes in a block of their own -/
theorem brd_new (w : World) (l : B) (t : TypeId) (cs : Array Value) (h : cs = (l.map fun b => Value.int .u8 b.toNat).toArray) (c : Nat) (hc : l.length ≤ c) (m : Nat × Nat) : BRd (.slice (some ⟨w.heap.size, 0, none⟩) l.length c) l (w.alloc (.cells cs t m)) :=
  ⟨_, _, rfl, fun e => (by cases e), fun _ => ⟨_, _, rfl, hc, fun i x hx => by
    rw [Nat.zero_add]
    simp [World.cell?, World.alloc, -World.alloc_eq, h, hx]⟩⟩
theorem wpList_strB {ops : Array Oper} {rest : List Oper} {op : Oper} {a : Act} {w : World} {Q : Exit → Act → World → Prop} (hg : op.guard = none) (sx x : Operand) (ho : op.op = .call { callee := .builtin .append, args := #[sx, x], argTypes := #[26, 9] })
    (B0 : Nat) (v : Value) (l t : B) (hs : a.eval sx = v) (hO : OwnB B0 v l w) (hx : a.eval x = .string ⟨t.toArray⟩) (hl : l.length + t.length ≤ 100000000000000) (hB : B0 ≤ w.heap.size)
    (h : ∀ v' w', OwnB B0 v' (l ++ t) w' → w.grownBy w' v.ownBlock → wpList Tryz.prog ops Q rest (a.put op.dst v') w') : wpList Tryz.prog ops Q (op :: rest) a w :=
  wpList_plain hg fun K hK => wp_strB sx x ho B0 v l t hs hO hx hl hB (fun v' w' h1 h2 => hK _ _ (h v' w' h1 h2))
theorem wpList_byteB {ops : Array Oper} {rest : List Oper} {op : Oper} {a : Act} {w : World} {Q : Exit → Act → World → Prop} (hg : op.guard = none) (sx x : Operand) (ho : op.op = .call { callee := .builtin .append, args := #[sx, x], argTypes := #[26, 26] })
    (B0 : Nat) (v : Value) (l : B) (t : UInt8) (k : Nat) (hs : a.eval sx = v) (hO : OwnB B0 v l w) (hx : a.eval x = .slice (some ⟨k, 0, none⟩) 1 1) (hc : w.cell? ⟨k, 0, none⟩ = some (.int .u8 t.toNat)) (hl : l.length ≤ 100000000000000) (hB : B0 ≤ w.heap.size)
    (h : ∀ v' w', OwnB B0 v' (l ++ [t]) w' → w.grownBy w' v.ownBlock → wpList Tryz.prog ops Q rest (a.put op.dst v') w') : wpList Tryz.prog ops Q (op :: rest) a w :=
  wpList_plain hg fun K hK => wp_byteB sx x ho B0 v l t k hs hO hx hc hl hB (fun v' w' h1 h2 => hK _ _ (h v' w' h1 h2))
theorem wpList_sliceB {ops : Array Oper} {rest : List Oper} {op : Oper} {a : Act} {w : World} {Q : Exit → Act → World → Prop} (hg : op.guard = none) (sx x : Operand) (ho : op.op = .call { callee := .builtin .append, args := #[sx, x], argTypes := #[26, 26] })
    (B0 : Nat) (v xv : Value) (l t : B) (hs : a.eval sx = v) (hO : OwnB B0 v l w) (hx : a.eval x = xv) (hR : BRd xv t w) (hl : l.length + t.length ≤ 100000000000000) (hB : B0 ≤ w.heap.size)
    (h : ∀ v' w', OwnB B0 v' (l ++ t) w' → w.grownBy w' v.ownBlock → wpList Tryz.prog ops Q rest (a.put op.dst v') w') : wpList Tryz.prog ops Q (op :: rest) a w :=
  wpList_plain hg fun K hK => wp_sliceB sx x ho B0 v xv l t hs hO hx hR hl hB (fun v' w' h1 h2 => hK _ _ (h v' w' h1 h2))
/-- bytes that are read while a row of another block grows -/
theorem BRd.grow {v : Value} {l : B} {y z : World} {row : Option Nat} (h : BRd v l y) (hg : y.grownBy z row) (hne : ∀ r, row = some r → v.ownBlock ≠ some r) : BRd v l z := by
  obtain ⟨a, c, hv, hz, h⟩ := h
  refine ⟨a, c, hv, hz, fun hn => ?_⟩
  obtain ⟨g, o, ha, hc, h⟩ := h hn
  refine ⟨g, o, ha, hc, fun i x hx => grown_cell hg (h i x hx) (fun e => ?_)⟩
  exact hne g e (by rw [hv, ha]; rfl)
/-- bytes that are read lie in what there was -/
theorem BRd.old {v : Value} {l : B} {w : World} (h : BRd v l w) (hne : l ≠ []) : ∀ r, v.ownBlock = some r → r < w.heap.size := by
  intro r hr
  obtain ⟨x, hx⟩ : ∃ x, l[0]? = some x := by
    cases l with
    | nil => exact absurd rfl hne
    | cons x l => exact ⟨x, rfl⟩
  obtain ⟨g, o, cp, hv', _, hcell⟩ := h.at hx
  rw [hv'] at hr
  simp only [Value.ownBlock, Option.some.injEq] at hr
  rw [← hr]
  exact cell_lt hcell
end Go.Proofs.YtgpocnnolieijaaGreatDoor
/- Plain mathematics of sixty-four signs: what Raw, Bytes, Encode and Decode answer; that what is coded is read back, by either way of reading. -/
set_option linter.unusedSimpArgs false
set_option linter.unusedVariables false
namespace Go.Proofs.YtgpocnnolieijaaGreatDoor.Bx
abbrev B := List UInt8
def sgS : B := [65, 66, 67, 68, 69, 70, 71, 72, 73, 74, 75, 76, 77, 78, 79, 80, 81, 82, 83, 84, 85, 86, 87, 88, 89, 90, 97, 98, 99, 100, 101, 102, 103, 104, 105, 106, 107, 108, 109, 110, 111, 112, 113, 114, 115, 116, 117, 118, 119, 120, 121, 122, 48, 49, 50, 51, 52, 53, 54, 55, 56, 57, 43, 47]
/-- a number's sign -/
def sg (n : Nat) : UInt8 := sgS.getD n 0
/-- three bytes' number -/
def num (a b c : UInt8) : Nat := 65536 * a.toNat + 256 * b.toNat + c.toNat
theorem num_lt (a b c : UInt8) : num a b c < 16777216 := by
  have := a.toNat_lt; have := b.toNat_lt; have := c.toNat_lt
  unfold num; omega
/-- a number's four signs -/
def fo (n : Nat) : B := [sg (n / 262144), sg (n / 4096 % 64), sg (n / 64 % 64), sg (n % 64)]
/-- bytes as signs -/
def raw : B → B
  | [] => []
  | [a] => [sg (num a 0 0 / 262144), sg (num a 0 0 / 4096 % 64), 61, 61]
  | [a, b] => [sg (num a b 0 / 262144), sg (num a b 0 / 4096 % 64), sg (num a b 0 / 64 % 64), 61]
  | a :: b :: c :: r => sg (num a b c / 262144) :: sg (num a b c / 4096 % 64) :: sg (num a b c / 64 % 64) :: sg (num a b c % 64) :: raw r
/-- without what stands for none -/
def rawT : B → B
  | [] => []
  | [a] => [sg (num a 0 0 / 262144), sg (num a 0 0 / 4096 % 64)]
  | [a, b] => [sg (num a b 0 / 262144), sg (num a b 0 / 4096 % 64), sg (num a b 0 / 64 % 64)]
  | a :: b :: c :: r => sg (num a b c / 262144) :: sg (num a b c / 4096 % 64) :: sg (num a b c / 64 % 64) :: sg (num a b c % 64) :: rawT r
def pad (b : B) : Nat := (3 - b.length % 3) % 3
theorem pad_more (a b c : UInt8) (r : B) : pad (a :: b :: c :: r) = pad r := by unfold pad; simp only [List.length_cons]; omega
theorem raw_eq : ∀ b : B, raw b = rawT b ++ List.replicate (pad b) 61
  | [] => rfl
  | [a] => rfl
  | [a, b] => rfl
  | a :: b :: c :: r => by
    rw [pad_more, raw, rawT, raw_eq r]; rfl
theorem sg_ne : ∀ n, n < 64 → sg n ≠ 61 ∧ sg n ≠ 13 ∧ sg n ≠ 10 := by decide +kernel
theorem sg_of {n : Nat} (h : n < 64) {c : UInt8} (hc : c = sg n) : c ≠ 61 ∧ c ≠ 13 ∧ c ≠ 10 := hc ▸ sg_ne n h
theorem rawT_ne : ∀ (b : B) (c : UInt8), c ∈ rawT b → ∃ n, n < 64 ∧ c = sg n
  | [], c, h => by cases h
  | [a], c, h => by
    have h0 := num_lt a 0 0
    simp only [rawT, List.mem_cons, List.not_mem_nil, or_false] at h
    rcases h with h | h
    · exact ⟨_, by omega, h⟩
    · exact ⟨_, by omega, h⟩
  | [a, b], c, h => by
    have h0 := num_lt a b 0
    simp only [rawT, List.mem_cons, List.not_mem_nil, or_false] at h
    rcases h with h | h | h
    · exact ⟨_, by omega, h⟩
    · exact ⟨_, by omega, h⟩
    · exact ⟨_, by omega, h⟩
  | x :: y :: z :: r, c, h => by
    have h0 := num_lt x y z
    simp only [rawT, List.mem_cons] at h
    rcases h with h | h | h | h | h
    · exact ⟨_, by omega, h⟩
    · exact ⟨_, by omega, h⟩
    · exact ⟨_, by omega, h⟩
    · exact ⟨_, by omega, h⟩
    · exact rawT_ne r c h
theorem raw_sign {b : B} {c : UInt8} (h : c ∈ raw b) : c = 61 ∨ ∃ n, n < 64 ∧ c = sg n := by
  rw [raw_eq, List.mem_append] at h
  rcases h with h | h
  · exact Or.inr (rawT_ne b c h)
  · exact Or.inl (List.eq_of_mem_replicate h)
theorem raw_ne {b : B} {c : UInt8} (h : c ∈ raw b) : c ≠ 13 ∧ c ≠ 10 := by
  rcases raw_sign h with rfl | ⟨n, hn, rfl⟩
  · exact ⟨by decide, by decide⟩
  · exact (sg_ne n hn).2
theorem raw_len : ∀ b : B, (raw b).length = (b.length + 2) / 3 * 4
  | [] => rfl
  | [a] => by simp [raw]
  | [a, b] => by simp [raw]
  | a :: b :: c :: r => by
    rw [raw]
    simp only [List.length_cons, raw_len r]
    omega
theorem rawT_len (b : B) : (rawT b).length + pad b = (b.length + 2) / 3 * 4 := by
  rw [← raw_len, raw_eq]; simp
/-- of bytes by threes, and of more -/
theorem raw_app : ∀ (a b : B), a.length % 3 = 0 → raw (a ++ b) = raw a ++ raw b
  | [], b, _ => rfl
  | [x], b, h => by simp at h
  | [x, y], b, h => by simp at h
  | x :: y :: z :: r, b, h => by
    have h' : r.length % 3 = 0 := by simp only [List.length_cons] at h; omega
    show raw (x :: y :: z :: (r ++ b)) = _
    rw [raw, raw, raw_app r b h']; rfl
/-- the signs of the first three, and of the others -/
theorem raw_cut (b : B) : raw b = raw (b.take 3) ++ raw (b.drop 3) := by
  match b with
  | [] => rfl
  | [a] => rfl
  | [a, b] => rfl
  | a :: b :: c :: r => rfl
/-! what the program reads -/
/-- a sign's number -/
def dg (c : UInt8) : Int := Lib.indexByte sgS c
theorem dg_sg : ∀ n, n < 64 → dg (sg n) = (n : Int) := by decide +kernel
theorem dg_all : ∀ n, n < 256 → dg (UInt8.ofNat n) = -1 ∨ (0 ≤ dg (UInt8.ofNat n) ∧ dg (UInt8.ofNat n) < 64) := by decide +kernel
theorem dg_bd (c : UInt8) : dg c = -1 ∨ (0 ≤ dg c ∧ dg c < 64) := by
  have := dg_all c.toNat c.toNat_lt
  rwa [UInt8.ofNat_toNat] at this
/-- signs read, n of k bits being left -/
def rd : Nat → Nat → B → Option B
  | _, _, [] => some []
  | n, k, c :: s => if dg c < 0 then none
    else if k = 0 then rd (dg c).toNat 6 s
    else (rd ((64 * n + (dg c).toNat) % 2 ^ (k - 2)) (k - 2) s).map (UInt8.ofNat ((64 * n + (dg c).toNat) / 2 ^ (k - 2)) :: ·)
theorem rd_0 {n : Nat} {d : Nat} (h : d < 64) (s : B) : rd n 0 (sg d :: s) = rd d 6 s := by
  rw [rd, dg_sg d h, if_neg (by omega), if_pos rfl]; rfl
theorem rd_k {n k : Nat} {d : Nat} (h : d < 64) (s : B) (hk : k ≠ 0) : rd n k (sg d :: s) = (rd ((64 * n + d) % 2 ^ (k - 2)) (k - 2) s).map (UInt8.ofNat ((64 * n + d) / 2 ^ (k - 2)) :: ·) := by
  rw [rd, dg_sg d h, if_neg (by omega), if_neg hk]; rfl
theorem ofNat_eq {a : UInt8} {n : Nat} (h : n = a.toNat) : UInt8.ofNat n = a := by rw [h, UInt8.ofNat_toNat]
theorem rd_rawT : ∀ (b : B) (n : Nat), rd n 0 (rawT b) = some b
  | [], n => by rw [rawT, rd]
  | [a], n => by
    have h0 := num_lt a 0 0
    have ha := a.toNat_lt
    rw [rawT, rd_0 (by omega), rd_k (by omega) _ (by decide), rd]
    simp only [Option.map_some, Option.some.injEq, List.cons.injEq, and_true]
    refine ofNat_eq ?_
    have : num a 0 0 = 65536 * a.toNat := by unfold num; simp
    simp only [Nat.reduceSub, Nat.reducePow]; omega
  | [a, b], n => by
    have h0 := num_lt a b 0
    have ha := a.toNat_lt
    have hb := b.toNat_lt
    have : num a b 0 = 65536 * a.toNat + 256 * b.toNat := by unfold num; simp
    rw [rawT, rd_0 (by omega), rd_k (by omega) _ (by decide), rd_k (by omega) _ (by decide), rd]
    simp only [Option.map_some, Option.some.injEq, List.cons.injEq, and_true, Nat.reduceSub, Nat.reducePow]
    exact ⟨ofNat_eq (by omega), ofNat_eq (by omega)⟩
  | a :: b :: c :: r, n => by
    have h0 := num_lt a b c
    have ha := a.toNat_lt
    have hb := b.toNat_lt
    have hc := c.toNat_lt
    have : num a b c = 65536 * a.toNat + 256 * b.toNat + c.toNat := rfl
    rw [rawT, rd_0 (by omega), rd_k (by omega) _ (by decide), rd_k (by omega) _ (by decide), rd_k (by omega) _ (by decide)]
    simp only [Nat.reduceSub, Nat.reducePow]
    rw [rd_rawT r]
    simp only [Option.map_some, Option.some.injEq, List.cons.injEq, and_true]
    exact ⟨ofNat_eq (by omega), ofNat_eq (by omega), ofNat_eq (by omega)⟩
theorem trim_app (x : B) (p : Nat) (h : ∀ c ∈ x, c ≠ 61) : Lib.trimRightB (x ++ List.replicate p 61) 61 = x := by
  have hl : (x ++ List.replicate p (61 : UInt8)).length = x.length + p := by simp
  rw [Lib.trimRightB_take _ 61 x.length (by omega) (fun j b hj hb => ?_) (fun b hb hx => ?_), List.take_left]
  · rw [List.getElem?_append_right hj] at hb
    exact List.eq_of_mem_replicate (List.mem_of_getElem? hb)
  · rw [List.getElem?_append_left (by omega)] at hx
    exact h b (List.mem_of_getElem? hx)
theorem trim_raw (b : B) : Lib.trimRightB (raw b) 61 = rawT b := by
  rw [raw_eq]
  exact trim_app _ _ fun c hc => by
    obtain ⟨n, hn, rfl⟩ := rawT_ne b c hc
    exact (sg_ne n hn).1
/-- what the program's Bytes holds against the text -/
def cnd (s : B) : Option B := rd 0 0 (Lib.trimRightB s 61)
theorem cnd_raw (b : B) : cnd (raw b) = some b := by unfold cnd; rw [trim_raw, rd_rawT]
theorem raw_inj {a b : B} (h : raw a = raw b) : a = b := Option.some.inj ((cnd_raw a).symm.trans ((congrArg cnd h).trans (cnd_raw b)))
theorem rd_len : ∀ (s : B) (n k : Nat) (x : B), rd n k s = some x → x.length ≤ s.length
  | [], n, k, x, h => by rw [rd] at h; cases h; simp
  | c :: s, n, k, x, h => by
    rw [rd] at h
    split at h
    · cases h
    split at h
    · have := rd_len s _ _ _ h
      simp; omega
    · rw [Option.map_eq_some_iff] at h
      obtain ⟨y, hy, rfl⟩ := h
      have := rd_len s _ _ _ hy
      simp; omega
theorem trim_le (s : B) : (Lib.trimRightB s 61).length ≤ s.length := by
  unfold Lib.trimRightB
  have := (List.dropWhile_suffix (fun c : UInt8 => c == 61) (l := s.reverse)).length_le
  simpa using this
theorem cnd_len {s x : B} (h : cnd s = some x) : x.length ≤ s.length := Nat.le_trans (rd_len _ _ _ _ h) (trim_le s)
/-! what Bytes answers -/
open Classical in
/-- the bytes that are written so -/
noncomputable def byt (s : B) : Option B := if h : ∃ b, raw b = s then some h.choose else none
theorem byt_some {s b : B} (h : raw b = s) : byt s = some b := by
  have hx : ∃ b, raw b = s := ⟨b, h⟩
  unfold byt
  rw [dif_pos hx]
  exact congrArg some (raw_inj (hx.choose_spec.trans h.symm))
theorem byt_none {s : B} (h : ∀ b, raw b ≠ s) : byt s = none := by
  unfold byt
  rw [dif_neg (fun ⟨b, hb⟩ => h b hb)]
theorem byt_back {s b : B} (h : byt s = some b) : raw b = s := by
  unfold byt at h
  split at h
  · rename_i hx
    cases h
    exact hx.choose_spec
  · cases h
theorem byt_raw (b : B) : byt (raw b) = some b := byt_some rfl
theorem byt_len {s b : B} (h : byt s = some b) : b.length ≤ s.length := by
  have := byt_back h
  have h2 := raw_len b
  rw [this] at h2
  omega
theorem byt_cnd {s : B} (h : cnd s = none) : byt s = none := byt_none fun b hb => by
  have := cnd_raw b
  rw [hb, h] at this; cases this
theorem byt_not {s x : B} (h : cnd s = some x) (hx : raw x ≠ s) : byt s = none := byt_none fun b hb => by
  have := cnd_raw b
  rw [hb, h] at this
  cases this
  exact hx hb
/-! what the document reads -/
/-- a sign's number, or nought -/
def nm (c : UInt8) : Nat := if dg c < 0 then 0 else (dg c).toNat
theorem nm_sg {n : Nat} (h : n < 64) : nm (sg n) = n := by unfold nm; rw [dg_sg n h, if_neg (by omega)]; rfl
theorem nm_61 : nm 61 = 0 := by decide +kernel
theorem nm_lt (c : UInt8) : nm c < 64 := by
  unfold nm
  split
  · decide
  · rcases dg_bd c with h | h <;> omega
def num4 (w x y z : UInt8) : Nat := 64 * (64 * (64 * nm w + nm x) + nm y) + nm z
/-- four by four -/
def ch : B → B
  | w :: x :: y :: z :: r => UInt8.ofNat (num4 w x y z / 65536) :: UInt8.ofNat (num4 w x y z / 256 % 256) :: UInt8.ofNat (num4 w x y z % 256) :: ch r
  | _ => []
theorem ch_nil : ch [] = [] := rfl
theorem ch_raw : ∀ b : B, ch (raw b) = b ++ List.replicate (pad b) 0
  | [] => rfl
  | [a] => by
    have h0 := num_lt a 0 0
    have ha := a.toNat_lt
    have : num a 0 0 = 65536 * a.toNat := by unfold num; simp
    rw [raw, ch, num4, nm_sg (by omega), nm_sg (by omega), nm_61, ch_nil]
    rw [show UInt8.ofNat ((64 * (64 * (64 * (num a 0 0 / 262144) + num a 0 0 / 4096 % 64) + 0) + 0) / 65536) = a from ofNat_eq (by omega)]
    rw [show (64 * (64 * (64 * (num a 0 0 / 262144) + num a 0 0 / 4096 % 64) + 0) + 0) / 256 % 256 = 0 by omega, show (64 * (64 * (64 * (num a 0 0 / 262144) + num a 0 0 / 4096 % 64) + 0) + 0) % 256 = 0 by omega]
    rfl
  | [a, b] => by
    have h0 := num_lt a b 0
    have ha := a.toNat_lt
    have hb := b.toNat_lt
    have : num a b 0 = 65536 * a.toNat + 256 * b.toNat := by unfold num; simp
    rw [raw, ch, num4, nm_sg (by omega), nm_sg (by omega), nm_sg (by omega), nm_61, ch_nil]
    have e : 64 * (64 * (64 * (num a b 0 / 262144) + num a b 0 / 4096 % 64) + num a b 0 / 64 % 64) + 0 = num a b 0 := by omega
    rw [e, show UInt8.ofNat (num a b 0 / 65536) = a from ofNat_eq (by omega), show UInt8.ofNat (num a b 0 / 256 % 256) = b from ofNat_eq (by omega), show num a b 0 % 256 = 0 by omega]
    rfl
  | a :: b :: c :: r => by
    have h0 := num_lt a b c
    have ha := a.toNat_lt
    have hb := b.toNat_lt
    have hc := c.toNat_lt
    have : num a b c = 65536 * a.toNat + 256 * b.toNat + c.toNat := rfl
    rw [raw, ch, num4, nm_sg (by omega), nm_sg (by omega), nm_sg (by omega), nm_sg (by omega), ch_raw r, pad_more]
    have e : 64 * (64 * (64 * (num a b c / 262144) + num a b c / 4096 % 64) + num a b c / 64 % 64) + num a b c % 64 = num a b c := by omega
    rw [e, show UInt8.ofNat (num a b c / 65536) = a from ofNat_eq (by omega), show UInt8.ofNat (num a b c / 256 % 256) = b from ofNat_eq (by omega), show UInt8.ofNat (num a b c % 256) = c from ofNat_eq (by omega)]
    rfl
/-- how long -/
theorem ch_len : ∀ s : B, (ch s).length = s.length / 4 * 3
  | [] => rfl
  | [a] => by simp [ch]
  | [a, b] => by simp [ch]
  | [a, b, c] => by simp [ch]
  | w :: x :: y :: z :: r => by
    rw [ch]
    simp only [List.length_cons, ch_len r]
    omega
/-- does it stand k-th from behind -/
def isP (s : B) (k : Nat) : Bool := decide (s[s.length - k]? = some 61)
def pds (s : B) : Nat := (if isP s 1 = true then 1 else 0) + (if isP s 2 = true then 1 else 0)
theorem isP_raw {b : B} (h : b ≠ []) : isP (raw b) 1 = decide (1 ≤ pad b) ∧ isP (raw b) 2 = decide (2 ≤ pad b) := by
  have hl := rawT_len b
  have hb := List.length_pos_iff.2 h
  have hp : pad b < 3 := Nat.mod_lt _ (by decide)
  have hpd : pad b = (3 - b.length % 3) % 3 := rfl
  have hr : (raw b).length = (rawT b).length + pad b := by rw [raw_eq]; simp
  have key : ∀ k, 1 ≤ k → k ≤ 2 → isP (raw b) k = decide (k ≤ pad b) := fun k h1 h2 => by
    unfold isP
    refine decide_eq_decide.2 ?_
    rw [hr]
    constructor
    · intro e
      by_cases hk : k ≤ pad b
      · exact hk
      · rw [raw_eq, List.getElem?_append_left (by omega)] at e
        obtain ⟨n, hn, hc⟩ := rawT_ne b 61 (List.mem_of_getElem? e)
        exact absurd hc.symm (sg_ne n hn).1
    · intro hk
      rw [raw_eq, List.getElem?_append_right (by omega), List.getElem?_replicate, if_pos (by omega)]
  exact ⟨key 1 (by decide) (by decide), key 2 (by decide) (by decide)⟩
theorem pds_raw (b : B) : pds (raw b) = pad b := by
  by_cases h : b = []
  · subst h; decide
  obtain ⟨h1, h2⟩ := isP_raw h
  have hp : pad b < 3 := Nat.mod_lt _ (by decide)
  unfold pds
  rw [h1, h2]
  simp only [decide_eq_true_eq]
  split <;> split <;> omega
/-- what the document's Bytes holds against the text -/
def cndR (s : B) : B := (ch s).take ((ch s).length - pds s)
theorem cndR_raw (b : B) : cndR (raw b) = b := by
  unfold cndR
  rw [pds_raw, ch_raw]
  simp
theorem byt_R {s : B} (h : raw (cndR s) ≠ s) : byt s = none := byt_none fun b hb => by
  rw [← hb, cndR_raw] at h
  exact h rfl
theorem byt_4 {s : B} (h : s.length % 4 ≠ 0) : byt s = none := byt_none fun b hb => by
  have := raw_len b
  rw [hb] at this
  omega
/-! lines -/
/-- signs in lines -/
def lin (s : B) : B := if h : s = [] then [] else s.take 76 ++ ([13, 10] ++ lin (s.drop 76))
termination_by s.length
decreasing_by
  have := List.length_pos_iff.2 h
  simp; omega
theorem lin_nil : lin [] = [] := by rw [lin]; simp
theorem lin_more {s : B} (h : s ≠ []) : lin s = s.take 76 ++ ([13, 10] ++ lin (s.drop 76)) := by rw [lin, dif_neg h]
def enc (b : B) : B := lin (raw b)
/-- sign by sign, of which the line has k already -/
def dl : Nat → B → B
  | _, [] => []
  | k, c :: s => if k = 75 ∨ s = [] then c :: 13 :: 10 :: dl 0 s else c :: dl (k + 1) s
theorem dl_line : ∀ (s : B) (k : Nat), k ≤ 75 → s ≠ [] → dl k s = s.take (76 - k) ++ ([13, 10] ++ dl 0 (s.drop (76 - k)))
  | [], k, hk, h => absurd rfl h
  | c :: s, k, hk, h => by
    rw [dl]
    by_cases h1 : k = 75
    · subst h1
      rw [if_pos (Or.inl rfl)]
      rfl
    by_cases h2 : s = []
    · subst h2
      rw [if_pos (Or.inr rfl), show 76 - k = (75 - k) + 1 by omega]
      simp [dl]
    · rw [if_neg (by simp [h1, h2]), dl_line s (k + 1) (by omega) h2, show 76 - k = (76 - (k + 1)) + 1 by omega]
      rfl
theorem dl_lin : ∀ (n : Nat) (s : B), s.length ≤ n → dl 0 s = lin s
  | 0, s, hn => by
    obtain rfl : s = [] := List.length_eq_zero_iff.1 (by omega)
    rw [lin_nil, dl]
  | n + 1, s, hn => by
    by_cases h : s = []
    · subst h; rw [lin_nil, dl]
    have := List.length_pos_iff.2 h
    rw [dl_line s 0 (by decide) h, lin_more h, dl_lin n _ (by simp; omega)]
theorem dl_enc (b : B) : dl 0 (raw b) = enc b := dl_lin _ _ (Nat.le_refl _)
theorem lin_len : ∀ (n : Nat) (s : B), s.length ≤ n → (lin s).length = s.length + 2 * ((s.length + 75) / 76)
  | 0, s, hn => by
    obtain rfl : s = [] := List.length_eq_zero_iff.1 (by omega)
    rw [lin_nil]; rfl
  | n + 1, s, hn => by
    by_cases h : s = []
    · subst h; rw [lin_nil]; rfl
    have := List.length_pos_iff.2 h
    have hd : (s.drop 76).length = s.length - 76 := by simp
    rw [lin_more h]
    simp only [List.length_append, lin_len n _ (show (s.drop 76).length ≤ n by omega), hd, List.length_take, List.length_cons, List.length_nil]
    omega
theorem enc_len (b : B) : (enc b).length = (b.length + 2) / 3 * 4 + 2 * (((b.length + 2) / 3 * 4 + 75) / 76) := by
  unfold enc
  rw [lin_len _ _ (Nat.le_refl _), raw_len]
theorem enc_le (b : B) : (enc b).length ≤ 2 * b.length + 8 := by rw [enc_len]; omega
theorem le_enc (b : B) : b.length ≤ (enc b).length := by rw [enc_len]; omega
/-- without line ends, byte by byte -/
def flt (s : B) : B := s.filter fun c => decide (c ≠ 13) && decide (c ≠ 10)
theorem flt_app (a b : B) : flt (a ++ b) = flt a ++ flt b := by simp [flt]
theorem flt_all {s : B} (h : ∀ c ∈ s, c ≠ 13 ∧ c ≠ 10) : flt s = s := by
  unfold flt
  rw [List.filter_eq_self]
  intro c hc
  simp [h c hc]
theorem flt_lin : ∀ (n : Nat) (s : B), s.length ≤ n → (∀ c ∈ s, c ≠ 13 ∧ c ≠ 10) → flt (lin s) = s
  | 0, s, hn, _ => by
    obtain rfl : s = [] := List.length_eq_zero_iff.1 (by omega)
    rw [lin_nil]; rfl
  | n + 1, s, hn, hs => by
    by_cases h : s = []
    · subst h; rw [lin_nil]; rfl
    have := List.length_pos_iff.2 h
    rw [lin_more h, flt_app, flt_app, flt_all (fun c hc => hs c (List.mem_of_mem_take hc)), flt_lin n _ (by simp; omega) (fun c hc => hs c (List.mem_of_mem_drop hc)), show flt [13, 10] = [] from rfl, List.nil_append, List.take_append_drop]
theorem flt_enc (b : B) : flt (enc b) = raw b := flt_lin _ _ (Nat.le_refl _) fun _ h => raw_ne h
/-- without line ends, as the library does it -/
abbrev rpl (s : B) : B := Lib.replaceAll s [13, 10] []
theorem pre_ne {c : UInt8} {s : B} (h : c ≠ 13) : List.isPrefixOf [13, 10] (c :: s) = false := by
  simp only [List.isPrefixOf]
  rw [show ((13 : UInt8) == c) = false from beq_eq_false_iff_ne.2 (Ne.symm h)]
  rfl
theorem idx_app : ∀ (t s : B), (∀ c ∈ t, c ≠ 13) → Lib.index (t ++ (13 :: 10 :: s)) [13, 10] = t.length
  | [], s, _ => by
    show Lib.index (13 :: 10 :: s) [13, 10] = 0
    unfold Lib.index
    rw [if_pos (by simp [List.isPrefixOf])]
  | c :: t, s, h => by
    show Lib.index (c :: (t ++ (13 :: 10 :: s))) [13, 10] = _
    unfold Lib.index
    rw [pre_ne (h c (by simp)), idx_app t s (fun d hd => h d (by simp [hd]))]
    have : ((t.length : Int) == -1) = false := by rw [beq_eq_false_iff_ne]; omega
    rw [this]
    simp
theorem cntF_nil (f : Nat) : Lib.countFrom [13, 10] f [] = 0 := by
  cases f with
  | zero => rfl
  | succ f => rfl
theorem rplK : ∀ (n : Nat) (s : B), s.length ≤ n → (∀ c ∈ s, c ≠ 13) → ∀ f, (lin s).length < f → Lib.replaceK [13, 10] [] (Lib.countFrom [13, 10] f (lin s)) (lin s) = s
  | 0, s, hn, _, f, hf => by
    obtain rfl : s = [] := List.length_eq_zero_iff.1 (by omega)
    rw [lin_nil, cntF_nil]; rfl
  | n + 1, s, hn, hs, f, hf => by
    by_cases h : s = []
    · subst h; rw [lin_nil, cntF_nil]; rfl
    have hpos := List.length_pos_iff.2 h
    have hL := lin_more h
    rw [hL] at hf ⊢
    have hi := idx_app (s.take 76) (lin (s.drop 76)) (fun c hc => hs c (List.mem_of_mem_take hc))
    have hd : (s.take 76 ++ (13 :: 10 :: lin (s.drop 76))).drop ((s.take 76).length + 2) = lin (s.drop 76) := by
      rw [List.drop_append]; simp
    cases f with
    | zero => simp at hf
    | succ f =>
      show Lib.replaceK [13, 10] [] (Lib.countFrom [13, 10] (f + 1) (s.take 76 ++ (13 :: 10 :: lin (s.drop 76)))) (s.take 76 ++ (13 :: 10 :: lin (s.drop 76))) = s
      have hc : Lib.countFrom [13, 10] (f + 1) (s.take 76 ++ (13 :: 10 :: lin (s.drop 76))) = Lib.countFrom [13, 10] f (lin (s.drop 76)) + 1 := by
        rw [Lib.countFrom, hi, if_neg (by rw [beq_iff_eq]; omega), Int.toNat_natCast, show ([13, 10] : B).length = 2 from rfl, hd]
        omega
      rw [hc, Lib.replaceK_hit _ _ _ _ _ hi, show ([13, 10] : B).length = 2 from rfl, hd, rplK n _ (by simp; omega) (fun c hc => hs c (List.mem_of_mem_drop hc)) f (by simp at hf; omega), List.append_nil, List.take_left, List.take_append_drop]
theorem rpl_enc (b : B) : rpl (enc b) = raw b := by
  unfold rpl Lib.replaceAll Lib.replace Lib.replaceNum Lib.count
  rw [if_neg (by decide), if_pos (Or.inl (by decide))]
  exact rplK _ _ (Nat.le_refl _) (fun c h => (raw_ne h).1) _ (Nat.lt_succ_self _)
theorem rplK_len : ∀ (k : Nat) (s : B), (Lib.replaceK [13, 10] [] k s).length ≤ s.length
  | 0, s => Nat.le_refl _
  | k + 1, s => by
    rw [Lib.replaceK]
    split
    · exact Nat.le_refl _
    · have h1 := rplK_len k (s.drop ((Lib.index s [13, 10]).toNat + ([13, 10] : B).length))
      simp only [List.append_nil, List.length_append, List.length_take, List.length_drop] at h1 ⊢
      omega
theorem rpl_len (s : B) : (rpl s).length ≤ s.length := by
  unfold rpl Lib.replaceAll Lib.replace
  split
  · exact Nat.le_refl _
  · exact rplK_len _ _
/-! what Decode answers -/
open Classical in
/-- the bytes whose lines these are -/
noncomputable def dec (s : B) : Option B := if h : ∃ b, enc b = s then some h.choose else none
theorem enc_inj {a b : B} (h : enc a = enc b) : a = b := raw_inj ((flt_enc a).symm.trans ((congrArg flt h).trans (flt_enc b)))
theorem dec_some {s b : B} (h : enc b = s) : dec s = some b := by
  have hx : ∃ b, enc b = s := ⟨b, h⟩
  unfold dec
  rw [dif_pos hx]
  exact congrArg some (enc_inj (hx.choose_spec.trans h.symm))
theorem dec_none {s : B} (h : ∀ b, enc b ≠ s) : dec s = none := by
  unfold dec
  rw [dif_neg (fun ⟨b, hb⟩ => h b hb)]
theorem dec_back {s b : B} (h : dec s = some b) : enc b = s := by
  unfold dec at h
  split at h
  · rename_i hx
    cases h
    exact hx.choose_spec
  · cases h
theorem dec_enc (b : B) : dec (enc b) = some b := dec_some rfl
/-- either way of taking line ends away serves -/
theorem dec_byt {f : B → B} (hf : ∀ b, f (enc b) = raw b) {s : B} (h : byt (f s) = none) : dec s = none := dec_none fun b hb => by
  rw [← hb, hf, byt_raw] at h
  cases h
theorem dec_not {f : B → B} (hf : ∀ b, f (enc b) = raw b) {s x : B} (h : byt (f s) = some x) (hx : enc x ≠ s) : dec s = none := dec_none fun b hb => by
  rw [← hb, hf, byt_raw] at h
  cases h
  exact hx hb
/-- the chapter's examples -/
theorem ex_a : raw [97] = [89, 81, 61, 61] := by decide +kernel
theorem ex_abc : raw [97, 98, 99] = [89, 87, 74, 106] := by decide +kernel
theorem ex_enc : enc [97, 98, 99] = [89, 87, 74, 106, 13, 10] := by
  unfold enc
  rw [ex_abc, lin_more (by decide), show ([89, 87, 74, 106] : B).drop 76 = [] from rfl, lin_nil]; rfl
end Go.Proofs.YtgpocnnolieijaaGreatDoor.Bx
/- Appends to a slice that has no room; a list cut in two; bytes that lie in older blocks. -/
set_option linter.unusedSimpArgs false
set_option linter.unusedVariables false
namespace Go.Proofs.YtgpocnnolieijaaGreatDoor
open Go.ChangeShapes Go.WideShapes Go.ChangeAt Go.RowKit
theorem brd_more (w : World) (l : B) (t : TypeId) (cs : Array Value) (h : ∀ (i : Nat) (x : UInt8), l[i]? = some x → cs[i]? = some (.int .u8 x.toNat)) (c : Nat) (hc : l.length ≤ c) (m : Nat × Nat) : BRd (.slice (some ⟨w.heap.size, 0, none⟩) l.length c) l (w.alloc (.cells cs t m)) :=
  ⟨_, _, rfl, fun e => (by cases e), fun _ => ⟨_, _, rfl, hc, fun i x hx => by
    rw [Nat.zero_add]
    simp [World.cell?, World.alloc, -World.alloc_eq, h i x hx]⟩⟩
/-- bytes more, behind those of a slice that has no more room -/
theorem wp_fullB {op : Oper} {a : Act} {w : World} {K : Act → World → Prop} {Q : Exit → Act → World → Prop} (sx x : Operand) (ho : op.op = .call { callee := .builtin .append, args := #[sx, x], argTypes := #[26, 26] })
    (g o : Nat) (xv : Value) (l t : B) (hs : a.eval sx = .slice (some ⟨g, o, none⟩) l.length l.length) (hL : BRd (.slice (some ⟨g, o, none⟩) l.length l.length) l w) (hx : a.eval x = xv) (hR : BRd xv t w) (hne : l ≠ []) (hl : l.length + t.length ≤ 100000000000000)
    (h : ∀ v' w', BRd v' (l ++ t) w' → Kept w w' → K (a.put op.dst v') w') : op.wp Tryz.prog a w K Q := by
  obtain ⟨i0, hi, hz0, hz1, hz2⟩ := info_parts info8
  by_cases ht : t = []
  · subst ht
    obtain ⟨ad, c, rfl, hz, _⟩ := hR
    have hrun : (Builtin.append_ #[26, 26] op.type #[.slice (some ⟨g, o, none⟩) l.length l.length, .slice ad 0 c]).run Tryz.prog w = .ok (.slice (some ⟨g, o, none⟩) l.length l.length) w := by
      cases ad <;> simp [Builtin.append_, run_underlying Tryz.underlying26, sizeOf, typeInfo, hi, Builtin.lenOf, Builtin.firstCells, loadCells, loadCellsFrom, storeCells]
    have hK := h _ w (by rw [List.append_nil]; exact hL) (Kept.refl w)
    unfold Oper.wp execOp
    simp only [ho, resolve, invoke, builtin, Sem.run_bind, Sem.run_pure, Result.andThen_ok, List.map_toArray, List.map_cons, List.map_nil, hs, hx, List.length_nil, hrun]
    exact hK
  · obtain ⟨ad, c, rfl, hz, hR⟩ := hR
    obtain ⟨g2, o2, rfl, hc2, hcell⟩ := hR ht
    obtain ⟨ad1, c1, hv1, _, hL⟩ := hL
    obtain ⟨g1, o1, he, hc1, hcell1⟩ := hL hne
    cases hv1
    cases he
    have hlt := List.length_pos_iff.2 ht
    have holds : ∀ (j : Nat) v, (byteCells l)[j]? = some v → w.cell? ((⟨g, o, none⟩ : Addr).add j) = some v := fun j v hj => by
      simp only [byteCells, List.getElem?_map, Option.map_eq_some_iff] at hj
      obtain ⟨b, hb, rfl⟩ := hj
      rw [Addr.add_lit]; exact hcell1 j b hb
    have hnews : ∀ (j : Nat) v, (byteCells t)[j]? = some v → w.cell? ((⟨g2, o2, none⟩ : Addr).add j) = some v := fun j v hj => by
      simp only [byteCells, List.getElem?_map, Option.map_eq_some_iff] at hj
      obtain ⟨b, hb, rfl⟩ := hj
      rw [Addr.add_lit]; exact hcell j b hb
    have hrun := run_append_grow (P := Tryz.prog) (w := w) 26 op.type 5 i0 (.int .u8 0) Tryz.underlying26 hi hz0 ⟨g, o, none⟩ l.length l.length (byteCells l) (by rw [hz1]; simp) holds ⟨g2, o2, none⟩ t.length c (byteCells t) (by rw [hz1]; simp) hnews (by omega) (by omega) (growslice_fits (by omega) (by rw [hz2]; omega))
    have hge := grownCap_ge w (l.length + t.length) l.length 5
    generalize grownCap w (l.length + t.length) l.length 5 = cap at *
    have hB := brd_more w.drew (l ++ t) 5 ((byteCells l).toArray ++ (byteCells t).toArray ++ Builtin.zeroCells (Value.cells (.int .u8 0)) (cap - (l.length + t.length))) (fun i b hb => by
      have hb' : i < (l ++ t).length := (List.getElem?_eq_some_iff.1 hb).1
      have hq : (byteCells l ++ byteCells t)[i]? = some (.int .u8 b.toNat) := by
        rw [← byteCells_app]; unfold byteCells; rw [List.getElem?_map, hb]; rfl
      rw [Array.getElem?_append_left (by simpa using hb'), List.append_toArray, List.getElem?_toArray]
      exact hq) cap (by simpa using hge) (0, 0)
    have hK := h _ _ hB ((Kept.refl w).drew.alloc _)
    rw [List.length_append] at hK
    unfold Oper.wp execOp
    simp only [ho, resolve, invoke, builtin, Sem.run_bind, Sem.run_pure, Result.andThen_ok, List.map_toArray, List.map_cons, List.map_nil, hs, hx, hrun]
    exact hK
theorem wpList_fullB {ops : Array Oper} {rest : List Oper} {op : Oper} {a : Act} {w : World} {Q : Exit → Act → World → Prop} (hg : op.guard = none) (sx x : Operand) (ho : op.op = .call { callee := .builtin .append, args := #[sx, x], argTypes := #[26, 26] })
    (g o : Nat) (xv : Value) (l t : B) (hs : a.eval sx = .slice (some ⟨g, o, none⟩) l.length l.length) (hL : BRd (.slice (some ⟨g, o, none⟩) l.length l.length) l w) (hx : a.eval x = xv) (hR : BRd xv t w) (hne : l ≠ []) (hl : l.length + t.length ≤ 100000000000000)
    (h : ∀ v' w', BRd v' (l ++ t) w' → Kept w w' → wpList Tryz.prog ops Q rest (a.put op.dst v') w') : wpList Tryz.prog ops Q (op :: rest) a w :=
  wpList_plain hg fun K hK => wp_fullB sx x ho g o xv l t hs hL hx hR hne hl (fun v' w' h1 h2 => hK _ _ (h v' w' h1 h2))
/-- a text more, behind the bytes of a slice that has no more room -/
theorem wp_fullS {op : Oper} {a : Act} {w : World} {K : Act → World → Prop} {Q : Exit → Act → World → Prop} (sx x : Operand) (ho : op.op = .call { callee := .builtin .append, args := #[sx, x], argTypes := #[26, 9] })
    (g o : Nat) (l t : B) (hs : a.eval sx = .slice (some ⟨g, o, none⟩) l.length l.length) (hL : BRd (.slice (some ⟨g, o, none⟩) l.length l.length) l w) (hx : a.eval x = sV t) (hne : l ≠ []) (ht : t ≠ []) (hl : l.length + t.length ≤ 100000000000000)
    (h : ∀ v' w', BRd v' (l ++ t) w' → Kept w w' → K (a.put op.dst v') w') : op.wp Tryz.prog a w K Q := by
  obtain ⟨i0, hi, hz0, hz1, hz2⟩ := info_parts info8
  obtain ⟨ad1, c1, hv1, _, hL⟩ := hL
  obtain ⟨g1, o1, he, hc1, hcell1⟩ := hL hne
  cases hv1
  cases he
  have hlt := List.length_pos_iff.2 ht
  have hsz : (ByteArray.mk t.toArray).size = t.length := List.size_toArray
  have holds : ∀ (j : Nat) v, (byteCells l)[j]? = some v → w.cell? ((⟨g, o, none⟩ : Addr).add j) = some v := fun j v hj => by
    simp only [byteCells, List.getElem?_map, Option.map_eq_some_iff] at hj
    obtain ⟨b, hb, rfl⟩ := hj
    rw [Addr.add_lit]; exact hcell1 j b hb
  have hrun := Lib.run_append_grow_string (P := Tryz.prog) (w := w) 26 9 op.type 5 i0 (.int .u8 0) Tryz.underlying26 Tryz.underlying9 hi hz0 ⟨g, o, none⟩ l.length l.length (byteCells l) (by rw [hz1]; simp) holds ⟨t.toArray⟩ (by rw [hsz]; omega) (by rw [hsz]; omega) (by rw [hsz]; exact growslice_fits (by omega) (by rw [hz2]; omega))
  rw [hsz, str_cells] at hrun
  have hge := grownCap_ge w (l.length + t.length) l.length 5
  generalize grownCap w (l.length + t.length) l.length 5 = cap at *
  have hB := brd_more w.drew (l ++ t) 5 ((byteCells l).toArray ++ (byteCells t).toArray ++ Builtin.zeroCells (Value.cells (.int .u8 0)) (cap - (l.length + t.length))) (fun i b hb => by
    have hb' : i < (l ++ t).length := (List.getElem?_eq_some_iff.1 hb).1
    have hq : (byteCells l ++ byteCells t)[i]? = some (.int .u8 b.toNat) := by
      rw [← byteCells_app]; unfold byteCells; rw [List.getElem?_map, hb]; rfl
    rw [Array.getElem?_append_left (by simpa using hb'), List.append_toArray, List.getElem?_toArray]
    exact hq) cap (by simpa using hge) (0, 0)
  have hK := h _ _ hB ((Kept.refl w).drew.alloc _)
  rw [List.length_append] at hK
  unfold Oper.wp execOp
  simp only [ho, resolve, invoke, builtin, Sem.run_bind, Sem.run_pure, Result.andThen_ok, List.map_toArray, List.map_cons, List.map_nil, hs, hx, hrun]
  exact hK
theorem wpList_fullS {ops : Array Oper} {rest : List Oper} {op : Oper} {a : Act} {w : World} {Q : Exit → Act → World → Prop} (hg : op.guard = none) (sx x : Operand) (ho : op.op = .call { callee := .builtin .append, args := #[sx, x], argTypes := #[26, 9] })
    (g o : Nat) (l t : B) (hs : a.eval sx = .slice (some ⟨g, o, none⟩) l.length l.length) (hL : BRd (.slice (some ⟨g, o, none⟩) l.length l.length) l w) (hx : a.eval x = sV t) (hne : l ≠ []) (ht : t ≠ []) (hl : l.length + t.length ≤ 100000000000000)
    (h : ∀ v' w', BRd v' (l ++ t) w' → Kept w w' → wpList Tryz.prog ops Q rest (a.put op.dst v') w') : wpList Tryz.prog ops Q (op :: rest) a w :=
  wpList_plain hg fun K hK => wp_fullS sx x ho g o l t hs hL hx hne ht hl (fun v' w' h1 h2 => hK _ _ (h v' w' h1 h2))
theorem sV_eq {a b : B} : sV a = sV b ↔ a = b := by
  constructor
  · intro h; injection h with h; injection h with h; simpa using h
  · rintro rfl; rfl
theorem ba_eq (a b : B) : (decide ((⟨a.toArray⟩ : ByteArray) = ⟨b.toArray⟩)) = decide (a = b) := by
  refine decide_eq_decide.2 ⟨fun h => ?_, fun h => by rw [h]⟩
  injection h with h; simpa using h
/-- bytes that are read, and lie below a place -/
def BOld (B0 : Nat) (v : Value) (l : B) (w : World) : Prop := BRd v l w ∧ (l ≠ [] → ∀ g, v.ownBlock = some g → g < B0)
theorem BOld.of {v : Value} {l : B} {w : World} (h : BRd v l w) : BOld w.heap.size v l w := ⟨h, fun hne => h.old hne⟩
theorem BOld.kept {B0 : Nat} {v : Value} {l : B} {w w' : World} (h : BOld B0 v l w) (k : Kept w w') : BOld B0 v l w' := ⟨h.1.kept k, h.2⟩
theorem BOld.grow {B0 : Nat} {v : Value} {l : B} {y z : World} {row : Option Nat} (h : BOld B0 v l y) (hg : y.grownBy z row) (hr : ∀ r, row = some r → B0 ≤ r) : BOld B0 v l z := by
  refine ⟨?_, h.2⟩
  by_cases hl : l = []
  · subst hl
    obtain ⟨a, c, hv, hz, _⟩ := h.1
    exact ⟨a, c, hv, hz, fun hne => absurd rfl hne⟩
  · refine h.1.grow hg (fun r hrow e => ?_)
    have h1 := h.2 hl r e
    have h2 := hr r hrow
    omega
theorem BRd.any {a : Option Addr} {c : Nat} {w : World} (h : a = none → c = 0) : BRd (.slice a 0 c) [] w := ⟨a, c, rfl, h, fun hne => absurd rfl hne⟩
/-- the first bytes, with no room behind them -/
theorem BRd.full {g o n c : Nat} {l : B} {w : World} (h : BRd (.slice (some ⟨g, o, none⟩) n c) l w) (j : Nat) (hj : j ≤ l.length) : BRd (.slice (some ⟨g, o, none⟩) j j) (l.take j) w := by
  obtain ⟨a, c', hv, _, h⟩ := h
  cases hv
  have hlen : (l.take j).length = j := by simp; omega
  refine ⟨some ⟨g, o, none⟩, j, by rw [hlen], fun e => (by cases e), fun hne => ?_⟩
  obtain ⟨g', o', ha, hc, h⟩ := h (by rintro rfl; simp at hne)
  cases ha
  refine ⟨g, o, rfl, by rw [hlen]; exact Nat.le_refl _, fun k x hx => ?_⟩
  rw [List.getElem?_take] at hx
  split at hx
  · exact h _ _ hx
  · cases hx
set_option maxRecDepth 100000 in
set_option maxHeartbeats 1000000 in
theorem cut_any (g o n c : Nat) (l : B) (w : World) (hR : BRd (.slice (some ⟨g, o, none⟩) l.length c) l w) (hne : l ≠ []) (hn : 1 ≤ n) (hn2 : n ≤ 1000) (hl : l.length ≤ maxLen) :
    Calls Tryz.prog 132 #[.slice (some ⟨g, o, none⟩) l.length c, iV n] w fun e w' => ∃ yv, e = .returned (.tuple #[.slice (some ⟨g, o, none⟩) (l.take n).length (l.take n).length, yv]) ∧ Kept w w' ∧ BRd yv (l.drop n) w ∧ yv.ownBlock = some g := by
  unfold maxLen at hl
  have HR := Lib.hid hR
  obtain ⟨_, _, hv, _, hcc⟩ := hR
  have hc : l.length ≤ c := by
    obtain ⟨_, _, ha, h, _⟩ := hcc hne
    cases hv; exact h
  have hpos := List.length_pos_iff.2 hne
  clear hv hcc
  by_cases h : (l.length : Int) < n
  · have HT := Lib.hid (show (l.take n).length = l.length by simp; omega)
    have HD := Lib.hid (show l.drop n = [] by rw [List.drop_eq_nil_iff]; omega)
    have hz : (0 : Int) ≤ l.length := by omega
    have hlc : (l.length : Int) ≤ c := by omega
    rw [HT.out, HD.out]
    go_enter Tryz.func132, Tryz.ntmps132
    go_wp2
    go_quiet (fail)
    go_wp2
    all_goals
      go_ret2
      exact ⟨_, rfl, (Kept.refl w).drewN nq, BRd.any (fun e => by cases e), rfl⟩
  · have HT := Lib.hid (show (l.take n).length = n by simp; omega)
    have HS := Lib.hid (HR.out.sub n l.length (by omega) (Nat.le_refl _))
    rw [List.take_length] at HS
    have HE := Lib.hid (fun hq : c = n => show l.drop n = [] by rw [List.drop_eq_nil_iff]; omega)
    have hz : (0 : Int) ≤ n := by omega
    have hnl : (n : Int) ≤ l.length := by omega
    have hnc : (n : Int) ≤ c := by omega
    rw [HT.out]
    have he : ((l.length - n : Nat) : Int) = (l.length : Int) - n := by omega
    generalize l.drop n = r at *
    by_cases hcn : c = n
    · have hlen : l.length - n = 0 := by omega
      obtain rfl := HE.out hcn
      go_enter Tryz.func132, Tryz.ntmps132
      go_wp2
      go_quiet (fail)
      go_wp2
      go_ret2
      exact ⟨_, rfl, (Kept.refl w).drewN nq, BRd.any (fun e => by cases e), rfl⟩
    · go_enter Tryz.func132, Tryz.ntmps132
      go_wp2
      go_quiet (fail)
      go_wp2
      go_ret2
      exact ⟨_, rfl, (Kept.refl w).drewN nq, HS.out, rfl⟩
end Go.Proofs.YtgpocnnolieijaaGreatDoor
