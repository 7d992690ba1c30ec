/- Rows of texts and of entries: a call's own, and those that are read. -/
import Derived.Test.YtpkkpjonlogliaaDoorEnBuf
import Derived.Test.YtpkkpjonlogliaaDoorEnN
import Derived.Laws.AppendOwnNone
import Derived.RangeFuncRecord
import Derived.Laws.StructEq
set_option linter.unusedSimpArgs false
set_option linter.unusedVariables false
namespace Go.Proofs.YtpkkpjonlogliaaDoor
open Go.ChangeShapes Go.WideShapes Go.ChangeAt Go.RowKit
open En
abbrev B := List UInt8
abbrev Ent := B × B × B × B × Int
/-- a call turns one block alone of what lay -/
structure Ob (b : Nat) (w w' : World) : Prop where
  os : w'.os = w.os
  tape : w'.tape = w.tape
  output : w'.output = w.output
  size : w.heap.size ≤ w'.heap.size
  block : ∀ k, k < w.heap.size → k ≠ b → w'.heap[k]? = w.heap[k]?
theorem Ob.refl (b : Nat) (w : World) : Ob b w w := ⟨rfl, rfl, rfl, Nat.le_refl _, fun _ _ _ => rfl⟩
theorem Ob.trans {b : Nat} {w x y : World} (h : Ob b w x) (k : Ob b x y) : Ob b w y :=
  ⟨k.os.trans h.os, k.tape.trans h.tape, k.output.trans h.output, Nat.le_trans h.size k.size, fun j hj hb => (k.block j (Nat.lt_of_lt_of_le hj h.size) hb).trans (h.block j hj hb)⟩
theorem Ob.kept {b : Nat} {w x y : World} (h : Ob b w x) (k : Kept x y) : Ob b w y :=
  h.trans ⟨k.os, k.tape, k.output, k.size, fun j hj _ => k.block j hj⟩
theorem Ob.drewN {b : Nat} {w x : World} (h : Ob b w x) (n : Nat) : Ob b w (x.drewN n) := h.kept ((Kept.refl x).drewN n)
theorem Ob.set {b : Nat} {w x : World} (h : Ob b w x) (j : Nat) (v : Value) : Ob b w (x.setCell ⟨b, j, none⟩ v) :=
  h.trans ⟨rfl, rfl, rfl, by simp [World.setCell], fun k hk hb => Below.heap_setCell _ _ _ _ hb⟩
theorem Ob.below {b B : Nat} {w w' : World} (h : Ob b w w') (hB : B ≤ b) (hw : B ≤ w.heap.size) : Below B w w' := ⟨h.os, h.tape, h.output, h.size, fun k hk => h.block k (by omega) (by omega)⟩
abbrev sV (s : B) : Value := .string ⟨s.toArray⟩
abbrev iV (n : Int) : Value := .int .i64 n
theorem infoS : (Tryd.prog.info? 9).map (fun i => (i.zero, i.size, i.bytes)) = some (some (.string ⟨#[]⟩), 1, 16) := by kernel_rfl
/-- texts in a slice of the call's own -/
def OwnS (B0 : Nat) (v : Value) (ls : List B) (w : World) : Prop := w.ownsRow B0 9 1 v ls.length (ls.map sV)
theorem own_kind {w : World} {B0 : Nat} {e : TypeId} {size : Nat} {v : Value} {n : Nat} {xs : List Value} (h : w.ownsRow B0 e size v n xs) : ∀ g, v.ownBlock = some g → ∃ c, w.heap[g]? = some (.cells c e (0, 0)) := by
  intro g hg
  rcases h.2 with ⟨rfl, _⟩ | ⟨g', cap, cur, rfl, _, hh, _⟩
  · simp [Value.ownBlock] at hg
  · simp [Value.ownBlock] at hg
    subst hg
    exact ⟨cur, hh⟩
/-- what turns is a row of none of these types -/
def NoRow (e : TypeId) (w : World) (row : Option Nat) : Prop := ∀ r, row = some r → ∀ c, w.heap[r]? ≠ some (.cells c e (0, 0))
theorem own_keep {w w' : World} {B0 : Nat} {e : TypeId} {size : Nat} {v : Value} {n : Nat} {xs : List Value} {row : Option Nat} (h : w.ownsRow B0 e size v n xs) (hg : w.grownBy w' row) (hr : NoRow e w row) : w'.ownsRow B0 e size v n xs := by
  refine World.ownsRow.kept h hg ?_
  cases hv : v.ownBlock with
  | none => exact Or.inl rfl
  | some g =>
    refine Or.inr (fun e' => ?_)
    obtain ⟨c, hc⟩ := own_kind h g hv
    exact hr g e'.symm c hc
theorem NoRow.none {e : TypeId} {w : World} : NoRow e w none := fun r h => by cases h
theorem NoRow.of {e e' : TypeId} {w : World} {r : Nat} {c : Array Value} {fz : Nat × Nat} (h : w.heap[r]? = some (.cells c e' fz)) (hne : e' ≠ e) : NoRow e w (some r) := fun r' h' c' hc => by
  cases h'
  rw [h] at hc
  cases hc
  exact hne rfl
theorem NoRow.own {w : World} {B0 : Nat} {e e' : TypeId} {size : Nat} {v : Value} {n : Nat} {xs : List Value} (h : w.ownsRow B0 e' size v n xs) (hne : e' ≠ e) : NoRow e w v.ownBlock := fun r hr c hc => by
  obtain ⟨c', hc'⟩ := own_kind h r hr
  rw [hc'] at hc
  cases hc
  exact hne rfl
theorem grown_none {w w' : World} {row : Option Nat} (h : w.grownBy w' none) : w.grownBy w' row := ⟨h.os, h.tape, h.output, h.size, fun k hk _ => h.block k hk (by simp)⟩
theorem own_slice {w : World} {B0 : Nat} {e : TypeId} {size : Nat} {v : Value} {n : Nat} {xs : List Value} (h : w.ownsRow B0 e size v n xs) : ∃ ao cap, v = .slice ao n cap := by
  rcases h.2 with ⟨h1, h2⟩ | ⟨g, cap, _, h1, _⟩
  · exact ⟨none, 0, by rw [h1, h2]⟩
  · exact ⟨_, _, h1⟩
theorem own_some {w : World} {B0 : Nat} {e : TypeId} {size : Nat} {v : Value} {n : Nat} {xs : List Value} (h : w.ownsRow B0 e size v n xs) (hn : n ≠ 0) : ∃ g cap, v = .slice (some ⟨g, 0, none⟩) n cap ∧ n ≤ cap ∧ cap ≤ maxLen := by
  rcases h.2 with ⟨_, h2⟩ | ⟨g, cap, _, h1, _, _, h2, h3, _⟩
  · exact absurd h2 hn
  · exact ⟨g, cap, h1, h2, h3⟩
theorem own_mono {w : World} {B0 B1 : Nat} {e : TypeId} {size : Nat} {v : Value} {n : Nat} {xs : List Value} (h : w.ownsRow B1 e size v n xs) (hB : B0 ≤ B1) : w.ownsRow B0 e size v n xs := by
  refine ⟨h.1, ?_⟩
  rcases h.2 with h2 | ⟨g, cap, cur, h1, h2, h3⟩
  · exact Or.inl h2
  · exact Or.inr ⟨g, cap, cur, h1, Nat.le_trans hB h2, h3⟩
/-- a text more -/
theorem wp_pushS {op : Oper} {a : Act} {w : World} {K : Act → World → Prop} {Q : Exit → Act → World → Prop} (sx x : Operand) (ho : op.op = .call { callee := .builtin .append, args := #[sx, x], argTypes := #[22, 22] })
    (B0 : Nat) (v : Value) (ls : List B) (t : B) (k : Nat) (hs : a.eval sx = v) (hO : OwnS B0 v ls w) (hx : a.eval x = .slice (some ⟨k, 0, none⟩) 1 1) (hc : w.cell? ⟨k, 0, none⟩ = some (sV t)) (hl : ls.length ≤ 1000) (hB : B0 ≤ w.heap.size)
    (h : ∀ v' w', OwnS B0 v' (ls ++ [t]) w' → w.grownBy w' v.ownBlock → K (a.put op.dst v') w') : op.wp Tryd.prog a w K Q := by
  obtain ⟨i0, hi, hz0, hz1, hz2⟩ := info_parts infoS
  refine wp_append_own w sx x 22 ho B0 9 i0 _ 1 16 Tryd.underlying22 hi hz0 hz1 hz2 rfl (by decide) v ls.length (ls.map sV) hs hO ⟨k, 0, none⟩ 1 1 [sV t] hx rfl (fun j u hj => ?_) (fun u hu => by simp at hu; subst hu; rfl) (by unfold maxLen; omega) (by omega) hB ?_
  · match j, hj with
    | 0, hj => simp at hj; subst hj; simpa [Addr.add] using hc
  · intro v' w' h2 h3 _
    refine h v' w' ?_ h3
    unfold OwnS
    rw [List.length_append, List.map_append]
    exact h2
theorem take_eq {α : Type} {l l' : List α} {i : Nat} {a b : α} (h : l.take i = l'.take i) (ha : l[i]? = some a) (hb : l'[i]? = some b) (he : a = b) : l.take (i + 1) = l'.take (i + 1) := by
  rw [List.take_add_one, List.take_add_one, h, ha, hb, he]
theorem take_ne {α : Type} {l l' : List α} {i : Nat} {a b : α} (ha : l[i]? = some a) (hb : l'[i]? = some b) (he : a ≠ b) : l ≠ l' := fun e => by
  rw [e, hb] at ha
  cases ha
  exact he rfl
theorem if_ok (c : Prop) [Decidable c] (x y : Bool) (w : World) : (if c then Result.ok x w else Result.ok y w) = Result.ok (if c then x else y) w := by split <;> rfl
theorem if_bb (c : Prop) [Decidable c] (b : Bool) : (if c then b else false) = (decide c && b) := by by_cases h : c <;> simp [h]
theorem cell_at {x : World} {n j : Nat} {cs : Array Value} {t : TypeId} {v : Value} (h : x.heap[n]? = some (.cells cs t)) (hv : cs[j]? = some v) : x.cell? ⟨n, j, none⟩ = some v := by
  simp [World.cell?, h, hv]
/-- a value in a block of its own -/
def Bv (t : TypeId) (b : Nat) (v : Value) (W : World) : Prop := W.heap[b]? = some (.cells #[v] t)
theorem Bv.lt {t : TypeId} {b : Nat} {v : Value} {W : World} (h : Bv t b v W) : b < W.heap.size := (Array.getElem?_eq_some_iff.1 h).1
theorem Bv.c {t : TypeId} {b : Nat} {v : Value} {W : World} (h : Bv t b v W) : W.cell? ⟨b, 0, none⟩ = some v := cell_at h rfl
theorem Bv.kept {t : TypeId} {b : Nat} {v : Value} {W W' : World} (h : Bv t b v W) (k : Kept W W') : Bv t b v W' := (k.block _ h.lt).trans h
theorem Bv.new (W : World) (v : Value) (t : TypeId) : Bv t W.heap.size v (W.alloc (.cells #[v] t)) := World.alloc_heap_new W _
theorem set_other {W : World} {b : Nat} {o : Obj} (h : W.heap[b]? = some o) {a : Addr} {v : Value} (ha : b ≠ a.block) : (W.setCell a v).heap[b]? = some o := by
  rw [Below.heap_setCell _ _ _ _ ha]; exact h
def e5 (e : Ent) : Array Value := #[sV e.1, sV e.2.1, sV e.2.2.1, sV e.2.2.2.1, iV e.2.2.2.2]
abbrev entV (e : Ent) : Value := .agg #[sV e.1, sV e.2.1, sV e.2.2.1, sV e.2.2.2.1, iV e.2.2.2.2]
/-- an entry in a block -/
def Eb (b : Nat) (e : Ent) (W : World) : Prop := W.heap[b]? = some (.cells (e5 e) 28)
theorem Eb.lt {b : Nat} {e : Ent} {W : World} (h : Eb b e W) : b < W.heap.size := (Array.getElem?_eq_some_iff.1 h).1
theorem Eb.kept {b : Nat} {e : Ent} {W W' : World} (h : Eb b e W) (k : Kept W W') : Eb b e W' := (k.block _ h.lt).trans h
theorem Eb.cells {b : Nat} {e : Ent} {W : World} (h : Eb b e W) : W.cell? ⟨b, 0, none⟩ = some (sV e.1) ∧ W.cell? ⟨b, 1, none⟩ = some (sV e.2.1) ∧ W.cell? ⟨b, 2, none⟩ = some (sV e.2.2.1) ∧ W.cell? ⟨b, 3, none⟩ = some (sV e.2.2.2.1) ∧ W.cell? ⟨b, 4, none⟩ = some (iV e.2.2.2.2) :=
  ⟨cell_at h rfl, cell_at h rfl, cell_at h rfl, cell_at h rfl, cell_at h rfl⟩
theorem Eb.frz {b : Nat} {e : Ent} {W : World} (h : Eb b e W) (j : Nat) : W.frozen? ⟨b, j, none⟩ = false := by unfold Eb at h; simp [World.frozen?, h]
theorem Eb.new (W : World) (e : Ent) : Eb W.heap.size e (W.alloc (.cells (e5 e) 28)) := World.alloc_heap_new W _
theorem infoE : (Tryd.prog.info? 28).map (fun i => (i.zero, i.size, i.bytes)) = some (some (.agg #[.string ⟨#[]⟩, .string ⟨#[]⟩, .string ⟨#[]⟩, .string ⟨#[]⟩, .int .i64 0]), 5, 72) := by kernel_rfl
abbrev eCells (e : Ent) : List Value := [sV e.1, sV e.2.1, sV e.2.2.1, sV e.2.2.2.1, iV e.2.2.2.2]
/-- entries in a slice of a call's own -/
def EnO (B0 : Nat) (v : Value) (es : List Ent) (w : World) : Prop := w.ownsRow B0 28 5 v es.length (es.flatMap eCells)
theorem EnO.nil (B0 : Nat) (w : World) : EnO B0 (.slice none 0 0) [] w := World.ownsRow_nil _ _ _ _
theorem EnO.kept {B0 : Nat} {v : Value} {es : List Ent} {w w' : World} (h : EnO B0 v es w) (k : Kept w w') : EnO B0 v es w' := own_keep h (k.grownBy none) (fun r hr => by cases hr)
theorem EnO.slice {B0 : Nat} {v : Value} {es : List Ent} {w : World} (h : EnO B0 v es w) : ∃ a c, v = .slice a es.length c := own_slice h
theorem EnO.snoc {B0 : Nat} {v : Value} {es : List Ent} {e : Ent} {w : World} (h : w.ownsRow B0 28 5 v (es.length + 1) (es.flatMap eCells ++ eCells e)) : EnO B0 v (es ++ [e]) w := by
  unfold EnO
  rw [List.length_append, List.flatMap_append]
  simpa using h
theorem EnO.ne {B0 b : Nat} {t : TypeId} {v x : Value} {es : List Ent} {w : World} (h : EnO B0 v es w) (hb : Bv t b x w) (ht : t ≠ 28) : v.ownBlock ≠ some b := fun e => by
  obtain ⟨c, hc⟩ := own_kind h b e
  unfold Bv at hb
  rw [hb] at hc
  cases hc
  exact ht rfl
theorem EnO.mono {B0 B1 : Nat} {v : Value} {es : List Ent} {w : World} (h : EnO B1 v es w) (hB : B0 ≤ B1) : EnO B0 v es w := own_mono h hB
/-- an entry's cells -/
def EnAt (g o : Nat) (e : Ent) (w : World) : Prop := w.cell? ⟨g, o, none⟩ = some (sV e.1) ∧ w.cell? ⟨g, o + 1, none⟩ = some (sV e.2.1) ∧ w.cell? ⟨g, o + 2, none⟩ = some (sV e.2.2.1) ∧ w.cell? ⟨g, o + 3, none⟩ = some (sV e.2.2.2.1) ∧ w.cell? ⟨g, o + 4, none⟩ = some (iV e.2.2.2.2)
/-- entries, to be read -/
def EnRd (v : Value) (es : List Ent) (w : World) : Prop := ∃ a c, v = .slice a es.length c ∧ (es ≠ [] → ∃ g o, a = some ⟨g, o, none⟩ ∧ es.length ≤ c ∧ ∀ (i : Nat) (e : Ent), es[i]? = some e → EnAt g (o + i * 5) e w)
theorem EnAt.kept {g o : Nat} {e : Ent} {w w' : World} (h : EnAt g o e w) (k : Kept w w') : EnAt g o e w' := ⟨k.yes h.1, k.yes h.2.1, k.yes h.2.2.1, k.yes h.2.2.2.1, k.yes h.2.2.2.2⟩
theorem EnRd.kept {v : Value} {es : List Ent} {w w' : World} (h : EnRd v es w) (k : Kept w w') : EnRd v es w' := by
  obtain ⟨a, c, hv, h⟩ := h
  refine ⟨a, c, hv, fun hne => ?_⟩
  obtain ⟨g, o, ha, hc, h⟩ := h hne
  exact ⟨g, o, ha, hc, fun i e he => (h i e he).kept k⟩
theorem EnRd.slice {v : Value} {es : List Ent} {w : World} (h : EnRd v es w) : ∃ a c, v = .slice a es.length c := by
  obtain ⟨a, c, hv, _⟩ := h
  exact ⟨a, c, hv⟩
theorem EnRd.at {a : Option Addr} {n c : Nat} {es : List Ent} {w : World} (h : EnRd (.slice a n c) es w) {i : Nat} {e : Ent} (he : es[i]? = some e) : n = es.length ∧ ∃ g o, a = some ⟨g, o, none⟩ ∧ es.length ≤ c ∧ EnAt g (o + i * 5) e w := by
  obtain ⟨a', c', hv, h⟩ := h
  cases hv
  obtain ⟨g, o, ha, hc, h⟩ := h (fun q => by rw [q] at he; simp at he)
  exact ⟨rfl, g, o, ha, hc, h i e he⟩
theorem flat5 : ∀ {es : List Ent} {k : Nat} {e : Ent}, es[k]? = some e → (es.flatMap eCells)[k * 5]? = some (sV e.1) ∧ (es.flatMap eCells)[k * 5 + 1]? = some (sV e.2.1) ∧ (es.flatMap eCells)[k * 5 + 2]? = some (sV e.2.2.1) ∧ (es.flatMap eCells)[k * 5 + 3]? = some (sV e.2.2.2.1) ∧ (es.flatMap eCells)[k * 5 + 4]? = some (iV e.2.2.2.2)
  | [], k, e, h => by simp at h
  | a :: es, 0, e, h => by
    simp only [List.getElem?_cons_zero, Option.some.injEq] at h
    subst h; exact ⟨rfl, rfl, rfl, rfl, rfl⟩
  | a :: es, k + 1, e, h => by
    simp only [List.getElem?_cons_succ] at h
    rw [List.flatMap_cons, show (k + 1) * 5 = k * 5 + 5 by omega, show k * 5 + 5 + 1 = k * 5 + 1 + 5 by omega, show k * 5 + 5 + 2 = k * 5 + 2 + 5 by omega, show k * 5 + 5 + 3 = k * 5 + 3 + 5 by omega, show k * 5 + 5 + 4 = k * 5 + 4 + 5 by omega]
    exact flat5 h
theorem EnO.rd {B0 : Nat} {v : Value} {es : List Ent} {w : World} (h : EnO B0 v es w) : EnRd v es w := by
  by_cases hne : es = []
  · obtain ⟨a, c, hv⟩ := own_slice h
    exact ⟨a, c, hv, fun q => absurd hne q⟩
  · obtain ⟨g, cap, hv, hc, _⟩ := own_some h (fun e => hne (List.length_eq_zero_iff.1 e))
    refine ⟨_, cap, hv, fun _ => ⟨g, 0, rfl, hc, fun i e he => ?_⟩⟩
    have hi := (List.getElem?_eq_some_iff.1 he).1
    have h' := h
    unfold EnO at h'
    rw [hv] at h'
    obtain ⟨f0, f1, f2, f3, f4⟩ := flat5 he
    rw [Nat.zero_add]
    exact ⟨by rw [World.ownsRow.cellAt h' (i * 5) (by omega), f0], by rw [World.ownsRow.cellAt h' (i * 5 + 1) (by omega), f1], by rw [World.ownsRow.cellAt h' (i * 5 + 2) (by omega), f2], by rw [World.ownsRow.cellAt h' (i * 5 + 3) (by omega), f3], by rw [World.ownsRow.cellAt h' (i * 5 + 4) (by omega), f4]⟩
set_option maxRecDepth 100000 in
theorem eq_ent (a b : Ent) (w : World) : (Op.equalIn 10000 28 (entV a) (entV b)).run Tryd.prog w = .ok (a == b) w := by
  have h1 : Tryd.prog.stoodInHeld 28 = false := by kernel_rfl
  rw [run_equalIn_struct w 9999 28 _ _ (by simp [go_sem]) h1]
  simp [go_sem]
  simp only [if_ok, if_bb, Bool.and_true]
  congr 1
  rw [Bool.eq_iff_iff]
  obtain ⟨a1, a2, a3, a4, a5⟩ := a
  obtain ⟨b1, b2, b3, b4, b5⟩ := b
  simp
theorem neq_ent (a b : Ent) (w : World) : (binOp .neq 28 (entV a) (entV b)).run Tryd.prog w = .ok (.bool (!(a == b))) w := by
  rw [run_neq_struct, eq_ent]; rfl
instance entDec : DecidableEq Ent := @instDecidableEqProd B (B × B × B × Int) inferInstance (@instDecidableEqProd B (B × B × Int) inferInstance (@instDecidableEqProd B (B × Int) inferInstance inferInstance))
theorem en_new (w : World) (e : Ent) : EnRd (.slice (some ⟨w.heap.size, 0, none⟩) 1 1) [e] (w.alloc (.cells (e5 e) 28)) := by
  refine ⟨_, _, rfl, fun _ => ⟨_, _, rfl, Nat.le_refl _, fun i e' he => ?_⟩⟩
  match i, he with
  | 0, he =>
    cases he
    have h := Eb.new w e
    exact h.cells
end Go.Proofs.YtpkkpjonlogliaaDoor
