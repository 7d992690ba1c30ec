/- Rows of texts and of bytes: a call's own, and those that are read. -/
import Derived.Test.YtpkbcomdkamglaaDoorEnBuf
import Derived.Test.YtpkbcomdkamglaaDoorEnN
import Derived.Test.YtpkbcomdkamglaaDoorEnBd
import Derived.Laws.AppendOwnNone
import Derived.RangeFuncRecord
import Derived.Laws.IdiomStrings
import Derived.Lib.ConvBytes
import Derived.Maps.AppendAt
set_option linter.unusedSimpArgs false
set_option linter.unusedVariables false
namespace Go.Proofs.YtpkbcomdkamglaaDoor
open Go.ChangeShapes Go.WideShapes Go.ChangeAt Go.RowKit
open En
abbrev B := List UInt8
/-- a call turns one block alone of what lay -/
structure Ob (b : Nat) (w w' : World) : Prop where
  os : w'.os = w.os
  tape : w'.tape = w.tape
  output : w'.output = w.output
  size : w.heap.size ≤ w'.heap.size
  block : ∀ k, k < w.heap.size → k ≠ b → w'.heap[k]? = w.heap[k]?
theorem Ob.refl (b : Nat) (w : World) : Ob b w w := ⟨rfl, rfl, rfl, Nat.le_refl _, fun _ _ _ => rfl⟩
theorem Ob.trans {b : Nat} {w x y : World} (h : Ob b w x) (k : Ob b x y) : Ob b w y :=
  ⟨k.os.trans h.os, k.tape.trans h.tape, k.output.trans h.output, Nat.le_trans h.size k.size, fun j hj hb => (k.block j (Nat.lt_of_lt_of_le hj h.size) hb).trans (h.block j hj hb)⟩
theorem Ob.kept {b : Nat} {w x y : World} (h : Ob b w x) (k : Kept x y) : Ob b w y :=
  h.trans ⟨k.os, k.tape, k.output, k.size, fun j hj _ => k.block j hj⟩
theorem Ob.drewN {b : Nat} {w x : World} (h : Ob b w x) (n : Nat) : Ob b w (x.drewN n) := h.kept ((Kept.refl x).drewN n)
theorem Ob.set {b : Nat} {w x : World} (h : Ob b w x) (j : Nat) (v : Value) : Ob b w (x.setCell ⟨b, j, none⟩ v) :=
  h.trans ⟨rfl, rfl, rfl, by simp [World.setCell], fun k hk hb => Below.heap_setCell _ _ _ _ hb⟩
theorem Ob.below {b B : Nat} {w w' : World} (h : Ob b w w') (hB : B ≤ b) (hw : B ≤ w.heap.size) : Below B w w' := ⟨h.os, h.tape, h.output, h.size, fun k hk => h.block k (by omega) (by omega)⟩
abbrev sV (s : B) : Value := .string ⟨s.toArray⟩
abbrev iV (n : Int) : Value := .int .i64 n
theorem infoS : (Tryd.prog.info? 9).map (fun i => (i.zero, i.size, i.bytes)) = some (some (.string ⟨#[]⟩), 1, 16) := by kernel_rfl
/-- texts in a slice of the call's own -/
def OwnS (B0 : Nat) (v : Value) (ls : List B) (w : World) : Prop := w.ownsRow B0 9 1 v ls.length (ls.map sV)
theorem own_kind {w : World} {B0 : Nat} {e : TypeId} {size : Nat} {v : Value} {n : Nat} {xs : List Value} (h : w.ownsRow B0 e size v n xs) : ∀ g, v.ownBlock = some g → ∃ c, w.heap[g]? = some (.cells c e (0, 0)) := by
  intro g hg
  rcases h.2 with ⟨rfl, _⟩ | ⟨g', cap, cur, rfl, _, hh, _⟩
  · simp [Value.ownBlock] at hg
  · simp [Value.ownBlock] at hg
    subst hg
    exact ⟨cur, hh⟩
/-- what turns is a row of none of these types -/
def NoRow (e : TypeId) (w : World) (row : Option Nat) : Prop := ∀ r, row = some r → ∀ c, w.heap[r]? ≠ some (.cells c e (0, 0))
theorem own_keep {w w' : World} {B0 : Nat} {e : TypeId} {size : Nat} {v : Value} {n : Nat} {xs : List Value} {row : Option Nat} (h : w.ownsRow B0 e size v n xs) (hg : w.grownBy w' row) (hr : NoRow e w row) : w'.ownsRow B0 e size v n xs := by
  refine World.ownsRow.kept h hg ?_
  cases hv : v.ownBlock with
  | none => exact Or.inl rfl
  | some g =>
    refine Or.inr (fun e' => ?_)
    obtain ⟨c, hc⟩ := own_kind h g hv
    exact hr g e'.symm c hc
theorem NoRow.none {e : TypeId} {w : World} : NoRow e w none := fun r h => by cases h
theorem NoRow.of {e e' : TypeId} {w : World} {r : Nat} {c : Array Value} {fz : Nat × Nat} (h : w.heap[r]? = some (.cells c e' fz)) (hne : e' ≠ e) : NoRow e w (some r) := fun r' h' c' hc => by
  cases h'
  rw [h] at hc
  cases hc
  exact hne rfl
theorem NoRow.own {w : World} {B0 : Nat} {e e' : TypeId} {size : Nat} {v : Value} {n : Nat} {xs : List Value} (h : w.ownsRow B0 e' size v n xs) (hne : e' ≠ e) : NoRow e w v.ownBlock := fun r hr c hc => by
  obtain ⟨c', hc'⟩ := own_kind h r hr
  rw [hc'] at hc
  cases hc
  exact hne rfl
theorem grown_none {w w' : World} {row : Option Nat} (h : w.grownBy w' none) : w.grownBy w' row := ⟨h.os, h.tape, h.output, h.size, fun k hk _ => h.block k hk (by simp)⟩
theorem own_slice {w : World} {B0 : Nat} {e : TypeId} {size : Nat} {v : Value} {n : Nat} {xs : List Value} (h : w.ownsRow B0 e size v n xs) : ∃ ao cap, v = .slice ao n cap := by
  rcases h.2 with ⟨h1, h2⟩ | ⟨g, cap, _, h1, _⟩
  · exact ⟨none, 0, by rw [h1, h2]⟩
  · exact ⟨_, _, h1⟩
theorem own_some {w : World} {B0 : Nat} {e : TypeId} {size : Nat} {v : Value} {n : Nat} {xs : List Value} (h : w.ownsRow B0 e size v n xs) (hn : n ≠ 0) : ∃ g cap, v = .slice (some ⟨g, 0, none⟩) n cap ∧ n ≤ cap ∧ cap ≤ maxLen := by
  rcases h.2 with ⟨_, h2⟩ | ⟨g, cap, _, h1, _, _, h2, h3, _⟩
  · exact absurd h2 hn
  · exact ⟨g, cap, h1, h2, h3⟩
theorem own_mono {w : World} {B0 B1 : Nat} {e : TypeId} {size : Nat} {v : Value} {n : Nat} {xs : List Value} (h : w.ownsRow B1 e size v n xs) (hB : B0 ≤ B1) : w.ownsRow B0 e size v n xs := by
  refine ⟨h.1, ?_⟩
  rcases h.2 with h2 | ⟨g, cap, cur, h1, h2, h3⟩
  · exact Or.inl h2
  · exact Or.inr ⟨g, cap, cur, h1, Nat.le_trans hB h2, h3⟩
/-- a text more -/
theorem wp_pushS {op : Oper} {a : Act} {w : World} {K : Act → World → Prop} {Q : Exit → Act → World → Prop} (sx x : Operand) (ho : op.op = .call { callee := .builtin .append, args := #[sx, x], argTypes := #[25, 25] })
    (B0 : Nat) (v : Value) (ls : List B) (t : B) (k : Nat) (hs : a.eval sx = v) (hO : OwnS B0 v ls w) (hx : a.eval x = .slice (some ⟨k, 0, none⟩) 1 1) (hc : w.cell? ⟨k, 0, none⟩ = some (sV t)) (hl : ls.length ≤ 10000000) (hB : B0 ≤ w.heap.size)
    (h : ∀ v' w', OwnS B0 v' (ls ++ [t]) w' → w.grownBy w' v.ownBlock → K (a.put op.dst v') w') : op.wp Tryd.prog a w K Q := by
  obtain ⟨i0, hi, hz0, hz1, hz2⟩ := info_parts infoS
  refine wp_append_own w sx x 25 ho B0 9 i0 _ 1 16 Tryd.underlying25 hi hz0 hz1 hz2 rfl (by decide) v ls.length (ls.map sV) hs hO ⟨k, 0, none⟩ 1 1 [sV t] hx rfl (fun j u hj => ?_) (fun u hu => by simp at hu; subst hu; rfl) (by unfold maxLen; omega) (by omega) hB ?_
  · match j, hj with
    | 0, hj => simp at hj; subst hj; simpa [Addr.add] using hc
  · intro v' w' h2 h3 _
    refine h v' w' ?_ h3
    unfold OwnS
    rw [List.length_append, List.map_append]
    exact h2
theorem take_eq {α : Type} {l l' : List α} {i : Nat} {a b : α} (h : l.take i = l'.take i) (ha : l[i]? = some a) (hb : l'[i]? = some b) (he : a = b) : l.take (i + 1) = l'.take (i + 1) := by
  rw [List.take_add_one, List.take_add_one, h, ha, hb, he]
theorem take_ne {α : Type} {l l' : List α} {i : Nat} {a b : α} (ha : l[i]? = some a) (hb : l'[i]? = some b) (he : a ≠ b) : l ≠ l' := fun e => by
  rw [e, hb] at ha
  cases ha
  exact he rfl
theorem cell_at {x : World} {n j : Nat} {cs : Array Value} {t : TypeId} {v : Value} (h : x.heap[n]? = some (.cells cs t)) (hv : cs[j]? = some v) : x.cell? ⟨n, j, none⟩ = some v := by
  simp [World.cell?, h, hv]
/-- a value in a block of its own -/
def Bv (t : TypeId) (b : Nat) (v : Value) (W : World) : Prop := W.heap[b]? = some (.cells #[v] t)
theorem Bv.lt {t : TypeId} {b : Nat} {v : Value} {W : World} (h : Bv t b v W) : b < W.heap.size := (Array.getElem?_eq_some_iff.1 h).1
theorem Bv.c {t : TypeId} {b : Nat} {v : Value} {W : World} (h : Bv t b v W) : W.cell? ⟨b, 0, none⟩ = some v := cell_at h rfl
theorem Bv.kept {t : TypeId} {b : Nat} {v : Value} {W W' : World} (h : Bv t b v W) (k : Kept W W') : Bv t b v W' := (k.block _ h.lt).trans h
theorem Bv.new (W : World) (v : Value) (t : TypeId) : Bv t W.heap.size v (W.alloc (.cells #[v] t)) := World.alloc_heap_new W _
theorem set_other {W : World} {b : Nat} {o : Obj} (h : W.heap[b]? = some o) {a : Addr} {v : Value} (ha : b ≠ a.block) : (W.setCell a v).heap[b]? = some o := by
  rw [Below.heap_setCell _ _ _ _ ha]; exact h
/-- bytes, to be read -/
def BRd (v : Value) (l : B) (w : World) : Prop := ∃ a c, v = .slice a l.length c ∧ (l ≠ [] → ∃ g o, a = some ⟨g, o, none⟩ ∧ l.length ≤ c ∧ ∀ (i : Nat) (x : UInt8), l[i]? = some x → w.cell? ⟨g, o + i, none⟩ = some (.int .u8 x.toNat))
theorem BRd.kept {v : Value} {l : B} {w w' : World} (h : BRd v l w) (k : Kept w w') : BRd v l w' := by
  obtain ⟨a, c, hv, h⟩ := h
  refine ⟨a, c, hv, fun hne => ?_⟩
  obtain ⟨g, o, ha, hc, h⟩ := h hne
  exact ⟨g, o, ha, hc, fun i t ht => k.yes (h i t ht)⟩
theorem BRd.slice {v : Value} {l : B} {w : World} (h : BRd v l w) : ∃ a c, v = .slice a l.length c := by
  obtain ⟨a, c, hv, _⟩ := h
  exact ⟨a, c, hv⟩
theorem conv_none (c : Nat) (w : World) : (convert 30 9 (.slice none 0 c)).run Tryd.prog w = .ok (sV []) w := by kernel_rfl
theorem BRd.conv {v : Value} {l : B} {w : World} (h : BRd v l w) : (convert 30 9 v).run Tryd.prog w = .ok (sV l) w := by
  obtain ⟨a, c, rfl, h⟩ := h
  cases l with
  | nil =>
    cases a with
    | none => exact conv_none c w
    | some a => exact run_convert_bytes_back w _ _ _ a c [] Tryd.underlying30 Tryd.underlying5 Tryd.underlying9 (fun j hj => absurd hj (by simp))
  | cons b l =>
    obtain ⟨g, o, rfl, hc, h⟩ := h (by simp)
    exact run_convert_bytes_back w _ _ _ ⟨g, o, none⟩ c (b :: l) Tryd.underlying30 Tryd.underlying5 Tryd.underlying9 (fun j hj => by rw [Addr.add_lit]; exact h j _ (List.getElem?_eq_getElem hj))
theorem str_app (a b : B) : (⟨a.toArray⟩ ++ ⟨b.toArray⟩ : ByteArray) = ⟨(a ++ b).toArray⟩ := by
  apply ByteArray.ext; simp [ByteArray.data_append]
theorem str_lit (s : B) : (⟨s.toArray⟩ : ByteArray).size = s.length := by simp [ByteArray.size]
/-- bytes of a text -/
theorem to_bytes (s : B) (w : World) : ∃ c w', (convert 9 30 (sV s)).run Tryd.prog w = .ok (.slice (some ⟨w.heap.size, 0, none⟩) s.length c) w' ∧ Kept w w' ∧ BRd (.slice (some ⟨w.heap.size, 0, none⟩) s.length c) s w' := by
  have h := Lib.run_convert_string_bytes (P := Tryd.prog) w 9 30 5 ⟨s.toArray⟩ Tryd.underlying9 Tryd.underlying30 Tryd.underlying5
  rw [str_lit] at h
  refine ⟨_, _, h, ?_, ?_⟩
  · exact ⟨rfl, rfl, by rw [Lib.bytesWorld_size]; omega, fun k hk => Lib.bytesWorld_at_old w _ _ k hk, rfl⟩
  · refine ⟨_, _, rfl, fun _ => ⟨_, _, rfl, grownCap_ge _ _ _ _, fun i x hx => ?_⟩⟩
    have hi : i < s.length := (List.getElem?_eq_some_iff.1 hx).1
    rw [Nat.zero_add, Lib.bytesWorld_cell w _ _ i (by rw [str_lit]; exact hi)]
    simp [List.getD, hx]
theorem kept_row {w y z : World} {row : Option Nat} (k : Kept w y) (hg : y.grownBy z row) (hr : ∀ g, row = some g → w.heap.size ≤ g) : Kept w z :=
  ⟨hg.os.trans k.os, hg.output.trans k.output, Nat.le_trans k.size hg.size, fun j hj => (hg.block j (Nat.lt_of_lt_of_le hj k.size) (fun e => by have := hr j e.symm; omega)).trans (k.block j hj), hg.tape.trans k.tape⟩
theorem grown_cell {y z : World} {row : Option Nat} {a : Addr} {v : Value} (hg : y.grownBy z row) (h : y.cell? a = some v) (hne : row ≠ some a.block) : z.cell? a = some v := by
  have hlt : a.block < y.heap.size := by
    unfold World.cell? at h
    split at h
    · rename_i c e1 e2 hb; exact (Array.getElem?_eq_some_iff.1 hb).1
    · cases h
  have hb := hg.block a.block hlt (Ne.symm hne)
  unfold World.cell? at h ⊢
  rw [hb]
  exact h
/-- bytes in a slice of the call's own -/
def OwnB (B0 : Nat) (v : Value) (l : B) (w : World) : Prop := w.ownsRow B0 5 1 v l.length (Lib.byteCells l)
theorem OwnB.nil (B0 : Nat) (w : World) : OwnB B0 (.slice none 0 0) [] w := World.ownsRow_nil _ _ _ _
theorem OwnB.kept {B0 : Nat} {v : Value} {l : B} {w w' : World} (h : OwnB B0 v l w) (k : Kept w w') : OwnB B0 v l w' := own_keep h (k.grownBy none) (fun r hr => by cases hr)
theorem OwnB.rd {B0 : Nat} {v : Value} {l : B} {w : World} (h : OwnB B0 v l w) : BRd v l w := by
  obtain ⟨a, c, hv⟩ := own_slice h
  refine ⟨a, c, hv, fun hne => ?_⟩
  rcases h.2 with ⟨h1, h2⟩ | ⟨g, cap, cur, h1, _, _, hc, _⟩
  · exact absurd (List.length_eq_zero_iff.1 h2) hne
  · rw [h1] at hv
    cases hv
    refine ⟨g, 0, rfl, hc, fun i x hx => ?_⟩
    have h' := h
    rw [h1] at h'
    have := World.ownsRow.cells h' rfl i (.int .u8 x.toNat) (by simp [Lib.byteCells, hx])
    rwa [Addr.add_lit] at this
/-- a text more -/
theorem wp_strB {op : Oper} {a : Act} {w : World} {K : Act → World → Prop} {Q : Exit → Act → World → Prop} (sx x : Operand) (ho : op.op = .call { callee := .builtin .append, args := #[sx, x], argTypes := #[30, 9] })
    (B0 : Nat) (v : Value) (l t : B) (hs : a.eval sx = v) (hO : OwnB B0 v l w) (hx : a.eval x = .string ⟨t.toArray⟩) (hl : l.length + t.length ≤ 100000000000000) (hB : B0 ≤ w.heap.size)
    (h : ∀ v' w', OwnB B0 v' (l ++ t) w' → w.grownBy w' v.ownBlock → K (a.put op.dst v') w') : op.wp Tryd.prog a w K Q := by
  obtain ⟨i0, hi, hz0, hz1, hz2⟩ := info_parts info8
  have hsz : (ByteArray.mk t.toArray).size = t.length := List.size_toArray
  obtain ⟨v', w', hr, h2, h3, h4⟩ := Lib.run_append_own_string (P := Tryd.prog) w B0 30 9 op.type 5 i0 Tryd.underlying30 Tryd.underlying9 hi hz0 hz1 hz2 v l.length (Lib.byteCells l) hO ⟨t.toArray⟩ (by rw [hsz]; unfold maxLen; omega) (by rw [hsz]; omega) hB
  rw [hsz, str_cells, ← byteCells_app] at h2
  unfold Oper.wp execOp
  simp only [ho, resolve, invoke, builtin, Sem.run_bind, Sem.run_pure, Result.andThen_ok, List.map_toArray, List.map_cons, List.map_nil, hs, hx, hr]
  exact h v' w' (by unfold OwnB; rw [List.length_append]; exact h2) h3
/-- a byte more -/
theorem wp_byteB {op : Oper} {a : Act} {w : World} {K : Act → World → Prop} {Q : Exit → Act → World → Prop} (sx x : Operand) (ho : op.op = .call { callee := .builtin .append, args := #[sx, x], argTypes := #[30, 30] })
    (B0 : Nat) (v : Value) (l : B) (t : UInt8) (k : Nat) (hs : a.eval sx = v) (hO : OwnB B0 v l w) (hx : a.eval x = .slice (some ⟨k, 0, none⟩) 1 1) (hc : w.cell? ⟨k, 0, none⟩ = some (.int .u8 t.toNat)) (hl : l.length ≤ 100000000000000) (hB : B0 ≤ w.heap.size)
    (h : ∀ v' w', OwnB B0 v' (l ++ [t]) w' → w.grownBy w' v.ownBlock → K (a.put op.dst v') w') : op.wp Tryd.prog a w K Q := by
  obtain ⟨i0, hi, hz0, hz1, hz2⟩ := info_parts info8
  refine wp_append_own w sx x 30 ho B0 5 i0 _ 1 1 Tryd.underlying30 hi hz0 hz1 hz2 rfl (by decide) v l.length (Lib.byteCells l) hs hO ⟨k, 0, none⟩ 1 1 [.int .u8 t.toNat] hx rfl (fun j u hj => ?_) (fun u hu => by simp at hu; subst hu; rfl) (by unfold maxLen; omega) (by omega) hB ?_
  · match j, hj with
    | 0, hj => simp at hj; subst hj; simpa [Addr.add] using hc
  · intro v' w' h2 h3 _
    refine h v' w' ?_ h3
    unfold OwnB
    rw [List.length_append, byteCells_app]
    exact h2
theorem wpList_pushS {ops : Array Oper} {rest : List Oper} {op : Oper} {a : Act} {w : World} {Q : Exit → Act → World → Prop} (hg : op.guard = none) (sx x : Operand) (ho : op.op = .call { callee := .builtin .append, args := #[sx, x], argTypes := #[25, 25] })
    (B0 : Nat) (v : Value) (ls : List B) (t : B) (k : Nat) (hs : a.eval sx = v) (hO : OwnS B0 v ls w) (hx : a.eval x = .slice (some ⟨k, 0, none⟩) 1 1) (hc : w.cell? ⟨k, 0, none⟩ = some (sV t)) (hl : ls.length ≤ 10000000) (hB : B0 ≤ w.heap.size)
    (h : ∀ v' w', OwnS B0 v' (ls ++ [t]) w' → w.grownBy w' v.ownBlock → wpList Tryd.prog ops Q rest (a.put op.dst v') w') : wpList Tryd.prog ops Q (op :: rest) a w :=
  wpList_plain hg fun K hK => wp_pushS sx x ho B0 v ls t k hs hO hx hc hl hB (fun v' w' h1 h2 => hK _ _ (h v' w' h1 h2))
theorem own_one (w : World) (nm : B) : OwnS w.heap.size (.slice (some ⟨w.heap.size, 0, none⟩) 1 1) [nm] (w.alloc (.cells #[sV nm] 9)) := by
  refine ⟨by simp, Or.inr ⟨w.heap.size, 1, #[sV nm], rfl, Nat.le_refl _, World.alloc_heap_new w _, by simp, by decide, rfl, rfl⟩⟩
theorem OwnS.kept {B0 : Nat} {v : Value} {ls : List B} {w w' : World} (h : OwnS B0 v ls w) (k : Kept w w') : OwnS B0 v ls w' := own_keep h (k.grownBy none) NoRow.none
end Go.Proofs.YtpkbcomdkamglaaDoor
