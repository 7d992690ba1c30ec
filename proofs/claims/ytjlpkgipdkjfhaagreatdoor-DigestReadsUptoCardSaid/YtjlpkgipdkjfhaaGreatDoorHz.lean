import Derived.Test.YtjlpkgipdkjfhaaGreatDoorHb
import Derived.Test.YtjlpkgipdkjfhaaGreatDoorMa
import Derived.Test.YtjlpkgipdkjfhaaGreatDoorHy
import Derived.Lib.BufStepsIn
import Derived.Test.YtjlpkgipdkjfhaaGreatDoorShelf
import Derived.Test.YtjlpkgipdkjfhaaGreatDoorHx
set_option linter.unusedVariables false
set_option linter.unusedSimpArgs false
namespace Go.Proofs.YtjlpkgipdkjfhaaGreatDoor.Bk.Hd
open Go.ChangeShapes Go.WideShapes Go.ChangeAt Go.RowKit Go.Shelf
theorem ext_of (l : List UInt8) (a b : Nat) : (ByteArray.mk l.toArray).extract a b = ⟨((l.take b).drop a).toArray⟩ := by
  apply ByteArray.ext
  rw [ByteArray.data_extract]
  simp [List.drop_take]
theorem cut_from (l : List UInt8) (x : Int) (a : Nat) (hx : x = a) (h1 : a ≤ l.length) (W : World) :
    (Instr.slice 9 (.string ⟨l.toArray⟩) (some (.int .i64 x)) none none).run Tryz.prog W = .ok (.string ⟨(l.drop a).toArray⟩) W := by
  subst hx
  have hs : (ByteArray.mk l.toArray).size = l.length := List.size_toArray
  rw [run_slice_string_l W 9 _ Tryz.underlying9 .i64 _ (by omega) (by rw [hs]; omega), hs]
  rw [show (a : Int).toNat = a by omega, ext_of, List.take_length]
theorem cut_to (l : List UInt8) (b : Nat) (h1 : b ≤ l.length) (W : World) :
    (Instr.slice 9 (.string ⟨l.toArray⟩) none (some (.int .i64 b)) none).run Tryz.prog W = .ok (.string ⟨(l.take b).toArray⟩) W := by
  have hs : (ByteArray.mk l.toArray).size = l.length := List.size_toArray
  rw [run_slice_string_h W 9 _ Tryz.underlying9 .i64 _ (by omega) (by rw [hs]; omega)]
  rw [show (b : Int).toNat = b by omega, ext_of, List.drop_zero]
theorem cut_both (l : List UInt8) (a b : Nat) (h1 : a ≤ b) (h2 : b ≤ l.length) (W : World) :
    (Instr.slice 9 (.string ⟨l.toArray⟩) (some (.int .i64 a)) (some (.int .i64 b)) none).run Tryz.prog W = .ok (.string ⟨((l.take b).drop a).toArray⟩) W := by
  rw [run_slice_string W 9 _ .i64 .i64 _ _ Tryz.underlying9 (by omega) (by omega) (by show (b : Int) ≤ l.length; omega)]
  rw [show (a : Int).toNat = a by omega, show (b : Int).toNat = b by omega, ext_of]
theorem app_mk (a b : B) : (⟨a.toArray⟩ ++ ⟨b.toArray⟩ : ByteArray) = ⟨(a ++ b).toArray⟩ := str_app a b
theorem cell_at {x : World} {n j : Nat} {cs : Array Value} {t : TypeId} {v : Value} (h : x.heap[n]? = some (.cells cs t)) (hv : cs[j]? = some v) : x.cell? ⟨n, j, none⟩ = some v := by
  simp [World.cell?, h, hv]
def Bv (t : TypeId) (b : Nat) (v : Value) (W : World) : Prop := W.heap[b]? = some (.cells #[v] t)
theorem Bv.lt {t : TypeId} {b : Nat} {v : Value} {W : World} (h : Bv t b v W) : b < W.heap.size := (Array.getElem?_eq_some_iff.1 h).1
theorem Bv.c {t : TypeId} {b : Nat} {v : Value} {W : World} (h : Bv t b v W) : W.cell? ⟨b, 0, none⟩ = some v := cell_at h rfl
theorem Bv.kept {t : TypeId} {b : Nat} {v : Value} {W W' : World} (h : Bv t b v W) (k : Kept W W') : Bv t b v W' := (k.block _ h.lt).trans h
theorem Bv.new (W : World) (v : Value) (t : TypeId) : Bv t W.heap.size v (W.alloc (.cells #[v] t)) := World.alloc_heap_new W _
theorem Bv.save {t : TypeId} {b : Nat} {v : Value} {A B : World} {M : Nat → Obj → Prop} (h : Bv t b v A) (k : Save M A B) (hm : ¬ M b (.cells #[v] t)) : Bv t b v B := k.at h hm
theorem Bv.set {t : TypeId} {b : Nat} {v : Value} {A : World} (h : Bv t b v A) (v' : Value) : Bv t b v' (A.setCell ⟨b, 0, none⟩ v') := by
  unfold Bv at h ⊢
  simp [World.setCell, Array.getElem?_modify, h]
theorem Bv.other {t : TypeId} {b b' : Nat} {v : Value} {A : World} (h : Bv t b v A) (hne : b ≠ b') (j : Nat) (v' : Value) : Bv t b v (A.setCell ⟨b', j, none⟩ v') :=
  (Below.heap_setCell _ _ _ _ hne).trans h
theorem Bv.frz {t : TypeId} {b : Nat} {v : Value} {A : World} (h : Bv t b v A) : A.frozen? ⟨b, 0, none⟩ = false := by unfold Bv at h; simp [World.frozen?, h]
theorem Bv.grown {t : TypeId} {b : Nat} {x : Value} {V y : World} {row : Option Nat} (h : Bv t b x V) (hg : V.grownBy y row) (hne : row ≠ some b) : Bv t b x y := (hg.block b h.lt (fun e => hne e.symm)).trans h
theorem set_other {W : World} {b : Nat} {o : Obj} (h : W.heap[b]? = some o) {a : Addr} {v : Value} (ha : b ≠ a.block) : (W.setCell a v).heap[b]? = some o := by
  rw [Below.heap_setCell _ _ _ _ ha]; exact h
theorem infoS : (Tryz.prog.info? 9).map (fun i => (i.zero, i.size, i.bytes)) = some (some (.string ⟨#[]⟩), 1, 16) := by kernel_rfl
def OwnS (B0 : Nat) (v : Value) (ls : List B) (w : World) : Prop := w.ownsRow B0 9 1 v ls.length (ls.map sV)
theorem OwnS.nil (B0 : Nat) (w : World) : OwnS B0 (.slice none 0 0) [] w := World.ownsRow_nil _ _ _ _
theorem OwnS.kept {B0 : Nat} {v : Value} {ls : List B} {w w' : World} (h : OwnS B0 v ls w) (k : Kept w w') : OwnS B0 v ls w' := own_keep h (k.grownBy none) NoRow.none
theorem run_pushS (w : World) (B0 : Nat) (ty : TypeId) (v : Value) (ls : List B) (t : B) (k : Nat) (hO : OwnS B0 v ls w) (hc : w.cell? ⟨k, 0, none⟩ = some (sV t)) (hl : ls.length ≤ 10000000) (hB : B0 ≤ w.heap.size) :
    ∃ v' w', (Builtin.append_ #[42, 42] ty #[v, .slice (some ⟨k, 0, none⟩) 1 1]).run Tryz.prog w = .ok v' w' ∧ OwnS B0 v' (ls ++ [t]) w' ∧ w.grownBy w' v.ownBlock := by
  obtain ⟨i0, hi, hz0, hz1, hz2⟩ := info_parts infoS
  obtain ⟨v', w', hr, h2, h3, _⟩ := run_append_own_at (P := Tryz.prog) (w := w) B0 42 ty 9 i0 _ 1 16 Tryz.underlying42 hi hz0 hz1 hz2 rfl (by decide) v ls.length (ls.map sV) hO ⟨k, 0, none⟩ 1 1 [sV t] rfl (fun j u hj => by
    match j, hj with
    | 0, hj => simp at hj; subst hj; simpa [Addr.add] using hc) (fun u hu => by simp at hu; subst hu; rfl) (by unfold maxLen; omega) (by omega) hB
  refine ⟨v', w', hr, ?_, h3⟩
  unfold OwnS
  rw [List.length_append, List.map_append]
  exact h2
theorem wp_ok {op : Oper} {a : Act} {w w' : World} {v' : Value} {K : Act → World → Prop} {Q : Exit → Act → World → Prop} (sx x : Operand) (t1 t2 : TypeId) (ho : op.op = .call { callee := .builtin .append, args := #[sx, x], argTypes := #[t1, t2] })
    (hr : (Builtin.append_ #[t1, t2] op.type #[a.eval sx, a.eval x]).run Tryz.prog w = .ok v' w') (h : K (a.put op.dst v') w') : op.wp Tryz.prog a w K Q := by
  unfold Oper.wp execOp
  simp only [ho, resolve, invoke, builtin, Sem.run_bind, Sem.run_pure, Result.andThen_ok, List.map_toArray, List.map_cons, List.map_nil, hr]
  exact h
theorem wpList_pushS {ops : Array Oper} {rest : List Oper} {op : Oper} {a : Act} {w : World} {Q : Exit → Act → World → Prop} (hg : op.guard = none) (sx x : Operand) (ho : op.op = .call { callee := .builtin .append, args := #[sx, x], argTypes := #[42, 42] })
    (B0 : Nat) (v : Value) (ls : List B) (t : B) (k : Nat) (hs : a.eval sx = v) (hO : OwnS B0 v ls w) (hx : a.eval x = .slice (some ⟨k, 0, none⟩) 1 1) (hc : w.cell? ⟨k, 0, none⟩ = some (sV t)) (hl : ls.length ≤ 10000000) (hB : B0 ≤ w.heap.size)
    (h : ∀ v' w', OwnS B0 v' (ls ++ [t]) w' → w.grownBy w' v.ownBlock → wpList Tryz.prog ops Q rest (a.put op.dst v') w') : wpList Tryz.prog ops Q (op :: rest) a w := by
  obtain ⟨v', w', hr, h2, h3⟩ := run_pushS w B0 op.type v ls t k hO hc hl hB
  exact wpList_plain hg fun K hK => wp_ok sx x _ _ ho (by rw [hs, hx]; exact hr) (hK _ _ (h v' w' h2 h3))
theorem wpListIn_pushS {F : Fence} {n : Nat} {ops : Array Oper} {rest : List Oper} {op : Oper} {a : Act} {w : World} {Q : Exit → Act → World → Prop} (hg : op.guard = none) (sx x : Operand) (ho : op.op = .call { callee := .builtin .append, args := #[sx, x], argTypes := #[42, 42] })
    (B0 : Nat) (v : Value) (ls : List B) (t : B) (k : Nat) (hs : a.eval sx = v) (hO : OwnS B0 v ls w) (hx : a.eval x = .slice (some ⟨k, 0, none⟩) 1 1) (hc : w.cell? ⟨k, 0, none⟩ = some (sV t)) (hl : ls.length ≤ 10000000) (hB : B0 ≤ w.heap.size)
    (h : ∀ v' w', OwnS B0 v' (ls ++ [t]) w' → w.grownBy w' v.ownBlock → wpListIn F n Tryz.prog ops Q rest (a.put op.dst v') w') : wpListIn F n Tryz.prog ops Q (op :: rest) a w := by
  obtain ⟨v', w', hr, h2, h3⟩ := run_pushS w B0 op.type v ls t k hO hc hl hB
  exact wpListIn_ok hg sx x _ _ ho (by rw [hs, hx]; exact hr) (h v' w' h2 h3)
def SRd (v : Value) (ls : List B) (w : World) : Prop := ∃ a c, v = .slice a ls.length c ∧ (ls ≠ [] → ∃ g o, a = some ⟨g, o, none⟩ ∧ ls.length ≤ c ∧ ∀ (i : Nat) (t : B), ls[i]? = some t → w.cell? ⟨g, o + i, none⟩ = some (sV t))
theorem SRd.kept {v : Value} {ls : List B} {w w' : World} (h : SRd v ls w) (k : Kept w w') : SRd v ls w' := by
  obtain ⟨a, c, hv, h⟩ := h
  refine ⟨a, c, hv, fun hne => ?_⟩
  obtain ⟨g, o, ha, hc, h⟩ := h hne
  exact ⟨g, o, ha, hc, fun i t ht => k.yes (h i t ht)⟩
theorem SRd.slice {v : Value} {ls : List B} {w : World} (h : SRd v ls w) : ∃ a c, v = .slice a ls.length c := by
  obtain ⟨a, c, hv, _⟩ := h
  exact ⟨a, c, hv⟩
theorem SRd.at {v : Value} {ls : List B} {w : World} (h : SRd v ls w) {i : Nat} {t : B} (ht : ls[i]? = some t) : ∃ g o c, v = .slice (some ⟨g, o, none⟩) ls.length c ∧ ls.length ≤ c ∧ w.cell? ⟨g, o + i, none⟩ = some (sV t) := by
  obtain ⟨a, c, hv, h⟩ := h
  obtain ⟨g, o, ha, hc, hp⟩ := h (by rintro rfl; simp at ht)
  rw [ha] at hv
  exact ⟨g, o, c, hv, hc, hp i t ht⟩
theorem OwnS.rd {B0 : Nat} {v : Value} {ls : List B} {w : World} (h : OwnS B0 v ls w) : SRd v ls w := by
  rcases h.2 with ⟨h1, h2⟩ | ⟨g, cap, cur, h1, _, _, hc, _⟩
  · exact ⟨none, 0, by rw [h1, h2], fun hne => absurd (List.length_eq_zero_iff.1 h2) hne⟩
  · refine ⟨some ⟨g, 0, none⟩, cap, h1, fun _ => ⟨g, 0, rfl, hc, fun i t ht => ?_⟩⟩
    have h' := h
    rw [h1] at h'
    have := World.ownsRow.cells h' rfl i (sV t) (by simp [ht])
    rwa [Addr.add_lit] at this
abbrev hV (h : Hdr) : Value := .agg #[sV h.1, sV h.2]
abbrev hCells (l : List Hdr) : List Value := l.flatMap fun h => [sV h.1, sV h.2]
theorem hCells_app (a b : List Hdr) : hCells (a ++ b) = hCells a ++ hCells b := by simp [hCells]
theorem hCells_at : ∀ (l : List Hdr) (i : Nat) (h : Hdr), l[i]? = some h → (hCells l)[2 * i]? = some (sV h.1) ∧ (hCells l)[2 * i + 1]? = some (sV h.2)
  | [], i, h, e => by simp at e
  | x :: l, 0, h, e => by
    simp at e; subst e; simp [hCells]
  | x :: l, i + 1, h, e => by
    have := hCells_at l i h (by simpa using e)
    simp only [hCells, List.flatMap_cons, show 2 * (i + 1) = 2 * i + 1 + 1 by omega] at this ⊢
    simpa using this
theorem infoH : (Tryz.prog.info? 41).map (fun i => (i.zero, i.size, i.bytes)) = some (some (.agg #[.string ⟨#[]⟩, .string ⟨#[]⟩]), 2, 32) := by kernel_rfl
def OwnH (B0 : Nat) (v : Value) (l : List Hdr) (w : World) : Prop := w.ownsRow B0 41 2 v l.length (hCells l)
theorem OwnH.nil (B0 : Nat) (w : World) : OwnH B0 (.slice none 0 0) [] w := World.ownsRow_nil _ _ _ _
theorem OwnH.kept {B0 : Nat} {v : Value} {l : List Hdr} {w w' : World} (h : OwnH B0 v l w) (k : Kept w w') : OwnH B0 v l w' := own_keep h (k.grownBy none) NoRow.none
theorem run_pushH (w : World) (B0 : Nat) (ty : TypeId) (v : Value) (l : List Hdr) (h : Hdr) (k : Nat) (hO : OwnH B0 v l w) (hc0 : w.cell? ⟨k, 0, none⟩ = some (sV h.1)) (hc1 : w.cell? ⟨k, 1, none⟩ = some (sV h.2)) (hl : l.length ≤ 10000000) (hB : B0 ≤ w.heap.size) :
    ∃ v' w', (Builtin.append_ #[37, 37] ty #[v, .slice (some ⟨k, 0, none⟩) 1 1]).run Tryz.prog w = .ok v' w' ∧ OwnH B0 v' (l ++ [h]) w' ∧ w.grownBy w' v.ownBlock := by
  obtain ⟨i0, hi, hz0, hz1, hz2⟩ := info_parts infoH
  obtain ⟨v', w', hr, h2, h3, _⟩ := run_append_own_at (P := Tryz.prog) (w := w) B0 37 ty 41 i0 _ 2 32 Tryz.underlying37 hi hz0 hz1 hz2 rfl (by decide) v l.length (hCells l) hO ⟨k, 0, none⟩ 1 1 [sV h.1, sV h.2] rfl (fun j u hj => by
    match j, hj with
    | 0, hj => simp at hj; subst hj; simpa [Addr.add] using hc0
    | 1, hj => simp at hj; subst hj; simpa [Addr.add] using hc1) (fun u hu => by simp at hu; rcases hu with rfl | rfl <;> rfl) (by unfold maxLen; omega) (by omega) hB
  refine ⟨v', w', hr, ?_, h3⟩
  unfold OwnH
  rw [List.length_append, hCells_app]
  exact h2
def HRd (v : Value) (l : List Hdr) (w : World) : Prop := ∃ a c, v = .slice a l.length c ∧ (l ≠ [] → ∃ g o, a = some ⟨g, o, none⟩ ∧ l.length ≤ c ∧ ∀ (i : Nat) (h : Hdr), l[i]? = some h → w.cell? ⟨g, o + i * 2, none⟩ = some (sV h.1) ∧ w.cell? ⟨g, o + i * 2 + 1, none⟩ = some (sV h.2))
theorem HRd.kept {v : Value} {l : List Hdr} {w w' : World} (h : HRd v l w) (k : Kept w w') : HRd v l w' := by
  obtain ⟨a, c, hv, h⟩ := h
  refine ⟨a, c, hv, fun hne => ?_⟩
  obtain ⟨g, o, ha, hc, h⟩ := h hne
  exact ⟨g, o, ha, hc, fun i t ht => ⟨k.yes (h i t ht).1, k.yes (h i t ht).2⟩⟩
theorem HRd.slice {v : Value} {l : List Hdr} {w : World} (h : HRd v l w) : ∃ a c, v = .slice a l.length c := by
  obtain ⟨a, c, hv, _⟩ := h
  exact ⟨a, c, hv⟩
theorem HRd.at {v : Value} {l : List Hdr} {w : World} (h : HRd v l w) {i : Nat} {t : Hdr} (ht : l[i]? = some t) : ∃ g o c, v = .slice (some ⟨g, o, none⟩) l.length c ∧ l.length ≤ c ∧ w.cell? ⟨g, o + i * 2, none⟩ = some (sV t.1) ∧ w.cell? ⟨g, o + i * 2 + 1, none⟩ = some (sV t.2) := by
  obtain ⟨a, c, hv, h⟩ := h
  obtain ⟨g, o, ha, hc, hp⟩ := h (by rintro rfl; simp at ht)
  rw [ha] at hv
  exact ⟨g, o, c, hv, hc, hp i t ht⟩
theorem OwnH.rd {B0 : Nat} {v : Value} {l : List Hdr} {w : World} (h : OwnH B0 v l w) : HRd v l w := by
  rcases h.2 with ⟨h1, h2⟩ | ⟨g, cap, cur, h1, _, _, hc, _⟩
  · exact ⟨none, 0, by rw [h1, h2], fun hne => absurd (List.length_eq_zero_iff.1 h2) hne⟩
  · refine ⟨some ⟨g, 0, none⟩, cap, h1, fun _ => ⟨g, 0, rfl, hc, fun i t ht => ?_⟩⟩
    have h' := h
    rw [h1] at h'
    obtain ⟨q0, q1⟩ := hCells_at l i t ht
    have e0 := World.ownsRow.cells h' rfl _ _ q0
    have e1 := World.ownsRow.cells h' rfl _ _ q1
    rw [Addr.add_lit] at e0 e1
    rw [Nat.mul_comm i 2]
    exact ⟨e0, by rw [Nat.add_assoc]; exact e1⟩
theorem env_save {M : Nat → Obj → Prop} {A B : World} (h : Env A) (k : Save M A B) (hm : ∀ o, ¬ M 0 o) : Env B := by
  obtain ⟨m, hc⟩ := h
  obtain ⟨o, ho⟩ := at_some (cell_lt hc)
  have hb := k.at ho (hm o)
  refine ⟨m, ?_⟩
  unfold World.cell? at hc ⊢
  rw [hb]; rw [ho] at hc; exact hc
theorem env_lt {w : World} (h : Env w) : 0 < w.heap.size := by
  obtain ⟨m, hc⟩ := h
  exact cell_lt hc
theorem own_turn {w w' : World} {B0 : Nat} {e : TypeId} {size : Nat} {v : Value} {n : Nat} {xs : List Value} {M : Nat → Obj → Prop} (h : w.ownsRow B0 e size v n xs) (k : Save M w w') (hm : ∀ g c, B0 ≤ g → ¬ M g (.cells c e (0, 0))) : w'.ownsRow B0 e size v n xs := by
  refine ⟨h.1, ?_⟩
  rcases h.2 with h2 | ⟨g, cap, cur, h1, h2, h3, h4⟩
  · exact Or.inl h2
  · exact Or.inr ⟨g, cap, cur, h1, h2, k.at h3 (hm g cur h2), h4⟩
theorem OwnM.turn {w w' : World} {B0 : Nat} {v : Value} {l : B} {M : Nat → Obj → Prop} (h : OwnM B0 v l w) (k : Save M w w') (hm : ∀ g c fz, B0 ≤ g → ¬ M g (.cells c 5 fz)) : OwnM B0 v l w' := by
  rcases h with h | ⟨g, cap, cur, fz, h1, h2, h3, h4⟩
  · exact Or.inl h
  · exact Or.inr ⟨g, cap, cur, fz, h1, h2, k.at h3 (hm g cur fz h2), h4⟩
theorem own_set {w : World} {B0 : Nat} {e : TypeId} {size : Nat} {v : Value} {n : Nat} {xs : List Value} (h : w.ownsRow B0 e size v n xs) (j i : Nat) (x : Value) (hj : j < B0) : (w.setCell ⟨j, i, none⟩ x).ownsRow B0 e size v n xs := by
  refine ⟨h.1, ?_⟩
  rcases h.2 with h2 | ⟨g, cap, cur, h1, h2, h3, h4⟩
  · exact Or.inl h2
  · exact Or.inr ⟨g, cap, cur, h1, h2, (Below.heap_setCell _ _ _ _ (by show g ≠ j; omega)).trans h3, h4⟩
theorem OwnM.set {w : World} {B0 : Nat} {v : Value} {l : B} (h : OwnM B0 v l w) (j i : Nat) (x : Value) (hj : j < B0) : OwnM B0 v l (w.setCell ⟨j, i, none⟩ x) :=
  h.stay fun k hk => Below.heap_setCell _ _ _ _ (by have := (h.lt k hk).1; show k ≠ j; omega)
theorem Save.kept_of {M : Nat → Obj → Prop} {w A B : World} (h : Kept w A) (k : Save M A B) (hm : ∀ j o, j < w.heap.size → ¬ M j o) : Kept w B :=
  ⟨k.os.trans h.os, k.output.trans h.output, Nat.le_trans h.size k.size, fun j hj => by
    obtain ⟨ob, hob⟩ := at_some (A := A) (k := j) (Nat.lt_of_lt_of_le hj h.size)
    rw [k.block j ob hob (hm j ob hj), ← hob, h.block j hj], k.tape.trans h.tape⟩
theorem save_row {V y : World} {j i : Nat} {x : Value} {row : Option Nat} {M : Nat → Obj → Prop} (hg : V.grownBy y row) (h1 : ∀ g o, row = some g → V.heap[g]? = some o → M g o) (h2 : ∀ o, V.heap[j]? = some o → M j o) : Save M V (y.setCell ⟨j, i, none⟩ x) :=
  ⟨hg.os, hg.output, by have := hg.size; simpa [World.setCell] using this, fun k o hk hn => by
    have hj : k ≠ j := fun e => hn (by subst e; exact h2 o hk)
    rw [Below.heap_setCell _ _ _ _ hj, hg.block k (Array.getElem?_eq_some_iff.1 hk).1 (fun e => hn (h1 k o e.symm hk)), hk], hg.tape⟩
theorem kept_put {w x : World} (h : Kept w x) {r : Nat} (hr : w.heap.size ≤ r) (o : Obj) : Kept w (x.putObj r o) :=
  ⟨h.os, h.output, by have := h.size; simpa using this, fun j hj => (World.putObj_heap_other (by omega)).trans (h.block j hj), h.tape⟩
theorem grown_refl (w : World) (row : Option Nat) : w.grownBy w row := ⟨rfl, rfl, rfl, Nat.le_refl _, fun _ _ _ => rfl⟩
attribute [local go_sem] Oper.semAt_some
def seqS (ts : List B) (k : Nat) (arr : Array Value) (k' : Nat) : Prop := ∃ t, ts[k]? = some t ∧ arr = #[sV t] ∧ k' = k + 1
theorem index_any (s t : B) (w : World) (hE : Env w) (hs : s.length ≤ 4000000000) : Calls Tryz.prog 188 #[sV s, sV t] w fun e w' => e = .returned (iV (Lib.index s t)) ∧ w' = w := by
  obtain ⟨m, hm⟩ := hE
  have hsz : (ByteArray.mk s.toArray).size = s.length := List.size_toArray
  exact Tryz.strings_Index ⟨s.toArray⟩ ⟨t.toArray⟩ m w (by omega) hm
def RdE (k : Nat) : Prop := k = 0
structure SCap (a b d : Nat) (c : B) (l : B) (W : World) : Prop where
  a : Bv 9 a (sV c) W
  b : Bv 9 b (sV l) W
  d : Bv 3 d (iV 0) W
  e : Env W
theorem SCap.kept {a b d : Nat} {c l : B} {W W' : World} (h : SCap a b d c l W) (k : Kept W W') : SCap a b d c l W' := ⟨h.a.kept k, h.b.kept k, h.d.kept k, h.e.kept k⟩
def SqT (a b d : Nat) (k : Nat) : Prop := k = a ∨ k = b ∨ k = d
def SqP (c l : B) (w : World) (e : Ending) (w' : World) : Prop :=
  ∃ a b d : Nat, e = .returned (.func (.func 186) #[] #[.pointer (some ⟨a, 0, none⟩), .pointer (some ⟨b, 0, none⟩), .pointer (some ⟨d, 0, none⟩)]) ∧ SCap a b d c l w' ∧ Kept w w' ∧ (w.heap.size ≤ a ∧ w.heap.size ≤ b ∧ w.heap.size ≤ d) ∧ (a < w'.heap.size ∧ b < w'.heap.size ∧ d < w'.heap.size) ∧ b ≠ a ∧ b ≠ d
theorem split0_any (c l : B) (w : World) (hE : Env w) (hc : c ≠ []) (hcl : c.length ≤ 100) : Calls Tryz.prog 131 #[.string ⟨l.toArray⟩, .string ⟨c.toArray⟩, .int .i64 0] w (SqP c l w) := by
  have k0 := (Kept.refl w).alloc (.cells #[sV l] 9)
  have b0 := Bv.new w (sV l) 9
  have hcs : (ByteArray.mk c.toArray).size = c.length := List.size_toArray
  have hpos := List.length_pos_iff.2 hc
  have hc0 : ((c.length : Int) == 0) = false := by rw [beq_eq_false_iff_ne]; omega
  have HE := Lib.hid hE
  clear hE hc
  go_enter Tryz.func131, Tryz.ntmps131
  go_upto_region 1 with (fail)
  have s0 : (w.alloc (.cells #[sV l] 9)).heap.size = w.heap.size + 1 := by simp
  generalize hx : w.alloc (.cells #[sV l] 9) = x at *
  have k1 := k0.alloc (.cells #[sV c] 9)
  have b1 := Bv.new x (sV c) 9
  have b01 := b0.kept ((Kept.refl x).alloc (.cells #[sV c] 9))
  have s1 : (x.alloc (.cells #[sV c] 9)).heap.size = x.heap.size + 1 := by simp
  generalize hy : x.alloc (.cells #[sV c] 9) = y at *
  have k2 := k1.alloc (.cells #[iV 0] 3)
  have b2 := Bv.new y (iV 0) 3
  have b02 := b01.kept ((Kept.refl y).alloc (.cells #[iV 0] 3))
  have b12 := b1.kept ((Kept.refl y).alloc (.cells #[iV 0] 3))
  have P := Lib.hid (show SCap (w.heap.size + 1) w.heap.size (w.heap.size + 2) c l (y.alloc (.cells #[iV 0] 3)) ∧ Kept w (y.alloc (.cells #[iV 0] 3)) from ⟨⟨by rw [← s0]; exact b12, b02, by rw [show w.heap.size + 2 = y.heap.size by omega]; exact b2, HE.out.kept k2⟩, k2⟩)
  have z1 : w.heap.size + 2 < (y.alloc (.cells #[iV 0] 3)).heap.size := by simp; omega
  have c1 := P.out.1.a.c
  generalize y.alloc (.cells #[iV 0] 3) = z at *
  clear k0 b0 k1 b1 b01 k2 b2 b02 b12
  go_wp2
  go_ret
  exact ⟨w.heap.size + 1, w.heap.size, w.heap.size + 2, rfl, P.out.1, P.out.2, by omega, by omega, by omega, by omega⟩
theorem splitSeq_any (c l : B) (w : World) (hE : Env w) (hc : c ≠ []) (hcl : c.length ≤ 100) : Calls Tryz.prog 87 #[.string ⟨l.toArray⟩, .string ⟨c.toArray⟩] w (SqP c l w) := by
  have HC := Lib.hid (split0_any c l w hE hc hcl)
  clear hE hc
  go_enter Tryz.func87, Tryz.ntmps87
  go_wp2_with fail
  refine HC.out.mono ?_
  rintro e w1 ⟨a, b, d, rfl, h⟩
  have H := Lib.hid h
  clear h
  go_wp2
  go_ret
  exact ⟨a, b, d, rfl, H.out⟩
def lenAt (b : Nat) (W : World) : Nat := match W.cell? ⟨b, 0, none⟩ with | some (Value.string s) => s.size | _ => 0
theorem lenAt_of {b : Nat} {l : B} {W : World} (h : Bv 9 b (sV l) W) : lenAt b W = l.length := by
  unfold lenAt
  rw [h.c]
  exact List.size_toArray
theorem spl_cases (c r : B) (hc : 1 ≤ c.length) : (Lib.index r c = -1 ∧ spl c r = [r]) ∨ ∃ i : Nat, Lib.index r c = i ∧ i + c.length ≤ r.length ∧ spl c r = r.take i :: spl c (r.drop (i + c.length)) := by
  have hge := Lib.index_ge r c
  by_cases h : Lib.index r c = -1
  · exact Or.inl ⟨h, spl_none h⟩
  · have hr := Lib.index_room r c (by omega)
    refine Or.inr ⟨(Lib.index r c).toNat, by omega, by omega, spl_hit hc (by omega)⟩
set_option maxRecDepth 100000 in
set_option maxHeartbeats 4000000 in
theorem split_itr (c l : B) (hc : c ≠ []) (hcl : c.length ≤ 100) (hl : l.length ≤ 1000000000) (a b d : Nat) (hba : b ≠ a) (hbd : b ≠ d) :
    Itr Tryz.prog 186 #[.pointer (some ⟨a, 0, none⟩), .pointer (some ⟨b, 0, none⟩), .pointer (some ⟨d, 0, none⟩)] (seqS (spl c l)) (fun k => k = (spl c l).length) 0 (SqT a b d) RdE (SCap a b d c l) := by
  intro nn ll M J Jx W hcap hM hJ hJx hY h0
  have HC := Lib.hid hcap; have HM := Lib.hid hM; have HJ := Lib.hid hJ; have HJX := Lib.hid hJx; have HY := Lib.hid hY; have H0 := Lib.hid h0
  have hpos := List.length_pos_iff.2 hc
  have hcs : (ByteArray.mk c.toArray).size = c.length := List.size_toArray
  clear hcap hM hJ hJx hY h0 hc
  have ca := HC.out.a.c
  refine callsIn_wide.2 ((callsIn_wide (n := 5)).1 ?_)
  refine callsIn_of_wp Tryz.func186 rfl trivial ?_ rfl
  simp only [Tryz.ntmps186, List.size_toArray, List.length_cons, List.length_nil, Nat.reduceAdd, Nat.reduceSub, Array.replicate_succ, Array.replicate_zero, List.push_toArray, List.append_toArray, List.nil_append, List.cons_append]
  have hc0 : ((c.length : Int) == 0) = false := by rw [beq_eq_false_iff_ne]; omega
  gi_wp2
  clear hc0
  gi_loopw [7] (fun _ wr => ∃ (k : Nat) (r : B), Hid (spl c r = (spl c l).drop k) ∧ r.length ≤ l.length ∧ Hid (SCap a b d c r wr) ∧ Hid (J k wr) ∧ Hid (Save (fun k o => M k o ∨ SqT a b d k) W wr)) (fun _ wr => lenAt b wr)
  case atStart => exact ⟨0, l, Lib.hid rfl, Nat.le_refl _, HC, H0, Lib.hid (Save.refl _ _)⟩
  case round =>
    clear ca
    obtain ⟨k, r, hS, hrl, hC, hj, hv⟩ := hrel
    have ca := hC.out.a.c
    have cb := hC.out.b.c
    have cd := hC.out.d.c
    have fb := hC.out.b.frz
    have hsz : (ByteArray.mk r.toArray).size = r.length := List.size_toArray
    have hM0 := lenAt_of hC.out.b
    have HMe := Lib.hid hM0
    clear hM0
    have HIX := Lib.hid (index_any r c wr hC.out.e (by omega))
    rcases spl_cases c r hpos with ⟨hno, hsp⟩ | ⟨i, hi, hil, hsp⟩
    · have h1 : (spl c l)[k]? = some r := by
        have h1 : ((spl c l).drop k)[0]? = some r := by rw [← hS.out, hsp]; rfl
        rwa [List.getElem?_drop, Nat.add_zero] at h1
      have h2 : k + 1 = (spl c l).length := by
        have := congrArg List.length hS.out
        rw [hsp] at this
        simp at this; omega
      rw [hno] at HIX
      have HE := Lib.hid h2
      obtain ⟨fn, tmps, assign, body, hy, hRr⟩ := yield_any (m := 4) (HY.out k #[sV r] (k + 1) _ ⟨r, h1, rfl, rfl⟩ hj.out)
      clear hno h1 h2 hS hsp
      gi_wp2_with fail
      refine ⟨trivial, ?_⟩
      refine (callsIn_wide.2 HIX.out).mono ?_
      rintro e w1 ⟨rfl, rfl⟩
      gi_wp2
      refine hRr.mono ?_
      rintro e W3 ⟨v3, ⟨rfl, j3⟩ | ⟨rfl, j3⟩⟩
      · have V3 := Lib.hid (hv.out.trans (v3.mono (fun _ _ _ h => Or.inl h)))
        clear hRr hy v3
        gi_wp2
        go_end0
        exact ⟨⟨_, rfl⟩, V3.out, .inl ⟨_, HE.out, j3⟩⟩
      · have V3 := Lib.hid (hv.out.trans (v3.mono (fun _ _ _ h => Or.inl h)))
        clear hRr hy v3
        gi_wp2
        go_end0
        exact ⟨⟨_, rfl⟩, V3.out, .inr ⟨_, j3⟩⟩
    · have h1 : (spl c l)[k]? = some (r.take i) := by
        have h1 : ((spl c l).drop k)[0]? = some (r.take i) := by rw [← hS.out, hsp]; rfl
        rwa [List.getElem?_drop, Nat.add_zero] at h1
      have h2 : spl c (r.drop (i + c.length)) = (spl c l).drop (k + 1) := by
        rw [← List.tail_drop, ← hS.out, hsp]; rfl
      rw [hi] at HIX
      have hct := cut_to r i (by omega)
      have hcf := cut_from r ((i : Int) + c.length) (i + c.length) (by omega) (by omega)
      have HN := Lib.hid h2
      have hql : (r.drop (i + c.length)).length < r.length := by simp; omega
      obtain ⟨fn, tmps, assign, body, hy, hRr⟩ := yield_any (m := 4) (HY.out k #[sV (r.take i)] (k + 1) _ ⟨r.take i, h1, rfl, rfl⟩ hj.out)
      clear h1 h2 hS hsp hi
      generalize r.drop (i + c.length) = q at *
      gi_wp2_with fail
      refine ⟨trivial, ?_⟩
      refine (callsIn_wide.2 HIX.out).mono ?_
      rintro e w1 ⟨rfl, rfl⟩
      gi_wp2
      refine hRr.mono ?_
      rintro e W3 ⟨v3, ⟨rfl, j3⟩ | ⟨rfl, j3⟩⟩
      · have V3 := Lib.hid (hv.out.trans (v3.mono (fun _ _ _ h => Or.inl h)))
        have A3 := hC.out.a.save v3 (fun h => (HM.out _ _ h).1 (Or.inl rfl))
        have B3 := hC.out.b.save v3 (fun h => (HM.out _ _ h).1 (Or.inr (Or.inl rfl)))
        have D3 := hC.out.d.save v3 (fun h => (HM.out _ _ h).1 (Or.inr (Or.inr rfl)))
        have E3 := env_save hC.out.e v3 (fun o h => (HM.out _ _ h).2 rfl)
        have hbe : 0 ≠ b := fun e => by
          obtain ⟨m, hm⟩ := E3
          have := B3.c
          rw [← e, hm] at this
          cases this
        have E4 : Env (W3.setCell ⟨b, 0, none⟩ (sV q)) := by
          obtain ⟨m, hm⟩ := E3
          refine ⟨m, ?_⟩
          unfold World.cell? at hm ⊢
          rw [Below.heap_setCell _ _ _ _ (show 0 ≠ b from hbe)]
          exact hm
        have HZ := Lib.hid (show SCap a b d c q (W3.setCell ⟨b, 0, none⟩ (sV q)) from ⟨A3.other (fun e => hba e.symm) _ _, B3.set _, D3.other (fun e => hbd e.symm) _ _, E4⟩)
        have JZ := Lib.hid (HJ.out (k + 1) W3 (W3.setCell ⟨b, 0, none⟩ (sV q)) j3 (Save.set _ (fun _ _ => Or.inr (Or.inl rfl))))
        have VZ := Lib.hid (V3.out.trans (Save.set (p := ⟨b, 0, none⟩) (sV q) (fun _ _ => Or.inr (Or.inr (Or.inl rfl)))))
        have hMz := lenAt_of HZ.out.b
        have HMz := Lib.hid hMz
        have ca := A3.c
        have cb := B3.c
        have cd := D3.c
        have fb := B3.frz
        clear hRr hy v3 V3 A3 B3 D3 hMz E3 E4 hbe
        gi_wp2
        exact ⟨⟨k + 1, q, HN, by omega, HZ, JZ, VZ⟩, by rw [HMz.out, HMe.out]; omega⟩
      · have V3 := Lib.hid (hv.out.trans (v3.mono (fun _ _ _ h => Or.inl h)))
        clear hRr hy v3
        gi_wp2
        exact bodyPost_ret (results_none rfl _ _ _) rfl ⟨⟨_, rfl⟩, V3.out, .inr ⟨_, j3⟩⟩
attribute [local go_sem] Oper.semAt_some
set_option maxRecDepth 100000 in
theorem start_any (c : UInt8) (w : World) : Calls Tryz.prog 246 #[.int .u8 c.toNat] w fun e w' => e = .returned (.bool (!cont c)) ∧ w' = w := by
  have HB := Lib.hid (show ∀ n, n < 256 → (bits BinOp.and IntKind.u8 ((n : Nat) : Int) 192 != 128) = (!(decide (128 ≤ n) && decide (n ≤ 191))) by decide +kernel)
  go_enter Tryz.func246, Tryz.ntmps246
  go_wp2
  go_ret
  exact ⟨eb_ret (HB.out c.toNat c.toNat_lt), rfl⟩
def prtF (s : B) : Nat → Nat
  | 0 => 45
  | j + 1 => if cont (s.getD (42 + j) 0) = false then 42 + j else prtF s j
theorem prt_F {s : B} (h : ¬ s.length ≤ 45) : prt s = prtF s 4 := by
  unfold prt
  rw [if_neg h]
  simp only [prtF]
set_option maxRecDepth 100000 in
theorem part_any (s : B) (w : World) (hl : s.length ≤ maxLen) : Calls Tryz.prog 210 #[sV s] w fun e w' => e = .returned (iV (prt s)) ∧ w' = w := by
  unfold maxLen at hl
  have hs : (ByteArray.mk s.toArray).size = s.length := List.size_toArray
  by_cases h : s.length ≤ 45
  · have hI : (s.length : Int) ≤ 45 := by omega
    have HP := Lib.hid (show prt s = s.length by unfold prt; rw [if_pos h])
    go_enter Tryz.func210, Tryz.ntmps210
    go_wp2
    go_ret
    exact ⟨by rw [HP.out]; rfl, rfl⟩
  · have hI : ¬ (s.length : Int) ≤ 45 := by omega
    rw [prt_F h]
    go_enter Tryz.func210, Tryz.ntmps210
    go_wp2_with fail
    go_loopw [3] (fun vk wr => ∃ j : Nat, j ≤ 4 ∧ vk = .int .i64 ((41 + j : Nat) : Int) ∧ wr = w ∧ Hid (prtF s 4 = prtF s j)) (fun vk _ => (intOf vk).toNat)
    case atStart => exact ⟨4, Nat.le_refl _, rfl, rfl, Lib.hid rfl⟩
    case round =>
      obtain ⟨j, hj, rfl, rfl, hP⟩ := hrel
      cases j with
      | zero =>
        go_wp2
        go_ret
        exact ⟨by rw [hP.out]; rfl, rfl⟩
      | succ j =>
        have hk : 42 + j < s.length := by omega
        obtain ⟨x, hx⟩ : ∃ x, s[42 + j]? = some x := ⟨_, List.getElem?_eq_getElem hk⟩
        have hat := byte_at s (42 + j) x hx
        have hg : s.getD (42 + j) 0 = x := by rw [List.getD_eq_getElem?_getD, hx]; rfl
        have HP := Lib.hid (hP.out.trans (by rw [prtF, hg]))
        rw [show 41 + (j + 1) = 42 + j by omega]
        have hkI : (41 : Int) < ((42 + j : Nat) : Int) := by omega
        have hkI2 : ((42 + j : Nat) : Int) < s.length := by omega
        have hkI3 : (0 : Int) ≤ ((42 + j : Nat) : Int) := by omega
        have he : ((42 + j : Nat) : Int) - 1 = ((41 + j : Nat) : Int) := by omega
        clear hP hx hg
        generalize hK : 42 + j = k at *
        go_wp2_with fail
        refine (start_any x _).mono ?_
        rintro e y ⟨rfl, rfl⟩
        cases hc : cont x with
        | false =>
          have HZ := Lib.hid (HP.out.trans (if_pos hc))
          clear HP
          simp only [Bool.not_false]
          go_wp2
          go_ret
          exact ⟨by rw [HZ.out]; rfl, rfl⟩
        | true =>
          have HZ := Lib.hid (HP.out.trans (if_neg (by rw [hc]; decide)))
          clear HP
          simp only [Bool.not_true]
          go_wp2
          go_roundw
          case rel => exact ⟨j, by omega, by go_num, by trivial, HZ⟩
          case measure => simp [intOf]; omega
set_option maxRecDepth 100000 in
theorem letter_any (c : UInt8) (w : World) : Calls Tryz.prog 152 #[.int .u8 c.toNat] w fun e w' => e = .returned (.bool ((decide (97 ≤ c.toNat) && decide (c.toNat ≤ 122)) || (decide (65 ≤ c.toNat) && decide (c.toNat ≤ 90)))) ∧ w' = w := by
  have h1 : decide ((97 : Int) ≤ c.toNat) = decide (97 ≤ c.toNat) := decide_eq_decide.2 (by omega)
  have h2 : decide ((c.toNat : Int) ≤ 122) = decide (c.toNat ≤ 122) := decide_eq_decide.2 (by omega)
  have h3 : decide ((65 : Int) ≤ c.toNat) = decide (65 ≤ c.toNat) := decide_eq_decide.2 (by omega)
  have h4 : decide ((c.toNat : Int) ≤ 90) = decide (c.toNat ≤ 90) := decide_eq_decide.2 (by omega)
  rw [← h1, ← h2, ← h3, ← h4]
  clear h1 h2 h3 h4
  by_cases h1 : (97 : Int) ≤ c.toNat
  · by_cases h2 : (c.toNat : Int) ≤ 122
    · go_enter Tryz.func152, Tryz.ntmps152
      go_wp2
      go_ret
      exact ⟨eb_ret (by simp [h1, h2]), rfl⟩
    · have h3 : (65 : Int) ≤ c.toNat := by omega
      go_enter Tryz.func152, Tryz.ntmps152
      go_wp2
      go_ret
      exact ⟨eb_ret (by simp [h1, h2, h3]; omega), rfl⟩
  · by_cases h3 : (65 : Int) ≤ c.toNat
    · go_enter Tryz.func152, Tryz.ntmps152
      go_wp2
      go_ret
      exact ⟨eb_ret (by simp [h1, h3]; omega), rfl⟩
    · go_enter Tryz.func152, Tryz.ntmps152
      go_wp2
      go_ret
      exact ⟨eb_ret (by simp [h1, h3]; omega), rfl⟩
set_option maxRecDepth 100000 in
theorem digit_any (c : UInt8) (w : World) : Calls Tryz.prog 153 #[.int .u8 c.toNat] w fun e w' => e = .returned (.bool (decide (48 ≤ c.toNat) && decide (c.toNat ≤ 57))) ∧ w' = w := by
  have h1 : decide ((48 : Int) ≤ c.toNat) = decide (48 ≤ c.toNat) := decide_eq_decide.2 (by omega)
  have h2 : decide ((c.toNat : Int) ≤ 57) = decide (c.toNat ≤ 57) := decide_eq_decide.2 (by omega)
  rw [← h1, ← h2]
  clear h1 h2
  by_cases h1 : (48 : Int) ≤ c.toNat
  · go_enter Tryz.func153, Tryz.ntmps153
    go_wp2
    go_ret
    exact ⟨eb_ret (by simp [h1]), rfl⟩
  · go_enter Tryz.func153, Tryz.ntmps153
    go_wp2
    go_ret
    exact ⟨eb_ret (by simp [h1]; omega), rfl⟩
theorem nam_take {s : B} {k : Nat} {x : UInt8} (hx : s[k]? = some x) (h : isNm x = false) : nam s = false := by
  unfold nam
  rw [Bool.and_eq_false_iff]
  exact Or.inl (by rw [List.all_eq_false]; exact ⟨x, List.mem_of_getElem? hx, by rw [h]; decide⟩)
theorem all_take {p : UInt8 → Bool} {s : B} {k : Nat} {x : UInt8} (h : ∀ j y, j < k → s[j]? = some y → p y = true) (hx : s[k]? = some x) (hp : p x = true) : ∀ j y, j < k + 1 → s[j]? = some y → p y = true := by
  intro j y hj hy
  by_cases q : j = k
  · subst q; rw [hx] at hy; cases hy; exact hp
  · exact h j y (by omega) hy
theorem all_end {p : UInt8 → Bool} {s : B} (h : ∀ j y, j < s.length → s[j]? = some y → p y = true) : s.all p = true := by
  rw [List.all_eq_true]
  intro x hx
  obtain ⟨i, hi, rfl⟩ := List.mem_iff_getElem.1 hx
  exact h i _ hi (List.getElem?_eq_getElem hi)
set_option maxRecDepth 100000 in
set_option maxHeartbeats 2000000 in
theorem name_any (s : B) (w : World) (hl : s.length ≤ maxLen) : Calls Tryz.prog 103 #[sV s] w fun e w' => e = .returned (.bool (nam s)) ∧ Kept w w' := by
  unfold maxLen at hl
  obtain ⟨cp, w1, hcv, hk1, hR1⟩ := to_bytes s w
  have hs : (ByteArray.mk s.toArray).size = s.length := List.size_toArray
  have K1 := Lib.hid hk1
  have HR := Lib.hid hR1
  clear hk1 hR1
  go_enter Tryz.func103, Tryz.ntmps103
  go_wp2_with fail
  clear hcv
  go_loopw [4, 8] (fun _ vi wr => ∃ i : Nat, i ≤ s.length ∧ vi = .int .i64 i ∧ wr = w1 ∧ Hid (∀ j y, j < i → s[j]? = some y → isNm y = true)) (fun _ vi _ => s.length - (intOf vi).toNat)
  case atStart => exact ⟨0, Nat.zero_le _, rfl, rfl, Lib.hid (fun j y h => absurd h (Nat.not_lt_zero _))⟩
  case round =>
    obtain ⟨i, hi, rfl, rfl, hA⟩ := hrel
    by_cases hlt : i < s.length
    · have hltI : (i : Int) < s.length := by omega
      obtain ⟨x, hx⟩ : ∃ x, s[i]? = some x := ⟨_, List.getElem?_eq_getElem hlt⟩
      obtain ⟨_, _, _, hv', hcp, cell⟩ := HR.out.at hx
      cases hv'
      rw [Nat.zero_add] at cell
      have HX := Lib.hid hx
      have HL := Lib.hid (letter_any x wr)
      have HD := Lib.hid (digit_any x wr)
      clear hx
      have HN := Lib.hid (show isNm x = ((((decide (97 ≤ x.toNat) && decide (x.toNat ≤ 122)) || (decide (65 ≤ x.toNat) && decide (x.toNat ≤ 90))) || (decide (48 ≤ x.toNat) && decide (x.toNat ≤ 57))) || decide (x.toNat = 45)) from rfl)
      generalize ((decide (97 ≤ x.toNat) && decide (x.toNat ≤ 122)) || (decide (65 ≤ x.toNat) && decide (x.toNat ≤ 90))) = b1 at *
      generalize (decide (48 ≤ x.toNat) && decide (x.toNat ≤ 57)) = b2 at *
      go_wp2_with fail
      refine HL.out.mono ?_
      rintro e y ⟨rfl, rfl⟩
      cases b1 with
      | true =>
        have HQ := Lib.hid (show isNm x = true by rw [HN.out]; rfl)
        clear HN HL HD
        go_wp2_with fail
        go_roundw
        case rel => exact ⟨i + 1, hlt, by go_num, by trivial, Lib.hid (all_take hA.out HX.out HQ.out)⟩
        case measure => simp [intOf]; omega
      | false =>
        go_wp2_with fail
        refine HD.out.mono ?_
        rintro e y ⟨rfl, rfl⟩
        cases b2 with
        | true =>
          have HQ := Lib.hid (show isNm x = true by rw [HN.out]; rfl)
          clear HN HL HD
          go_wp2_with fail
          go_roundw
          case rel => exact ⟨i + 1, hlt, by go_num, by trivial, Lib.hid (all_take hA.out HX.out HQ.out)⟩
          case measure => simp [intOf]; omega
        | false =>
          by_cases h45 : x.toNat = 45
          · have HQ := Lib.hid (show isNm x = true by rw [HN.out, decide_eq_true h45]; rfl)
            have hq : ((x.toNat : Int) != 45) = false := by simp [h45]
            clear HN HL HD h45
            go_wp2_with fail
            go_roundw
            case rel => exact ⟨i + 1, hlt, by go_num, by trivial, Lib.hid (all_take hA.out HX.out HQ.out)⟩
            case measure => simp [intOf]; omega
          · have HQ := Lib.hid (show nam s = false from nam_take HX.out (by rw [HN.out, decide_eq_false h45]; rfl))
            have hq : ((x.toNat : Int) != 45) = true := by simp; omega
            clear HN HL HD h45
            go_wp2_with fail
            go_ret
            exact ⟨by rw [HQ.out]; rfl, K1.out⟩
    · have hltI : ¬ (i : Int) < s.length := by omega
      obtain rfl : i = s.length := by omega
      have HA := Lib.hid (all_end hA.out)
      clear hA
      by_cases he : s = []
      · have HQ := Lib.hid (show nam s = false by rw [he]; rfl)
        subst he
        go_wp2
        go_ret
        exact ⟨by rw [HQ.out]; rfl, K1.out⟩
      · have hq : s.isEmpty = false := by cases s with
          | nil => exact absurd rfl he
          | cons a r => rfl
        have HQ := Lib.hid (show nam s = decide ((s.length : Int) ≤ 40) by unfold nam; rw [HA.out, hq, Bool.true_and, Bool.not_false, Bool.true_and]; exact decide_eq_decide.2 (by omega))
        go_wp2
        go_ret
        exact ⟨eb_ret HQ.out.symm, K1.out⟩
end Go.Proofs.YtjlpkgipdkjfhaaGreatDoor.Bk.Hd
