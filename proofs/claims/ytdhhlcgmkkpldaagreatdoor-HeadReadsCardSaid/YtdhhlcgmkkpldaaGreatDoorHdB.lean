/- Rows of texts and of headers: a call's own, and those that are read; boxes; texts cut. -/
import Derived.Test.YtdhhlcgmkkpldaaGreatDoorHdM
import Derived.Test.YtdhhlcgmkkpldaaGreatDoorHdRg
import Derived.Test.YtdhhlcgmkkpldaaGreatDoorHdPure
import Derived.Test.YtdhhlcgmkkpldaaGreatDoorBxC
import Derived.Lib.BufStepsIn
set_option linter.unusedSimpArgs false
set_option linter.unusedVariables false
namespace Go.Proofs.YtdhhlcgmkkpldaaGreatDoor.Hd
open Go.ChangeShapes Go.WideShapes Go.ChangeAt Go.RowKit Go.Shelf
theorem ext_of (l : List UInt8) (a b : Nat) : (ByteArray.mk l.toArray).extract a b = ⟨((l.take b).drop a).toArray⟩ := by
  apply ByteArray.ext
  rw [ByteArray.data_extract]
  simp [List.drop_take]
theorem cut_from (l : List UInt8) (x : Int) (a : Nat) (hx : x = a) (h1 : a ≤ l.length) (W : World) :
    (Instr.slice 9 (.string ⟨l.toArray⟩) (some (.int .i64 x)) none none).run Tryz.prog W = .ok (.string ⟨(l.drop a).toArray⟩) W := by
  subst hx
  have hs : (ByteArray.mk l.toArray).size = l.length := List.size_toArray
  rw [run_slice_string_l W 9 _ Tryz.underlying9 .i64 _ (by omega) (by rw [hs]; omega), hs]
  rw [show (a : Int).toNat = a by omega, ext_of, List.take_length]
theorem cut_to (l : List UInt8) (b : Nat) (h1 : b ≤ l.length) (W : World) :
    (Instr.slice 9 (.string ⟨l.toArray⟩) none (some (.int .i64 b)) none).run Tryz.prog W = .ok (.string ⟨(l.take b).toArray⟩) W := by
  have hs : (ByteArray.mk l.toArray).size = l.length := List.size_toArray
  rw [run_slice_string_h W 9 _ Tryz.underlying9 .i64 _ (by omega) (by rw [hs]; omega)]
  rw [show (b : Int).toNat = b by omega, ext_of, List.drop_zero]
theorem cut_both (l : List UInt8) (a b : Nat) (h1 : a ≤ b) (h2 : b ≤ l.length) (W : World) :
    (Instr.slice 9 (.string ⟨l.toArray⟩) (some (.int .i64 a)) (some (.int .i64 b)) none).run Tryz.prog W = .ok (.string ⟨((l.take b).drop a).toArray⟩) W := by
  rw [run_slice_string W 9 _ .i64 .i64 _ _ Tryz.underlying9 (by omega) (by omega) (by show (b : Int) ≤ l.length; omega)]
  rw [show (a : Int).toNat = a by omega, show (b : Int).toNat = b by omega, ext_of]
theorem app_mk (a b : B) : (⟨a.toArray⟩ ++ ⟨b.toArray⟩ : ByteArray) = ⟨(a ++ b).toArray⟩ := str_app a b
/-! boxes -/
theorem cell_at {x : World} {n j : Nat} {cs : Array Value} {t : TypeId} {v : Value} (h : x.heap[n]? = some (.cells cs t)) (hv : cs[j]? = some v) : x.cell? ⟨n, j, none⟩ = some v := by
  simp [World.cell?, h, hv]
/-- a value in a block of its own -/
def Bv (t : TypeId) (b : Nat) (v : Value) (W : World) : Prop := W.heap[b]? = some (.cells #[v] t)
theorem Bv.lt {t : TypeId} {b : Nat} {v : Value} {W : World} (h : Bv t b v W) : b < W.heap.size := (Array.getElem?_eq_some_iff.1 h).1
theorem Bv.c {t : TypeId} {b : Nat} {v : Value} {W : World} (h : Bv t b v W) : W.cell? ⟨b, 0, none⟩ = some v := cell_at h rfl
theorem Bv.kept {t : TypeId} {b : Nat} {v : Value} {W W' : World} (h : Bv t b v W) (k : Kept W W') : Bv t b v W' := (k.block _ h.lt).trans h
theorem Bv.new (W : World) (v : Value) (t : TypeId) : Bv t W.heap.size v (W.alloc (.cells #[v] t)) := World.alloc_heap_new W _
theorem Bv.save {t : TypeId} {b : Nat} {v : Value} {A B : World} {M : Nat → Obj → Prop} (h : Bv t b v A) (k : Save M A B) (hm : ¬ M b (.cells #[v] t)) : Bv t b v B := k.at h hm
theorem Bv.set {t : TypeId} {b : Nat} {v : Value} {A : World} (h : Bv t b v A) (v' : Value) : Bv t b v' (A.setCell ⟨b, 0, none⟩ v') := by
  unfold Bv at h ⊢
  simp [World.setCell, Array.getElem?_modify, h]
theorem Bv.other {t : TypeId} {b b' : Nat} {v : Value} {A : World} (h : Bv t b v A) (hne : b ≠ b') (j : Nat) (v' : Value) : Bv t b v (A.setCell ⟨b', j, none⟩ v') :=
  (Below.heap_setCell _ _ _ _ hne).trans h
theorem Bv.frz {t : TypeId} {b : Nat} {v : Value} {A : World} (h : Bv t b v A) : A.frozen? ⟨b, 0, none⟩ = false := by unfold Bv at h; simp [World.frozen?, h]
theorem Bv.grown {t : TypeId} {b : Nat} {x : Value} {V y : World} {row : Option Nat} (h : Bv t b x V) (hg : V.grownBy y row) (hne : row ≠ some b) : Bv t b x y := (hg.block b h.lt (fun e => hne e.symm)).trans h
theorem set_other {W : World} {b : Nat} {o : Obj} (h : W.heap[b]? = some o) {a : Addr} {v : Value} (ha : b ≠ a.block) : (W.setCell a v).heap[b]? = some o := by
  rw [Below.heap_setCell _ _ _ _ ha]; exact h
/-! texts -/
theorem infoS : (Tryz.prog.info? 9).map (fun i => (i.zero, i.size, i.bytes)) = some (some (.string ⟨#[]⟩), 1, 16) := by kernel_rfl
/-- texts in a slice of the call's own -/
def OwnS (B0 : Nat) (v : Value) (ls : List B) (w : World) : Prop := w.ownsRow B0 9 1 v ls.length (ls.map sV)
theorem OwnS.nil (B0 : Nat) (w : World) : OwnS B0 (.slice none 0 0) [] w := World.ownsRow_nil _ _ _ _
theorem OwnS.kept {B0 : Nat} {v : Value} {ls : List B} {w w' : World} (h : OwnS B0 v ls w) (k : Kept w w') : OwnS B0 v ls w' := own_keep h (k.grownBy none) NoRow.none
theorem run_pushS (w : World) (B0 : Nat) (ty : TypeId) (v : Value) (ls : List B) (t : B) (k : Nat) (hO : OwnS B0 v ls w) (hc : w.cell? ⟨k, 0, none⟩ = some (sV t)) (hl : ls.length ≤ 10000000) (hB : B0 ≤ w.heap.size) :
    ∃ v' w', (Builtin.append_ #[39, 39] ty #[v, .slice (some ⟨k, 0, none⟩) 1 1]).run Tryz.prog w = .ok v' w' ∧ OwnS B0 v' (ls ++ [t]) w' ∧ w.grownBy w' v.ownBlock := by
  obtain ⟨i0, hi, hz0, hz1, hz2⟩ := info_parts infoS
  obtain ⟨v', w', hr, h2, h3, _⟩ := run_append_own_at (P := Tryz.prog) (w := w) B0 39 ty 9 i0 _ 1 16 Tryz.underlying39 hi hz0 hz1 hz2 rfl (by decide) v ls.length (ls.map sV) hO ⟨k, 0, none⟩ 1 1 [sV t] rfl (fun j u hj => by
    match j, hj with
    | 0, hj => simp at hj; subst hj; simpa [Addr.add] using hc) (fun u hu => by simp at hu; subst hu; rfl) (by unfold maxLen; omega) (by omega) hB
  refine ⟨v', w', hr, ?_, h3⟩
  unfold OwnS
  rw [List.length_append, List.map_append]
  exact h2
theorem wp_ok {op : Oper} {a : Act} {w w' : World} {v' : Value} {K : Act → World → Prop} {Q : Exit → Act → World → Prop} (sx x : Operand) (t1 t2 : TypeId) (ho : op.op = .call { callee := .builtin .append, args := #[sx, x], argTypes := #[t1, t2] })
    (hr : (Builtin.append_ #[t1, t2] op.type #[a.eval sx, a.eval x]).run Tryz.prog w = .ok v' w') (h : K (a.put op.dst v') w') : op.wp Tryz.prog a w K Q := by
  unfold Oper.wp execOp
  simp only [ho, resolve, invoke, builtin, Sem.run_bind, Sem.run_pure, Result.andThen_ok, List.map_toArray, List.map_cons, List.map_nil, hr]
  exact h
theorem wpList_pushS {ops : Array Oper} {rest : List Oper} {op : Oper} {a : Act} {w : World} {Q : Exit → Act → World → Prop} (hg : op.guard = none) (sx x : Operand) (ho : op.op = .call { callee := .builtin .append, args := #[sx, x], argTypes := #[39, 39] })
    (B0 : Nat) (v : Value) (ls : List B) (t : B) (k : Nat) (hs : a.eval sx = v) (hO : OwnS B0 v ls w) (hx : a.eval x = .slice (some ⟨k, 0, none⟩) 1 1) (hc : w.cell? ⟨k, 0, none⟩ = some (sV t)) (hl : ls.length ≤ 10000000) (hB : B0 ≤ w.heap.size)
    (h : ∀ v' w', OwnS B0 v' (ls ++ [t]) w' → w.grownBy w' v.ownBlock → wpList Tryz.prog ops Q rest (a.put op.dst v') w') : wpList Tryz.prog ops Q (op :: rest) a w := by
  obtain ⟨v', w', hr, h2, h3⟩ := run_pushS w B0 op.type v ls t k hO hc hl hB
  exact wpList_plain hg fun K hK => wp_ok sx x _ _ ho (by rw [hs, hx]; exact hr) (hK _ _ (h v' w' h2 h3))
theorem wpListIn_pushS {F : Fence} {n : Nat} {ops : Array Oper} {rest : List Oper} {op : Oper} {a : Act} {w : World} {Q : Exit → Act → World → Prop} (hg : op.guard = none) (sx x : Operand) (ho : op.op = .call { callee := .builtin .append, args := #[sx, x], argTypes := #[39, 39] })
    (B0 : Nat) (v : Value) (ls : List B) (t : B) (k : Nat) (hs : a.eval sx = v) (hO : OwnS B0 v ls w) (hx : a.eval x = .slice (some ⟨k, 0, none⟩) 1 1) (hc : w.cell? ⟨k, 0, none⟩ = some (sV t)) (hl : ls.length ≤ 10000000) (hB : B0 ≤ w.heap.size)
    (h : ∀ v' w', OwnS B0 v' (ls ++ [t]) w' → w.grownBy w' v.ownBlock → wpListIn F n Tryz.prog ops Q rest (a.put op.dst v') w') : wpListIn F n Tryz.prog ops Q (op :: rest) a w := by
  obtain ⟨v', w', hr, h2, h3⟩ := run_pushS w B0 op.type v ls t k hO hc hl hB
  exact wpListIn_ok hg sx x _ _ ho (by rw [hs, hx]; exact hr) (h v' w' h2 h3)
/-- texts, to be read -/
def SRd (v : Value) (ls : List B) (w : World) : Prop := ∃ a c, v = .slice a ls.length c ∧ (ls ≠ [] → ∃ g o, a = some ⟨g, o, none⟩ ∧ ls.length ≤ c ∧ ∀ (i : Nat) (t : B), ls[i]? = some t → w.cell? ⟨g, o + i, none⟩ = some (sV t))
theorem SRd.kept {v : Value} {ls : List B} {w w' : World} (h : SRd v ls w) (k : Kept w w') : SRd v ls w' := by
  obtain ⟨a, c, hv, h⟩ := h
  refine ⟨a, c, hv, fun hne => ?_⟩
  obtain ⟨g, o, ha, hc, h⟩ := h hne
  exact ⟨g, o, ha, hc, fun i t ht => k.yes (h i t ht)⟩
theorem SRd.slice {v : Value} {ls : List B} {w : World} (h : SRd v ls w) : ∃ a c, v = .slice a ls.length c := by
  obtain ⟨a, c, hv, _⟩ := h
  exact ⟨a, c, hv⟩
theorem SRd.at {v : Value} {ls : List B} {w : World} (h : SRd v ls w) {i : Nat} {t : B} (ht : ls[i]? = some t) : ∃ g o c, v = .slice (some ⟨g, o, none⟩) ls.length c ∧ ls.length ≤ c ∧ w.cell? ⟨g, o + i, none⟩ = some (sV t) := by
  obtain ⟨a, c, hv, h⟩ := h
  obtain ⟨g, o, ha, hc, hp⟩ := h (by rintro rfl; simp at ht)
  rw [ha] at hv
  exact ⟨g, o, c, hv, hc, hp i t ht⟩
theorem OwnS.rd {B0 : Nat} {v : Value} {ls : List B} {w : World} (h : OwnS B0 v ls w) : SRd v ls w := by
  rcases h.2 with ⟨h1, h2⟩ | ⟨g, cap, cur, h1, _, _, hc, _⟩
  · exact ⟨none, 0, by rw [h1, h2], fun hne => absurd (List.length_eq_zero_iff.1 h2) hne⟩
  · refine ⟨some ⟨g, 0, none⟩, cap, h1, fun _ => ⟨g, 0, rfl, hc, fun i t ht => ?_⟩⟩
    have h' := h
    rw [h1] at h'
    have := World.ownsRow.cells h' rfl i (sV t) (by simp [ht])
    rwa [Addr.add_lit] at this
/-! headers -/
abbrev hV (h : Hdr) : Value := .agg #[sV h.1, sV h.2]
abbrev hCells (l : List Hdr) : List Value := l.flatMap fun h => [sV h.1, sV h.2]
theorem hCells_len : ∀ l : List Hdr, (hCells l).length = l.length * 2
  | [] => rfl
  | h :: l => by
    have := hCells_len l
    simp only [hCells, List.flatMap_cons, List.length_append, List.length_cons, List.length_nil] at this ⊢
    omega
theorem hCells_app (a b : List Hdr) : hCells (a ++ b) = hCells a ++ hCells b := by simp [hCells]
theorem hCells_at : ∀ (l : List Hdr) (i : Nat) (h : Hdr), l[i]? = some h → (hCells l)[2 * i]? = some (sV h.1) ∧ (hCells l)[2 * i + 1]? = some (sV h.2)
  | [], i, h, e => by simp at e
  | x :: l, 0, h, e => by
    simp at e; subst e; simp [hCells]
  | x :: l, i + 1, h, e => by
    have := hCells_at l i h (by simpa using e)
    simp only [hCells, List.flatMap_cons, show 2 * (i + 1) = 2 * i + 1 + 1 by omega] at this ⊢
    simpa using this
theorem infoH : (Tryz.prog.info? 25).map (fun i => (i.zero, i.size, i.bytes)) = some (some (.agg #[.string ⟨#[]⟩, .string ⟨#[]⟩]), 2, 32) := by kernel_rfl
/-- headers in a slice of the call's own -/
def OwnH (B0 : Nat) (v : Value) (l : List Hdr) (w : World) : Prop := w.ownsRow B0 25 2 v l.length (hCells l)
theorem OwnH.nil (B0 : Nat) (w : World) : OwnH B0 (.slice none 0 0) [] w := World.ownsRow_nil _ _ _ _
theorem OwnH.kept {B0 : Nat} {v : Value} {l : List Hdr} {w w' : World} (h : OwnH B0 v l w) (k : Kept w w') : OwnH B0 v l w' := own_keep h (k.grownBy none) NoRow.none
theorem run_pushH (w : World) (B0 : Nat) (ty : TypeId) (v : Value) (l : List Hdr) (h : Hdr) (k : Nat) (hO : OwnH B0 v l w) (hc0 : w.cell? ⟨k, 0, none⟩ = some (sV h.1)) (hc1 : w.cell? ⟨k, 1, none⟩ = some (sV h.2)) (hl : l.length ≤ 10000000) (hB : B0 ≤ w.heap.size) :
    ∃ v' w', (Builtin.append_ #[29, 29] ty #[v, .slice (some ⟨k, 0, none⟩) 1 1]).run Tryz.prog w = .ok v' w' ∧ OwnH B0 v' (l ++ [h]) w' ∧ w.grownBy w' v.ownBlock := by
  obtain ⟨i0, hi, hz0, hz1, hz2⟩ := info_parts infoH
  obtain ⟨v', w', hr, h2, h3, _⟩ := run_append_own_at (P := Tryz.prog) (w := w) B0 29 ty 25 i0 _ 2 32 Tryz.underlying29 hi hz0 hz1 hz2 rfl (by decide) v l.length (hCells l) hO ⟨k, 0, none⟩ 1 1 [sV h.1, sV h.2] rfl (fun j u hj => by
    match j, hj with
    | 0, hj => simp at hj; subst hj; simpa [Addr.add] using hc0
    | 1, hj => simp at hj; subst hj; simpa [Addr.add] using hc1) (fun u hu => by simp at hu; rcases hu with rfl | rfl <;> rfl) (by unfold maxLen; omega) (by omega) hB
  refine ⟨v', w', hr, ?_, h3⟩
  unfold OwnH
  rw [List.length_append, hCells_app]
  exact h2
theorem wpList_pushH {ops : Array Oper} {rest : List Oper} {op : Oper} {a : Act} {w : World} {Q : Exit → Act → World → Prop} (hg : op.guard = none) (sx x : Operand) (ho : op.op = .call { callee := .builtin .append, args := #[sx, x], argTypes := #[29, 29] })
    (B0 : Nat) (v : Value) (l : List Hdr) (h : Hdr) (k : Nat) (hs : a.eval sx = v) (hO : OwnH B0 v l w) (hx : a.eval x = .slice (some ⟨k, 0, none⟩) 1 1) (hc0 : w.cell? ⟨k, 0, none⟩ = some (sV h.1)) (hc1 : w.cell? ⟨k, 1, none⟩ = some (sV h.2)) (hl : l.length ≤ 10000000) (hB : B0 ≤ w.heap.size)
    (hh : ∀ v' w', OwnH B0 v' (l ++ [h]) w' → w.grownBy w' v.ownBlock → wpList Tryz.prog ops Q rest (a.put op.dst v') w') : wpList Tryz.prog ops Q (op :: rest) a w := by
  obtain ⟨v', w', hr, h2, h3⟩ := run_pushH w B0 op.type v l h k hO hc0 hc1 hl hB
  exact wpList_plain hg fun K hK => wp_ok sx x _ _ ho (by rw [hs, hx]; exact hr) (hK _ _ (hh v' w' h2 h3))
/-- headers, to be read -/
def HRd (v : Value) (l : List Hdr) (w : World) : Prop := ∃ a c, v = .slice a l.length c ∧ (l ≠ [] → ∃ g o, a = some ⟨g, o, none⟩ ∧ l.length ≤ c ∧ ∀ (i : Nat) (h : Hdr), l[i]? = some h → w.cell? ⟨g, o + i * 2, none⟩ = some (sV h.1) ∧ w.cell? ⟨g, o + i * 2 + 1, none⟩ = some (sV h.2))
theorem HRd.kept {v : Value} {l : List Hdr} {w w' : World} (h : HRd v l w) (k : Kept w w') : HRd v l w' := by
  obtain ⟨a, c, hv, h⟩ := h
  refine ⟨a, c, hv, fun hne => ?_⟩
  obtain ⟨g, o, ha, hc, h⟩ := h hne
  exact ⟨g, o, ha, hc, fun i t ht => ⟨k.yes (h i t ht).1, k.yes (h i t ht).2⟩⟩
theorem HRd.slice {v : Value} {l : List Hdr} {w : World} (h : HRd v l w) : ∃ a c, v = .slice a l.length c := by
  obtain ⟨a, c, hv, _⟩ := h
  exact ⟨a, c, hv⟩
theorem HRd.at {v : Value} {l : List Hdr} {w : World} (h : HRd v l w) {i : Nat} {t : Hdr} (ht : l[i]? = some t) : ∃ g o c, v = .slice (some ⟨g, o, none⟩) l.length c ∧ l.length ≤ c ∧ w.cell? ⟨g, o + i * 2, none⟩ = some (sV t.1) ∧ w.cell? ⟨g, o + i * 2 + 1, none⟩ = some (sV t.2) := by
  obtain ⟨a, c, hv, h⟩ := h
  obtain ⟨g, o, ha, hc, hp⟩ := h (by rintro rfl; simp at ht)
  rw [ha] at hv
  exact ⟨g, o, c, hv, hc, hp i t ht⟩
theorem OwnH.rd {B0 : Nat} {v : Value} {l : List Hdr} {w : World} (h : OwnH B0 v l w) : HRd v l w := by
  rcases h.2 with ⟨h1, h2⟩ | ⟨g, cap, cur, h1, _, _, hc, _⟩
  · exact ⟨none, 0, by rw [h1, h2], fun hne => absurd (List.length_eq_zero_iff.1 h2) hne⟩
  · refine ⟨some ⟨g, 0, none⟩, cap, h1, fun _ => ⟨g, 0, rfl, hc, fun i t ht => ?_⟩⟩
    have h' := h
    rw [h1] at h'
    obtain ⟨q0, q1⟩ := hCells_at l i t ht
    have e0 := World.ownsRow.cells h' rfl _ _ q0
    have e1 := World.ownsRow.cells h' rfl _ _ q1
    rw [Addr.add_lit] at e0 e1
    rw [Nat.mul_comm i 2]
    exact ⟨e0, by rw [Nat.add_assoc]; exact e1⟩
/-! worlds -/
theorem env_save {M : Nat → Obj → Prop} {A B : World} (h : Env A) (k : Save M A B) (hm : ∀ o, ¬ M 0 o) : Env B := by
  obtain ⟨m, hc⟩ := h
  obtain ⟨o, ho⟩ := at_some (cell_lt hc)
  have hb := k.at ho (hm o)
  refine ⟨m, ?_⟩
  unfold World.cell? at hc ⊢
  rw [hb]; rw [ho] at hc; exact hc
theorem env_lt {w : World} (h : Env w) : 0 < w.heap.size := by
  obtain ⟨m, hc⟩ := h
  exact cell_lt hc
theorem own_turn {w w' : World} {B0 : Nat} {e : TypeId} {size : Nat} {v : Value} {n : Nat} {xs : List Value} {M : Nat → Obj → Prop} (h : w.ownsRow B0 e size v n xs) (k : Save M w w') (hm : ∀ g c, B0 ≤ g → ¬ M g (.cells c e (0, 0))) : w'.ownsRow B0 e size v n xs := by
  refine ⟨h.1, ?_⟩
  rcases h.2 with h2 | ⟨g, cap, cur, h1, h2, h3, h4⟩
  · exact Or.inl h2
  · exact Or.inr ⟨g, cap, cur, h1, h2, k.at h3 (hm g cur h2), h4⟩
theorem OwnM.turn {w w' : World} {B0 : Nat} {v : Value} {l : B} {M : Nat → Obj → Prop} (h : OwnM B0 v l w) (k : Save M w w') (hm : ∀ g c fz, B0 ≤ g → ¬ M g (.cells c 5 fz)) : OwnM B0 v l w' := by
  rcases h with h | ⟨g, cap, cur, fz, h1, h2, h3, h4⟩
  · exact Or.inl h
  · exact Or.inr ⟨g, cap, cur, fz, h1, h2, k.at h3 (hm g cur fz h2), h4⟩
theorem own_set {w : World} {B0 : Nat} {e : TypeId} {size : Nat} {v : Value} {n : Nat} {xs : List Value} (h : w.ownsRow B0 e size v n xs) (j i : Nat) (x : Value) (hj : j < B0) : (w.setCell ⟨j, i, none⟩ x).ownsRow B0 e size v n xs := by
  refine ⟨h.1, ?_⟩
  rcases h.2 with h2 | ⟨g, cap, cur, h1, h2, h3, h4⟩
  · exact Or.inl h2
  · exact Or.inr ⟨g, cap, cur, h1, h2, (Below.heap_setCell _ _ _ _ (by show g ≠ j; omega)).trans h3, h4⟩
theorem OwnM.set {w : World} {B0 : Nat} {v : Value} {l : B} (h : OwnM B0 v l w) (j i : Nat) (x : Value) (hj : j < B0) : OwnM B0 v l (w.setCell ⟨j, i, none⟩ x) :=
  h.stay fun k hk => Below.heap_setCell _ _ _ _ (by have := (h.lt k hk).1; show k ≠ j; omega)
theorem Save.kept_of {M : Nat → Obj → Prop} {w A B : World} (h : Kept w A) (k : Save M A B) (hm : ∀ j o, j < w.heap.size → ¬ M j o) : Kept w B :=
  ⟨k.os.trans h.os, k.output.trans h.output, Nat.le_trans h.size k.size, fun j hj => by
    obtain ⟨ob, hob⟩ := at_some (A := A) (k := j) (Nat.lt_of_lt_of_le hj h.size)
    rw [k.block j ob hob (hm j ob hj), ← hob, h.block j hj], k.tape.trans h.tape⟩
theorem save_row {V y : World} {j i : Nat} {x : Value} {row : Option Nat} {M : Nat → Obj → Prop} (hg : V.grownBy y row) (h1 : ∀ g o, row = some g → V.heap[g]? = some o → M g o) (h2 : ∀ o, V.heap[j]? = some o → M j o) : Save M V (y.setCell ⟨j, i, none⟩ x) :=
  ⟨hg.os, hg.output, by have := hg.size; simpa [World.setCell] using this, fun k o hk hn => by
    have hj : k ≠ j := fun e => hn (by subst e; exact h2 o hk)
    rw [Below.heap_setCell _ _ _ _ hj, hg.block k (Array.getElem?_eq_some_iff.1 hk).1 (fun e => hn (h1 k o e.symm hk)), hk], hg.tape⟩
theorem kept_put {w x : World} (h : Kept w x) {r : Nat} (hr : w.heap.size ≤ r) (o : Obj) : Kept w (x.putObj r o) :=
  ⟨h.os, h.output, by have := h.size; simpa using this, fun j hj => (World.putObj_heap_other (by omega)).trans (h.block j hj), h.tape⟩
theorem grown_refl (w : World) (row : Option Nat) : w.grownBy w row := ⟨rfl, rfl, rfl, Nat.le_refl _, fun _ _ _ => rfl⟩
end Go.Proofs.YtdhhlcgmkkpldaaGreatDoor.Hd
