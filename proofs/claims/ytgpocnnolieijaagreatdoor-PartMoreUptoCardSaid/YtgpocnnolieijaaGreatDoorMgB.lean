/- Several texts of this seat, one behind the other. -/
import Derived.Test.YtgpocnnolieijaaGreatDoorMgA
import Derived.Lib.FrozenHead
import Derived.Lib.FrozenHead2
import Derived.Shelf.Abstract
import Derived.Shelf.RegionOpen
import Derived.OwnWalkIn
import Derived.TacticsInMore
import Derived.LoopNIn
import Derived.LoopIn
import Derived.RangeFuncNested
import Derived.RangeFuncBound
import Derived.RangeFuncCalls
import Derived.RangeFuncLeaves
import Derived.RangeFuncOne
import Derived.Lib.Strings
import Derived.Lib.IndexMore
/- Appends to a row whose mark lies beyond its cells (bytes made of a text), and to one without a mark. -/
set_option linter.unusedSimpArgs false
set_option linter.unusedVariables false
namespace Go.Proofs.YtgpocnnolieijaaGreatDoor.Hd
open Go.ChangeShapes Go.WideShapes Go.ChangeAt Go.RowKit
/-- nothing of so many cells is marked -/
def Mk (n : Nat) (fz : Nat × Nat) : Prop := n ≤ fz.1 ∨ fz.2 = 0
theorem run_storeCells_atM (P : Program) (g o : Nat) (t : TypeId) (fz : Nat × Nat) : ∀ (vs : List Value) (i : Nat) (cur : Array Value) (w : World), w.heap[g]? = some (.cells cur t fz) → Mk cur.size fz → o + i + vs.length ≤ cur.size → (∀ v ∈ vs, v.oneCell' = true) →
    (storeCells ⟨g, o, none⟩ vs i).run P w = .ok () (w.setRow g (cur.toList.take (o + i) ++ vs ++ cur.toList.drop (o + i + vs.length)).toArray)
  | [], i, cur, w, hg, _, _, _ => by
    simp only [storeCells, List.append_nil, List.length_nil, Nat.add_zero, List.take_append_drop, Array.toArray_toList]
    rw [setRow_self w g cur t fz hg]
    rfl
  | v :: rest, i, cur, w, hg, hfz, hl, h1 => by
    have hi : o + i < cur.size := by simp at hl; omega
    have hadd : (⟨g, o, none⟩ : Addr).add i = ⟨g, o + i, none⟩ := by unfold Addr.add; split <;> simp_all
    have hcell : w.cell? ⟨g, o + i, none⟩ = some cur[o + i] := by simp [World.cell?, hg, hi]
    have hfro : w.frozen? ⟨g, o + i, none⟩ = false := by
      obtain ⟨lo, hi'⟩ := fz
      simp only [World.frozen?, hg, Bool.and_eq_false_iff, decide_eq_false_iff_not]
      unfold Mk at hfz
      simp only at hfz
      omega
    have hst : (store ((⟨g, o, none⟩ : Addr).add i) v).run P w = .ok () (w.setRow g (cur.setIfInBounds (o + i) v)) := by
      rw [hadd, run_store P w _ v _ (h1 v (by simp)), hcell]
      simp [hfro, setCell_eq_setRow w g (o + i) cur t fz v hg]
    have ih := run_storeCells_atM P g o t fz rest (i + 1) (cur.setIfInBounds (o + i) v) (w.setRow g (cur.setIfInBounds (o + i) v)) (setRow_heap w g cur _ t _ hg) (by simpa using hfz) (by simp at hl ⊢; omega) (fun x hx => h1 x (by simp [hx]))
    simp only [storeCells, Sem.run_bind, hst, Result.andThen_ok, ih, setRow_setRow]
    congr 3
    have e := list_seg_step cur.toList (o + i) v rest (by simp at hl ⊢; omega)
    simpa [Array.toList_setIfInBounds, Nat.add_assoc] using e
/-- bytes in a slice of the call's own, whose row may be marked beyond its cells -/
def OwnM (B0 : Nat) (v : Value) (l : B) (w : World) : Prop :=
  (v = .slice none 0 0 ∧ l = []) ∨ ∃ g cap cur fz, v = .slice (some ⟨g, 0, none⟩) l.length cap ∧ B0 ≤ g ∧ w.heap[g]? = some (.cells cur 5 fz) ∧ Mk cur.size fz ∧ l.length ≤ cap ∧ cap ≤ maxLen ∧ cur.size = cap ∧ cur.toList.take l.length = byteCells l
section
variable {B0 : Nat} {v : Value} {l : B} {w w' : World}
theorem OwnM.of (h : OwnB B0 v l w) : OwnM B0 v l w := by
  rcases h.2 with ⟨h1, h2⟩ | ⟨g, cap, cur, h1, h2, h3, h4, h5, h6, h7⟩
  · exact Or.inl ⟨h1, List.length_eq_zero_iff.1 h2⟩
  · exact Or.inr ⟨g, cap, cur, (0, 0), h1, h2, h3, Or.inr rfl, h4, h5, by simpa using h6, by simpa using h7⟩
theorem OwnM.nil (B0 : Nat) (w : World) : OwnM B0 (.slice none 0 0) [] w := Or.inl ⟨rfl, rfl⟩
theorem OwnM.slice (h : OwnM B0 v l w) : ∃ a c, v = .slice a l.length c := by
  rcases h with ⟨h1, h2⟩ | ⟨g, cap, cur, fz, h1, _⟩
  · exact ⟨none, 0, by rw [h1, h2]; rfl⟩
  · exact ⟨_, _, h1⟩
theorem OwnM.lt (h : OwnM B0 v l w) : ∀ k, v.ownBlock = some k → B0 ≤ k ∧ k < w.heap.size := by
  intro k hk
  rcases h with ⟨rfl, _⟩ | ⟨g, cap, cur, fz, rfl, hb, hg, _⟩
  · simp [Value.ownBlock] at hk
  · simp [Value.ownBlock] at hk
    subst hk
    exact ⟨hb, (Array.getElem?_eq_some_iff.1 hg).1⟩
theorem OwnM.kind (h : OwnM B0 v l w) : ∀ k, v.ownBlock = some k → ∃ cs fz, w.heap[k]? = some (.cells cs 5 fz) := by
  intro k hk
  rcases h with ⟨rfl, _⟩ | ⟨g, cap, cur, fz, rfl, hb, hg, _⟩
  · simp [Value.ownBlock] at hk
  · simp [Value.ownBlock] at hk
    subst hk
    exact ⟨_, _, hg⟩
theorem OwnM.stay (h : OwnM B0 v l w) (hs : ∀ k, v.ownBlock = some k → w'.heap[k]? = w.heap[k]?) : OwnM B0 v l w' := by
  rcases h with h | ⟨g, cap, cur, fz, rfl, hb, hg, h⟩
  · exact Or.inl h
  · exact Or.inr ⟨g, cap, cur, fz, rfl, hb, (hs g rfl).trans hg, h⟩
theorem OwnM.kept (h : OwnM B0 v l w) (k : Kept w w') : OwnM B0 v l w' := h.stay fun j hj => k.block j (h.lt j hj).2
theorem OwnM.mono {B1 : Nat} (h : OwnM B1 v l w) (hB : B0 ≤ B1) : OwnM B0 v l w := by
  rcases h with h | ⟨g, cap, cur, fz, h1, h2, h3⟩
  · exact Or.inl h
  · exact Or.inr ⟨g, cap, cur, fz, h1, Nat.le_trans hB h2, h3⟩
theorem OwnM.cells (h : OwnM B0 v l w) {g : Nat} (hg : v.ownBlock = some g) : ∀ j u, (byteCells l)[j]? = some u → w.cell? ((⟨g, 0, none⟩ : Addr).add j) = some u := by
  intro j u hu
  rcases h with ⟨rfl, _⟩ | ⟨g', cap, cur, fz, rfl, _, hgg, _, _, _, _, htake⟩
  · simp [Value.ownBlock] at hg
  · simp [Value.ownBlock] at hg
    subst hg
    have hadd : (⟨g', 0, none⟩ : Addr).add j = ⟨g', j, none⟩ := by unfold Addr.add; split <;> simp_all
    rw [hadd, cell_of_row w g' j cur _ fz hgg]
    rw [← htake, List.getElem?_take] at hu
    split at hu
    · simpa using hu
    · cases hu
theorem OwnM.rd (h : OwnM B0 v l w) : BRd v l w := by
  have hc := fun g => h.cells (g := g)
  rcases h with ⟨h1, h2⟩ | ⟨g, cap, cur, fz, h1, _, _, _, hl, _⟩
  · exact ⟨none, 0, by rw [h1, h2]; rfl, fun _ => rfl, fun hne => absurd h2 hne⟩
  · refine ⟨some ⟨g, 0, none⟩, cap, h1, fun e => (by cases e), fun _ => ⟨g, 0, rfl, hl, fun i x hx => ?_⟩⟩
    have := hc g (by rw [h1]; rfl) i (.int .u8 x.toNat) (by simp [byteCells, hx])
    rwa [Addr.add_lit] at this
end
theorem len_cells (l : B) : (byteCells l).length = l.length := by simp
theorem strc_cells (t : B) : Lib.strCells ⟨t.toArray⟩ = byteCells t := str_cells t
theorem grown_m (w : World) (l t : B) (B0 old : Nat) (hB : B0 ≤ w.heap.size) (hl : l.length + t.length ≤ 100000000000000) (ho : old < l.length + t.length) (row : Option Nat) (cs : Array Value) (hcs : cs = (byteCells l).toArray ++ (byteCells t).toArray ++ Builtin.zeroCells (Value.cells (.int .u8 0)) (grownCap w (l.length + t.length) old 5 - (l.length + t.length))) :
    OwnM B0 (.slice (some ⟨w.heap.size, 0, none⟩) (l.length + t.length) (grownCap w (l.length + t.length) old 5)) (l ++ t) (w.drew.alloc (.cells cs 5)) ∧ w.grownBy (w.drew.alloc (.cells cs 5)) row := by
  have hge := grownCap_ge w (l.length + t.length) old 5
  have hcm : grownCap w (l.length + t.length) old 5 ≤ maxLen := grownCap_le_maxLen w (l.length + t.length) old 5 (by unfold maxLen; omega)
  generalize grownCap w (l.length + t.length) old 5 = cap at *
  subst hcs
  have hz1 : (Value.int IntKind.u8 0).cells.size = 1 := rfl
  refine ⟨Or.inr ⟨w.heap.size, cap, _, (0, 0), by rw [List.length_append], hB, heap_alloc_new w.drew _, Or.inr rfl, by rw [List.length_append]; exact hge, hcm, ?_, ?_⟩, ⟨rfl, rfl, rfl, by simp, fun k hk _ => heap_alloc_old w.drew _ hk⟩⟩
  · simp only [Array.size_append, List.size_toArray, size_zeroCells, hz1, len_cells]
    omega
  · simp only [Array.toList_append, List.append_assoc]
    rw [← List.append_assoc, byteCells_app, show (l ++ t).length = (byteCells l ++ byteCells t).length by simp]
    exact List.take_left
/-- a row grew where it lay, or anew -/
def NewB (w : World) (v v' : Value) : Prop := ∀ g, v'.ownBlock = some g → v.ownBlock = some g ∨ w.heap.size ≤ g
/-- a text more -/
theorem run_strM (w : World) (B0 : Nat) (ty : TypeId) (v : Value) (l t : B) (hO : OwnM B0 v l w) (hl : l.length + t.length ≤ 100000000000000) (hB : B0 ≤ w.heap.size) :
    ∃ v' w', (Builtin.append_ #[26, 9] ty #[v, sV t]).run Tryz.prog w = .ok v' w' ∧ OwnM B0 v' (l ++ t) w' ∧ w.grownBy w' v.ownBlock ∧ NewB w v v' := by
  obtain ⟨i0, hi, hz0, hz1, hz2⟩ := info_parts info8
  have hsz : (ByteArray.mk t.toArray).size = t.length := List.size_toArray
  have hcell := fun g => hO.cells (g := g)
  rcases hO with ⟨rfl, rfl⟩ | ⟨g, cap, cur, fz, rfl, hbg, hg, hfz, hnc, hcm, hcs, htake⟩
  · obtain ⟨v', w', hr, h2, h3, h4⟩ := Lib.run_append_own_string (P := Tryz.prog) w w.heap.size 26 9 ty 5 i0 Tryz.underlying26 Tryz.underlying9 hi hz0 hz1 hz2 (.slice none 0 0) 0 [] (World.ownsRow_nil _ _ _ _) ⟨t.toArray⟩ (by rw [hsz]; unfold maxLen; simp at hl; omega) (by rw [hsz]; simp at hl; omega) (Nat.le_refl _)
    rw [hsz, str_cells] at h2
    have h5 : OwnB w.heap.size v' ([] ++ t) w' := by unfold OwnB; rw [List.nil_append]; simpa using h2
    exact ⟨v', w', hr, (OwnM.of h5).mono hB, h3, fun g hg => Or.inr (World.ownsRow.lt h5 g hg).1⟩
  · by_cases hroom : l.length + t.length ≤ cap
    · have hf := Lib.run_firstCells_string (P := Tryz.prog) w 1 ⟨t.toArray⟩
      have hst := run_storeCells_atM Tryz.prog g l.length 5 fz (Lib.strCells ⟨t.toArray⟩) 0 cur w hg hfz (by rw [Lib.strCells_length, hsz]; omega) (Lib.strCells_oneCell _)
      simp only [Nat.add_zero, Lib.strCells_length] at hst
      rw [hsz] at hst hf
      have hr : (Builtin.append_ #[26, 9] ty #[.slice (some ⟨g, 0, none⟩) l.length cap, sV t]).run Tryz.prog w = .ok (.slice (some ⟨g, 0, none⟩) (l.length + t.length) cap) (w.setRow g (cur.toList.take l.length ++ Lib.strCells ⟨t.toArray⟩ ++ cur.toList.drop (l.length + t.length)).toArray) := by
        simp [Builtin.append_, run_underlying Tryz.underlying26, run_underlying Tryz.underlying9, sizeOf, typeInfo, hi, hz1, Builtin.lenOf, hsz, hroom, hf, Addr.add_lit, hst]
      refine ⟨_, _, hr, Or.inr ⟨g, cap, _, fz, by rw [List.length_append], hbg, setRow_heap w g cur _ _ _ hg, ?_, by rw [List.length_append]; exact hroom, hcm, ?_, ?_⟩, ⟨rfl, rfl, rfl, by simp, fun k _ hk => setRow_other w g k _ (fun e => hk (by simp [Value.ownBlock, e]))⟩, fun _ h => Or.inl h⟩
      · have : (cur.toList.take l.length ++ Lib.strCells ⟨t.toArray⟩ ++ cur.toList.drop (l.length + t.length)).toArray.size = cur.size := by
          simp only [List.size_toArray, List.length_append, List.length_take, List.length_drop, Array.length_toList, Lib.strCells_length, hsz]
          omega
        rw [this]; exact hfz
      · simp only [List.size_toArray, List.length_append, List.length_take, List.length_drop, Array.length_toList, Lib.strCells_length, hsz]
        omega
      · rw [htake, strc_cells, byteCells_app, show (l ++ t).length = (byteCells l ++ byteCells t).length by simp]
        exact List.take_left
    · have hr := Lib.run_append_grow_string (P := Tryz.prog) (w := w) 26 9 ty 5 i0 (.int .u8 0) Tryz.underlying26 Tryz.underlying9 hi hz0 ⟨g, 0, none⟩ l.length cap (byteCells l) (by rw [hz1]; simp) (hcell g rfl) ⟨t.toArray⟩ (by rw [hsz]; omega) (by rw [hsz]; omega) (by rw [hsz]; exact growslice_fits (by omega) (by rw [hz2]; omega))
      rw [hsz, str_cells] at hr
      obtain ⟨q1, q2⟩ := grown_m w l t B0 cap hB hl (by omega) (Value.ownBlock (.slice (some ⟨g, 0, none⟩) l.length cap)) _ rfl
      exact ⟨_, _, hr, q1, q2, fun g' hg' => Or.inr (by simp [Value.ownBlock] at hg'; omega)⟩
/-- bytes more -/
theorem run_sliceM (w : World) (B0 : Nat) (ty : TypeId) (v xv : Value) (l t : B) (hO : OwnM B0 v l w) (hR : BRd xv t w) (hl : l.length + t.length ≤ 100000000000000) (hB : B0 ≤ w.heap.size) :
    ∃ v' w', (Builtin.append_ #[26, 26] ty #[v, xv]).run Tryz.prog w = .ok v' w' ∧ OwnM B0 v' (l ++ t) w' ∧ w.grownBy w' v.ownBlock ∧ NewB w v v' := by
  obtain ⟨i0, hi, hz0, hz1, hz2⟩ := info_parts info8
  by_cases ht : t = []
  · subst ht
    obtain ⟨ad, c, rfl, hz, _⟩ := hR
    obtain ⟨va, vc, rfl⟩ := hO.slice
    have hle : l.length ≤ vc := by
      rcases hO with ⟨h1, h2⟩ | ⟨g, cap, cur, fz, h1, _, _, _, hnc, _⟩
      · rw [h2]; exact Nat.zero_le _
      · injection h1 with _ _ e3; rw [e3]; exact hnc
    have hva : va = none → vc = 0 := by
      rcases hO with ⟨h1, h2⟩ | ⟨g, cap, cur, fz, h1, _⟩
      · injection h1 with _ _ e3; exact fun _ => e3
      · injection h1 with e1; intro e; rw [e] at e1; cases e1
    refine ⟨.slice va l.length vc, w, ?_, by rw [List.append_nil]; exact hO, ⟨rfl, rfl, rfl, Nat.le_refl _, fun _ _ _ => rfl⟩, fun _ h => Or.inl h⟩
    cases ad <;> cases va <;> simp [Builtin.append_, run_underlying Tryz.underlying26, sizeOf, typeInfo, hi, Builtin.lenOf, Builtin.firstCells, loadCells, loadCellsFrom, storeCells, hle]
  · obtain ⟨ad, c, rfl, hz, hR⟩ := hR
    obtain ⟨g2, o2, rfl, hc2, hcell2⟩ := hR ht
    have hlt := List.length_pos_iff.2 ht
    have hnews : ∀ (j : Nat) v, (byteCells t)[j]? = some v → w.cell? ((⟨g2, o2, none⟩ : Addr).add j) = some v := fun j v hj => by
      simp only [byteCells, List.getElem?_map, Option.map_eq_some_iff] at hj
      obtain ⟨b, hb, rfl⟩ := hj
      rw [Addr.add_lit]; exact hcell2 j b hb
    have hcell := fun g => hO.cells (g := g)
    rcases hO with ⟨rfl, rfl⟩ | ⟨g, cap, cur, fz, rfl, hbg, hg, hfz, hnc, hcm, hcs, htake⟩
    · have hr := run_append_nil (P := Tryz.prog) (w := w) 26 ty 5 i0 (.int .u8 0) Tryz.underlying26 hi hz0 ⟨g2, o2, none⟩ t.length c (byteCells t) (by rw [hz1]; simp) hnews (by omega) (by simp at hl; omega) (by rw [hz2]; simp at hl; omega)
      obtain ⟨q1, q2⟩ := grown_m w [] t B0 0 hB hl (by simp; omega) (Value.ownBlock (.slice none 0 0)) _ rfl
      simp only [List.length_nil, Nat.zero_add] at q1 q2
      refine ⟨_, _, hr, ?_, ?_, fun g' hg' => Or.inr (by simp [Value.ownBlock] at hg'; omega)⟩
      · simpa using q1
      · simpa using q2
    · by_cases hroom : l.length + t.length ≤ cap
      · have hf := run_firstCells_some (P := Tryz.prog) w 1 t.length ⟨g2, o2, none⟩ t.length c (byteCells t) (by simp) hnews
        have hst := run_storeCells_atM Tryz.prog g l.length 5 fz (byteCells t) 0 cur w hg hfz (by simp; omega) (fun u hu => by simp only [byteCells, List.mem_map] at hu; obtain ⟨b, _, rfl⟩ := hu; rfl)
        simp only [Nat.add_zero, len_cells] at hst
        have hr : (Builtin.append_ #[26, 26] ty #[.slice (some ⟨g, 0, none⟩) l.length cap, .slice (some ⟨g2, o2, none⟩) t.length c]).run Tryz.prog w = .ok (.slice (some ⟨g, 0, none⟩) (l.length + t.length) cap) (w.setRow g (cur.toList.take l.length ++ byteCells t ++ cur.toList.drop (l.length + t.length)).toArray) := by
          simp [Builtin.append_, run_underlying Tryz.underlying26, sizeOf, typeInfo, hi, hz1, Builtin.lenOf, hroom, hf, Addr.add_lit, hst]
        refine ⟨_, _, hr, Or.inr ⟨g, cap, _, fz, by rw [List.length_append], hbg, setRow_heap w g cur _ _ _ hg, ?_, by rw [List.length_append]; exact hroom, hcm, ?_, ?_⟩, ⟨rfl, rfl, rfl, by simp, fun k _ hk => setRow_other w g k _ (fun e => hk (by simp [Value.ownBlock, e]))⟩, fun _ h => Or.inl h⟩
        · have : (cur.toList.take l.length ++ byteCells t ++ cur.toList.drop (l.length + t.length)).toArray.size = cur.size := by
            simp only [List.size_toArray, List.length_append, List.length_take, List.length_drop, Array.length_toList, len_cells]
            omega
          rw [this]; exact hfz
        · simp only [List.size_toArray, List.length_append, List.length_take, List.length_drop, Array.length_toList, len_cells]
          omega
        · rw [htake, byteCells_app, show (l ++ t).length = (byteCells l ++ byteCells t).length by simp]
          exact List.take_left
      · have hr := run_append_grow (P := Tryz.prog) (w := w) 26 ty 5 i0 (.int .u8 0) Tryz.underlying26 hi hz0 ⟨g, 0, none⟩ l.length cap (byteCells l) (by rw [hz1]; simp) (hcell g rfl) ⟨g2, o2, none⟩ t.length c (byteCells t) (by rw [hz1]; simp) hnews (by omega) (by omega) (growslice_fits (by omega) (by rw [hz2]; omega))
        obtain ⟨q1, q2⟩ := grown_m w l t B0 cap hB hl (by omega) (Value.ownBlock (.slice (some ⟨g, 0, none⟩) l.length cap)) _ rfl
        exact ⟨_, _, hr, q1, q2, fun g' hg' => Or.inr (by simp [Value.ownBlock] at hg'; omega)⟩
theorem wp_strM {op : Oper} {a : Act} {w : World} {K : Act → World → Prop} {Q : Exit → Act → World → Prop} (sx x : Operand) (ho : op.op = .call { callee := .builtin .append, args := #[sx, x], argTypes := #[26, 9] })
    (B0 : Nat) (v : Value) (l t : B) (hs : a.eval sx = v) (hO : OwnM B0 v l w) (hx : a.eval x = .string ⟨t.toArray⟩) (hl : l.length + t.length ≤ 100000000000000) (hB : B0 ≤ w.heap.size)
    (h : ∀ v' w', OwnM B0 v' (l ++ t) w' → w.grownBy w' v.ownBlock → NewB w v v' → K (a.put op.dst v') w') : op.wp Tryz.prog a w K Q := by
  obtain ⟨v', w', hr, h2, h3, h4⟩ := run_strM w B0 op.type v l t hO hl hB
  unfold Oper.wp execOp
  simp only [ho, resolve, invoke, builtin, Sem.run_bind, Sem.run_pure, Result.andThen_ok, List.map_toArray, List.map_cons, List.map_nil, hs, hx, hr]
  exact h v' w' h2 h3 h4
theorem wp_sliceM {op : Oper} {a : Act} {w : World} {K : Act → World → Prop} {Q : Exit → Act → World → Prop} (sx x : Operand) (ho : op.op = .call { callee := .builtin .append, args := #[sx, x], argTypes := #[26, 26] })
    (B0 : Nat) (v xv : Value) (l t : B) (hs : a.eval sx = v) (hO : OwnM B0 v l w) (hx : a.eval x = xv) (hR : BRd xv t w) (hl : l.length + t.length ≤ 100000000000000) (hB : B0 ≤ w.heap.size)
    (h : ∀ v' w', OwnM B0 v' (l ++ t) w' → w.grownBy w' v.ownBlock → NewB w v v' → K (a.put op.dst v') w') : op.wp Tryz.prog a w K Q := by
  obtain ⟨v', w', hr, h2, h3, h4⟩ := run_sliceM w B0 op.type v xv l t hO hR hl hB
  unfold Oper.wp execOp
  simp only [ho, resolve, invoke, builtin, Sem.run_bind, Sem.run_pure, Result.andThen_ok, List.map_toArray, List.map_cons, List.map_nil, hs, hx, hr]
  exact h v' w' h2 h3 h4
theorem wpList_strM {ops : Array Oper} {rest : List Oper} {op : Oper} {a : Act} {w : World} {Q : Exit → Act → World → Prop} (hg : op.guard = none) (sx x : Operand) (ho : op.op = .call { callee := .builtin .append, args := #[sx, x], argTypes := #[26, 9] })
    (B0 : Nat) (v : Value) (l t : B) (hs : a.eval sx = v) (hO : OwnM B0 v l w) (hx : a.eval x = .string ⟨t.toArray⟩) (hl : l.length + t.length ≤ 100000000000000) (hB : B0 ≤ w.heap.size)
    (h : ∀ v' w', OwnM B0 v' (l ++ t) w' → w.grownBy w' v.ownBlock → NewB w v v' → wpList Tryz.prog ops Q rest (a.put op.dst v') w') : wpList Tryz.prog ops Q (op :: rest) a w :=
  wpList_plain hg fun K hK => wp_strM sx x ho B0 v l t hs hO hx hl hB (fun v' w' h1 h2 h3 => hK _ _ (h v' w' h1 h2 h3))
theorem wpList_sliceM {ops : Array Oper} {rest : List Oper} {op : Oper} {a : Act} {w : World} {Q : Exit → Act → World → Prop} (hg : op.guard = none) (sx x : Operand) (ho : op.op = .call { callee := .builtin .append, args := #[sx, x], argTypes := #[26, 26] })
    (B0 : Nat) (v xv : Value) (l t : B) (hs : a.eval sx = v) (hO : OwnM B0 v l w) (hx : a.eval x = xv) (hR : BRd xv t w) (hl : l.length + t.length ≤ 100000000000000) (hB : B0 ≤ w.heap.size)
    (h : ∀ v' w', OwnM B0 v' (l ++ t) w' → w.grownBy w' v.ownBlock → NewB w v v' → wpList Tryz.prog ops Q rest (a.put op.dst v') w') : wpList Tryz.prog ops Q (op :: rest) a w :=
  wpList_plain hg fun K hK => wp_sliceM sx x ho B0 v xv l t hs hO hx hR hl hB (fun v' w' h1 h2 h3 => hK _ _ (h v' w' h1 h2 h3))
theorem wpListIn_ok {F : Fence} {n : Nat} {ops : Array Oper} {rest : List Oper} {op : Oper} {a : Act} {w w' : World} {v' : Value} {Q : Exit → Act → World → Prop} (hg : op.guard = none) (sx x : Operand) (t1 t2 : TypeId) (ho : op.op = .call { callee := .builtin .append, args := #[sx, x], argTypes := #[t1, t2] })
    (hr : (Builtin.append_ #[t1, t2] op.type #[a.eval sx, a.eval x]).run Tryz.prog w = .ok v' w') (h : wpListIn F n Tryz.prog ops Q rest (a.put op.dst v') w') : wpListIn F n Tryz.prog ops Q (op :: rest) a w := by
  refine wpListIn_plain hg fun K hK => ?_
  unfold Oper.wpIn
  refine ⟨?_, ?_⟩
  · simp [Oper.about, ho, resolve, Target.leads, Sem.run_pure]
  · rw [Oper.semAt_plain F _ _ (by rw [ho]; intro c hc'; cases hc')]
    simp [execOp, ho, resolve, invoke, builtin, hr, Result.andThen]
    exact hK _ _ h
theorem wpListIn_strM {F : Fence} {n : Nat} {ops : Array Oper} {rest : List Oper} {op : Oper} {a : Act} {w : World} {Q : Exit → Act → World → Prop} (hg : op.guard = none) (sx x : Operand) (ho : op.op = .call { callee := .builtin .append, args := #[sx, x], argTypes := #[26, 9] })
    (B0 : Nat) (v : Value) (l t : B) (hs : a.eval sx = v) (hO : OwnM B0 v l w) (hx : a.eval x = .string ⟨t.toArray⟩) (hl : l.length + t.length ≤ 100000000000000) (hB : B0 ≤ w.heap.size)
    (h : ∀ v' w', OwnM B0 v' (l ++ t) w' → w.grownBy w' v.ownBlock → NewB w v v' → wpListIn F n Tryz.prog ops Q rest (a.put op.dst v') w') : wpListIn F n Tryz.prog ops Q (op :: rest) a w := by
  obtain ⟨v', w', hr, h2, h3, h4⟩ := run_strM w B0 op.type v l t hO hl hB
  exact wpListIn_ok hg sx x _ _ ho (by rw [hs, hx]; exact hr) (h v' w' h2 h3 h4)
theorem wpListIn_sliceM {F : Fence} {n : Nat} {ops : Array Oper} {rest : List Oper} {op : Oper} {a : Act} {w : World} {Q : Exit → Act → World → Prop} (hg : op.guard = none) (sx x : Operand) (ho : op.op = .call { callee := .builtin .append, args := #[sx, x], argTypes := #[26, 26] })
    (B0 : Nat) (v xv : Value) (l t : B) (hs : a.eval sx = v) (hO : OwnM B0 v l w) (hx : a.eval x = xv) (hR : BRd xv t w) (hl : l.length + t.length ≤ 100000000000000) (hB : B0 ≤ w.heap.size)
    (h : ∀ v' w', OwnM B0 v' (l ++ t) w' → w.grownBy w' v.ownBlock → NewB w v v' → wpListIn F n Tryz.prog ops Q rest (a.put op.dst v') w') : wpListIn F n Tryz.prog ops Q (op :: rest) a w := by
  obtain ⟨v', w', hr, h2, h3, h4⟩ := run_sliceM w B0 op.type v xv l t hO hR hl hB
  exact wpListIn_ok hg sx x _ _ ho (by rw [hs, hx]; exact hr) (h v' w' h2 h3 h4)
/-- bytes that a text was made are an own row -/
theorem to_own (s : B) (w : World) (hl : s.length ≤ 100000000000000) : ∃ c w', (convert 9 26 (sV s)).run Tryz.prog w = .ok (.slice (some ⟨w.heap.size, 0, none⟩) s.length c) w' ∧ Kept w w' ∧ OwnM w.heap.size (.slice (some ⟨w.heap.size, 0, none⟩) s.length c) s w' := by
  have h := Lib.run_convert_string_bytes (P := Tryz.prog) w 9 26 5 ⟨s.toArray⟩ Tryz.underlying9 Tryz.underlying26 Tryz.underlying5
  rw [str_lit] at h
  have hge := grownCap_ge w s.length 0 5
  have hcm : grownCap w s.length 0 5 ≤ maxLen := grownCap_le_maxLen w s.length 0 5 (by unfold maxLen; omega)
  have hsz : (Lib.bytesCells w 5 ⟨s.toArray⟩).size = grownCap w s.length 0 5 := by
    unfold Lib.bytesCells
    simp only [Array.size_append, Array.size_map, Array.size_replicate, List.size_toArray, str_lit]
    omega
  refine ⟨_, _, h, ⟨rfl, rfl, by rw [Lib.bytesWorld_size]; omega, fun k hk => Lib.bytesWorld_at_old w _ _ k hk, rfl⟩, Or.inr ⟨w.heap.size, _, _, _, rfl, Nat.le_refl _, Lib.bytesWorld_at_new w _ _, Or.inl (Nat.le_refl _), hge, hcm, hsz, ?_⟩⟩
  unfold Lib.bytesCells
  simp [byteCells, List.take_append]
end Go.Proofs.YtgpocnnolieijaaGreatDoor.Hd
/- A range over a function that keeps where it stands in a box of its own, while the rounds grow rows of theirs: one law for such iterators. -/
set_option linter.unusedSimpArgs false
set_option linter.unusedVariables false
namespace Go.Proofs.YtgpocnnolieijaaGreatDoor.Hd
open Go.ChangeShapes Go.WideShapes Go.ChangeAt Go.RowKit Go.Shelf
/-- all that lay lies as it lay, but for some blocks, told by their numbers and by what lies in them -/
structure Save (M : Nat → Obj → Prop) (A B : World) : Prop where
  os : B.os = A.os
  output : B.output = A.output
  size : A.heap.size ≤ B.heap.size
  block : ∀ k o, A.heap[k]? = some o → ¬ M k o → B.heap[k]? = some o
  tape : B.tape = A.tape
theorem Save.refl (M : Nat → Obj → Prop) (A : World) : Save M A A := ⟨rfl, rfl, Nat.le_refl _, fun _ _ h _ => h, rfl⟩
theorem Save.trans {M : Nat → Obj → Prop} {A B C : World} (h : Save M A B) (k : Save M B C) : Save M A C :=
  ⟨k.os.trans h.os, k.output.trans h.output, Nat.le_trans h.size k.size, fun i o hi hm => k.block i o (h.block i o hi hm) hm, k.tape.trans h.tape⟩
theorem Save.mono {M M' : Nat → Obj → Prop} {A B : World} (h : Save M A B) (hm : ∀ k o, A.heap[k]? = some o → M k o → M' k o) : Save M' A B :=
  ⟨h.os, h.output, h.size, fun k o hk hn => h.block k o hk (fun q => hn (hm k o hk q)), h.tape⟩
theorem at_some {A : World} {k : Nat} (h : k < A.heap.size) : ∃ o, A.heap[k]? = some o := ⟨_, Array.getElem?_eq_getElem h⟩
theorem Save.of_kept {A B : World} (M : Nat → Obj → Prop) (h : Kept A B) : Save M A B := ⟨h.os, h.output, h.size, fun k o hk _ => (h.block k (Array.getElem?_eq_some_iff.1 hk).1).trans hk, h.tape⟩
theorem Save.kept {M : Nat → Obj → Prop} {A B : World} (h : Save M A B) (hm : ∀ k o, A.heap[k]? = some o → ¬ M k o) : Kept A B := ⟨h.os, h.output, h.size, fun k hk => by
  obtain ⟨o, ho⟩ := at_some hk
  rw [ho]; exact h.block k o ho (hm k o ho), h.tape⟩
theorem Save.below {M : Nat → Obj → Prop} {A B : World} (h : Save M A B) {n : Nat} (hn : n ≤ A.heap.size) (hm : ∀ k o, A.heap[k]? = some o → M k o → n ≤ k) : Below n A B :=
  ⟨h.os, h.tape, h.output, h.size, fun k hk => by
    obtain ⟨o, ho⟩ := at_some (show k < A.heap.size by omega)
    rw [ho]; exact h.block k o ho (fun q => by have := hm k o ho q; omega)⟩
theorem Save.put {A : World} {r : Nat} (o : Obj) {M : Nat → Obj → Prop} (hM : ∀ o', A.heap[r]? = some o' → M r o') : Save M A (A.putObj r o) :=
  ⟨rfl, rfl, by simp, fun k o' hk hn => by
    rw [World.putObj_heap_other (fun e => hn (by subst e; exact hM _ hk))]; exact hk, rfl⟩
theorem Save.set {A : World} {p : Addr} (v : Value) {M : Nat → Obj → Prop} (hM : ∀ o', A.heap[p.block]? = some o' → M p.block o') : Save M A (A.setCell p v) :=
  ⟨rfl, rfl, by simp [World.setCell], fun k o' hk hn => by
    rw [Below.heap_setCell _ _ _ _ (fun e => hn (by subst e; exact hM _ hk))]; exact hk, rfl⟩
/-- what lies in a block that is none of those lies on -/
theorem Save.at {M : Nat → Obj → Prop} {A B : World} (h : Save M A B) {b : Nat} {o : Obj} (hb : A.heap[b]? = some o) (hm : ¬ M b o) : B.heap[b]? = some o := h.block b o hb hm
theorem yield_any {n m : Nat} {P : Program} {l : Nat} {args : Array Value} {W : World} {R : Ending → World → Prop} (h : YieldAt Fence.wide n P l args W R) : YieldAt Fence.wide m P l args W R := by
  obtain ⟨fn, tmps, assign, body, hy, hR⟩ := h
  exact ⟨fn, tmps, assign, body, hy, hR.1, fun c cs _ => hR.2 c cs (room_wide _)⟩
/-- what a function to range over does: step by step, told by a state of its own; the blocks T are its own, the blocks R it reads: no round turns them -/
def Itr {σ : Type} (P : Program) (g : Nat) (lb : Array Value) (Step : σ → Array Value → σ → Prop) (End : σ → Prop) (s0 : σ) (T R : Nat → Prop) (cap : World → Prop) : Prop :=
  ∀ (n l : Nat) (M : Nat → Obj → Prop) (J Jx : σ → World → Prop) (W : World), cap W → (∀ k o, M k o → ¬ T k ∧ ¬ R k) →
    (∀ s A B, J s A → Save (fun k _ => T k) A B → J s B) → (∀ s A B, Jx s A → Save (fun k _ => T k) A B → Jx s B) →
    (∀ s a s' W1, Step s a s' → J s W1 → YieldAt Fence.wide n P l a W1 fun e W' => Save M W1 W' ∧ ((e = .returned (.bool true) ∧ J s' W') ∨ (e = .returned (.bool false) ∧ Jx s' W'))) →
    J s0 W →
    CallsIn Fence.wide n P g (#[.func (.yield l) #[] #[]] ++ lb) W fun e W' => (∃ v, e = .returned v) ∧ Save (fun k o => M k o ∨ T k) W W' ∧ ((∃ s, End s ∧ J s W') ∨ (∃ s, Jx s W'))
/-- what the iterator and the loop turn by themselves -/
def Itn (T : Nat → Prop) (n : Nat) (k : Nat) (o : Obj) : Prop := T k ∨ (n ≤ k ∧ o.isCells = false)
/-- how a round's body may be left -/
def rgPost {σ : Type} (M : Nat → Obj → Prop) (I : σ → World → Prop) (Ix : Code → σ → World → Prop) (s : σ) (W : World) : Exit → Act → World → Prop
  | .normal, _, W' => Save M W W' ∧ I s W'
  | .ret, _, W' => Save M W W' ∧ Ix .ret s W'
  | .exit id, _, W' => Save M W W' ∧ Ix (.exit id) s W'
  | .goto t, _, W' => Save M W W' ∧ Ix (.goto t) s W'
  | .panic _, _, _ => False
  | .outgrown, _, _ => False
theorem range_itr {σ : Type} {P : Program} {n : Nat} {g : Operand} {ps : Array Tmp} {assign body : Code} {Q : Exit → Act → World → Prop} {a : Act} {w : World}
    {gf : Nat} {lb : Array Value} (hg : a.eval g = .func (.func gf) #[] lb) (eg : ∀ args w, (callFunc gf args).run P w = .ok (.enter gf args) w)
    {Step : σ → Array Value → σ → Prop} {End : σ → Prop} {s0 : σ} {T R : Nat → Prop} {cap : World → Prop} (hT : ∀ k, T k → k < w.heap.size) (hRd : ∀ k, R k → k < w.heap.size) (hit : Itr P gf lb Step End s0 T R cap)
    (hps : ∀ s arr s', Step s arr s' → arr.size = ps.size) (M : Nat → Obj → Prop) (hM : ∀ k o, M k o → (¬ T k ∧ ¬ R k) ∧ o.isCells = true)
    (hcap : cap w) (hcapK : ∀ A B, Kept A B → cap A → cap B)
    (I : σ → World → Prop) (Ix : Code → σ → World → Prop) (hI : ∀ s A B, I s A → Save (Itn T w.heap.size) A B → I s B) (hIx : ∀ c s A B, Ix c s A → Save (Itn T w.heap.size) A B → Ix c s B) (h0 : I s0 w)
    (hround : ∀ (l : Nat) (s : σ) (arr : Array Value) (s' : σ) (W : World), Step s arr s' → I s W → w.heap.size + 1 < W.heap.size → ∀ K : Act → World → Prop,
      (∀ a' W', Kept W W' → (∀ W2, Save (fun k _ => k = w.heap.size + 1) W' W2 → Save (Itn T w.heap.size) W' W2 → body.wpIn (Fence.wide.inRound l) (n - 1) P (rgPost M I Ix s' W2) a' W2) → K a' W') →
      assign.wpIn (Fence.wide.inRound l) (n - 1) P (Exit.then K (fun _ _ _ => False)) { tmps := (ps.zip arr).foldl (fun t (p, v) => t.setIfInBounds p v) a.tmps, defers := [] } W)
    (hdone : ∀ (s : σ) (W : World), End s → I s W → Save (fun k o => M k o ∨ T k) w W → W.heap[w.heap.size]? = some (.deferred (some [])) → Q .normal { a with defers := { target := .collected w.heap.size, args := #[] } :: a.defers } W)
    (hstop : ∀ (c : Code) (s : σ) (W : World), Ix c s W → Save (fun k o => M k o ∨ T k) w W → W.heap[w.heap.size]? = some (.deferred (some [])) → c.wpIn Fence.wide n P Q { a with defers := { target := .collected w.heap.size, args := #[] } :: a.defers } W) :
    (Code.rangeFunc g ps assign body).wpIn Fence.wide n P Q a w := by
  refine wpIn_rangeFunc (fun fn hfn => ?_)
  generalize hr : (fun (st : LoopState) (pe : Option Code) => ({ state := st, pending := pe, fn, tmps := a.tmps, params := ps, assign, body, defers := w.heap.size } : Loop)) = rc
  have rcE : ∀ st pe, rc st pe = { state := st, pending := pe, fn, tmps := a.tmps, params := ps, assign, body, defers := w.heap.size } := fun st pe => by rw [← hr]
  have k0 : Kept w ((w.alloc (.deferred (some []))).alloc (.loop (rc .ready none))) := ((Kept.refl w).alloc _).alloc _
  have b0 : ((w.alloc (.deferred (some []))).alloc (.loop (rc .ready none))).heap[w.heap.size]? = some (.deferred (some [])) :=
    (Below.heap_alloc _ _ _ (by simp)).trans (World.alloc_heap_new w _)
  have b1 : ((w.alloc (.deferred (some []))).alloc (.loop (rc .ready none))).heap[w.heap.size + 1]? = some (.loop (rc .ready none)) := by
    have := World.alloc_heap_new (w.alloc (.deferred (some []))) (.loop (rc .ready none)); rwa [World.size_alloc] at this
  have s0' : ((w.alloc (.deferred (some []))).alloc (.loop (rc .ready none))).heap.size = w.heap.size + 2 := by simp
  have he : (Instr.enterLoop fn a.tmps ps assign body Fence.wide.round).run P w = .ok (w.heap.size + 1, [{ target := .collected w.heap.size, args := #[] }]) ((w.alloc (.deferred (some []))).alloc (.loop (rc .ready none))) := by
    rw [rcE]; exact run_enterLoop_outer _ _ _ _ _
  generalize (w.alloc (.deferred (some []))).alloc (.loop (rc .ready none)) = X at *
  refine ⟨w.heap.size + 1, _, X, { target := .fn (.func gf) lb, args := #[.func (.yield (w.heap.size + 1)) #[] #[]] }, X, gf, #[.func (.yield (w.heap.size + 1)) #[] #[]] ++ lb, X, he, ?_, fun _ _ => trivial, ?_, fun h => by simp [Fence.wide] at h, ?_⟩
  · simp only [resolve, hg]
    simp [go_sem]
  · simp [invoke, go_sem, eg]
  have own : ∀ k o, (M k o ∨ k = w.heap.size + 1) → ¬ T k ∧ ¬ R k := fun k o hk => by
    rcases hk with h | h
    · exact (hM k o h).1
    · exact ⟨fun hq => by have := hT k hq; omega, fun hq => by have := hRd k hq; omega⟩
  have nT1 : ¬ T (w.heap.size + 1) := fun h => by have := hT _ h; omega
  have nT0 : ¬ T w.heap.size := fun h => by have := hT _ h; omega
  refine (hit (n - 1) (w.heap.size + 1) (fun k o => M k o ∨ k = w.heap.size + 1)
    (fun s W => I s W ∧ W.heap[w.heap.size + 1]? = some (.loop (rc .ready none)) ∧ W.heap[w.heap.size]? = some (.deferred (some [])) ∧ X.heap.size ≤ W.heap.size)
    (fun s W => ∃ c, Ix c s W ∧ W.heap[w.heap.size + 1]? = some (.loop (rc .done (some c))) ∧ W.heap[w.heap.size]? = some (.deferred (some [])))
    X (hcapK _ _ k0 hcap) own
    (fun s A B h k => ⟨hI s A B h.1 (k.mono (fun _ _ _ q => Or.inl q)), k.block _ _ h.2.1 nT1, k.block _ _ h.2.2.1 nT0, Nat.le_trans h.2.2.2 k.size⟩)
    (fun s A B ⟨c, h1, h2, h3⟩ k => ⟨c, hIx c s A B h1 (k.mono (fun _ _ _ q => Or.inl q)), k.block _ _ h2 nT1, k.block _ _ h3 nT0⟩)
    ?_ ⟨hI s0 w X h0 (Save.of_kept _ k0), b1, b0, Nat.le_refl _⟩).mono ?_
  · -- one round
    rintro s arr s' W hst ⟨hi, hl, hd, hsz⟩
    have hy := run_yield (P := P) (args := arr) hl (by rw [rcE]; exact hps s arr s' hst)
    rw [rcE] at hy
    refine ⟨fn, _, assign, body, hy, roundIn_of_wpIn hfn (hround _ s arr s' W hst hi (by omega) _ (fun a' W' k' hb => ?_))⟩
    have hl' : W'.heap[w.heap.size + 1]? = some (.loop (rc .ready none)) := (k'.block _ (by omega)).trans hl
    have hd' : W'.heap[w.heap.size]? = some (.deferred (some [])) := (k'.block _ (by omega)).trans hd
    refine ⟨_, run_beginRound hl' (by rw [rcE]), ?_⟩
    have hk' := k'.size
    have hl2 : (W'.putObj (w.heap.size + 1) (.loop { rc .ready none with state := .busy })).heap[w.heap.size + 1]? = some (.loop { rc .ready none with state := .busy }) := World.putObj_heap_same (by omega)
    have hd2 : (W'.putObj (w.heap.size + 1) (.loop { rc .ready none with state := .busy })).heap[w.heap.size]? = some (.deferred (some [])) := (World.putObj_heap_other (by omega)).trans hd'
    have v1 : Save (fun k o => M k o ∨ k = w.heap.size + 1) W (W'.putObj (w.heap.size + 1) (.loop { rc .ready none with state := .busy })) := (Save.of_kept _ k').trans (Save.put _ (fun _ _ => Or.inr rfl))
    have hs2 : (W'.putObj (w.heap.size + 1) (.loop { rc .ready none with state := .busy })).heap.size = W'.heap.size := by simp
    refine wpIn_mono (hb _ (Save.put _ (fun _ _ => rfl)) (Save.put _ (fun o2 h2 => Or.inr ⟨by omega, by rw [hl'] at h2; cases h2; rfl⟩))) ?_
    generalize W'.putObj (w.heap.size + 1) (.loop { rc .ready none with state := .busy }) = W2 at *
    have fin : ∀ (jump : Option Code) (W3 : World), Save M W2 W3 → ∃ W4, (Instr.endRound (w.heap.size + 1) jump).run P W3 = .ok (.bool jump.isNone) W4 ∧ Save (fun k o => M k o ∨ k = w.heap.size + 1) W W4 ∧ Save (Itn T w.heap.size) W3 W4 ∧ W3.heap.size ≤ W4.heap.size ∧
        W4.heap[w.heap.size + 1]? = some (.loop (rc (if jump.isNone then .ready else .done) jump)) ∧ W4.heap[w.heap.size]? = some (.deferred (some [])) := fun jump W3 v3 => by
      have q1 : ¬ M (w.heap.size + 1) (.loop { rc .ready none with state := .busy }) := fun h => by
        exact Bool.noConfusion (show false = true from (hM _ _ h).2)
      have q0 : ¬ M w.heap.size (.deferred (some [])) := fun h => by
        exact Bool.noConfusion (show false = true from (hM _ _ h).2)
      have hl3 := v3.at hl2 q1
      have hd3 := v3.at hd2 q0
      have hlt3 := (Array.getElem?_eq_some_iff.1 hl3).1
      have := run_endRound (P := P) jump hl3
      refine ⟨_, this, v1.trans ((v3.mono (fun k o _ h => Or.inl h)).trans (Save.put _ (fun _ _ => Or.inr rfl))), Save.put _ (fun o2 h2 => Or.inr ⟨by omega, by rw [hl3] at h2; cases h2; rfl⟩), by simp, ?_, (World.putObj_heap_other (by omega)).trans hd3⟩
      rw [World.putObj_heap_same hlt3, rcE, rcE]
    rintro e a3 W3 hp
    cases e with
    | normal =>
      obtain ⟨v3, hi3⟩ := hp
      obtain ⟨W4, hr4, v4, b4, z4, l4, d4⟩ := fin none W3 v3
      exact ⟨_, W4, hr4, v4, .inl ⟨rfl, hI s' W3 W4 hi3 b4, l4, d4, by have := v3.size; omega⟩⟩
    | ret =>
      obtain ⟨v3, hi3⟩ := hp
      obtain ⟨W4, hr4, v4, b4, z4, l4, d4⟩ := fin (some .ret) W3 v3
      exact ⟨_, W4, hr4, v4, .inr ⟨rfl, .ret, hIx _ s' W3 W4 hi3 b4, l4, d4⟩⟩
    | exit id =>
      obtain ⟨v3, hi3⟩ := hp
      obtain ⟨W4, hr4, v4, b4, z4, l4, d4⟩ := fin (some (.exit id)) W3 v3
      exact ⟨_, W4, hr4, v4, .inr ⟨rfl, .exit id, hIx _ s' W3 W4 hi3 b4, l4, d4⟩⟩
    | goto t =>
      obtain ⟨v3, hi3⟩ := hp
      obtain ⟨W4, hr4, v4, b4, z4, l4, d4⟩ := fin (some (.goto t)) W3 v3
      exact ⟨_, W4, hr4, v4, .inr ⟨rfl, .goto t, hIx _ s' W3 W4 hi3 b4, l4, d4⟩⟩
    | panic ch => exact hp.elim
    | outgrown => exact hp.elim
  · -- behind it
    have back : ∀ W2, Save (fun k o => (M k o ∨ k = w.heap.size + 1) ∨ T k) X W2 → ∀ o, Save (fun k o => M k o ∨ T k) w (W2.putObj (w.heap.size + 1) o) := fun W2 v o =>
      ⟨v.os.trans k0.os, v.output.trans k0.output, by have := v.size; simp; omega, fun k o' hk hm => by
        have hlt := (Array.getElem?_eq_some_iff.1 hk).1
        exact (World.putObj_heap_other (by omega)).trans (v.block k o' ((k0.block k hlt).trans hk) (fun q => by rcases q with (q | q) | q; (· exact hm (Or.inl q)); (· omega); (· exact hm (Or.inr q)))), v.tape.trans k0.tape⟩
    rintro e W2 ⟨⟨v, rfl⟩, vs, ⟨s, hE, hi, hl, hd, -⟩ | ⟨s, c, hi, hl, hd⟩⟩
    · have hlt := (Array.getElem?_eq_some_iff.1 hl).1
      have hz := vs.size
      refine ⟨none, _, by have := run_endLoop (P := P) hl (by rw [rcE]; simp); rw [rcE] at this; exact this, hdone s _ hE (hI s W2 _ hi ?_) (back W2 vs _) ((World.putObj_heap_other (by omega)).trans hd)⟩
      exact Save.put _ (fun o2 h2 => Or.inr ⟨by omega, by rw [hl] at h2; cases h2; rfl⟩)
    · have hlt := (Array.getElem?_eq_some_iff.1 hl).1
      have hz := vs.size
      refine ⟨some c, _, by have := run_endLoop (P := P) hl (by rw [rcE]; simp); rw [rcE] at this; exact this, hstop c s _ (hIx c s W2 _ hi ?_) (back W2 vs _) ((World.putObj_heap_other (by omega)).trans hd)⟩
      exact Save.put _ (fun o2 h2 => Or.inr ⟨by omega, by rw [hl] at h2; cases h2; rfl⟩)
end Go.Proofs.YtgpocnnolieijaaGreatDoor.Hd
/- Plain mathematics of headers: texts cut in pieces, names, plain texts, words, lines; what Line, Read, All and Cut answer; either way of reading is right. -/
set_option linter.unusedSimpArgs false
set_option linter.unusedVariables false
namespace Go.Proofs.YtgpocnnolieijaaGreatDoor.Hd
open Bx
/-- what stands between bytes of a kind -/
def splt (c : UInt8) : List UInt8 → List (List UInt8)
  | [] => [[]]
  | b :: r => if b = c then [] :: splt c r else match splt c r with | [] => [[b]] | p :: q => (b :: p) :: q
theorem splt_ne (c : UInt8) (l : List UInt8) : splt c l ≠ [] := by
  cases l with
  | nil => simp [splt]
  | cons b r => unfold splt; split
                · simp
                · split <;> simp
theorem splt_hit (c : UInt8) (r : List UInt8) : splt c (c :: r) = [] :: splt c r := by rw [splt, if_pos rfl]
theorem splt_miss {b c : UInt8} (h : b ≠ c) (r : List UInt8) : ∃ p q, splt c r = p :: q ∧ splt c (b :: r) = (b :: p) :: q := by
  cases hs : splt c r with
  | nil => exact absurd hs (splt_ne c r)
  | cons p q => exact ⟨p, q, rfl, by rw [splt, if_neg h, hs]⟩
theorem splt_app {c : UInt8} (p r : List UInt8) (h : c ∉ p) : splt c (p ++ c :: r) = p :: splt c r := by
  induction p with
  | nil => exact splt_hit c r
  | cons b p ih =>
    have hb : b ≠ c := fun e => h (by simp [e])
    have hp : c ∉ p := fun e => h (by simp [e])
    rw [List.cons_append, splt, if_neg hb, ih hp]
theorem splt_none {c : UInt8} (p : List UInt8) (h : c ∉ p) : splt c p = [p] := by
  induction p with
  | nil => rfl
  | cons b p ih =>
    have hb : b ≠ c := fun e => h (by simp [e])
    have hp : c ∉ p := fun e => h (by simp [e])
    rw [splt, if_neg hb, ih hp]
theorem cut_cases (c : UInt8) (l : List UInt8) : c ∉ l ∨ ∃ p r, l = p ++ c :: r ∧ c ∉ p := by
  induction l with
  | nil => simp
  | cons b l ih =>
    by_cases hb : b = c
    · exact Or.inr ⟨[], l, by simp [hb], by simp⟩
    · rcases ih with h | ⟨p, r, rfl, hp⟩
      · exact Or.inl (by simp; exact ⟨fun e => hb e.symm, h⟩)
      · exact Or.inr ⟨b :: p, r, by simp, by simp; exact ⟨fun e => hb e.symm, hp⟩⟩
theorem splt_mem {c : UInt8} : ∀ (l : List UInt8), ∀ t ∈ splt c l, c ∉ t ∧ t.length ≤ l.length
  | [], t, h => by simp [splt] at h; subst h; simp
  | b :: r, t, h => by
    by_cases hb : b = c
    · subst hb
      rw [splt_hit] at h
      rcases List.mem_cons.1 h with rfl | h
      · simp
      · have := splt_mem r t h; exact ⟨this.1, by simp; omega⟩
    · obtain ⟨p, q, h1, h2⟩ := splt_miss hb r
      rw [h2] at h
      rcases List.mem_cons.1 h with rfl | h
      · have := splt_mem r p (by rw [h1]; simp)
        exact ⟨by simp; exact ⟨fun e => hb e.symm, this.1⟩, by simp; omega⟩
      · have := splt_mem r t (by rw [h1]; simp [h])
        exact ⟨this.1, by simp; omega⟩
theorem splt_len (c : UInt8) : ∀ l : List UInt8, (splt c l).length ≤ l.length + 1
  | [] => by simp [splt]
  | b :: r => by
    have ih := splt_len c r
    by_cases hb : b = c
    · subst hb; rw [splt_hit]; simp; omega
    · obtain ⟨p, q, h1, h2⟩ := splt_miss hb r
      rw [h2]; rw [h1] at ih; simp at ih ⊢; omega
theorem splt_join : ∀ (c : UInt8) (ws : List B), ws ≠ [] → (∀ w ∈ ws, c ∉ w) → splt c (List.intercalate [c] ws) = ws := by
  intro c ws
  induction ws with
  | nil => intro h; exact absurd rfl h
  | cons w ws ih =>
    intro _ h
    cases ws with
    | nil => simp [List.intercalate, splt_none w (h w (by simp))]
    | cons v ws =>
      have e : List.intercalate [c] (w :: v :: ws) = w ++ c :: List.intercalate [c] (v :: ws) := by simp [List.intercalate]
      rw [e, splt_app _ _ (h w (by simp)), ih (by simp) (fun x hx => h x (by simp [hx]))]
theorem join_splt (c : UInt8) : ∀ l : B, List.intercalate [c] (splt c l) = l
  | [] => by simp [splt, List.intercalate]
  | b :: r => by
    by_cases hb : b = c
    · subst hb
      rw [splt_hit]
      have ih := join_splt b r
      cases hs : splt b r with
      | nil => exact absurd hs (splt_ne _ _)
      | cons p q =>
        rw [hs] at ih
        have e : List.intercalate [b] ([] :: p :: q) = b :: List.intercalate [b] (p :: q) := by simp [List.intercalate]
        rw [e, ih]
    · obtain ⟨p, q, h1, h2⟩ := splt_miss hb r
      have ih := join_splt c r
      rw [h1] at ih
      rw [h2]
      cases q with
      | nil => simp [List.intercalate] at ih ⊢; exact ih
      | cons v q =>
        have e1 : List.intercalate [c] (p :: v :: q) = p ++ c :: List.intercalate [c] (v :: q) := by simp [List.intercalate]
        have e2 : List.intercalate [c] ((b :: p) :: v :: q) = b :: (p ++ c :: List.intercalate [c] (v :: q)) := by simp [List.intercalate]
        rw [e2, ← e1, ih]
/-- what stands between a text's pieces of a kind -/
def splF (sep : B) : Nat → B → List B
  | 0, l => [l]
  | f + 1, l => if Lib.index l sep = -1 then [l] else l.take (Lib.index l sep).toNat :: splF sep f (l.drop ((Lib.index l sep).toNat + sep.length))
def spl (sep l : B) : List B := splF sep l.length l
theorem idx_nil {sep : B} (hs : 1 ≤ sep.length) : Lib.index [] sep = -1 := by
  cases sep with
  | nil => simp at hs
  | cons a t => rfl
theorem splF_fuel {sep : B} (hs : 1 ≤ sep.length) : ∀ (n f g : Nat) (l : B), l.length ≤ n → l.length ≤ f → l.length ≤ g → splF sep f l = splF sep g l := by
  intro n
  induction n with
  | zero =>
    intro f g l hn hf hg
    obtain rfl : l = [] := List.length_eq_zero_iff.1 (by omega)
    have e : ∀ f, splF sep f [] = [[]] := fun f => by
      cases f with
      | zero => rfl
      | succ f => rw [splF, if_pos (idx_nil hs)]
    rw [e, e]
  | succ n ih =>
    intro f g l hn hf hg
    cases l with
    | nil =>
      have e : ∀ f, splF sep f [] = [[]] := fun f => by
        cases f with
        | zero => rfl
        | succ f => rw [splF, if_pos (idx_nil hs)]
      rw [e, e]
    | cons b l =>
      cases f with
      | zero => simp at hf
      | succ f =>
        cases g with
        | zero => simp at hg
        | succ g =>
          rw [splF, splF]
          split
          · rfl
          · congr 1
            have hd : ((b :: l).drop ((Lib.index (b :: l) sep).toNat + sep.length)).length ≤ l.length := by simp; omega
            simp only [List.length_cons] at hn hf hg
            exact ih f g _ (by omega) (by omega) (by omega)
theorem spl_none {sep l : B} (h : Lib.index l sep = -1) : spl sep l = [l] := by
  unfold spl
  cases hl : l.length with
  | zero => rfl
  | succ n => rw [splF, if_pos h]
theorem spl_hit {sep l : B} {i : Nat} (hs : 1 ≤ sep.length) (h : Lib.index l sep = i) : spl sep l = l.take i :: spl sep (l.drop (i + sep.length)) := by
  have hr := Lib.index_room l sep (by omega)
  unfold spl
  cases hl : l.length with
  | zero => omega
  | succ n =>
    rw [splF, if_neg (by omega), h, Int.toNat_natCast]
    congr 1
    have hd : (l.drop (i + sep.length)).length ≤ n := by simp; omega
    exact splF_fuel hs n _ _ _ hd hd (Nat.le_refl _)
theorem idx_miss {b : UInt8} {l sub : B} (h : sub.isPrefixOf (b :: l) = false) : Lib.index (b :: l) sub = if Lib.index l sub = -1 then -1 else Lib.index l sub + 1 := by
  rw [Lib.index, h]
  by_cases h2 : Lib.index l sub = -1
  · simp [h2]
  · have : (Lib.index l sub == -1) = false := beq_eq_false_iff_ne.2 h2
    simp [this, h2]
theorem pre1 {b c : UInt8} {l : B} (h : b ≠ c) : List.isPrefixOf [c] (b :: l) = false := by
  simp only [List.isPrefixOf]
  rw [show (c == b) = false from beq_eq_false_iff_ne.2 (Ne.symm h)]; rfl
theorem idx1_none {c : UInt8} : ∀ {l : B}, c ∉ l → Lib.index l [c] = -1
  | [], _ => rfl
  | b :: l, h => by
    have hb : b ≠ c := fun e => h (by simp [e])
    rw [idx_miss (pre1 hb), idx1_none (fun e => h (by simp [e]))]; rfl
theorem idx1_some {c : UInt8} : ∀ {p : B} (q : B), c ∉ p → Lib.index (p ++ c :: q) [c] = p.length
  | [], q, _ => by simp [Lib.index, List.isPrefixOf]
  | b :: p, q, h => by
    have hb : b ≠ c := fun e => h (by simp [e])
    have ih := idx1_some (p := p) q (fun e : c ∈ p => h (List.mem_cons_of_mem _ e))
    rw [List.cons_append, idx_miss (pre1 hb), ih, if_neg (by omega), List.length_cons]; omega
theorem spl_one (c : UInt8) : ∀ (n : Nat) (l : B), l.length ≤ n → spl [c] l = splt c l
  | 0, l, hn => by
    obtain rfl : l = [] := List.length_eq_zero_iff.1 (by omega)
    rfl
  | n + 1, l, hn => by
    rcases cut_cases c l with h | ⟨p, r, rfl, hp⟩
    · rw [spl_none (idx1_none h), splt_none l h]
    · rw [spl_hit (by simp) (idx1_some r hp), splt_app _ _ hp, List.take_left, show (p ++ c :: r).drop (p.length + [c].length) = r by rw [show p ++ c :: r = (p ++ [c]) ++ r by simp]; exact List.drop_left' (by simp), spl_one c n r (by simp at hn; omega)]
/-! names, and plain texts -/
def isNm (c : UInt8) : Bool := (decide (97 ≤ c.toNat) && decide (c.toNat ≤ 122)) || (decide (65 ≤ c.toNat) && decide (c.toNat ≤ 90)) || (decide (48 ≤ c.toNat) && decide (c.toNat ≤ 57)) || decide (c.toNat = 45)
def nam (s : B) : Bool := s.all isNm && (!s.isEmpty && decide (s.length ≤ 40))
def rng (c : UInt8) : Bool := decide (32 ≤ c.toNat) && decide (c.toNat ≤ 126)
/-- does '=?' stand in it -/
def hq : B → Bool
  | x :: y :: r => (x == 61 && y == 63) || hq (y :: r)
  | _ => false
theorem hq_eq : ∀ s : B, Lib.contains s [61, 63] = hq s
  | [] => rfl
  | [x] => by simp [Lib.contains, hq, Lib.index, List.isPrefixOf]
  | x :: y :: r => by
    have ih := hq_eq (y :: r)
    unfold Lib.contains at ih ⊢
    rw [hq]
    by_cases h : x = 61 ∧ y = 63
    · obtain ⟨rfl, rfl⟩ := h
      simp [Lib.index, List.isPrefixOf]
    · have hp : List.isPrefixOf [61, 63] (x :: y :: r) = false := by
        simp only [List.isPrefixOf, Bool.and_true, Bool.and_eq_false_iff, beq_eq_false_iff_ne]
        by_cases hx : x = 61
        · exact Or.inr (fun e => h ⟨hx, e.symm⟩)
        · exact Or.inl (Ne.symm hx)
      have h2 : (x == 61 && y == 63) = false := by
        rw [Bool.and_eq_false_iff, beq_eq_false_iff_ne, beq_eq_false_iff_ne]
        by_cases hx : x = 61
        · exact Or.inr (fun e => h ⟨hx, e⟩)
        · exact Or.inl hx
      rw [idx_miss hp, h2, Bool.false_or, ← ih]
      have hge := Lib.index_ge (y :: r) [61, 63]
      refine decide_eq_decide.2 ?_
      split
      · rename_i e; rw [e]
      · omega
def okw (w : B) : Bool := !w.isEmpty && !hq w
def pln (s : B) : Bool := s.all rng && (splt 32 s).all okw
/-- no two bytes, one behind the other, that may not be so -/
def bad (x y : UInt8) : Bool := (x == 32 && y == 32) || (x == 61 && y == 63)
def pr : B → Bool
  | x :: y :: r => !bad x y && pr (y :: r)
  | _ => true
theorem pr_word : ∀ w : B, (32 : UInt8) ∉ w → pr w = !hq w
  | [], _ => rfl
  | [x], _ => rfl
  | x :: y :: r, h => by
    have hx : (x == 32) = false := by rw [beq_eq_false_iff_ne]; exact fun e => h (by simp [e])
    rw [pr, hq, pr_word (y :: r) (fun e => h (List.mem_cons_of_mem _ e)), bad, hx]
    simp
theorem pr_cut : ∀ (p r : B), (32 : UInt8) ∉ p → pr (p ++ 32 :: r) = (pr p && (pr r && !(r.head? == some 32)))
  | [], r, _ => by
    cases r with
    | nil => rfl
    | cons y r =>
      simp only [List.nil_append, pr, bad, List.head?_cons, Option.some_beq_some]
      rw [show ((32 : UInt8) == 32) = true from rfl, show ((32 : UInt8) == 61) = false from rfl]
      cases pr (y :: r) <;> cases (y == 32) <;> rfl
  | [x], r, h => by
    have hx : (x == 32) = false := by rw [beq_eq_false_iff_ne]; exact fun e => h (by simp [e])
    have ih := pr_cut [] r (by simp)
    simp only [List.nil_append, List.cons_append] at ih ⊢
    rw [pr, ih, bad, hx, show ((32 : UInt8) == 63) = false from rfl]
    simp [pr]
  | x :: y :: p, r, h => by
    have ih := pr_cut (y :: p) r (fun e => h (List.mem_cons_of_mem _ e))
    simp only [List.cons_append] at ih ⊢
    rw [pr, ih, pr]
    simp [Bool.and_assoc]
theorem words_ok : ∀ (n : Nat) (s : B), s.length ≤ n → (splt 32 s).all okw = (pr s && (!s.isEmpty && (!(s.head? == some 32) && !(s.getLast? == some 32))))
  | n, s, hn => by
    rcases cut_cases 32 s with h | ⟨p, r, rfl, hp⟩
    · rw [splt_none s h, pr_word s h]
      have h1 : (s.head? == some 32) = false := by
        rw [beq_eq_false_iff_ne]; exact fun e => h (List.mem_of_mem_head? e)
      have h2 : (s.getLast? == some 32) = false := by
        rw [beq_eq_false_iff_ne]; exact fun e => h (List.mem_of_mem_getLast? e)
      rw [h1, h2]
      simp [okw, Bool.and_comm]
    · cases n with
      | zero => simp at hn
      | succ n =>
        rw [splt_app p r hp, pr_cut p r hp, pr_word p hp, List.all_cons, words_ok n r (by simp at hn; omega), okw]
        have hl : ((p ++ 32 :: r).getLast? == some 32) = (r.isEmpty || (r.getLast? == some 32)) := by
          cases r with
          | nil => simp
          | cons y r =>
            obtain ⟨z, hz⟩ : ∃ z, (y :: r).getLast? = some z := ⟨_, List.getLast?_eq_some_getLast (by simp)⟩
            rw [show p ++ 32 :: y :: r = (p ++ [32]) ++ y :: r by simp, List.getLast?_append, hz]; rfl
        have hh : ((p ++ 32 :: r).head? == some 32) = p.isEmpty := by
          cases p with
          | nil => simp
          | cons x p =>
            have hx : x ≠ 32 := fun e => hp (by simp [e])
            simp [hx]
        rw [hl, hh, show (p ++ 32 :: r).isEmpty = false by simp]
        cases p.isEmpty <;> cases hq p <;> cases pr r <;> cases r.isEmpty <;> cases (r.head? == some 32) <;> cases (r.getLast? == some 32) <;> rfl
theorem pln_eq (s : B) : pln s = (s.all rng && (pr s && (!s.isEmpty && (!(s.head? == some 32) && !(s.getLast? == some 32))))) := by
  rw [pln, words_ok _ s (Nat.le_refl _)]
/-! words -/
def cont (c : UInt8) : Bool := decide (128 ≤ c.toNat) && decide (c.toNat ≤ 191)
def opn : B := [61, 63, 117, 116, 102, 45, 56, 63, 66, 63]
def cls : B := [63, 61]
/-- how long the part is that a text begins with -/
def prt (s : B) : Nat := if s.length ≤ 45 then s.length else if cont (s.getD 45 0) = false then 45 else if cont (s.getD 44 0) = false then 44 else if cont (s.getD 43 0) = false then 43 else if cont (s.getD 42 0) = false then 42 else 45
theorem prt_le (s : B) : prt s ≤ s.length := by unfold prt; (repeat' split) <;> omega
theorem prt_45 (s : B) : prt s ≤ 45 := by unfold prt; (repeat' split) <;> omega
theorem prt_pos {s : B} (h : s ≠ []) : 1 ≤ prt s := by
  have := List.length_pos_iff.2 h
  unfold prt; (repeat' split) <;> omega
def code (p : B) : B := opn ++ (raw p ++ cls)
/-- a text's parts, coded -/
def cod (s : B) : List B := if h : s = [] then [] else code (s.take (prt s)) :: cod (s.drop (prt s))
termination_by s.length
decreasing_by
  have := List.length_pos_iff.2 h
  have := prt_pos h
  simp; omega
theorem cod_nil : cod [] = [] := by rw [cod]; simp
theorem cod_more {s : B} (h : s ≠ []) : cod s = code (s.take (prt s)) :: cod (s.drop (prt s)) := by rw [cod, dif_neg h]
def wds (s : B) : List B := if pln s = true then splt 32 s else cod s
/-- a word: of signs that are seen -/
def vis (c : UInt8) : Bool := decide (33 ≤ c.toNat) && decide (c.toNat ≤ 126)
def Wd (w : B) : Prop := w ≠ [] ∧ ∀ c ∈ w, vis c = true
theorem sg_vis : ∀ n, n < 64 → vis (sg n) = true := by decide +kernel
theorem raw_vis {p : B} {c : UInt8} (h : c ∈ raw p) : vis c = true := by
  rcases raw_sign h with rfl | ⟨n, hn, rfl⟩
  · rfl
  · exact sg_vis n hn
theorem code_wd (p : B) : Wd (code p) := by
  refine ⟨by simp [code, opn], fun c hc => ?_⟩
  simp only [code, List.mem_append] at hc
  rcases hc with h | h | h
  · exact (by decide : ∀ c ∈ opn, vis c = true) c h
  · exact raw_vis h
  · exact (by decide : ∀ c ∈ cls, vis c = true) c h
theorem cod_wd : ∀ (n : Nat) (s : B), s.length ≤ n → ∀ w ∈ cod s, Wd w
  | 0, s, hn, w, hw => by
    obtain rfl : s = [] := List.length_eq_zero_iff.1 (by omega)
    rw [cod_nil] at hw; cases hw
  | n + 1, s, hn, w, hw => by
    by_cases h : s = []
    · subst h; rw [cod_nil] at hw; cases hw
    · have := prt_pos h
      have := List.length_pos_iff.2 h
      rw [cod_more h, List.mem_cons] at hw
      rcases hw with rfl | hw
      · exact code_wd _
      · exact cod_wd n _ (by simp; omega) w hw
theorem mem_splt {c : UInt8} : ∀ (l : B) (w : B), w ∈ splt c l → ∀ x ∈ w, x ∈ l ∧ x ≠ c := by
  intro l
  induction l with
  | nil => intro w hw x hx; simp [splt] at hw; subst hw; cases hx
  | cons b r ih =>
    intro w hw x hx
    by_cases hb : b = c
    · subst hb
      rw [splt_hit, List.mem_cons] at hw
      rcases hw with rfl | hw
      · cases hx
      · have := ih w hw x hx; exact ⟨by simp [this.1], this.2⟩
    · obtain ⟨p, q, h1, h2⟩ := splt_miss hb r
      rw [h2, List.mem_cons] at hw
      rcases hw with rfl | hw
      · rcases List.mem_cons.1 hx with rfl | hx
        · exact ⟨by simp, hb⟩
        · have := ih p (by rw [h1]; simp) x hx; exact ⟨by simp [this.1], this.2⟩
      · have := ih w (by rw [h1]; simp [hw]) x hx; exact ⟨by simp [this.1], this.2⟩
theorem pln_words {s : B} (h : pln s = true) : ∀ w ∈ splt 32 s, Wd w ∧ hq w = false := by
  intro w hw
  unfold pln at h
  rw [Bool.and_eq_true, List.all_eq_true, List.all_eq_true] at h
  have ho := h.2 w hw
  unfold okw at ho
  rw [Bool.and_eq_true] at ho
  refine ⟨⟨fun e => by rw [e] at ho; simp at ho, fun c hc => ?_⟩, by simpa using ho.2⟩
  obtain ⟨h1, h2⟩ := mem_splt s w hw c hc
  have h3 := h.1 c h1
  have h4 : c.toNat ≠ 32 := fun e => h2 (UInt8.toNat_inj.1 (by rw [e]; rfl))
  simp only [rng, vis, Bool.and_eq_true, decide_eq_true_eq] at h3 ⊢
  omega
theorem wds_wd (s : B) : ∀ w ∈ wds s, Wd w := by
  intro w hw
  unfold wds at hw
  split at hw
  · rename_i h
    exact (pln_words h w hw).1
  · exact cod_wd _ s (Nat.le_refl _) w hw
/-! what words are read as -/
/-- a coded word's part -/
noncomputable def decW (w : B) : Option B := if opn.isPrefixOf w = true ∧ cls.isSuffixOf (w.drop 10) = true then byt ((w.drop 10).take ((w.drop 10).length - 2)) else none
theorem decW_code (p : B) : decW (code p) = some p := by
  unfold decW
  have h1 : opn.isPrefixOf (code p) = true := by rw [List.isPrefixOf_iff_prefix]; exact ⟨_, rfl⟩
  have h2 : (code p).drop 10 = raw p ++ cls := by unfold code; exact List.drop_left' rfl
  have h3 : cls.isSuffixOf (raw p ++ cls) = true := by rw [List.isSuffixOf_iff_suffix]; exact ⟨_, rfl⟩
  rw [h2, if_pos ⟨h1, h3⟩, show (raw p ++ cls).length - 2 = (raw p).length by simp [cls], List.take_left, byt_raw]
theorem decW_hq {w : B} (h : hq w = false) : decW w = none := by
  unfold decW
  rw [if_neg]
  rintro ⟨h1, _⟩
  rw [List.isPrefixOf_iff_prefix] at h1
  obtain ⟨t, rfl⟩ := h1
  simp [opn, hq] at h
/-- the parts of words that are all coded, one behind the other -/
noncomputable def parts : List B → Option B
  | [] => some []
  | w :: ws => match decW w with
    | none => none
    | some p => (parts ws).map (p ++ ·)
theorem parts_cod : ∀ (n : Nat) (s : B), s.length ≤ n → parts (cod s) = some s
  | 0, s, hn => by
    obtain rfl : s = [] := List.length_eq_zero_iff.1 (by omega)
    rw [cod_nil]; rfl
  | n + 1, s, hn => by
    by_cases h : s = []
    · subst h; rw [cod_nil]; rfl
    · have := prt_pos h
      have := List.length_pos_iff.2 h
      rw [cod_more h, parts, decW_code]
      simp only
      rw [parts_cod n _ (by simp; omega)]
      simp
noncomputable def val (ws : List B) : B := (parts ws).getD (List.intercalate [32] ws)
theorem val_wds (s : B) : val (wds s) = s := by
  unfold val wds
  split
  · rename_i h
    have hw := pln_words h
    cases hs : splt 32 s with
    | nil => exact absurd hs (splt_ne _ _)
    | cons w ws =>
      rw [parts, decW_hq (hw w (by rw [hs]; simp)).2, Option.getD_none, ← hs, join_splt]
  · rw [parts_cod _ s (Nat.le_refl _), Option.getD_some]
/-- the text of a text's words -/
noncomputable def dcd (s : B) : B := (parts (splt 32 s)).getD s
theorem dcd_eq (s : B) : dcd s = val (splt 32 s) := by unfold dcd val; rw [join_splt]
theorem dcd_wds (s : B) : dcd (List.intercalate [32] (wds s)) = s := by
  by_cases h : wds s = []
  · have := val_wds s
    rw [h] at this ⊢
    have e : val [] = [] := rfl
    rw [e] at this
    rw [← this]
    unfold dcd
    have : splt 32 (List.intercalate [32] []) = [[]] := rfl
    rw [this, parts, decW_hq (w := []) rfl]; rfl
  · rw [dcd_eq, splt_join _ _ h (fun w hw hc => ?_), val_wds]
    have := (wds_wd s w hw).2 32 hc
    exact absurd this (by decide)
/-! lines -/
abbrev Hdr := B × B
def okH (h : Hdr) : Bool := nam h.1 && decide (h.2.length ≤ 4000)
/-- words, the line having so many bytes -/
def fil : Nat → List B → B
  | _, [] => [13, 10]
  | k, w :: ws => if 76 < k + 1 + w.length then 13 :: 10 :: 32 :: (w ++ fil (1 + w.length) ws) else 32 :: (w ++ fil (k + 1 + w.length) ws)
def bdy (h : Hdr) : B := fil (h.1.length + 1) (wds h.2)
def lnH (h : Hdr) : B := h.1 ++ 58 :: bdy h
def line (h : Hdr) : Option B := if okH h = true then some (lnH h) else none
def flatW (ws : List B) : B := ws.flatMap (32 :: ·)
/-- what a line is without its folds -/
def flat (h : Hdr) : B := h.1 ++ 58 :: flatW (wds h.2)
/-- texts without what folds them -/
def unf : B → B
  | 13 :: 10 :: 32 :: r => 32 :: unf r
  | c :: r => c :: unf r
  | [] => []
theorem unf_ne {c : UInt8} (r : B) (h : c ≠ 13) : unf (c :: r) = c :: unf r := by
  rw [unf]
  intro r' e
  exact absurd e h
theorem unf_word : ∀ (w r : B), (13 : UInt8) ∉ w → unf (w ++ r) = w ++ unf r
  | [], r, _ => rfl
  | c :: w, r, h => by
    rw [List.cons_append, unf_ne _ (fun e => h (by simp [e])), unf_word w r (fun e => h (by simp [e])), List.cons_append]
theorem wd_13 {w : B} (h : Wd w) : (13 : UInt8) ∉ w := fun e => absurd (h.2 13 e) (by decide)
theorem wd_32 {w : B} (h : Wd w) : (32 : UInt8) ∉ w := fun e => absurd (h.2 32 e) (by decide)
theorem unf_end : ∀ (r : B), r.head? ≠ some 32 → unf (13 :: 10 :: r) = 13 :: 10 :: unf r := by
  intro r h
  rw [unf, unf_ne _ (by decide)]
  intro r' _ e
  simp only [List.cons.injEq, true_and] at e
  exact h (by rw [e]; rfl)
theorem unf_fil : ∀ (ws : List B) (k : Nat) (r : B), (∀ w ∈ ws, Wd w) → r.head? ≠ some 32 → unf (fil k ws ++ r) = flatW ws ++ 13 :: 10 :: unf r
  | [], k, r, _, hr => by
    show unf (13 :: 10 :: r) = _
    rw [unf_end r hr]; rfl
  | w :: ws, k, r, h, hr => by
    have h13 := wd_13 (h w (by simp))
    have ih := fun j => unf_fil ws j r (fun x hx => h x (by simp [hx])) hr
    rw [fil]
    split
    · show unf (13 :: 10 :: 32 :: ((w ++ fil (1 + w.length) ws) ++ r)) = _
      rw [unf, List.append_assoc, unf_word _ _ h13, ih]
      simp [flatW]
    · show unf (32 :: ((w ++ fil (k + 1 + w.length) ws) ++ r)) = _
      rw [unf_ne _ (by decide), List.append_assoc, unf_word _ _ h13, ih]
      simp [flatW]
theorem nam_all {s : B} (h : nam s = true) : (∀ c ∈ s, isNm c = true) ∧ s ≠ [] ∧ s.length ≤ 40 := by
  unfold nam at h
  rw [Bool.and_eq_true, Bool.and_eq_true, List.all_eq_true] at h
  exact ⟨h.1, fun e => by rw [e] at h; simp at h, by simpa using h.2.2⟩
theorem nam_13 {s : B} (h : nam s = true) : (13 : UInt8) ∉ s := fun e => absurd ((nam_all h).1 13 e) (by decide)
theorem nam_58 {s : B} (h : nam s = true) : (58 : UInt8) ∉ s := fun e => absurd ((nam_all h).1 58 e) (by decide)
theorem okH_nam {h : Hdr} (hk : okH h = true) : nam h.1 = true ∧ h.2.length ≤ 4000 := by
  unfold okH at hk
  rw [Bool.and_eq_true] at hk
  exact ⟨hk.1, by simpa using hk.2⟩
theorem unf_line {h : Hdr} (hk : okH h = true) (r : B) (hr : r.head? ≠ some 32) : unf (lnH h ++ r) = flat h ++ 13 :: 10 :: unf r := by
  have hn := nam_13 (okH_nam hk).1
  unfold lnH flat bdy
  rw [List.append_assoc, unf_word _ _ hn, List.cons_append, unf_ne _ (by decide), unf_fil _ _ _ (wds_wd _) hr]
  simp
theorem lnH_head {h : Hdr} (hk : okH h = true) : ∃ c r, lnH h = c :: r ∧ c ≠ 13 ∧ c ≠ 32 := by
  obtain ⟨h1, h2, _⟩ := nam_all (okH_nam hk).1
  cases hn : h.1 with
  | nil => exact absurd hn h2
  | cons c t =>
    refine ⟨c, t ++ 58 :: bdy h, by unfold lnH; rw [hn]; rfl, fun e => ?_, fun e => ?_⟩
    · exact absurd (h1 c (by rw [hn]; simp)) (by rw [e]; decide)
    · exact absurd (h1 c (by rw [hn]; simp)) (by rw [e]; decide)
/-- as the library replaces -/
theorem pre3 {b : UInt8} {l : B} (h : ¬ ∃ r, b :: l = 13 :: 10 :: 32 :: r) : List.isPrefixOf [13, 10, 32] (b :: l) = false := by
  rw [Bool.eq_false_iff]
  intro e
  rw [List.isPrefixOf_iff_prefix] at e
  obtain ⟨t, e⟩ := e
  exact h ⟨t, e.symm⟩
theorem unf_miss {b : UInt8} {l : B} (h : ¬ ∃ r, b :: l = 13 :: 10 :: 32 :: r) : unf (b :: l) = b :: unf l := by
  rw [unf]
  intro r e1 e2
  exact h ⟨r, by rw [e1, e2]⟩
theorem rplK_unf : ∀ (n : Nat) (s : B), s.length ≤ n → ∀ f, s.length < f → Lib.replaceK [13, 10, 32] [32] (Lib.countFrom [13, 10, 32] f s) s = unf s := by
  intro n
  induction n with
  | zero =>
    intro s hn f hf
    obtain rfl : s = [] := List.length_eq_zero_iff.1 (by omega)
    cases f with
    | zero => simp at hf
    | succ f => rfl
  | succ n ih =>
    intro s hn f hf
    cases s with
    | nil => cases f with
      | zero => simp at hf
      | succ f => rfl
    | cons b l =>
      cases f with
      | zero => simp at hf
      | succ f =>
        by_cases h : ∃ r, b :: l = 13 :: 10 :: 32 :: r
        · obtain ⟨r, hr⟩ := h
          rw [hr] at hn hf ⊢
          have hi : Lib.index (13 :: 10 :: 32 :: r) [13, 10, 32] = 0 := by simp [Lib.index, List.isPrefixOf]
          have hc : Lib.countFrom [13, 10, 32] (f + 1) (13 :: 10 :: 32 :: r) = Lib.countFrom [13, 10, 32] f r + 1 := by
            rw [Lib.countFrom, hi, if_neg (by decide)]
            show 1 + Lib.countFrom [13, 10, 32] f r = _
            omega
          rw [hc, Lib.replaceK, hi, if_neg (by decide), unf]
          show [] ++ [32] ++ Lib.replaceK [13, 10, 32] [32] (Lib.countFrom [13, 10, 32] f r) r = _
          rw [ih r (by simp at hn; omega) f (by simp at hf; omega)]; rfl
        · have hl := ih l (by simp at hn; omega) (f + 1) (by simp at hf; omega)
          have hp := idx_miss (pre3 h)
          rw [unf_miss h, ← hl]
          have hge := Lib.index_ge l [13, 10, 32]
          by_cases h2 : Lib.index l [13, 10, 32] = -1
          · rw [if_pos h2] at hp
            rw [Lib.countFrom, hp, Lib.countFrom, h2]; rfl
          · rw [if_neg h2] at hp
            have hq : ∀ (x : Int), x ≠ -1 → (x == -1) = false := fun x hx => beq_eq_false_iff_ne.2 hx
            have hd : (b :: l).drop ((Lib.index l [13, 10, 32] + 1).toNat + 3) = l.drop ((Lib.index l [13, 10, 32]).toNat + 3) := by
              rw [show (Lib.index l [13, 10, 32] + 1).toNat + 3 = ((Lib.index l [13, 10, 32]).toNat + 3) + 1 by omega]; rfl
            have ht : (b :: l).take (Lib.index l [13, 10, 32] + 1).toNat = b :: l.take (Lib.index l [13, 10, 32]).toNat := by
              rw [show (Lib.index l [13, 10, 32] + 1).toNat = (Lib.index l [13, 10, 32]).toNat + 1 by omega]; rfl
            rw [Lib.countFrom, hp, hq _ (by omega), Lib.countFrom, hq _ h2, show ([13, 10, 32] : B).length = 3 from rfl, hd]
            simp only [Bool.false_eq_true, if_false]
            rw [Nat.add_comm 1, Lib.replaceK, Lib.replaceK, hp, hq _ (by omega), hq _ h2, show ([13, 10, 32] : B).length = 3 from rfl, hd, ht]
            simp
theorem rpl_unf (s : B) : Lib.replaceAll s [13, 10, 32] [32] = unf s := by
  unfold Lib.replaceAll Lib.replace Lib.replaceNum Lib.count
  rw [if_neg (by decide), if_pos (Or.inl (by decide))]
  exact rplK_unf _ _ (Nat.le_refl _) _ (Nat.lt_succ_self _)
theorem unf_len : ∀ (n : Nat) (s : B), s.length ≤ n → (unf s).length ≤ s.length
  | n, [], _ => by simp [unf]
  | 0, b :: l, h => by simp at h
  | n + 1, b :: l, h => by
    by_cases q : ∃ r, b :: l = 13 :: 10 :: 32 :: r
    · obtain ⟨r, hr⟩ := q
      rw [hr] at h ⊢
      have := unf_len n r (by simp at h; omega)
      rw [unf]; simp; omega
    · have := unf_len n l (by simp at h; omega)
      rw [unf_miss q]; simp; omega
/-! what the program reads -/
theorem flatW_nil : flatW [] = [] := rfl
theorem flatW_cons (w : B) (ws : List B) : flatW (w :: ws) = 32 :: List.intercalate [32] (w :: ws) := by
  induction ws generalizing w with
  | nil => simp [flatW, List.intercalate]
  | cons v ws ih =>
    have e : List.intercalate [32] (w :: v :: ws) = w ++ 32 :: List.intercalate [32] (v :: ws) := by simp [List.intercalate]
    rw [e, ← ih v]
    simp [flatW]
/-- a line's name and text, without its end -/
noncomputable def hdr (l : B) : Hdr := ((Lib.cut l [58]).1, dcd (Lib.trimPrefix (Lib.cut l [58]).2.1 [32]))
theorem cut_hit {p q : B} (h : (58 : UInt8) ∉ p) : Lib.cut (p ++ 58 :: q) [58] = (p, q, true) := by
  have hi := idx1_some (p := p) q h
  unfold Lib.cut
  rw [if_pos (by omega), hi, Int.toNat_natCast, List.take_left, show (p ++ 58 :: q).drop (p.length + ([58] : B).length) = q by rw [show p ++ 58 :: q = (p ++ [58]) ++ q by simp]; exact List.drop_left' (by simp)]
theorem hdr_flat {h : Hdr} (hk : okH h = true) : hdr (flat h) = h := by
  have hn := nam_58 (okH_nam hk).1
  unfold hdr flat
  rw [cut_hit hn]
  obtain ⟨n, t⟩ := h
  simp only
  congr 1
  have hd := dcd_wds t
  cases hw : wds t with
  | nil =>
    rw [hw] at hd
    rw [flatW_nil]
    have : Lib.trimPrefix [] [32] = ([] : B) := rfl
    rw [this]
    exact hd
  | cons w ws =>
    rw [flatW_cons, ← hw]
    have : Lib.trimPrefix (32 :: List.intercalate [32] (wds t)) [32] = List.intercalate [32] (wds t) := by
      unfold Lib.trimPrefix Lib.hasPrefix
      simp [List.isPrefixOf]
    rw [this, hd]
noncomputable def guess (s : B) : Hdr := hdr (Lib.trimSuffix (unf s) [13, 10])
theorem guess_line {h : Hdr} (hk : okH h = true) : guess (lnH h) = h := by
  have := unf_line hk [] (by simp)
  rw [List.append_nil] at this
  unfold guess
  rw [this, show unf [] = [] from rfl]
  have hs : Lib.trimSuffix (flat h ++ [13, 10]) [13, 10] = flat h := by
    unfold Lib.trimSuffix Lib.hasSuffix
    rw [if_pos (by rw [List.isSuffixOf_iff_suffix]; exact ⟨_, rfl⟩)]
    simp
  rw [hs, hdr_flat hk]
/-- what Read answers -/
noncomputable def red (s : B) : Option Hdr := if line (guess s) = some s then some (guess s) else none
theorem red_iff {s : B} {h : Hdr} : red s = some h ↔ line h = some s := by
  unfold red
  constructor
  · intro e
    split at e
    · cases e; assumption
    · cases e
  · intro e
    have hk : okH h = true := by
      unfold line at e
      split at e
      · assumption
      · cases e
    have hs : s = lnH h := by
      unfold line at e
      rw [if_pos hk] at e
      cases e; rfl
    rw [hs, guess_line hk, ← hs, if_pos e]
theorem line_ok {h : Hdr} {s : B} (e : line h = some s) : okH h = true ∧ s = lnH h := by
  unfold line at e
  split at e
  · rename_i hk; cases e; exact ⟨hk, rfl⟩
  · cases e
theorem line_lnH {h : Hdr} (hk : okH h = true) : line h = some (lnH h) := by unfold line; rw [if_pos hk]
/-! what the document reads -/
def stop (c : UInt8) : Bool := c == 32 || c == 13 || c == 10
/-- words, one begun -/
def tok (cur : B) : B → List B
  | [] => []
  | c :: r => if stop c = true then (if cur = [] then tok [] r else cur :: tok [] r) else tok (cur ++ [c]) r
theorem vis_stop {c : UInt8} (h : vis c = true) : stop c = false := by
  simp only [vis, Bool.and_eq_true, decide_eq_true_eq] at h
  have : ∀ d : UInt8, d.toNat < 33 → (c == d) = false := fun d hd => by
    rw [beq_eq_false_iff_ne]; rintro rfl; omega
  unfold stop
  rw [this 32 (by decide), this 13 (by decide), this 10 (by decide)]; rfl
theorem tok_word : ∀ (w cur r : B), (∀ c ∈ w, vis c = true) → tok cur (w ++ r) = tok (cur ++ w) r
  | [], cur, r, _ => by simp
  | c :: w, cur, r, h => by
    rw [List.cons_append, tok, vis_stop (h c (by simp)), if_neg (by decide), tok_word w _ r (fun x hx => h x (by simp [hx]))]
    simp
theorem tok_stop {c : UInt8} (h : stop c = true) (cur r : B) : tok cur (c :: r) = if cur = [] then tok [] r else cur :: tok [] r := by rw [tok, if_pos h]
theorem tok_nil {c : UInt8} (h : stop c = true) (r : B) : tok [] (c :: r) = tok [] r := by rw [tok_stop h, if_pos rfl]
theorem tok_fil : ∀ (ws : List B) (k : Nat) (cur : B), (∀ w ∈ ws, Wd w) → tok cur (fil k ws) = if cur = [] then ws else cur :: ws := by
  intro ws
  have s1 : stop 13 = true := rfl
  have s2 : stop 10 = true := rfl
  have s3 : stop 32 = true := rfl
  induction ws with
  | nil =>
    intro k cur _
    rw [fil, tok_stop s1, tok_nil s2]; rfl
  | cons w ws ih =>
    intro k cur h
    obtain ⟨h1, h2⟩ := h w (by simp)
    have ih := fun j => ih j w (fun x hx => h x (by simp [hx]))
    rw [fil]
    split
    · rw [tok_stop s1, tok_nil s2, tok_nil s3, tok_word _ _ _ h2, List.nil_append, ih, if_neg h1]
    · rw [tok_stop s3, tok_word _ _ _ h2, List.nil_append, ih, if_neg h1]
/-- what the document's Read holds against the bytes: what stands ahead of the colon, the words' text -/
noncomputable def gueR (s : B) : Option Hdr := if (58 : UInt8) ∈ s then some (s.takeWhile (· ≠ 58), val (tok [] (s.drop ((s.takeWhile (· ≠ 58)).length + 1)))) else none
theorem tw_app : ∀ (p q : B), (58 : UInt8) ∉ p → (p ++ 58 :: q).takeWhile (· ≠ 58) = p
  | [], q, _ => by simp
  | c :: p, q, h => by
    have hc : c ≠ 58 := fun e => h (by simp [e])
    have ih := tw_app p q (fun e => h (by simp [e]))
    simp only [List.cons_append, List.takeWhile_cons, decide_not] at ih ⊢
    simp [hc, ih]
theorem gueR_line {h : Hdr} (hk : okH h = true) : gueR (lnH h) = some h := by
  have hn := nam_58 (okH_nam hk).1
  unfold gueR lnH
  rw [if_pos (by simp), tw_app _ _ hn, show (h.1 ++ 58 :: bdy h).drop (h.1.length + 1) = bdy h by rw [show h.1 ++ 58 :: bdy h = (h.1 ++ [58]) ++ bdy h by simp]; exact List.drop_left' (by simp)]
  unfold bdy
  rw [tok_fil _ _ _ (wds_wd _), if_pos rfl, val_wds]
theorem red_R (s : B) : red s = match gueR s with | none => none | some g => if line g = some s then some g else none := by
  cases hr : red s with
  | some h =>
    have e := red_iff.1 hr
    obtain ⟨hk, hs⟩ := line_ok e
    rw [hs, gueR_line hk]
    simp only
    rw [if_pos (line_lnH hk)]
  | none =>
    cases hg : gueR s with
    | none => rfl
    | some g =>
      simp only
      split
      · rename_i e
        rw [red_iff.2 e] at hr; cases hr
      · rfl
/-! several -/
def lns (l : List Hdr) : B := l.flatMap lnH
def lnA (l : List Hdr) : B := lns l ++ [13, 10]
def okA (l : List Hdr) : Bool := l.all okH && decide (l.length ≤ 50)
def all (l : List Hdr) : Option B := if okA l = true then some (lnA l) else none
theorem lns_cons (h : Hdr) (l : List Hdr) : lns (h :: l) = lnH h ++ lns l := rfl
theorem okA_all {l : List Hdr} (h : okA l = true) : (∀ x ∈ l, okH x = true) ∧ l.length ≤ 50 := by
  unfold okA at h
  rw [Bool.and_eq_true, List.all_eq_true] at h
  exact ⟨h.1, by simpa using h.2⟩
theorem all_ok {l : List Hdr} {a : B} (e : all l = some a) : okA l = true ∧ a = lnA l := by
  unfold all at e
  split at e
  · rename_i hk; cases e; exact ⟨hk, rfl⟩
  · cases e
theorem all_lnA {l : List Hdr} (hk : okA l = true) : all l = some (lnA l) := by unfold all; rw [if_pos hk]
theorem lns_head {l : List Hdr} (h : ∀ x ∈ l, okH x = true) (r : B) : (lns l ++ 13 :: 10 :: r).head? ≠ some 32 := by
  cases l with
  | nil => simp [lns]
  | cons x l =>
    obtain ⟨c, t, hc, h1, h2⟩ := lnH_head (h x (by simp))
    rw [lns_cons, hc]
    simpa using h2
theorem unf_lns : ∀ (l : List Hdr), (∀ x ∈ l, okH x = true) → unf (lns l ++ [13, 10]) = l.flatMap (fun h => flat h ++ [13, 10]) ++ [13, 10]
  | [], _ => rfl
  | h :: l, hk => by
    have hl := fun x hx => hk x (List.mem_cons_of_mem _ hx)
    rw [lns_cons, List.append_assoc, unf_line (hk h (by simp)) _ (lns_head hl []), unf_lns l hl]
    simp
theorem flat_13 {h : Hdr} (hk : okH h = true) : (13 : UInt8) ∉ flat h := by
  have hn := nam_13 (okH_nam hk).1
  unfold flat
  rw [List.mem_append, List.mem_cons]
  rintro (e | e | e)
  · exact hn e
  · exact absurd e (by decide)
  · rw [flatW, List.mem_flatMap] at e
    obtain ⟨w, hw, e⟩ := e
    rcases List.mem_cons.1 e with e | e
    · exact absurd e (by decide)
    · exact wd_13 (wds_wd _ w hw) e
theorem flat_ne (h : Hdr) : flat h ≠ [] := by simp [flat]
theorem idx2_some : ∀ (t s : B), (13 : UInt8) ∉ t → Lib.index (t ++ 13 :: 10 :: s) [13, 10] = t.length := fun t s h => Bx.idx_app t s (fun c hc e => h (e ▸ hc))
theorem spl_crlf (t s : B) (h : (13 : UInt8) ∉ t) : spl [13, 10] (t ++ 13 :: 10 :: s) = t :: spl [13, 10] s := by
  rw [spl_hit (by simp) (idx2_some t s h), List.take_left, show (t ++ 13 :: 10 :: s).drop (t.length + ([13, 10] : B).length) = s by rw [show t ++ 13 :: 10 :: s = (t ++ [13, 10]) ++ s by simp]; exact List.drop_left' (by simp)]
noncomputable def gueA (s : B) : List Hdr := ((spl [13, 10] (unf s)).filter (fun l => !l.isEmpty)).map hdr
theorem spl_lns : ∀ (l : List Hdr), (∀ x ∈ l, okH x = true) → spl [13, 10] (l.flatMap (fun h => flat h ++ [13, 10]) ++ [13, 10]) = l.map flat ++ [[], []]
  | [], _ => by
    have := spl_crlf [] [] (by simp)
    have h0 : spl [13, 10] ([] : B) = [[]] := rfl
    rw [h0] at this
    exact this
  | h :: l, hk => by
    have e : (h :: l).flatMap (fun h => flat h ++ [13, 10]) ++ [13, 10] = flat h ++ 13 :: 10 :: (l.flatMap (fun h => flat h ++ [13, 10]) ++ [13, 10]) := by simp
    rw [e, spl_crlf _ _ (flat_13 (hk h (by simp))), spl_lns l (fun x hx => hk x (List.mem_cons_of_mem _ hx))]
    rfl
theorem gueA_all {l : List Hdr} (hk : ∀ x ∈ l, okH x = true) : gueA (lnA l) = l := by
  unfold gueA lnA
  rw [unf_lns l hk, spl_lns l hk, List.filter_append, show (([[], []] : List B).filter fun l => !l.isEmpty) = [] from rfl, List.append_nil, List.filter_eq_self.2 (fun x hx => by
    obtain ⟨h, _, rfl⟩ := List.mem_map.1 hx
    have := flat_ne h
    cases hf : flat h with
    | nil => exact absurd hf this
    | cons a b => rfl), List.map_map]
  conv => rhs; rw [← List.map_id l]
  exact List.map_congr_left fun h hh => hdr_flat (hk h hh)
/-- where two line ends stand, one behind the other -/
def ix4 : B → Option Nat
  | 13 :: 10 :: 13 :: 10 :: r => some 0
  | c :: r => (ix4 r).map (· + 1)
  | [] => none
theorem pre4 {b : UInt8} {l : B} (h : ¬ ∃ r, b :: l = 13 :: 10 :: 13 :: 10 :: r) : List.isPrefixOf [13, 10, 13, 10] (b :: l) = false := by
  rw [Bool.eq_false_iff]
  intro e
  rw [List.isPrefixOf_iff_prefix] at e
  obtain ⟨t, e⟩ := e
  exact h ⟨t, e.symm⟩
theorem ix4_miss {b : UInt8} {l : B} (h : ¬ ∃ r, b :: l = 13 :: 10 :: 13 :: 10 :: r) : ix4 (b :: l) = (ix4 l).map (· + 1) := by
  rw [ix4]
  intro r e1 e2
  exact h ⟨r, by rw [e1, e2]⟩
theorem ix4_ne {b : UInt8} (l : B) (h : b ≠ 13) : ix4 (b :: l) = (ix4 l).map (· + 1) := ix4_miss (fun ⟨r, e⟩ => h (by injection e))
theorem ix4_index : ∀ s : B, Lib.index s [13, 10, 13, 10] = match ix4 s with | none => -1 | some i => (i : Int)
  | [] => rfl
  | b :: l => by
    by_cases h : ∃ r, b :: l = 13 :: 10 :: 13 :: 10 :: r
    · obtain ⟨r, hr⟩ := h
      rw [hr, ix4]
      simp [Lib.index, List.isPrefixOf]
    · rw [idx_miss (pre4 h), ix4_miss h, ix4_index l]
      cases ix4 l with
      | none => rfl
      | some i =>
        simp only [Option.map_some]
        rw [if_neg (by omega)]; rfl
theorem map_add (o : Option Nat) (a b c : Nat) (h : c = a + b) : (o.map (· + a)).map (· + b) = o.map (· + c) := by
  cases o with
  | none => rfl
  | some i => simp; omega
theorem ix4_word : ∀ (w r : B), (13 : UInt8) ∉ w → ix4 (w ++ r) = (ix4 r).map (· + w.length)
  | [], r, _ => by cases hx : ix4 r <;> simp [hx]
  | c :: w, r, h => by
    rw [List.cons_append, ix4_ne _ (fun e => h (by simp [e])), ix4_word w r (fun e => h (by simp [e])), map_add _ _ _ _ rfl]; rfl
theorem ix4_fold {c : UInt8} (r : B) (h : c ≠ 13) : ix4 (13 :: 10 :: c :: r) = (ix4 (c :: r)).map (· + 2) := by
  rw [ix4_miss, ix4_ne _ (by decide), map_add _ _ _ _ rfl]
  rintro ⟨r', e⟩
  simp only [List.cons.injEq, true_and] at e
  exact h e.1
/-- more lines behind -/
theorem ix4_fil : ∀ (ws : List B) (k : Nat) (c : UInt8) (r : B), (∀ w ∈ ws, Wd w) → c ≠ 13 → ix4 (fil k ws ++ c :: r) = (ix4 (c :: r)).map (· + (fil k ws).length)
  | [], k, c, r, _, hc => ix4_fold r hc
  | w :: ws, k, c, r, h, hc => by
    have h13 := wd_13 (h w (by simp))
    have ih := fun j => ix4_fil ws j c r (fun x hx => h x (by simp [hx])) hc
    rw [fil]
    split
    · show ix4 (13 :: 10 :: 32 :: ((w ++ fil (1 + w.length) ws) ++ c :: r)) = _
      rw [ix4_fold _ (by decide), ix4_ne _ (by decide), List.append_assoc, ix4_word _ _ h13, ih, map_add _ _ _ _ rfl, map_add _ _ _ _ rfl, map_add _ _ _ _ rfl]
      simp; congr 1; funext x; omega
    · show ix4 (32 :: ((w ++ fil (k + 1 + w.length) ws) ++ c :: r)) = _
      rw [ix4_ne _ (by decide), List.append_assoc, ix4_word _ _ h13, ih, map_add _ _ _ _ rfl, map_add _ _ _ _ rfl]
      simp; congr 1; funext x; omega
/-- an empty line behind -/
theorem ix4_end : ∀ (ws : List B) (k : Nat) (r : B), (∀ w ∈ ws, Wd w) → ix4 (fil k ws ++ 13 :: 10 :: r) = some ((fil k ws).length - 2) ∧ 2 ≤ (fil k ws).length
  | [], k, r, _ => ⟨rfl, Nat.le_refl 2⟩
  | w :: ws, k, r, h => by
    have h13 := wd_13 (h w (by simp))
    have ih := fun j => ix4_end ws j r (fun x hx => h x (by simp [hx]))
    rw [fil]
    split
    · have ih := ih (1 + w.length)
      constructor
      · show ix4 (13 :: 10 :: 32 :: ((w ++ fil (1 + w.length) ws) ++ 13 :: 10 :: r)) = _
        rw [ix4_fold _ (by decide), ix4_ne _ (by decide), List.append_assoc, ix4_word _ _ h13, ih.1]
        simp; omega
      · simp
    · have ih := ih (k + 1 + w.length)
      constructor
      · show ix4 (32 :: ((w ++ fil (k + 1 + w.length) ws) ++ 13 :: 10 :: r)) = _
        rw [ix4_ne _ (by decide), List.append_assoc, ix4_word _ _ h13, ih.1]
        simp; omega
      · simp; omega
theorem lnH_parts (h : Hdr) : lnH h = (h.1 ++ [58]) ++ bdy h := by unfold lnH; simp
theorem nam_13c {h : Hdr} (hk : okH h = true) : (13 : UInt8) ∉ h.1 ++ [58] := by
  rw [List.mem_append]
  rintro (e | e)
  · exact nam_13 (okH_nam hk).1 e
  · simp at e
theorem ix4_lns : ∀ (l : List Hdr) (r : B), (∀ x ∈ l, okH x = true) → l ≠ [] → ix4 (lns l ++ 13 :: 10 :: r) = some ((lns l).length - 2) ∧ 2 ≤ (lns l).length
  | [], r, _, h => absurd rfl h
  | [h], r, hk, _ => by
    have h1 := hk h (by simp)
    obtain ⟨i1, i2⟩ := ix4_end (wds h.2) (h.1.length + 1) r (wds_wd _)
    rw [lns_cons, show lns [] = [] from rfl, List.append_nil, lnH_parts, List.append_assoc, ix4_word _ _ (nam_13c h1)]
    unfold bdy
    rw [i1]
    refine ⟨?_, ?_⟩
    · simp; omega
    · simp; omega
  | h :: x :: l, r, hk, _ => by
    have h1 := hk h (by simp)
    obtain ⟨i1, i2⟩ := ix4_lns (x :: l) r (fun y hy => hk y (List.mem_cons_of_mem _ hy)) (by simp)
    obtain ⟨c, t, hc, hc1, hc2⟩ := lnH_head (hk x (by simp))
    have e : lns (x :: l) ++ 13 :: 10 :: r = c :: (t ++ lns l ++ 13 :: 10 :: r) := by rw [lns_cons, hc]; simp
    rw [lns_cons, List.append_assoc, lnH_parts, List.append_assoc, ix4_word _ _ (nam_13c h1)]
    rw [e] at i1 ⊢
    unfold bdy
    rw [ix4_fil _ _ _ _ (wds_wd _) hc1, i1]
    refine ⟨?_, ?_⟩
    · simp only [Option.map_some, List.length_append]; congr 1; omega
    · simp only [List.length_append]; omega
/-- how many bytes there are up to the first empty line -/
def siz (b : B) : Nat := if List.isPrefixOf [13, 10] b = true then 2 else if 0 ≤ Lib.index b [13, 10, 13, 10] then (Lib.index b [13, 10, 13, 10]).toNat + 4 else b.length
theorem siz_all {l : List Hdr} (hk : ∀ x ∈ l, okH x = true) (r : B) : siz (lnA l ++ r) = (lnA l).length := by
  unfold siz lnA
  cases l with
  | nil =>
    rw [if_pos (by simp [lns, List.isPrefixOf])]; rfl
  | cons h l =>
    obtain ⟨c, t, hc, hc1, hc2⟩ := lnH_head (hk h (by simp))
    have hp : List.isPrefixOf [13, 10] ((lns (h :: l) ++ [13, 10]) ++ r) = false := by
      rw [lns_cons, hc]
      exact Bx.pre_ne hc1
    obtain ⟨i1, i2⟩ := ix4_lns (h :: l) r hk (by simp)
    have e : (lns (h :: l) ++ [13, 10]) ++ r = lns (h :: l) ++ 13 :: 10 :: r := by simp
    rw [hp, e, ix4_index, i1, if_neg (by decide), if_pos (by simp)]
    simp; omega
theorem siz_le (b : B) : siz b ≤ b.length := by
  unfold siz
  split
  · rename_i h
    rw [List.isPrefixOf_iff_prefix] at h
    exact h.length_le
  split
  · rename_i _ h
    have := Lib.index_room b [13, 10, 13, 10] h
    simp at this
    omega
  · exact Nat.le_refl _
/-- what Cut answers -/
noncomputable def cutA (b : B) : Option (List Hdr × B) := if all (gueA (b.take (siz b))) = some (b.take (siz b)) then some (gueA (b.take (siz b)), b.drop (siz b)) else none
theorem cutA_iff {b : B} {l : List Hdr} {r : B} : cutA b = some (l, r) ↔ okA l = true ∧ b = lnA l ++ r := by
  unfold cutA
  constructor
  · intro e
    split at e
    · rename_i h
      obtain ⟨h1, h2⟩ := all_ok h
      cases e
      exact ⟨h1, by rw [← h2, List.take_append_drop]⟩
    · cases e
  · rintro ⟨hk, rfl⟩
    have h1 := okA_all hk
    rw [siz_all h1.1 r, List.take_left, List.drop_left, gueA_all h1.1, if_pos (all_lnA hk)]
/-- where a line ends that is not gone on with -/
def endF : B → Option Nat
  | 13 :: 10 :: r => if r.head? = some 32 then (endF r).map (· + 2) else some 2
  | c :: r => (endF r).map (· + 1)
  | [] => none
theorem endF_ne {b : UInt8} (l : B) (h : b ≠ 13) : endF (b :: l) = (endF l).map (· + 1) := by
  rw [endF]
  intro r e1 e2
  exact h e1
theorem endF_word : ∀ (w r : B), (13 : UInt8) ∉ w → endF (w ++ r) = (endF r).map (· + w.length)
  | [], r, _ => by cases hx : endF r <;> simp [hx]
  | c :: w, r, h => by
    rw [List.cons_append, endF_ne _ (fun e => h (by simp [e])), endF_word w r (fun e => h (by simp [e])), map_add _ _ _ _ rfl]; rfl
theorem endF_fil : ∀ (ws : List B) (k : Nat) (r : B), (∀ w ∈ ws, Wd w) → r.head? ≠ some 32 → endF (fil k ws ++ r) = some (fil k ws).length
  | [], k, r, _, hr => by
    show endF (13 :: 10 :: r) = _
    rw [endF, if_neg hr]; rfl
  | w :: ws, k, r, h, hr => by
    have h13 := wd_13 (h w (by simp))
    have ih := fun j => endF_fil ws j r (fun x hx => h x (by simp [hx])) hr
    rw [fil]
    split
    · show endF (13 :: 10 :: 32 :: ((w ++ fil (1 + w.length) ws) ++ r)) = _
      rw [endF, if_pos (show (32 :: ((w ++ fil (1 + w.length) ws) ++ r)).head? = some 32 from rfl), endF_ne _ (by decide), List.append_assoc, endF_word _ _ h13, ih]
      simp; omega
    · show endF (32 :: ((w ++ fil (k + 1 + w.length) ws) ++ r)) = _
      rw [endF_ne _ (by decide), List.append_assoc, endF_word _ _ h13, ih]
      simp; omega
theorem endF_line {h : Hdr} (hk : okH h = true) (r : B) (hr : r.head? ≠ some 32) : endF (lnH h ++ r) = some (lnH h).length := by
  rw [lnH_parts, List.append_assoc, endF_word _ _ (nam_13c hk)]
  unfold bdy
  rw [endF_fil _ _ _ (wds_wd _) hr]
  simp; omega
theorem endF_bd : ∀ (n : Nat) (b : B), b.length ≤ n → ∀ i, endF b = some i → 2 ≤ i ∧ i ≤ b.length
  | n, [], _, i, h => by simp [endF] at h
  | 0, c :: l, hn, i, h => by simp at hn
  | n + 1, c :: l, hn, i, h => by
    by_cases q : ∃ r, c :: l = 13 :: 10 :: r
    · obtain ⟨r, hr⟩ := q
      rw [hr] at hn h ⊢
      rw [endF] at h
      split at h
      · rw [Option.map_eq_some_iff] at h
        obtain ⟨j, hj, rfl⟩ := h
        have := endF_bd n r (by simp at hn; omega) j hj
        simp; omega
      · cases h; simp
    · have e : endF (c :: l) = (endF l).map (· + 1) := by
        rw [endF]
        intro r e1 e2
        exact q ⟨r, by rw [e1, e2]⟩
      rw [e, Option.map_eq_some_iff] at h
      obtain ⟨j, hj, rfl⟩ := h
      have := endF_bd n l (by simp at hn; omega) j hj
      simp; omega
/-- so many headers at most, one by one -/
noncomputable def cutR : Nat → B → Option (List Hdr × B)
  | k, b => if List.isPrefixOf [13, 10] b = true then some ([], b.drop 2) else match k with
    | 0 => none
    | k + 1 => match endF b with
      | none => none
      | some n => match red (b.take n) with
        | none => none
        | some h => (cutR k (b.drop n)).map fun x => (h :: x.1, x.2)
theorem cutR_yes : ∀ (k : Nat) (l : List Hdr) (r : B), (∀ x ∈ l, okH x = true) → l.length ≤ k → cutR k (lns l ++ 13 :: 10 :: r) = some (l, r)
  | k, [], r, _, _ => by
    unfold cutR
    rw [if_pos (by simp [lns, List.isPrefixOf])]; rfl
  | 0, h :: l, r, _, hl => by simp at hl
  | k + 1, h :: l, r, hk, hl => by
    have h1 := hk h (by simp)
    have hl1 := fun x hx => hk x (List.mem_cons_of_mem _ hx)
    obtain ⟨c, t, hc, hc1, hc2⟩ := lnH_head h1
    have hp : List.isPrefixOf [13, 10] (lns (h :: l) ++ 13 :: 10 :: r) = false := by
      rw [lns_cons, hc]
      exact Bx.pre_ne hc1
    unfold cutR
    rw [hp, if_neg (by decide), lns_cons, List.append_assoc, endF_line h1 _ (lns_head hl1 r)]
    simp only
    rw [List.take_left, red_iff.2 (line_lnH h1)]
    simp only
    rw [List.drop_left, cutR_yes k l r hl1 (by simpa using hl)]; rfl
theorem cutR_no : ∀ (k : Nat) (b : B) (l : List Hdr) (r : B), cutR k b = some (l, r) → (∀ x ∈ l, okH x = true) ∧ l.length ≤ k ∧ b = lns l ++ 13 :: 10 :: r := by
  intro k
  induction k with
  | zero =>
    intro b l r h
    unfold cutR at h
    split at h
    · rename_i hp
      rw [List.isPrefixOf_iff_prefix] at hp
      obtain ⟨t, rfl⟩ := hp
      have e1 : [] = l := congrArg Prod.fst (Option.some.inj h)
      have e2 : t = r := congrArg Prod.snd (Option.some.inj h)
      subst e1 e2
      exact ⟨fun _ hx => (by cases hx), Nat.le_refl _, rfl⟩
    · cases h
  | succ k ih =>
    intro b l r h
    unfold cutR at h
    split at h
    · rename_i hp
      rw [List.isPrefixOf_iff_prefix] at hp
      obtain ⟨t, rfl⟩ := hp
      have e1 : [] = l := congrArg Prod.fst (Option.some.inj h)
      have e2 : t = r := congrArg Prod.snd (Option.some.inj h)
      subst e1 e2
      exact ⟨fun _ hx => (by cases hx), Nat.zero_le _, rfl⟩
    · simp only at h
      cases he : endF b with
      | none => rw [he] at h; cases h
      | some n =>
        rw [he] at h
        simp only at h
        cases hr : red (b.take n) with
        | none => rw [hr] at h; cases h
        | some x =>
          rw [hr] at h
          simp only [Option.map_eq_some_iff] at h
          obtain ⟨⟨l', r'⟩, h1, h2⟩ := h
          cases h2
          obtain ⟨i1, i2, i3⟩ := ih _ _ _ h1
          obtain ⟨j1, j2⟩ := line_ok (red_iff.1 hr)
          refine ⟨fun y hy => ?_, by simpa using i2, ?_⟩
          · rcases List.mem_cons.1 hy with rfl | hy
            · exact j1
            · exact i1 y hy
          · rw [lns_cons, ← j2, List.append_assoc, ← i3, List.take_append_drop]
theorem cutA_R (b : B) : cutR 50 b = cutA b := by
  cases h : cutA b with
  | some x =>
    obtain ⟨l, r⟩ := x
    obtain ⟨h1, h2⟩ := cutA_iff.1 h
    have h3 := okA_all h1
    rw [h2, lnA, List.append_assoc]
    exact cutR_yes 50 l r h3.1 h3.2
  | none =>
    cases hc : cutR 50 b with
    | none => rfl
    | some x =>
      obtain ⟨l, r⟩ := x
      obtain ⟨h1, h2, h3⟩ := cutR_no 50 b l r hc
      have : cutA b = some (l, r) := cutA_iff.2 ⟨by unfold okA; rw [Bool.and_eq_true, List.all_eq_true]; exact ⟨h1, by simpa using h2⟩, by rw [h3, lnA, List.append_assoc]; rfl⟩
      rw [h] at this; cases this
/-! how lines grow -/
/-- a word more: the bytes, and how many the line has -/
def stL (s : B × Nat) (w : B) : B × Nat := if 76 < s.2 + 1 + w.length then ((s.1 ++ [13, 10]) ++ ([32] ++ w), 1 + w.length) else (s.1 ++ ([32] ++ w), s.2 + 1 + w.length)
theorem stL_yes {l : B} {k : Nat} {w : B} (h : 76 < k + 1 + w.length) : stL (l, k) w = ((l ++ [13, 10]) ++ ([32] ++ w), 1 + w.length) := if_pos h
theorem stL_no {l : B} {k : Nat} {w : B} (h : ¬ 76 < k + 1 + w.length) : stL (l, k) w = (l ++ ([32] ++ w), k + 1 + w.length) := if_neg h
theorem fil_fold : ∀ (ws : List B) (l : B) (k : Nat), l ++ fil k ws = (ws.foldl stL (l, k)).1 ++ [13, 10]
  | [], l, k => rfl
  | w :: ws, l, k => by
    rw [fil, List.foldl_cons]
    by_cases h : 76 < k + 1 + w.length
    · rw [if_pos h, stL_yes h, ← fil_fold ws]; simp
    · rw [if_neg h, stL_no h, ← fil_fold ws]; simp
theorem stL_take {ws : List B} {k : Nat} {t : B} (s : B × Nat) (h : ws[k]? = some t) : (ws.take (k + 1)).foldl stL s = stL ((ws.take k).foldl stL s) t := by
  rw [List.take_add_one, h, List.foldl_append]; rfl
theorem stL_len (M : Nat) : ∀ (ws : List B) (s : B × Nat), (∀ w ∈ ws, w.length ≤ M) → (ws.foldl stL s).1.length ≤ s.1.length + ws.length * (M + 3) ∧ (ws.foldl stL s).2 ≤ s.2 + M + 77
  | [], s, _ => by simp; omega
  | w :: ws, s, h => by
    have hw := h w (by simp)
    obtain ⟨h1, h2⟩ := stL_len M ws (stL s w) (fun x hx => h x (by simp [hx]))
    have k1 : (stL s w).1.length ≤ s.1.length + (M + 3) := by unfold stL; split <;> simp <;> omega
    have h3 : ∀ (vs : List B) (q : B × Nat), q.2 ≤ M + 77 → (∀ x ∈ vs, x.length ≤ M) → (vs.foldl stL q).2 ≤ M + 77 := by
      intro vs
      induction vs with
      | nil => intro q hq _; exact hq
      | cons v vs ih =>
        intro q hq hv
        rw [List.foldl_cons]
        refine ih _ ?_ (fun x hx => hv x (by simp [hx]))
        have := hv v (by simp)
        unfold stL
        split
        · simp only; omega
        · simp only; omega
    have k2 : (stL s w).2 ≤ M + 77 := by unfold stL; split <;> simp only <;> omega
    have := h3 ws _ k2 (fun x hx => h x (by simp [hx]))
    rw [List.foldl_cons, List.length_cons, Nat.add_mul, Nat.one_mul]
    omega
/-- how long words are, with what may stand ahead of them -/
def sumW : List B → Nat
  | [] => 0
  | w :: ws => w.length + 3 + sumW ws
theorem fil_len : ∀ (ws : List B) (k : Nat), (fil k ws).length ≤ 2 + sumW ws
  | [], k => by simp [fil]
  | w :: ws, k => by
    rw [fil, sumW]
    have h1 := fil_len ws (1 + w.length)
    have h2 := fil_len ws (k + 1 + w.length)
    split
    · simp; omega
    · simp; omega
theorem sumW_splt : ∀ (n : Nat) (s : B), s.length ≤ n → sumW (splt 32 s) ≤ 3 * s.length + 3
  | n, s, hn => by
    rcases cut_cases 32 s with h | ⟨p, r, rfl, hp⟩
    · rw [splt_none s h]; simp [sumW]; omega
    · cases n with
      | zero => simp at hn
      | succ n =>
        have := sumW_splt n r (by simp at hn; omega)
        rw [splt_app p r hp, sumW]; simp; omega
theorem sumW_cod : ∀ (n : Nat) (s : B), s.length ≤ n → sumW (cod s) ≤ 19 * s.length
  | 0, s, hn => by
    obtain rfl : s = [] := List.length_eq_zero_iff.1 (by omega)
    rw [cod_nil]; simp [sumW]
  | n + 1, s, hn => by
    by_cases h : s = []
    · subst h; rw [cod_nil]; simp [sumW]
    · have h1 := prt_pos h
      have h2 := prt_le s
      have h0 := List.length_pos_iff.2 h
      have hd : (s.drop (prt s)).length = s.length - prt s := by simp
      have ht : (s.take (prt s)).length = prt s := by simp; omega
      have ih := sumW_cod n (s.drop (prt s)) (by omega)
      have hr := raw_len (s.take (prt s))
      rw [cod_more h, sumW]
      simp only [code, List.length_append, hr, ht, opn, cls, List.length_cons, List.length_nil]
      omega
theorem sumW_wds (s : B) : sumW (wds s) ≤ 19 * s.length + 3 := by
  unfold wds
  split
  · have := sumW_splt _ s (Nat.le_refl _); omega
  · have := sumW_cod _ s (Nat.le_refl _); omega
theorem sumW_len : ∀ ws : List B, ws.length ≤ sumW ws ∧ ∀ w ∈ ws, w.length ≤ sumW ws
  | [] => ⟨Nat.le_refl _, fun _ h => by cases h⟩
  | w :: ws => by
    obtain ⟨h1, h2⟩ := sumW_len ws
    refine ⟨by rw [sumW]; simp; omega, fun x hx => ?_⟩
    rw [sumW]
    rcases List.mem_cons.1 hx with rfl | hx
    · omega
    · have := h2 x hx; omega
theorem lnH_len (h : Hdr) : (lnH h).length ≤ h.1.length + 19 * h.2.length + 6 := by
  have h1 := fil_len (wds h.2) (h.1.length + 1)
  have h2 := sumW_wds h.2
  unfold lnH bdy
  simp; omega
theorem lns_len (K : Nat) : ∀ l : List Hdr, (∀ h ∈ l, (lnH h).length ≤ K) → (lns l).length ≤ l.length * K
  | [], _ => by simp [lns]
  | h :: l, hk => by
    have h1 := hk h (by simp)
    have h2 := lns_len K l (fun x hx => hk x (by simp [hx]))
    rw [lns_cons, List.length_append, List.length_cons, Nat.add_mul, Nat.one_mul]
    omega
end Go.Proofs.YtgpocnnolieijaaGreatDoor.Hd
