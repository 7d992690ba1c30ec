/- Rows that are read, copied to a slice of one's own; one more behind them. -/
import Derived.Test.YtgpocnnolieijaaGreatDoorMgJ
import Derived.Laws.OwnMore
set_option linter.unusedSimpArgs false
set_option linter.unusedVariables false
namespace Go.Proofs.YtgpocnnolieijaaGreatDoor.Pt
open Go.ChangeShapes Go.WideShapes Go.ChangeAt Go.RowKit Go.Shelf
open Hd (SRd OwnS cell_at)
theorem run_copy_none (w : World) (t ty e : TypeId) (i : TypeInfo) (ht : Tryz.prog.underlying t = some (.slice e)) (hi : Tryz.prog.info? e = some i) (c : Nat) :
    (Builtin.append_ #[t, t] ty #[.slice none 0 0, .slice none 0 c]).run Tryz.prog w = .ok (.slice none 0 0) w := by
  simp [Builtin.append_, run_underlying ht, sizeOf, typeInfo, hi, Builtin.lenOf, Builtin.firstCells]
set_option maxRecDepth 100000 in
theorem run_copyS (w : World) (B0 : Nat) (ty : TypeId) (v : Value) (ls : List B) (hR : SRd v ls w) (hl : ls.length ≤ 10000000) (hB : B0 ≤ w.heap.size) :
    ∃ v' w', (Builtin.append_ #[22, 22] ty #[.slice none 0 0, v]).run Tryz.prog w = .ok v' w' ∧ OwnS B0 v' ls w' ∧ w.grownBy w' none := by
  obtain ⟨i0, hi, hz0, hz1, hz2⟩ := info_parts Hd.infoS
  obtain ⟨a, c, rfl, h⟩ := hR
  cases a with
  | none =>
    have he : ls = [] := by
      cases ls with
      | nil => rfl
      | cons x l => obtain ⟨_, _, h, _⟩ := h (by simp); cases h
    subst he
    exact ⟨_, w, run_copy_none w _ ty _ i0 Tryz.underlying22 hi c, OwnS.nil _ _, (Kept.refl w).grownBy none⟩
  | some a =>
    obtain ⟨v', w', hr, h2, h3, _⟩ := run_append_own_at (P := Tryz.prog) (w := w) B0 22 ty 9 i0 _ 1 16 Tryz.underlying22 hi hz0 hz1 hz2 rfl (by decide) (.slice none 0 0) 0 [] (World.ownsRow_nil _ _ _ _) a ls.length c (ls.map sV) (by simp) (fun j u hj => by
      rw [List.getElem?_map] at hj
      cases ht : ls[j]? with
      | none => rw [ht] at hj; cases hj
      | some t =>
        rw [ht] at hj
        injection hj with hj
        subst hj
        obtain ⟨g, o, ha, _, hp⟩ := h (by rintro rfl; simp at ht)
        injection ha with ha
        subst ha
        rw [Addr.add_lit]
        exact hp j t ht) (fun u hu => by
        obtain ⟨t, _, rfl⟩ := List.mem_map.1 hu
        rfl) (by unfold maxLen; omega) (by omega) hB
    refine ⟨v', w', hr, ?_, h3⟩
    unfold OwnS
    rw [Nat.zero_add] at h2
    exact h2
theorem gather {R : Nat → B → Value → Prop} : ∀ (ls : List B) (k : Nat), (∀ i b, ls[i]? = some b → ∃ x, R (k + i) b x) → ∃ vs : List Value, vs.length = ls.length ∧ ∀ i b, ls[i]? = some b → ∃ x, vs[i]? = some x ∧ R (k + i) b x
  | [], k, _ => ⟨[], rfl, fun i b h => by simp at h⟩
  | c :: l, k, h => by
    obtain ⟨x, hx⟩ := h 0 c rfl
    obtain ⟨vs, h1, h2⟩ := gather (R := R) l (k + 1) (fun i b hb => by
      have := h (i + 1) b (by simpa using hb)
      rwa [show k + (i + 1) = k + 1 + i by omega] at this)
    refine ⟨x :: vs, by simp [h1], fun i b hb => ?_⟩
    cases i with
    | zero =>
      simp at hb
      subst hb
      exact ⟨x, rfl, hx⟩
    | succ i =>
      obtain ⟨y, h3, h4⟩ := h2 i b (by simpa using hb)
      exact ⟨y, by simpa using h3, by rwa [show k + (i + 1) = k + 1 + i by omega]⟩
set_option maxRecDepth 100000 in
theorem run_copyL (w : World) (B0 : Nat) (ty : TypeId) (v : Value) (ls : List B) (hR : LRd v ls w) (hl : ls.length ≤ 1000000000) (hB : B0 ≤ w.heap.size) :
    ∃ v' w', (Builtin.append_ #[23, 23] ty #[.slice none 0 0, v]).run Tryz.prog w = .ok v' w' ∧ OwnLs B0 v' ls w' ∧ w.grownBy w' none := by
  obtain ⟨i0, hi, hz0, hz1, hz2⟩ := info_parts infoL
  obtain ⟨a, c, rfl, _, h⟩ := hR
  cases a with
  | none =>
    have he : ls = [] := by
      cases ls with
      | nil => rfl
      | cons x l => obtain ⟨_, _, h, _⟩ := h (by simp); cases h
    subst he
    exact ⟨_, w, run_copy_none w _ ty _ i0 Tryz.underlying23 hi c, OwnLs.nil _ _, (Kept.refl w).grownBy none⟩
  | some a =>
    obtain ⟨vs, hvl, hvs⟩ := gather (R := fun i b x => w.cell? (a.add i) = some x ∧ BRd x b w) ls 0 (fun i b hb => by
      obtain ⟨g, o, ha, _, hp⟩ := h (by rintro rfl; simp at hb)
      injection ha with ha
      subst ha
      obtain ⟨x, h1, h2⟩ := hp i b hb
      exact ⟨x, by rw [Addr.add_lit, Nat.zero_add]; exact h1, h2⟩)
    have hat : ∀ j u, vs[j]? = some u → ∃ b, ls[j]? = some b ∧ w.cell? (a.add j) = some u ∧ BRd u b w := fun j u hj => by
      have hjl := (List.getElem?_eq_some_iff.1 hj).1
      obtain ⟨x, h1, h2, h3⟩ := hvs j _ (List.getElem?_eq_getElem (by omega))
      rw [hj] at h1
      injection h1 with h1
      subst h1
      rw [Nat.zero_add] at h2
      exact ⟨_, List.getElem?_eq_getElem (by omega), h2, h3⟩
    obtain ⟨v', w', hr, h2, h3, _, h6⟩ := run_append_own_at (P := Tryz.prog) (w := w) B0 23 ty 26 i0 _ 1 24 Tryz.underlying23 hi hz0 hz1 hz2 rfl (by decide) (.slice none 0 0) 0 [] (World.ownsRow_nil _ _ _ _) a ls.length c vs (by rw [hvl]; omega) (fun j u hj => by
      obtain ⟨b, _, h, _⟩ := hat j u hj
      exact h) (fun u hu => by
      obtain ⟨j, hj⟩ := List.getElem?_of_mem hu
      obtain ⟨b, _, _, h⟩ := hat j u hj
      exact BRd.one h) (by unfold maxLen; omega) (by omega) hB
    refine ⟨v', w', hr, ⟨vs, by rw [Nat.zero_add] at h2; exact h2, fun i b hb => ?_⟩, h3⟩
    obtain ⟨x, h4, _, hx⟩ := hvs i b hb
    refine ⟨x, h4, ?_⟩
    by_cases hne : b = []
    · subst hne
      obtain ⟨a, cc, hv, hz, _⟩ := hx
      exact ⟨⟨a, cc, hv, hz, fun h => absurd rfl h⟩, fun h => absurd rfl h⟩
    · refine ⟨hx.grow h3 (fun r hr => by cases hr), fun _ r hr e => ?_⟩
      have := hx.old hne r e
      rcases h6 with h6 | h6
      · rw [h6] at hr
        cases hr
      · rw [h6] at hr
        injection hr with hr
        omega
theorem wpList_copyS {ops : Array Oper} {rest : List Oper} {op : Oper} {a : Act} {w : World} {Q : Exit → Act → World → Prop} (hg : op.guard = none) (sx x : Operand) (ho : op.op = .call { callee := .builtin .append, args := #[sx, x], argTypes := #[22, 22] })
    (B0 : Nat) (v : Value) (ls : List B) (hs : a.eval sx = .slice none 0 0) (hx : a.eval x = v) (hR : SRd v ls w) (hl : ls.length ≤ 10000000) (hB : B0 ≤ w.heap.size)
    (h : ∀ v' w', OwnS B0 v' ls w' → w.grownBy w' none → wpList Tryz.prog ops Q rest (a.put op.dst v') w') : wpList Tryz.prog ops Q (op :: rest) a w := by
  obtain ⟨v', w', hr, h2, h3⟩ := run_copyS w B0 op.type v ls hR hl hB
  exact wpList_plain hg fun K hK => Hd.wp_ok sx x _ _ ho (by rw [hs, hx]; exact hr) (hK _ _ (h v' w' h2 h3))
theorem wpList_copyL {ops : Array Oper} {rest : List Oper} {op : Oper} {a : Act} {w : World} {Q : Exit → Act → World → Prop} (hg : op.guard = none) (sx x : Operand) (ho : op.op = .call { callee := .builtin .append, args := #[sx, x], argTypes := #[23, 23] })
    (B0 : Nat) (v : Value) (ls : List B) (hs : a.eval sx = .slice none 0 0) (hx : a.eval x = v) (hR : LRd v ls w) (hl : ls.length ≤ 1000000000) (hB : B0 ≤ w.heap.size)
    (h : ∀ v' w', OwnLs B0 v' ls w' → w.grownBy w' none → wpList Tryz.prog ops Q rest (a.put op.dst v') w') : wpList Tryz.prog ops Q (op :: rest) a w := by
  obtain ⟨v', w', hr, h2, h3⟩ := run_copyL w B0 op.type v ls hR hl hB
  exact wpList_plain hg fun K hK => Hd.wp_ok sx x _ _ ho (by rw [hs, hx]; exact hr) (hK _ _ (h v' w' h2 h3))
/-- an argument lies apart from what is made behind it -/
theorem apart_old {x v : Value} {b : B} {w0 w : World} {ls : List B} {B0 : Nat} (hx : BRd x b w0) (hv : OwnLs B0 v ls w) (hB : w0.heap.size ≤ B0) : Apart x v b := by
  intro hne r hr e
  have h1 := hx.old hne r e
  have h2 := (hv.lt r hr).1
  omega
theorem OwnS.besideL {B0 B1 : Nat} {v kv : Value} {ls ks : List B} {w w' : World} (hS : OwnS B1 kv ks w) (h : OwnLs B0 v ls w) (hg : w.grownBy w' v.ownBlock) : OwnS B1 kv ks w' := by
  obtain ⟨vs, h1, h2⟩ := h
  exact own_keep hS hg (NoRow.own h1 (by decide))
end Go.Proofs.YtgpocnnolieijaaGreatDoor.Pt
