/- Rows of slices of bytes: a call's own, and those that are read. -/
import Derived.Test.YtdfmnjoklehifaaDoorRpB
set_option linter.unusedSimpArgs false
set_option linter.unusedVariables false
namespace Go.Proofs.YtdfmnjoklehifaaDoor.Bk.Rp
open Go.ChangeShapes Go.WideShapes Go.ChangeAt Go.RowKit Go.Shelf
theorem infoL : (Tryd.prog.info? 26).map (fun i => (i.zero, i.size, i.bytes)) = some (some (.slice none 0 0), 1, 24) := by kernel_rfl
/-- slices of bytes, to be read -/
def LRd (v : Value) (ls : List B) (w : World) : Prop := ∃ a c, v = .slice a ls.length c ∧ (a = none → c = 0) ∧ (ls ≠ [] → ∃ g o, a = some ⟨g, o, none⟩ ∧ ls.length ≤ c ∧ ∀ (i : Nat) (b : B), ls[i]? = some b → ∃ x, w.cell? ⟨g, o + i, none⟩ = some x ∧ BRd x b w)
theorem LRd.kept {v : Value} {ls : List B} {w w' : World} (h : LRd v ls w) (k : Kept w w') : LRd v ls w' := by
  obtain ⟨a, c, hv, hz, h⟩ := h
  refine ⟨a, c, hv, hz, fun hne => ?_⟩
  obtain ⟨g, o, ha, hc, h⟩ := h hne
  refine ⟨g, o, ha, hc, fun i b hb => ?_⟩
  obtain ⟨x, h1, h2⟩ := h i b hb
  exact ⟨x, k.yes h1, h2.kept k⟩
theorem LRd.slice {v : Value} {ls : List B} {w : World} (h : LRd v ls w) : ∃ a c, v = .slice a ls.length c := by
  obtain ⟨a, c, hv, _⟩ := h
  exact ⟨a, c, hv⟩
theorem LRd.at {v : Value} {ls : List B} {w : World} (h : LRd v ls w) {i : Nat} {b : B} (hb : ls[i]? = some b) : ∃ g o c x, v = .slice (some ⟨g, o, none⟩) ls.length c ∧ ls.length ≤ c ∧ w.cell? ⟨g, o + i, none⟩ = some x ∧ BRd x b w := by
  obtain ⟨a, c, hv, _, h⟩ := h
  obtain ⟨g, o, ha, hc, hp⟩ := h (by rintro rfl; simp at hb)
  rw [ha] at hv
  obtain ⟨x, h1, h2⟩ := hp i b hb
  exact ⟨g, o, c, x, hv, hc, h1, h2⟩
theorem LRd.nil (w : World) : LRd (.slice none 0 0) [] w := ⟨none, 0, rfl, fun _ => rfl, fun h => absurd rfl h⟩
/-- does the slice lie in another block -/
def Apart (x v : Value) (b : B) : Prop := b ≠ [] → ∀ r, v.ownBlock = some r → x.ownBlock ≠ some r
/-- slices of bytes in a slice of the call's own -/
def OwnLs (B0 : Nat) (v : Value) (ls : List B) (w : World) : Prop := ∃ vs, w.ownsRow B0 26 1 v ls.length vs ∧ ∀ (i : Nat) (b : B), ls[i]? = some b → ∃ x, vs[i]? = some x ∧ BRd x b w ∧ Apart x v b
theorem OwnLs.nil (B0 : Nat) (w : World) : OwnLs B0 (.slice none 0 0) [] w := ⟨[], World.ownsRow_nil _ _ _ _, fun i b h => by simp at h⟩
theorem OwnLs.kept {B0 : Nat} {v : Value} {ls : List B} {w w' : World} (h : OwnLs B0 v ls w) (k : Kept w w') : OwnLs B0 v ls w' := by
  obtain ⟨vs, h1, h2⟩ := h
  refine ⟨vs, own_keep h1 (k.grownBy none) NoRow.none, fun i b hb => ?_⟩
  obtain ⟨x, h3, h4, h5⟩ := h2 i b hb
  exact ⟨x, h3, h4.kept k, h5⟩
theorem OwnLs.slice {B0 : Nat} {v : Value} {ls : List B} {w : World} (h : OwnLs B0 v ls w) : ∃ a c, v = .slice a ls.length c := by
  obtain ⟨vs, h1, _⟩ := h
  exact own_slice h1
theorem OwnLs.lt {B0 : Nat} {v : Value} {ls : List B} {w : World} (h : OwnLs B0 v ls w) : ∀ r, v.ownBlock = some r → B0 ≤ r ∧ r < w.heap.size := by
  obtain ⟨vs, h1, _⟩ := h
  exact fun r hr => World.ownsRow.lt h1 r hr
theorem OwnLs.rd {B0 : Nat} {v : Value} {ls : List B} {w : World} (h : OwnLs B0 v ls w) : LRd v ls w := by
  obtain ⟨vs, h1, h2⟩ := h
  rcases h1.2 with ⟨e1, e2⟩ | ⟨g, cap, cur, e1, _, _, hc, _⟩
  · exact ⟨none, 0, by rw [e1, e2], fun _ => rfl, fun hne => absurd (List.length_eq_zero_iff.1 e2) hne⟩
  · refine ⟨some ⟨g, 0, none⟩, cap, e1, fun e => (by cases e), fun _ => ⟨g, 0, rfl, hc, fun i b hb => ?_⟩⟩
    obtain ⟨x, h3, h4, _⟩ := h2 i b hb
    have h' := h1
    rw [e1] at h'
    have := World.ownsRow.cells h' rfl i x h3
    rw [Addr.add_lit] at this
    exact ⟨x, this, h4⟩
theorem BRd.one {x : Value} {b : B} {w : World} (h : BRd x b w) : x.oneCell' = true := by
  obtain ⟨a, c, rfl⟩ := h.slice
  rfl
theorem run_pushL (w : World) (B0 : Nat) (ty : TypeId) (v : Value) (ls : List B) (b : B) (x : Value) (k : Nat) (hO : OwnLs B0 v ls w) (hc : w.cell? ⟨k, 0, none⟩ = some x) (hb : BRd x b w) (ha : Apart x v b) (hl : ls.length ≤ 10000000) (hB : B0 ≤ w.heap.size) :
    ∃ v' w', (Builtin.append_ #[41, 41] ty #[v, .slice (some ⟨k, 0, none⟩) 1 1]).run Tryd.prog w = .ok v' w' ∧ OwnLs B0 v' (ls ++ [b]) w' ∧ w.grownBy w' v.ownBlock := by
  obtain ⟨i0, hi, hz0, hz1, hz2⟩ := info_parts infoL
  obtain ⟨vs, h1, h2⟩ := hO
  obtain ⟨v', w', hr, h3, h4, _, h6⟩ := run_append_own_at (P := Tryd.prog) (w := w) B0 41 ty 26 i0 _ 1 24 Tryd.underlying41 hi hz0 hz1 hz2 rfl (by decide) v ls.length vs h1 ⟨k, 0, none⟩ 1 1 [x] rfl (fun j u hj => by
    match j, hj with
    | 0, hj => simp at hj; subst hj; simpa [Addr.add] using hc) (fun u hu => by simp at hu; subst hu; exact BRd.one hb) (by unfold maxLen; omega) (by omega) hB
  have hn : ∀ (y : Value) (c : B), BRd y c w → Apart y v c → BRd y c w' ∧ Apart y v' c := by
    intro y c hy hay
    by_cases hne : c = []
    · subst hne
      obtain ⟨a, cc, hv, hz, _⟩ := hy
      exact ⟨⟨a, cc, hv, hz, fun h => absurd rfl h⟩, fun h => absurd rfl h⟩
    · refine ⟨hy.grow h4 (hay hne), fun _ r hr => ?_⟩
      rcases h6 with h6 | h6
      · exact hay hne r (h6 ▸ hr)
      · intro e
        have := hy.old hne r e
        rw [h6] at hr
        injection hr with hr
        omega
  refine ⟨v', w', hr, ⟨vs ++ [x], by rw [List.length_append]; exact h3, fun i c hi => ?_⟩, h4⟩
  have hvl : vs.length = ls.length := by have := h1.1; omega
  by_cases hlt : i < ls.length
  · rw [List.getElem?_append_left hlt] at hi
    obtain ⟨y, e1, e2, e3⟩ := h2 i c hi
    exact ⟨y, by rw [List.getElem?_append_left (by omega)]; exact e1, hn y c e2 e3⟩
  · have : i = ls.length := by
      have := (List.getElem?_eq_some_iff.1 hi).1
      simp at this; omega
    subst this
    simp at hi
    subst hi
    exact ⟨x, by rw [← hvl]; simp, hn x b hb ha⟩
theorem wpList_pushL {ops : Array Oper} {rest : List Oper} {op : Oper} {a : Act} {w : World} {Q : Exit → Act → World → Prop} (hg : op.guard = none) (sx y : Operand) (ho : op.op = .call { callee := .builtin .append, args := #[sx, y], argTypes := #[41, 41] })
    (B0 : Nat) (v : Value) (ls : List B) (b : B) (x : Value) (k : Nat) (hs : a.eval sx = v) (hO : OwnLs B0 v ls w) (hx : a.eval y = .slice (some ⟨k, 0, none⟩) 1 1) (hc : w.cell? ⟨k, 0, none⟩ = some x) (hb : BRd x b w) (ha : Apart x v b) (hl : ls.length ≤ 10000000) (hB : B0 ≤ w.heap.size)
    (h : ∀ v' w', OwnLs B0 v' (ls ++ [b]) w' → w.grownBy w' v.ownBlock → wpList Tryd.prog ops Q rest (a.put op.dst v') w') : wpList Tryd.prog ops Q (op :: rest) a w := by
  obtain ⟨v', w', hr, h2, h3⟩ := run_pushL w B0 op.type v ls b x k hO hc hb ha hl hB
  exact wpList_plain hg fun K hK => wp_ok sx y _ _ ho (by rw [hs, hx]; exact hr) (hK _ _ (h v' w' h2 h3))
/-- a slice of one's own of another type lies apart -/
theorem apart_own {x v : Value} {b : B} {n : Nat} {vs : List Value} {w : World} {B0 B1 : Nat} (hx : OwnB B1 x b w) (hv : w.ownsRow B0 26 1 v n vs) : Apart x v b := by
  intro _ r hr e
  obtain ⟨c1, h1⟩ := own_kind hx r e
  obtain ⟨c2, h2⟩ := own_kind hv r hr
  rw [h1] at h2
  cases h2
theorem OwnLs.apart {B0 B1 : Nat} {v x : Value} {ls : List B} {b : B} {w : World} (h : OwnLs B0 v ls w) (hx : OwnB B1 x b w) : Apart x v b := by
  obtain ⟨vs, h1, _⟩ := h
  exact apart_own hx h1
theorem OwnLs.grow {B0 : Nat} {v : Value} {ls : List B} {w w' : World} {row : Option Nat} (h : OwnLs B0 v ls w) (hg : w.grownBy w' row) (h1 : ∀ r, row = some r → ∃ c t, w.heap[r]? = some (.cells c t (0, 0)) ∧ t ≠ 26 ∧ t ≠ 5) (h2 : ∀ b ∈ ls, ∀ x : Value, BRd x b w → b ≠ [] → ∀ r, row = some r → x.ownBlock ≠ some r) : OwnLs B0 v ls w' := by
  obtain ⟨vs, e1, e2⟩ := h
  refine ⟨vs, own_keep e1 hg (fun r hr c hc => ?_), fun i b hb => ?_⟩
  · obtain ⟨c', t, h3, h4, _⟩ := h1 r hr
    rw [h3] at hc
    injection hc with hc
    injection hc with _ e _
    exact h4 e
  · obtain ⟨x, e3, e4, e5⟩ := e2 i b hb
    refine ⟨x, e3, ?_, e5⟩
    by_cases hne : b = []
    · subst hne
      obtain ⟨a, cc, hv, hz, _⟩ := e4
      exact ⟨a, cc, hv, hz, fun h => absurd rfl h⟩
    · exact e4.grow hg (h2 b (List.mem_of_getElem? hb) x e4 hne)
end Go.Proofs.YtdfmnjoklehifaaDoor.Bk.Rp
