import Derived.Test.YtjlpkgipdkjfhaaGreatDoorPtG
set_option linter.unusedSimpArgs false
set_option linter.unusedVariables false
namespace Go.Proofs.YtjlpkgipdkjfhaaGreatDoor.Bk.Pt
open Go.ChangeShapes Go.WideShapes Go.ChangeAt Go.RowKit Go.Shelf
open Hd (SRd OwnS)
def OwnLo (B0 : Nat) (v : Value) (ls : List B) (w : World) : Prop := ∃ vs, w.ownsRow B0 25 1 v ls.length vs ∧ ∀ (i : Nat) (b : B), ls[i]? = some b → ∃ x, vs[i]? = some x ∧ OwnB B0 x b w
theorem OwnLo.nil (B0 : Nat) (w : World) : OwnLo B0 (.slice none 0 0) [] w := ⟨[], World.ownsRow_nil _ _ _ _, fun i b h => by simp at h⟩
theorem OwnLo.kept {B0 : Nat} {v : Value} {ls : List B} {w w' : World} (h : OwnLo B0 v ls w) (k : Kept w w') : OwnLo B0 v ls w' := by
  obtain ⟨vs, h1, h2⟩ := h
  refine ⟨vs, own_keep h1 (k.grownBy none) NoRow.none, fun i b hb => ?_⟩
  obtain ⟨x, h3, h4⟩ := h2 i b hb
  exact ⟨x, h3, h4.kept k⟩
theorem OwnLo.ls {B0 : Nat} {v : Value} {ls : List B} {w : World} (h : OwnLo B0 v ls w) : OwnLs B0 v ls w := by
  obtain ⟨vs, h1, h2⟩ := h
  refine ⟨vs, h1, fun i b hb => ?_⟩
  obtain ⟨x, h3, h4⟩ := h2 i b hb
  exact ⟨x, h3, h4.rd, apart_own h4 h1⟩
theorem OwnLo.slice {B0 : Nat} {v : Value} {ls : List B} {w : World} (h : OwnLo B0 v ls w) : ∃ a c, v = .slice a ls.length c := h.ls.slice
theorem OwnLo.lt {B0 : Nat} {v : Value} {ls : List B} {w : World} (h : OwnLo B0 v ls w) : ∀ r, v.ownBlock = some r → B0 ≤ r ∧ r < w.heap.size := h.ls.lt
theorem OwnLo.rd {B0 : Nat} {v : Value} {ls : List B} {w : World} (h : OwnLo B0 v ls w) : LRd v ls w := h.ls.rd
theorem OwnLo.mono {B0 B1 : Nat} {v : Value} {ls : List B} {w : World} (h : OwnLo B1 v ls w) (hB : B0 ≤ B1) : OwnLo B0 v ls w := by
  obtain ⟨vs, h1, h2⟩ := h
  refine ⟨vs, own_mono h1 hB, fun i b hb => ?_⟩
  obtain ⟨x, h3, h4⟩ := h2 i b hb
  exact ⟨x, h3, own_mono h4 hB⟩
theorem OwnLo.beside {B0 B1 : Nat} {v kv : Value} {ls ks : List B} {w w' : World} (h : OwnLo B0 v ls w) (hS : OwnS B1 kv ks w) (hg : w.grownBy w' kv.ownBlock) : OwnLo B0 v ls w' := by
  obtain ⟨vs, h1, h2⟩ := h
  refine ⟨vs, own_keep h1 hg (NoRow.own hS (by decide)), fun i b hb => ?_⟩
  obtain ⟨x, h3, h4⟩ := h2 i b hb
  exact ⟨x, h3, own_keep h4 hg (NoRow.own hS (by decide))⟩
theorem OwnS.beside {B0 B1 : Nat} {v kv : Value} {ls ks : List B} {w w' : World} (hS : OwnS B1 kv ks w) (h : OwnLo B0 v ls w) (hg : w.grownBy w' v.ownBlock) : OwnS B1 kv ks w' := by
  obtain ⟨vs, h1, h2⟩ := h
  exact own_keep hS hg (NoRow.own h1 (by decide))
theorem OwnB.beside {B0 B1 : Nat} {v kv : Value} {b : B} {ks : List B} {w w' : World} (h : OwnB B0 v b w) (hS : OwnS B1 kv ks w) (hg : w.grownBy w' kv.ownBlock) : OwnB B0 v b w' := own_keep h hg (NoRow.own hS (by decide))
theorem wpList_pushLo {ops : Array Oper} {rest : List Oper} {op : Oper} {a : Act} {w : World} {Q : Exit → Act → World → Prop} (hg : op.guard = none) (sx y : Operand) (ho : op.op = .call { callee := .builtin .append, args := #[sx, y], argTypes := #[43, 43] })
    (B0 : Nat) (v : Value) (ls : List B) (b : B) (x : Value) (k : Nat) (hs : a.eval sx = v) (hO : OwnLo B0 v ls w) (hx : a.eval y = .slice (some ⟨k, 0, none⟩) 1 1) (hc : w.cell? ⟨k, 0, none⟩ = some x) (hb : OwnB B0 x b w) (hl : ls.length ≤ 10000000) (hB : B0 ≤ w.heap.size)
    (h : ∀ v' w', OwnLo B0 v' (ls ++ [b]) w' → w.grownBy w' v.ownBlock → wpList Tryz.prog ops Q rest (a.put op.dst v') w') : wpList Tryz.prog ops Q (op :: rest) a w := by
  obtain ⟨i0, hi, hz0, hz1, hz2⟩ := info_parts infoL
  obtain ⟨vs, h1, h2⟩ := hO
  obtain ⟨v', w', hr, h3, h4, _⟩ := run_append_own_at (P := Tryz.prog) (w := w) B0 43 op.type 25 i0 _ 1 24 Tryz.underlying43 hi hz0 hz1 hz2 rfl (by decide) v ls.length vs h1 ⟨k, 0, none⟩ 1 1 [x] rfl (fun j u hj => by
    match j, hj with
    | 0, hj => simp at hj; subst hj; simpa [Addr.add] using hc) (fun u hu => by simp at hu; subst hu; exact BRd.one hb.rd) (by unfold maxLen; omega) (by omega) hB
  have hvl : vs.length = ls.length := by have := h1.1; omega
  have hO2 : OwnLo B0 v' (ls ++ [b]) w' := by
    refine ⟨vs ++ [x], by rw [List.length_append]; exact h3, fun i c hi => ?_⟩
    by_cases hlt : i < ls.length
    · rw [List.getElem?_append_left hlt] at hi
      obtain ⟨y, e1, e2⟩ := h2 i c hi
      exact ⟨y, by rw [List.getElem?_append_left (by omega)]; exact e1, own_keep e2 h4 (NoRow.own h1 (by decide))⟩
    · have : i = ls.length := by
        have := (List.getElem?_eq_some_iff.1 hi).1
        simp at this; omega
      subst this
      simp at hi
      subst hi
      exact ⟨x, by rw [← hvl]; simp, own_keep hb h4 (NoRow.own h1 (by decide))⟩
  exact wpList_plain hg fun K hK => Hd.wp_ok sx y _ _ ho (by rw [hs, hx]; exact hr) (hK _ _ (h v' w' hO2 h4))
theorem mid_run (g o n c : Nat) (ls : List B) (w : World) (h : LRd (.slice (some ⟨g, o, none⟩) n c) ls w) (hn : 3 ≤ n) (hc : n ≤ c) : LRd (.slice (some ⟨g, o + 1, none⟩) (n - 1 - 1) (c - 1)) ls.tail.dropLast w := by
  obtain ⟨a, c', hv, hz, h⟩ := h
  cases hv
  obtain ⟨g', o', ha, hc', h⟩ := h (by rintro rfl; simp at hn)
  cases ha
  refine ⟨_, _, by rw [List.length_dropLast, List.length_tail], fun e => (by cases e), fun _ => ⟨g, o + 1, rfl, by simp; omega, fun i b hb => ?_⟩⟩
  rw [List.getElem?_dropLast] at hb
  split at hb
  · rw [List.getElem?_tail] at hb
    obtain ⟨x, h1, h2⟩ := h _ _ hb
    exact ⟨x, by rw [Nat.add_assoc, Nat.add_comm 1 i]; exact h1, h2⟩
  · cases hb
theorem gPs_drop {l : List B} {i : Nat} {p : B} (h : l[i]? = some p) : gPs (l.drop i) = match gP p with | none => none | some x => (gPs (l.drop (i + 1))).map (x :: ·) := by
  obtain ⟨hi, rfl⟩ := List.getElem?_eq_some_iff.1 h
  rw [List.drop_eq_getElem_cons hi, gPs]
  rfl
theorem splitK_len (sep : B) : ∀ (f : Nat) (s : B), ∀ p ∈ Lib.splitK sep 0 f s, p.length ≤ s.length
  | 0, s, p, h => by simp [Lib.splitK] at h; subst h; exact Nat.le_refl _
  | f + 1, s, p, h => by
    unfold Lib.splitK at h
    split at h
    · simp at h; subst h; exact Nat.le_refl _
    · rcases List.mem_cons.1 h with rfl | h
      · simp; omega
      · have := splitK_len sep f _ p h; simp at this; omega
theorem splitK_many (sep : B) : ∀ (f : Nat) (s : B), (Lib.splitK sep 0 f s).length ≤ f + 1
  | 0, s => by simp [Lib.splitK]
  | f + 1, s => by
    unfold Lib.splitK
    split
    · simp
    · have := splitK_many sep f (s.drop ((Lib.index s sep).toNat + sep.length)); simp; omega
end Go.Proofs.YtjlpkgipdkjfhaaGreatDoor.Bk.Pt
