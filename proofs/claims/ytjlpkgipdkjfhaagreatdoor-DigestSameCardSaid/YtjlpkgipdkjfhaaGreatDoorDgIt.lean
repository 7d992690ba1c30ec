import Derived.Test.YtjlpkgipdkjfhaaGreatDoorDa
import Derived.Test.YtjlpkgipdkjfhaaGreatDoorDgJ
import Derived.Laws.OwnMore
import Derived.Maps.AppendAt
set_option linter.unusedSimpArgs false
set_option linter.unusedVariables false
namespace Go.Proofs.YtjlpkgipdkjfhaaGreatDoor.Bk.Dg
open Go.ChangeShapes Go.WideShapes Go.ChangeAt Go.RowKit Go.Shelf
open Go.Proofs.YtjlpkgipdkjfhaaGreatDoor.Dg
theorem infoI : (Tryz.prog.info? 50).map (fun i => (i.zero, i.size, i.bytes)) = some (some (.agg #[.int .i64 0, .int .i64 0, .string ⟨#[]⟩, .string ⟨#[]⟩, .string ⟨#[]⟩, .string ⟨#[]⟩, .int .i64 0]), 7, 88) := by kernel_rfl
abbrev iC (x : It) : List Value := [iV x.feed, iV x.seq, sV x.id, sV x.title, sV x.link, sV x.text, iV x.at']
def OwnI (B0 : Nat) (v : Value) (l : List It) (w : World) : Prop := w.ownsRow B0 50 7 v l.length (l.flatMap iC)
theorem OwnI.nil (B0 : Nat) (w : World) : OwnI B0 (.slice none 0 0) [] w := World.ownsRow_nil _ _ _ _
theorem OwnI.kept {B0 : Nat} {v : Value} {l : List It} {w w' : World} (h : OwnI B0 v l w) (k : Kept w w') : OwnI B0 v l w' := own_keep h (k.grownBy none) NoRow.none
theorem iC_len : ∀ l : List It, (l.flatMap iC).length = l.length * 7
  | [] => rfl
  | x :: l => by rw [List.flatMap_cons, List.length_append, iC_len l, List.length_cons]; simp; omega
theorem iC_at : ∀ (l : List It) (i k : Nat) (x : It), l[i]? = some x → k < 7 → (l.flatMap iC)[i * 7 + k]? = (iC x)[k]?
  | [], i, k, x, h, _ => by simp at h
  | y :: l, 0, k, x, h, hk => by
    simp at h; subst h
    rw [List.flatMap_cons, List.getElem?_append_left (by simp; omega)]
    simp
  | y :: l, i + 1, k, x, h, hk => by
    have ih := iC_at l i k x (by simpa using h) hk
    rw [List.flatMap_cons, List.getElem?_append_right (by simp; omega), ← ih]
    congr 1
    simp; omega
theorem iC_of : ∀ (l : List It) (j : Nat) (u : Value), (l.flatMap iC)[j]? = some u → ∃ i k x, l[i]? = some x ∧ k < 7 ∧ j = i * 7 + k ∧ (iC x)[k]? = some u
  | [], j, u, h => by simp at h
  | y :: l, j, u, h => by
    by_cases hj : j < 7
    · rw [List.flatMap_cons, List.getElem?_append_left (by simpa using hj)] at h
      exact ⟨0, j, y, rfl, hj, by omega, h⟩
    · rw [List.flatMap_cons, List.getElem?_append_right (by simp; omega)] at h
      obtain ⟨i, k, x, h1, h2, h3, h4⟩ := iC_of l (j - 7) u (by simpa using h)
      exact ⟨i + 1, k, x, by simpa using h1, h2, by omega, h4⟩
theorem OwnI.rd {B0 : Nat} {v : Value} {l : List It} {w : World} (h : OwnI B0 v l w) : ItRd v l w := by
  rcases h.2 with ⟨e1, e2⟩ | ⟨g, cap, cur, e1, _, _, hc, _⟩
  · exact ⟨none, 0, by rw [e1, e2], fun hne => absurd (List.length_eq_zero_iff.1 e2) hne⟩
  · refine ⟨some ⟨g, 0, none⟩, cap, e1, fun _ => ⟨g, 0, rfl, hc, fun i x hx => ?_⟩⟩
    have key : ∀ k u, k < 7 → (iC x)[k]? = some u → w.cell? ⟨g, 0 + i * 7 + k, none⟩ = some u := by
      intro k u hk hu
      have h' := h
      unfold OwnI at h'
      rw [e1] at h'
      have := World.ownsRow.cells h' rfl (i * 7 + k) u (by rw [iC_at l i k x hx hk]; exact hu)
      rw [Addr.add_lit] at this
      rwa [← Nat.add_assoc] at this
    exact ⟨key 0 _ (by omega) rfl, key 1 _ (by omega) rfl, key 2 _ (by omega) rfl, key 3 _ (by omega) rfl, key 4 _ (by omega) rfl, key 5 _ (by omega) rfl, key 6 _ (by omega) rfl⟩
theorem ItAt.k {g o : Nat} {x : It} {w : World} (h : ItAt g o x w) : ∀ (k : Nat) u, (iC x)[k]? = some u → w.cell? ⟨g, o + k, none⟩ = some u := by
  obtain ⟨h0, h1, h2, h3, h4, h5, h6⟩ := h
  intro k u hu
  match k, hu with
  | 0, hu => cases hu; exact h0
  | 1, hu => cases hu; exact h1
  | 2, hu => cases hu; exact h2
  | 3, hu => cases hu; exact h3
  | 4, hu => cases hu; exact h4
  | 5, hu => cases hu; exact h5
  | 6, hu => cases hu; exact h6
  | n + 7, hu => simp at hu
theorem one_cell {x : It} {k : Nat} {u : Value} (hu : (iC x)[k]? = some u) : u.oneCell' = true := by
  match k, hu with
  | 0, hu => cases hu; rfl
  | 1, hu => cases hu; rfl
  | 2, hu => cases hu; rfl
  | 3, hu => cases hu; rfl
  | 4, hu => cases hu; rfl
  | 5, hu => cases hu; rfl
  | 6, hu => cases hu; rfl
  | n + 7, hu => simp at hu
set_option maxRecDepth 100000 in
theorem run_app_none (w : World) (ty : TypeId) (B0 : Nat) (v : Value) (l : List It) (hO : OwnI B0 v l w) (c : Nat) :
    (Builtin.append_ #[22, 22] ty #[v, .slice none 0 c]).run Tryz.prog w = .ok v w := by
  obtain ⟨i0, hi, hz0, hz1, hz2⟩ := info_parts infoI
  rcases hO.2 with ⟨e1, e2⟩ | ⟨g, cap, cur, e1, _, _, hc, _⟩
  · subst e1
    simp [Builtin.append_, run_underlying Tryz.underlying22, sizeOf, typeInfo, hi, Builtin.lenOf, Builtin.firstCells]
  · subst e1
    simp [Builtin.append_, run_underlying Tryz.underlying22, sizeOf, typeInfo, hi, Builtin.lenOf, Builtin.firstCells, hc, storeCells, Result.andThen]
set_option maxRecDepth 100000 in
theorem run_appI (w : World) (B0 : Nat) (ty : TypeId) (v : Value) (l : List It) (hO : OwnI B0 v l w) (xv : Value) (r : List It) (hR : ItRd xv r w) (hl : l.length + r.length ≤ 1000000) (hB : B0 ≤ w.heap.size) :
    ∃ v' w', (Builtin.append_ #[22, 22] ty #[v, xv]).run Tryz.prog w = .ok v' w' ∧ OwnI B0 v' (l ++ r) w' ∧ w.grownBy w' v.ownBlock := by
  obtain ⟨i0, hi, hz0, hz1, hz2⟩ := info_parts infoI
  obtain ⟨a, c, rfl, h⟩ := hR
  cases a with
  | none =>
    have he : r = [] := by
      cases r with
      | nil => rfl
      | cons x l => obtain ⟨_, _, h, _⟩ := h (by simp); cases h
    subst he
    exact ⟨v, w, run_app_none w ty B0 v l hO c, by rw [List.append_nil]; exact hO, (Kept.refl w).grownBy _⟩
  | some a =>
    obtain ⟨v', w', hr, h2, h3, _⟩ := run_append_own_at (P := Tryz.prog) (w := w) B0 22 ty 50 i0 _ 7 88 Tryz.underlying22 hi hz0 hz1 hz2 rfl (by decide) v l.length (l.flatMap iC) hO a r.length c (r.flatMap iC) (iC_len r) (fun j u hj => by
      obtain ⟨i, k, x, q1, q2, q3, q4⟩ := iC_of r j u hj
      obtain ⟨g, o, ha, _, hp⟩ := h (by rintro rfl; simp at q1)
      injection ha with ha
      subst ha
      rw [Addr.add_lit, q3, ← Nat.add_assoc]
      exact ItAt.k (hp i x q1) k u q4) (fun u hu => by
      obtain ⟨j, hj⟩ := List.getElem?_of_mem hu
      obtain ⟨i, k, x, q1, q2, q3, q4⟩ := iC_of r j u hj
      exact one_cell q4) (by unfold maxLen; omega) (by omega) hB
    refine ⟨v', w', hr, ?_, h3⟩
    unfold OwnI
    rw [List.length_append, List.flatMap_append]
    exact h2
theorem wpList_appI {ops : Array Oper} {rest : List Oper} {op : Oper} {a : Act} {w : World} {Q : Exit → Act → World → Prop} (hg : op.guard = none) (sx x : Operand) (ho : op.op = .call { callee := .builtin .append, args := #[sx, x], argTypes := #[22, 22] })
    (B0 : Nat) (v : Value) (l : List It) (xv : Value) (r : List It) (hs : a.eval sx = v) (hO : OwnI B0 v l w) (hx : a.eval x = xv) (hR : ItRd xv r w) (hl : l.length + r.length ≤ 1000000) (hB : B0 ≤ w.heap.size)
    (h : ∀ v' w', OwnI B0 v' (l ++ r) w' → w.grownBy w' v.ownBlock → wpList Tryz.prog ops Q rest (a.put op.dst v') w') : wpList Tryz.prog ops Q (op :: rest) a w := by
  obtain ⟨v', w', hr, h2, h3⟩ := run_appI w B0 op.type v l hO xv r hR hl hB
  exact wpList_plain hg fun K hK => Hd.wp_ok sx x _ _ ho (by rw [hs, hx]; exact hr) (hK _ _ (h v' w' h2 h3))
theorem ItRd.grow {v : Value} {l : List It} {w y z : World} {row : Option Nat} (h : ItRd v l w) (k : Kept w y) (hg : y.grownBy z row) (hr : ∀ g, row = some g → w.heap.size ≤ g) : ItRd v l z := h.kept (kept_row k hg hr)
theorem own_ge {w : World} {B0 : Nat} {e : TypeId} {size : Nat} {v : Value} {n : Nat} {xs : List Value} (h : w.ownsRow B0 e size v n xs) : ∀ g, v.ownBlock = some g → B0 ≤ g := fun g hg => (World.ownsRow.lt h g hg).1
end Go.Proofs.YtjlpkgipdkjfhaaGreatDoor.Bk.Dg
