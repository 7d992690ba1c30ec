/- Appends to slices of texts and of pieces, at the operation. -/
import Derived.Test.YtknggeplnffegaaGreatDoorXmR
set_option linter.unusedVariables false
namespace Go.Proofs.YtknggeplnffegaaGreatDoor
open Go.ChangeShapes Go.WideShapes Go.ChangeAt Go.RowKit
open En Xm
/-- a slice of texts, copied -/
theorem wp_copyS {op : Oper} {a : Act} {w : World} {K : Act → World → Prop} {Q : Exit → Act → World → Prop} (sx x : Operand) (ho : op.op = .call { callee := .builtin .append, args := #[sx, x], argTypes := #[40, 40] })
    (hs : a.eval sx = .slice none 0 0) (B0 : Nat) (ov : Value) (ls : List B) (hx : a.eval x = ov) (hO : OwnS B0 ov ls w) (hl : ls.length ≤ 1000)
    (h : ∀ v' w', OwnS w.heap.size v' ls w' → w.grownBy w' none → K (a.put op.dst v') w') : op.wp Tryz.prog a w K Q := by
  obtain ⟨i0, hi, hz0, hz1, hz2⟩ := info_parts infoS
  rcases hO.2 with ⟨h1, h2⟩ | ⟨g, cap, cur, h1, hrest⟩
  · have hls : ls = [] := List.length_eq_zero_iff.1 h2
    subst hls
    have hrun := run_append_owned_none (P := Tryz.prog) (w := w) B0 40 op.type 9 i0 1 Tryz.underlying40 hi (.slice none 0 0) 0 [] (World.ownsRow_nil _ _ _ _)
    have hK := h (.slice none 0 0) w (World.ownsRow_nil _ _ _ _) ⟨rfl, rfl, rfl, Nat.le_refl _, fun _ _ _ => rfl⟩
    unfold Oper.wp
    simp [execOp, ho, resolve, invoke, builtin, hs, hx, h1, hrun, Result.andThen]
    exact hK
  · have hO2 := hO
    rw [h1] at hO2
    refine wp_append_own w sx x 40 ho w.heap.size 9 i0 _ 1 16 Tryz.underlying40 hi hz0 hz1 hz2 rfl (by decide) _ 0 [] hs (World.ownsRow_nil _ _ _ _) ⟨g, 0, none⟩ ls.length cap (ls.map sV) (hx.trans h1) (by simp) (World.ownsRow.cells hO2 rfl) (fun u hu => by rw [List.mem_map] at hu; obtain ⟨y, _, rfl⟩ := hu; rfl) (by unfold maxLen; omega) (by omega) (Nat.le_refl _) ?_
    intro v' w' h2 h3 _
    refine h v' w' ?_ h3
    unfold OwnS
    simpa using h2
/-- a text more -/
theorem wp_pushS {op : Oper} {a : Act} {w : World} {K : Act → World → Prop} {Q : Exit → Act → World → Prop} (sx x : Operand) (ho : op.op = .call { callee := .builtin .append, args := #[sx, x], argTypes := #[40, 40] })
    (B0 : Nat) (v : Value) (ls : List B) (t : B) (k : Nat) (hs : a.eval sx = v) (hO : OwnS B0 v ls w) (hx : a.eval x = .slice (some ⟨k, 0, none⟩) 1 1) (hc : w.cell? ⟨k, 0, none⟩ = some (sV t)) (hl : ls.length ≤ 1000) (hB : B0 ≤ w.heap.size)
    (h : ∀ v' w', OwnS B0 v' (ls ++ [t]) w' → w.grownBy w' v.ownBlock → K (a.put op.dst v') w') : op.wp Tryz.prog a w K Q := by
  obtain ⟨i0, hi, hz0, hz1, hz2⟩ := info_parts infoS
  refine wp_append_own w sx x 40 ho B0 9 i0 _ 1 16 Tryz.underlying40 hi hz0 hz1 hz2 rfl (by decide) v ls.length (ls.map sV) hs hO ⟨k, 0, none⟩ 1 1 [sV t] hx rfl (fun j u hj => ?_) (fun u hu => by simp at hu; subst hu; rfl) (by unfold maxLen; omega) (by omega) hB ?_
  · match j, hj with
    | 0, hj => simp at hj; subst hj; simpa [Addr.add] using hc
  · intro v' w' h2 h3 _
    refine h v' w' ?_ h3
    unfold OwnS
    rw [List.length_append, List.map_append]
    exact h2
/-- a piece more -/
theorem wp_pushT {op : Oper} {a : Act} {w : World} {K : Act → World → Prop} {Q : Exit → Act → World → Prop} (sx x : Operand) (ho : op.op = .call { callee := .builtin .append, args := #[sx, x], argTypes := #[24, 24] })
    (B0 : Nat) (v : Value) (l : List Tk) (vs : List Value) (t : Tk) (xa : Value) (k : Nat) (hs : a.eval sx = v) (hT : w.ownsRow B0 38 4 v l.length (tkCells l vs)) (hx : a.eval x = .slice (some ⟨k, 0, none⟩) 1 1)
    (hc : w.cell? ⟨k, 0, none⟩ = some (iV t.1) ∧ w.cell? ⟨k, 1, none⟩ = some (sV t.2.1) ∧ w.cell? ⟨k, 2, none⟩ = some (sV t.2.2.1) ∧ w.cell? ⟨k, 3, none⟩ = some xa) (h1 : xa.oneCell' = true) (hl : l.length ≤ 1000000) (hB : B0 ≤ w.heap.size)
    (h : ∀ v' w', w'.ownsRow B0 38 4 v' (l.length + 1) (tkCells l vs ++ [iV t.1, sV t.2.1, sV t.2.2.1, xa]) → w.grownBy w' v.ownBlock → K (a.put op.dst v') w') : op.wp Tryz.prog a w K Q := by
  obtain ⟨i0, hi, hz0, hz1, hz2⟩ := info_parts infoT
  obtain ⟨c0, c1, c2, c3⟩ := hc
  refine wp_append_own w sx x 24 ho B0 38 i0 _ 4 64 Tryz.underlying24 hi hz0 hz1 hz2 rfl (by decide) v l.length (tkCells l vs) hs hT ⟨k, 0, none⟩ 1 1 [iV t.1, sV t.2.1, sV t.2.2.1, xa] hx rfl (fun j u hj => ?_) (fun u hu => ?_) (by unfold maxLen; omega) (by omega) hB ?_
  · match j, hj with
    | 0, hj => simp at hj; subst hj; simpa [Addr.add] using c0
    | 1, hj => simp at hj; subst hj; simpa [Addr.add] using c1
    | 2, hj => simp at hj; subst hj; simpa [Addr.add] using c2
    | 3, hj => simp at hj; subst hj; simpa [Addr.add] using c3
  · simp at hu; rcases hu with rfl | rfl | rfl | rfl
    · rfl
    · rfl
    · rfl
    · exact h1
  · intro v' w' h2 h3 _
    exact h v' w' h2 h3
end Go.Proofs.YtknggeplnffegaaGreatDoor
