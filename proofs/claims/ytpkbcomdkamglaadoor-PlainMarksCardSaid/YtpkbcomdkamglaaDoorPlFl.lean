/- What lies in memory while lines are filled: the lines and the line that is made, rows of the call's own, each told by a box. -/
import Derived.Test.YtpkbcomdkamglaaDoorPlSq
import Derived.Test.YtpkbcomdkamglaaDoorPlWp
import Derived.Lib.BufStepsIn
set_option linter.unusedSimpArgs false
set_option linter.unusedVariables false
namespace Go.Proofs.YtpkbcomdkamglaaDoor.Pl
open Go.ChangeShapes Go.WideShapes Go.ChangeAt Go.RowKit Go.Shelf
open En
/-- a word more: the lines that are made, and the one that is begun -/
def stp (most : Int) (s : List B × B) (w : B) : List B × B :=
  if s.2 ≠ [] ∧ most < (s.2.length : Int) + 1 + w.length then (s.1 ++ [s.2], w) else (s.1, if s.2 = [] then w else s.2 ++ [32] ++ w)
theorem fil_fold (most : Int) : ∀ (ws : List B) (ls : List B) (md : B), ls ++ fil most ws md = (ws.foldl (stp most) (ls, md)).1 ++ [(ws.foldl (stp most) (ls, md)).2]
  | [], ls, md => rfl
  | w :: ws, ls, md => by
    rw [fil, List.foldl_cons]
    unfold stp
    simp only
    split
    · have := fil_fold most ws (ls ++ [md]) w
      rw [show ls ++ md :: fil most ws w = (ls ++ [md]) ++ fil most ws w by simp]
      exact this
    · exact fil_fold most ws ls _
theorem stp_bd (most : Int) (M : Nat) : ∀ (ws : List B) (s : List B × B), (∀ w ∈ ws, w.length ≤ M) → (ws.foldl (stp most) s).1.length ≤ s.1.length + ws.length ∧ (ws.foldl (stp most) s).2.length ≤ s.2.length + ws.length * (M + 1)
  | [], s, _ => by simp
  | w :: ws, s, h => by
    have hw := h w (by simp)
    obtain ⟨h1, h2⟩ := stp_bd most M ws (stp most s w) (fun x hx => h x (by simp [hx]))
    have k1 : (stp most s w).1.length ≤ s.1.length + 1 := by unfold stp; split <;> simp
    have k2 : (stp most s w).2.length ≤ s.2.length + (M + 1) := by
      unfold stp
      split
      · simp only; omega
      · simp only
        split
        · omega
        · simp; omega
    rw [List.foldl_cons, List.length_cons, Nat.add_mul, Nat.one_mul]
    omega
theorem stp_take {most : Int} {ws : List B} {k : Nat} {t : B} (h : ws[k]? = some t) : (ws.take (k + 1)).foldl (stp most) ([], []) = stp most ((ws.take k).foldl (stp most) ([], [])) t := by
  rw [List.take_add_one, h, List.foldl_append]; rfl
theorem fil_wds (most : Int) (l : B) : fil most (splt 32 (tr l)) [] = fil most (wds l) [] := by
  unfold wds
  by_cases h : tr l = []
  · rw [if_pos h, h]; rfl
  · rw [if_neg h]
theorem own_set {w : World} {B0 : Nat} {e : TypeId} {size : Nat} {v : Value} {n : Nat} {xs : List Value} (h : w.ownsRow B0 e size v n xs) (j i : Nat) (x : Value) (hj : j < B0) : (w.setCell ⟨j, i, none⟩ x).ownsRow B0 e size v n xs := by
  refine ⟨h.1, ?_⟩
  rcases h.2 with h2 | ⟨g, cap, cur, h1, h2, h3, h4⟩
  · exact Or.inl h2
  · exact Or.inr ⟨g, cap, cur, h1, h2, (Below.heap_setCell _ _ _ _ (by show g ≠ j; omega)).trans h3, h4⟩
theorem own_turn {w w' : World} {B0 : Nat} {e : TypeId} {size : Nat} {v : Value} {n : Nat} {xs : List Value} {M : Nat → Obj → Prop} (h : w.ownsRow B0 e size v n xs) (k : Save M w w') (hm : ∀ g c, B0 ≤ g → ¬ M g (.cells c e (0, 0))) : w'.ownsRow B0 e size v n xs := by
  refine ⟨h.1, ?_⟩
  rcases h.2 with h2 | ⟨g, cap, cur, h1, h2, h3, h4⟩
  · exact Or.inl h2
  · exact Or.inr ⟨g, cap, cur, h1, h2, k.at h3 (hm g cur h2), h4⟩
/-- what a round may turn -/
def Mf (T : Nat → Prop) (h1 h2 n1 : Nat) (k : Nat) (o : Obj) : Prop := o.isCells = true ∧ ¬ T k ∧ (k = h1 ∨ k = h2 ∨ n1 ≤ k)
/-- where it all lies -/
structure Cx (w : World) (T : Nat → Prop) (h0 h1 h2 n1 : Nat) : Prop where
  a0 : w.heap.size ≤ h0
  a1 : h0 < h1
  a2 : h1 ≤ h2
  a3 : h2 < n1
  t : ∀ k, T k → h2 < k ∧ k < n1
theorem Cx.no {w : World} {T : Nat → Prop} {h0 h1 h2 n1 : Nat} (c : Cx w T h0 h1 h2 n1) {k : Nat} (h : k ≤ h2 ∨ n1 ≤ k) : ¬ T k := fun q => by have := c.t k q; omega
structure FlI (h0 h1 h2 n1 : Nat) (most : Int) (v u : Value) (ls : List B) (md : B) (w V : World) : Prop where
  m : Bv 3 h0 (iV most) V
  lb : Bv 25 h1 v V
  mb : Bv 30 h2 u V
  lo : OwnS n1 v ls V
  mo : OwnB n1 u md V
  k : Kept w V
  sz : n1 ≤ V.heap.size
section
variable {h0 h1 h2 n1 : Nat} {most : Int} {v u : Value} {ls : List B} {md : B} {w V : World} {T : Nat → Prop}
theorem FlI.kept {V' : World} (h : FlI h0 h1 h2 n1 most v u ls md w V) (k : Kept V V') : FlI h0 h1 h2 n1 most v u ls md w V' :=
  ⟨h.m.kept k, h.lb.kept k, h.mb.kept k, OwnS.kept h.lo k, OwnB.kept h.mo k, h.k.trans k, Nat.le_trans h.sz k.size⟩
theorem FlI.turn {V' : World} (c : Cx w T h0 h1 h2 n1) (h : FlI h0 h1 h2 n1 most v u ls md w V) (k : Save (Itn T n1) V V') : FlI h0 h1 h2 n1 most v u ls md w V' := by
  have a1 := c.a1; have a2 := c.a2; have a3 := c.a3; have a0 := c.a0
  have no : ∀ j o, j ≤ h2 → ¬ Itn T n1 j o := fun j o hj q => by
    rcases q with q | q
    · exact c.no (Or.inl hj) q
    · omega
  have no2 : ∀ g (cs : Array Value) (e : TypeId), n1 ≤ g → ¬ Itn T n1 g (.cells cs e (0, 0)) := fun g cs e hg q => by
    rcases q with q | q
    · exact c.no (Or.inr hg) q
    · cases q.2
  refine ⟨bv_save h.m k (no _ _ (by omega)), bv_save h.lb k (no _ _ (by omega)), bv_save h.mb k (no _ _ (by omega)), own_turn h.lo k (fun g cs hg => no2 g cs _ hg), own_turn h.mo k (fun g cs hg => no2 g cs _ hg), ?_, Nat.le_trans h.sz k.size⟩
  refine ⟨k.os.trans h.k.os, k.output.trans h.k.output, Nat.le_trans h.k.size k.size, fun j hj => ?_, k.tape.trans h.k.tape⟩
  obtain ⟨ob, hob⟩ := at_some (A := V) (k := j) (Nat.lt_of_lt_of_le hj h.k.size)
  rw [k.block j ob hob (no j ob (by omega)), ← hob, h.k.block j hj]
theorem ub_of {e : TypeId} {size n : Nat} {xs : List Value} (h : V.ownsRow n1 e size v n xs) : ∀ j, j < n1 → v.ownBlock ≠ some j := fun j hj e' => by
  have := (World.ownsRow.lt h j e').1
  omega
theorem bv_grown {t : TypeId} {b : Nat} {x : Value} {y : World} {row : Option Nat} (h : Bv t b x V) (hg : V.grownBy y row) (hne : row ≠ some b) : Bv t b x y := (hg.block b h.lt (fun e => hne e.symm)).trans h
theorem save_row {y : World} {j i : Nat} {x : Value} {row : Option Nat} {M : Nat → Obj → Prop} (hg : V.grownBy y row) (h1 : ∀ g o, row = some g → V.heap[g]? = some o → M g o) (h2 : ∀ o, V.heap[j]? = some o → M j o) : Save M V (y.setCell ⟨j, i, none⟩ x) :=
  ⟨hg.os, hg.output, by have := hg.size; simpa [World.setCell] using this, fun k o hk hn => by
    have hj : k ≠ j := fun e => hn (by subst e; exact h2 o hk)
    rw [Below.heap_setCell _ _ _ _ hj, hg.block k (Array.getElem?_eq_some_iff.1 hk).1 (fun e => hn (h1 k o e.symm hk)), hk], hg.tape⟩
theorem mf_row {e : TypeId} {size n : Nat} {xs : List Value} (c : Cx w T h0 h1 h2 n1) (h : V.ownsRow n1 e size v n xs) : ∀ g o, v.ownBlock = some g → V.heap[g]? = some o → Mf T h1 h2 n1 g o := fun g o hg ho => by
  obtain ⟨cs, hc⟩ := own_kind h g hg
  rw [hc] at ho
  cases ho
  have := (World.ownsRow.lt h g hg).1
  exact ⟨rfl, c.no (Or.inr this), Or.inr (Or.inr this)⟩
theorem mf_box {t : TypeId} {b : Nat} {x : Value} (c : Cx w T h0 h1 h2 n1) (h : Bv t b x V) (hb : b = h1 ∨ b = h2) : ∀ o, V.heap[b]? = some o → Mf T h1 h2 n1 b o := fun o ho => by
  unfold Bv at h
  rw [h] at ho
  cases ho
  have a2 := c.a2
  exact ⟨rfl, c.no (Or.inl (by omega)), by omega⟩
/-- a line more -/
theorem FlI.pushL {y : World} {v' : Value} {t : B} (c : Cx w T h0 h1 h2 n1) (h12 : h1 < h2) (h : FlI h0 h1 h2 n1 most v u ls md w V) (ho : OwnS n1 v' (ls ++ [t]) y) (hg : V.grownBy y v.ownBlock) :
    FlI h0 h1 h2 n1 most v' u (ls ++ [t]) md w (y.setCell ⟨h1, 0, none⟩ v') ∧ Save (Mf T h1 h2 n1) V (y.setCell ⟨h1, 0, none⟩ v') := by
  have a1 := c.a1; have a2 := c.a2; have a3 := c.a3; have a0 := c.a0
  have ub := ub_of h.lo
  refine ⟨⟨bv_other (bv_grown h.m hg (ub _ (by omega))) (by omega) _ _, bv_set (bv_grown h.lb hg (ub _ (by omega))) _, bv_other (bv_grown h.mb hg (ub _ (by omega))) (by omega) _ _, own_set ho _ _ _ (by omega), own_set (own_keep h.mo hg (NoRow.own h.lo (by decide))) _ _ _ (by omega), ?_, ?_⟩, save_row hg (mf_row c h.lo) (mf_box c h.lb (Or.inl rfl))⟩
  · exact (kept_row h.k hg (fun g hg' => by have := (World.ownsRow.lt h.lo g hg').1; omega)).setCell (by simp only; omega) _
  · have := hg.size; have := h.sz; simp [World.setCell]; omega
/-- another line that is made -/
theorem FlI.setM {y : World} {u' : Value} {md' : B} (c : Cx w T h0 h1 h2 n1) (h12 : h1 < h2) (h : FlI h0 h1 h2 n1 most v u ls md w V) (ho : OwnB n1 u' md' y) (hg : V.grownBy y u.ownBlock) :
    FlI h0 h1 h2 n1 most v u' ls md' w (y.setCell ⟨h2, 0, none⟩ u') ∧ Save (Mf T h1 h2 n1) V (y.setCell ⟨h2, 0, none⟩ u') := by
  have a1 := c.a1; have a2 := c.a2; have a3 := c.a3; have a0 := c.a0
  have ub := ub_of h.mo
  refine ⟨⟨bv_other (bv_grown h.m hg (ub _ (by omega))) (by omega) _ _, bv_other (bv_grown h.lb hg (ub _ (by omega))) (by omega) _ _, bv_set (bv_grown h.mb hg (ub _ (by omega))) _, own_set (own_keep h.lo hg (NoRow.own h.mo (by decide))) _ _ _ (by omega), own_set ho _ _ _ (by omega), ?_, ?_⟩, save_row hg (mf_row c h.mo) (mf_box c h.mb (Or.inr rfl))⟩
  · exact (kept_row h.k hg (fun g hg' => by have := (World.ownsRow.lt h.mo g hg').1; omega)).setCell (by simp only; omega) _
  · have := hg.size; have := h.sz; simp [World.setCell]; omega
end
theorem kept_put {w x : World} (h : Kept w x) {r : Nat} (hr : w.heap.size ≤ r) (o : Obj) : Kept w (x.putObj r o) :=
  ⟨h.os, h.output, by have := h.size; simpa using this, fun j hj => (World.putObj_heap_other (by omega)).trans (h.block j hj), h.tape⟩
/-- where a list of rounds ends: the block for deferred calls is no row -/
theorem own_deferred {B0 r : Nat} {v : Value} {ls : List B} {y : World} (h : OwnS B0 v ls y) (hK : y.heap[r]? = some (.deferred (some []))) (o : Obj) : OwnS B0 v ls (y.putObj r o) :=
  own_turn h (Save.put (M := fun k o => k = r ∧ o.isCells = false) o (fun o' ho => by rw [hK] at ho; cases ho; exact ⟨rfl, rfl⟩)) (fun g c _ q => by cases q.2)
theorem def_row {B0 r : Nat} {v : Value} {ls : List B} {y z : World} (h : OwnS B0 v ls y) (hg : y.grownBy z v.ownBlock) (hK : y.heap[r]? = some (.deferred (some []))) : z.heap[r]? = some (.deferred (some [])) :=
  (hg.block r (Array.getElem?_eq_some_iff.1 hK).1 (fun e => by
    obtain ⟨c, hc⟩ := own_kind h r e.symm
    rw [hc] at hK; cases hK)).trans hK
theorem grown_refl (w : World) (row : Option Nat) : w.grownBy w row := ⟨rfl, rfl, rfl, Nat.le_refl _, fun _ _ _ => rfl⟩
theorem own_empty {n1 g n cap : Nat} {md : B} {V : World} (h : OwnB n1 (.slice (some ⟨g, 0, none⟩) n cap) md V) : OwnB n1 (.slice (some ⟨g, 0, none⟩) 0 cap) [] V := by
  refine ⟨rfl, ?_⟩
  rcases h.2 with ⟨h1, _⟩ | ⟨g', cap', cur, h1, h2, h3, h4, h5, h6, h7⟩
  · cases h1
  · injection h1 with e1 _ e3
    cases e1
    subst e3
    exact Or.inr ⟨g, cap, cur, rfl, h2, h3, Nat.zero_le _, h5, h6, by simp [Lib.byteCells]⟩
theorem wpListIn_pushS {F : Fence} {n : Nat} {ops : Array Oper} {rest : List Oper} {op : Oper} {a : Act} {w : World} {Q : Exit → Act → World → Prop} (hg : op.guard = none) (sx x : Operand) (ho : op.op = .call { callee := .builtin .append, args := #[sx, x], argTypes := #[25, 25] })
    (B0 : Nat) (v : Value) (ls : List B) (t : B) (k : Nat) (hs : a.eval sx = v) (hO : OwnS B0 v ls w) (hx : a.eval x = .slice (some ⟨k, 0, none⟩) 1 1) (hc : w.cell? ⟨k, 0, none⟩ = some (sV t)) (hl : ls.length ≤ 10000000) (hB : B0 ≤ w.heap.size)
    (h : ∀ v' w', OwnS B0 v' (ls ++ [t]) w' → w.grownBy w' v.ownBlock → wpListIn F n Tryd.prog ops Q rest (a.put op.dst v') w') : wpListIn F n Tryd.prog ops Q (op :: rest) a w := by
  obtain ⟨i0, hi, hz0, hz1, hz2⟩ := info_parts infoS
  refine wpListIn_append_own w hg sx x 25 ho B0 9 i0 _ 1 16 Tryd.underlying25 hi hz0 hz1 hz2 rfl (by decide) v ls.length (ls.map sV) hs hO ⟨k, 0, none⟩ 1 1 [sV t] hx rfl (fun j u hj => ?_) (fun u hu => by simp at hu; subst hu; rfl) (by unfold maxLen; omega) (by omega) hB ?_
  · match j, hj with
    | 0, hj => simp at hj; subst hj; simpa [Addr.add] using hc
  · intro v' w' h2 h3 _
    refine h v' w' ?_ h3
    unfold OwnS
    rw [List.length_append, List.map_append]
    exact h2
theorem wpListIn_byteB {F : Fence} {n : Nat} {ops : Array Oper} {rest : List Oper} {op : Oper} {a : Act} {w : World} {Q : Exit → Act → World → Prop} (hg : op.guard = none) (sx x : Operand) (ho : op.op = .call { callee := .builtin .append, args := #[sx, x], argTypes := #[30, 30] })
    (B0 : Nat) (v : Value) (l : B) (t : UInt8) (k : Nat) (hs : a.eval sx = v) (hO : OwnB B0 v l w) (hx : a.eval x = .slice (some ⟨k, 0, none⟩) 1 1) (hc : w.cell? ⟨k, 0, none⟩ = some (.int .u8 t.toNat)) (hl : l.length ≤ 100000000000000) (hB : B0 ≤ w.heap.size)
    (h : ∀ v' w', OwnB B0 v' (l ++ [t]) w' → w.grownBy w' v.ownBlock → wpListIn F n Tryd.prog ops Q rest (a.put op.dst v') w') : wpListIn F n Tryd.prog ops Q (op :: rest) a w := by
  obtain ⟨i0, hi, hz0, hz1, hz2⟩ := info_parts info8
  refine wpListIn_append_own w hg sx x 30 ho B0 5 i0 _ 1 1 Tryd.underlying30 hi hz0 hz1 hz2 rfl (by decide) v l.length (Lib.byteCells l) hs hO ⟨k, 0, none⟩ 1 1 [.int .u8 t.toNat] hx rfl (fun j u hj => ?_) (fun u hu => by simp at hu; subst hu; rfl) (by unfold maxLen; omega) (by omega) hB ?_
  · match j, hj with
    | 0, hj => simp at hj; subst hj; simpa [Addr.add] using hc
  · intro v' w' h2 h3 _
    refine h v' w' ?_ h3
    unfold OwnB
    rw [List.length_append, byteCells_app]
    exact h2
theorem wpListIn_strB {F : Fence} {n : Nat} {ops : Array Oper} {rest : List Oper} {op : Oper} {a : Act} {w : World} {Q : Exit → Act → World → Prop} (hg : op.guard = none) (sx x : Operand) (ho : op.op = .call { callee := .builtin .append, args := #[sx, x], argTypes := #[30, 9] })
    (B0 : Nat) (v : Value) (l t : B) (hs : a.eval sx = v) (hO : OwnB B0 v l w) (hx : a.eval x = .string ⟨t.toArray⟩) (hl : l.length + t.length ≤ 100000000000000) (hB : B0 ≤ w.heap.size)
    (h : ∀ v' w', OwnB B0 v' (l ++ t) w' → w.grownBy w' v.ownBlock → wpListIn F n Tryd.prog ops Q rest (a.put op.dst v') w') : wpListIn F n Tryd.prog ops Q (op :: rest) a w := by
  obtain ⟨i0, hi, hz0, hz1, hz2⟩ := info_parts info8
  have hsz : (ByteArray.mk t.toArray).size = t.length := List.size_toArray
  refine wpListIn_plain hg fun K hK => ?_
  obtain ⟨v', w', hr, h2, h3, h4⟩ := Lib.run_append_own_string (P := Tryd.prog) w B0 30 9 op.type 5 i0 Tryd.underlying30 Tryd.underlying9 hi hz0 hz1 hz2 v l.length (Lib.byteCells l) hO ⟨t.toArray⟩ (by rw [hsz]; unfold maxLen; omega) (by rw [hsz]; omega) hB
  rw [hsz, str_cells, ← byteCells_app] at h2
  unfold Oper.wpIn
  refine ⟨?_, ?_⟩
  · simp [Oper.about, ho, resolve, Target.leads, Sem.run_pure]
  · rw [Oper.semAt_plain F _ _ (by rw [ho]; intro c hc'; cases hc')]
    simp [execOp, ho, resolve, invoke, builtin, hs, hx, hr, Result.andThen]
    exact hK _ _ (h v' w' (by unfold OwnB; rw [List.length_append]; exact h2) h3)
end Go.Proofs.YtpkbcomdkamglaaDoor.Pl
