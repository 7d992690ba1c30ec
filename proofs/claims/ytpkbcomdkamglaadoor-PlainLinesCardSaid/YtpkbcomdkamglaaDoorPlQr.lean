/- A region that draws its order, with a call and stores in it, within a round of a range over a function: the plain walk serves. -/
import Derived.Test.YtpkbcomdkamglaaDoorPlFi
import Derived.Deep.RegionHeld3
set_option linter.unusedSimpArgs false
set_option linter.unusedVariables false
namespace Go.Proofs.YtpkbcomdkamglaaDoor.Pl
open Go.ChangeShapes Go.WideShapes Go.ChangeAt Go.RowKit Go.Shelf
open En
theorem opIn_of {n : Nat} {P : Program} {ops : Array Oper} {Q : Exit → Act → World → Prop} {l i : Nat} {K : Act → World → Prop} {a : Act} {w : World} (hL : ¬ LetsOut Q)
    (hd : ∀ (i : Nat) (o : Oper), ops[i]? = some o → ∀ c, o.op ≠ .defer c) (h : wpOp P ops Q i K a w) : wpOpIn (Fence.wide.inRound l) n P ops Q i K a w := by
  unfold wpOp at h
  unfold wpOpIn
  cases ho : ops[i]? with
  | none => simp only [ho] at h ⊢; exact h
  | some o =>
    simp only [ho] at h ⊢
    split
    · rename_i hw
      simp only [hw, if_true] at h
      have h := h.resolve_right (fun q => hL q.2)
      unfold Oper.wpIn
      unfold Oper.wp at h
      refine ⟨fun _ _ => trivial, ?_⟩
      rw [Oper.semAt_plain _ _ _ (hd i o ho)]
      generalize (execOp a.eval o).run P w = r at h ⊢
      cases r with
      | ok x w' =>
        cases x with
        | enter f args => exact ⟨(fun q => by cases q), CallsIn.inRound l (callsIn_wide.2 h)⟩
        | row r args => 
          refine ⟨(fun q => by cases q), fun c cs _ => ?_⟩
          obtain ⟨v, w2, hr, hs⟩ := h c cs
          exact ⟨v, w2, hr, stepsIn_wide.2 hs⟩
        | value v => exact h
        | skip => exact h
        | defer d => exact h
        | _ => exact h.elim
      | halt x w' => cases x <;> exact h
    · rename_i hw
      simp only [hw] at h
      exact ⟨fun _ _ => trivial, h⟩
theorem anyIn_of {n : Nat} {P : Program} {md : Region.Mode} {ops : Array Oper} {Q : Exit → Act → World → Prop} {l : Nat} (hL : ¬ LetsOut Q)
    (hd : ∀ (i : Nat) (o : Oper), ops[i]? = some o → ∀ c, o.op ≠ .defer c) : ∀ (fuel : Nat) (listed : Array Bool) (a : Act) (w : World), wpAny P md ops Q fuel listed a w → wpAnyIn (Fence.wide.inRound l) n P md ops Q fuel listed a w
  | 0, _, _, _, h => h
  | fuel + 1, _, _, _, h => ⟨h.1, fun i hi => wpOpIn_mono (fun a' w' q => anyIn_of hL hd fuel _ a' w' q) (opIn_of hL hd (h.2 i hi))⟩
def noDefer (l : List Oper) : Bool := l.all fun o => match o.op with | .defer _ => false | _ => true
theorem noDefer_of {l : List Oper} (h : noDefer l = true) : ∀ (i : Nat) (o : Oper), l.toArray[i]? = some o → ∀ c, o.op ≠ .defer c := fun i o ho c e => by
  have hm : o ∈ l := by
    simp only [List.getElem?_toArray] at ho
    exact List.mem_of_getElem? ho
  have := List.all_eq_true.1 h o hm
  rw [e] at this; cases this
theorem region_round {n id l₀ : Nat} {P : Program} {Q : Exit → Act → World → Prop} {a : Act} {w : World} {l : List Oper} (S : World → Prop) (hm : P.follows .mixedOrders = true) (hd : noDefer l = true) (hL : ¬ LetsOut Q) (hS : S w.drew)
    (h : S w.drew → wpAnyH P .any l.toArray Q S l.toArray.size (Array.replicate l.toArray.size false) a w.drew) : (Code.region id l.toArray true).wpIn (Fence.wide.inRound l₀) n P Q a w :=
  wpIn_region_any hm (anyIn_of hL (noDefer_of hd) _ _ _ _ (wpAny_of_held _ _ _ _ (h hS)))
/-- some texts more -/
theorem wp_pushM {op : Oper} {a : Act} {w : World} {K : Act → World → Prop} {Q : Exit → Act → World → Prop} (sx x : Operand) (ho : op.op = .call { callee := .builtin .append, args := #[sx, x], argTypes := #[25, 25] })
    (B0 B1 : Nat) (v vx : Value) (ls rs : List B) (hs : a.eval sx = v) (hO : OwnS B0 v ls w) (hx : a.eval x = vx) (hR : OwnS B1 vx rs w) (hne : rs ≠ []) (hl : ls.length + rs.length ≤ 1000000000000) (hB : B0 ≤ w.heap.size)
    (h : ∀ v' w', OwnS B0 v' (ls ++ rs) w' → w.grownBy w' v.ownBlock → K (a.put op.dst v') w') : op.wp Tryd.prog a w K Q := by
  obtain ⟨i0, hi, hz0, hz1, hz2⟩ := info_parts infoS
  obtain ⟨g, cap, rfl, hc⟩ := OutS.at (show OutS B1 vx rs w from hR) (List.length_pos_iff.2 hne)
  refine wp_append_own w sx x 25 ho B0 9 i0 _ 1 16 Tryd.underlying25 hi hz0 hz1 hz2 rfl (by decide) v ls.length (ls.map sV) hs hO ⟨g, 0, none⟩ rs.length cap (rs.map sV) hx (by simp) (fun j u hj => ?_) (fun u hu => ?_) (by unfold maxLen; omega) (by omega) hB ?_
  · rw [List.getElem?_map] at hj
    cases hj' : rs[j]? with
    | none => rw [hj'] at hj; cases hj
    | some p =>
      rw [hj'] at hj
      cases hj
      rw [Addr.add_lit, Nat.zero_add]
      exact hc j p hj'
  · obtain ⟨p, _, rfl⟩ := List.mem_map.1 hu; rfl
  · intro v' w' h2 h3 _
    refine h v' w' ?_ h3
    unfold OwnS
    rw [List.length_append, List.map_append]
    exact h2
end Go.Proofs.YtpkbcomdkamglaaDoor.Pl
