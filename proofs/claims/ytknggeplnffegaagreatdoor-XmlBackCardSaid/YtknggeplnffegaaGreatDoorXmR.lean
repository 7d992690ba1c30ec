/- The document's own answers of layer xml: an element's beginning, its attributes. -/
import Derived.Test.YtknggeplnffegaaGreatDoorXmQ
set_option linter.unusedVariables false
namespace Go.Proofs.YtknggeplnffegaaGreatDoor
open Go.ChangeShapes Go.WideShapes Go.ChangeAt Go.RowKit
open En Xm
/-- a piece in a block of its own -/
def Bt (k : Nat) (nm : B) (xa : Value) (w : World) : Prop := w.heap[k]? = some (.cells #[iV 0, sV nm, sV [], xa] 38 (0, 0))
theorem Bt.lt {k : Nat} {nm : B} {xa : Value} {w : World} (h : Bt k nm xa w) : k < w.heap.size := (Array.getElem?_eq_some_iff.1 h).1
theorem Bt.cs {k : Nat} {nm : B} {xa : Value} {w : World} (h : Bt k nm xa w) : w.cell? ⟨k, 0, none⟩ = some (iV 0) ∧ w.cell? ⟨k, 1, none⟩ = some (sV nm) ∧ w.cell? ⟨k, 2, none⟩ = some (sV []) ∧ w.cell? ⟨k, 3, none⟩ = some xa := by
  unfold Bt at h
  simp [World.cell?, h]
theorem Bt.fz {k : Nat} {nm : B} {xa : Value} {w : World} (h : Bt k nm xa w) (j : Nat) : w.frozen? ⟨k, j, none⟩ = false := Lib.frozen_of_heap h j
theorem Bt.ob {k b : Nat} {nm : B} {xa : Value} {w w' : World} (h : Bt k nm xa w) (o : Ob b w w') (hne : k ≠ b) : Bt k nm xa w' := (o.block k h.lt hne).trans h
theorem Bt.kept {k : Nat} {nm : B} {xa : Value} {w w' : World} (h : Bt k nm xa w) (o : Kept w w') : Bt k nm xa w' := (o.block k h.lt).trans h
theorem Bt.grow {k : Nat} {nm : B} {xa : Value} {w w' : World} {row : Option Nat} (h : Bt k nm xa w) (hg : w.grownBy w' row) (hr : NoRow 38 w row) : Bt k nm xa w' := (hg.block k h.lt (fun e' => hr k e'.symm _ h)).trans h
theorem Bt.set3 {k : Nat} {nm : B} {xa : Value} {w : World} (h : Bt k nm xa w) (v : Value) : Bt k nm v (w.setCell ⟨k, 3, none⟩ v) := by
  unfold Bt at h ⊢
  simp [World.setCell, Array.getElem?_modify, h]
theorem bt_new (w : World) (nm : B) : Bt w.heap.size nm (.slice none 0 0) (w.alloc (.cells #[iV 0, sV nm, sV [], .slice none 0 0] 38)) := by
  show (w.heap.push _)[w.heap.size]? = _
  simp
theorem own_mono {w : World} {B0 B1 : Nat} {e : TypeId} {size : Nat} {v : Value} {n : Nat} {xs : List Value} (h : w.ownsRow B1 e size v n xs) (hB : B0 ≤ B1) : w.ownsRow B0 e size v n xs := by
  refine ⟨h.1, ?_⟩
  rcases h.2 with h2 | ⟨g, cap, cur, h1, h2, h3⟩
  · exact Or.inl h2
  · exact Or.inr ⟨g, cap, cur, h1, Nat.le_trans hB h2, h3⟩
theorem AtsO.ob {B1 b : Nat} {xa : Value} {al : List Atr} {w w' : World} (h : AtsO B1 xa al w) (o : Ob b w w') (hR : ∀ c, w.heap[b]? ≠ some (.cells c 44 (0, 0))) : AtsO B1 xa al w' :=
  own_keep h o.grown (fun r hr => by cases hr; exact hR)
theorem rd_noA {b : Nat} {s : B} {at0 : Nat} {ov : Value} {n : Nat} {lv : Value} {e : Int} {w : World} (h : Rd b s at0 ov n lv e w) : ∀ c, w.heap[b]? ≠ some (.cells c 44 (0, 0)) := fun c hc => by
  unfold Rd at h
  rw [h] at hc
  cases hc
theorem AtsO.kept {B1 : Nat} {xa : Value} {al : List Atr} {w w' : World} (h : AtsO B1 xa al w) (k : Kept w w') : AtsO B1 xa al w' := own_keep h (k.grownBy none) NoRow.none
theorem Ob.row {b : Nat} {w x y : World} {row : Option Nat} (h : Ob b w x) (hg : x.grownBy y row) (hr : ∀ k, row = some k → w.heap.size ≤ k) : Ob b w y :=
  ⟨hg.os.trans h.os, hg.tape.trans h.tape, hg.output.trans h.output, Nat.le_trans h.size hg.size, fun k hk hb => (hg.block k (Nat.lt_of_lt_of_le hk h.size) (fun e => by have := hr k e.symm; omega)).trans (h.block k hk hb)⟩
/-- how far the attributes have been read -/
def AtI (s y : B) (at1 : Nat) (acc : List Atr) (e : Int) : Prop :=
  at1 ≤ s.length ∧ ((e = 0 ∧ ∃ f, (s.drop at1).length < f ∧ atrs (y.length + 1) y [] = atrs f (s.drop at1) acc) ∨ (e = 2 ∧ atrs (y.length + 1) y [] = none))
def dup (acc : List Atr) (a : Atr) : Bool := (acc.map (·.1)).contains a.1
theorem dup_take {acc : List Atr} {a x : Atr} {k : Nat} (h : acc[k]? = some x) : dup (acc.take (k + 1)) a = (dup (acc.take k) a || x.1 == a.1) := by
  unfold dup
  rw [List.take_add_one, h]
  simp [Bool.beq_comm]
  rw [Bool.eq_iff_iff]; simp
theorem atr_suf {r u : B} {a : Atr} (h : atr r = some (a, u)) : u <:+ r := by
  have e := nmS_eq r
  unfold atr at h
  split at h
  · split at h
    · rename_i q t e1
      split at h
      · split at h
        · rename_i raw v e2
          split at h
          · cases h
          · split at h
            · simp only [Option.some.injEq, Prod.mk.injEq] at h
              obtain ⟨_, rfl⟩ := h
              have e3 := (upt_len (by simp) e2).2
              rw [e1, e3] at e
              exact ⟨(nmS r).1 ++ 61 :: q :: (raw ++ [q]), by conv => rhs; rw [e]
                                                              simp⟩
            · cases h
        · cases h
      · cases h
    · cases h
  · cases h
theorem atI_next {s y : B} {at1 at2 at3 : Nat} {acc : List Atr} (h : AtI s y at1 acc 0) (h2 : s.drop at2 = skip (s.drop at1)) (hl2 : at2 ≤ s.length) (hte : tagEnd (s.drop at2) = false) (hsp : ¬ at2 = at1) (hne : at2 < s.length) {a : Atr} {e3 e4 : Int} (hl3 : at3 ≤ s.length)
    (h3 : match atr (s.drop at2) with
      | some (a', u) => a = a' ∧ at3 = s.length - u.length ∧ e3 = 0
      | none => e3 = 2) (h4 : e4 = if dup acc a = true then er1 e3 2 else e3) : AtI s y at3 (acc ++ [a]) e4 := by
  refine ⟨hl3, ?_⟩
  rcases h.2 with ⟨_, f, hf, hA⟩ | ⟨q, _⟩
  · show (e4 = 0 ∧ ∃ f, (s.drop at3).length < f ∧ atrs (y.length + 1) y [] = atrs f (s.drop at3) (acc ++ [a])) ∨ (e4 = 2 ∧ atrs (y.length + 1) y [] = none)
    generalize atrs (y.length + 1) y [] = Z at hA ⊢
    cases f with
    | zero => omega
    | succ f =>
      have hlen : (skip (s.drop at1)).length ≠ (s.drop at1).length := by
        rw [← h2, List.length_drop, List.length_drop]
        have := h.1
        omega
      have hnn : skip (s.drop at1) ≠ [] := by
        rw [← h2]
        intro e
        have := congrArg List.length e
        rw [List.length_drop] at this
        simp at this; omega
      rw [atrs, ← h2, hte, if_neg (by decide), h2, if_neg (by rintro (q | q); exact hlen q; exact hnn q), ← h2] at hA
      have e00 : er1 0 2 = 2 := rfl
      have e22 : er1 2 2 = 2 := rfl
      cases hq : atr (s.drop at2) with
      | none =>
        rw [hq] at h3 hA
        simp only at h3 hA
        right
        refine ⟨?_, hA⟩
        rw [h4, h3, e22]; split <;> rfl
      | some x =>
        obtain ⟨a', u⟩ := x
        rw [hq] at h3 hA
        simp only at h3 hA
        obtain ⟨rfl, rfl, rfl⟩ := h3
        by_cases hd : dup acc a = true
        · rw [if_pos hd, e00] at h4
          right
          refine ⟨h4, ?_⟩
          rw [hA, if_pos (show (acc.map (·.1)).contains a.1 = true from hd)]
        · rw [if_neg hd] at h4
          left
          refine ⟨h4, f, ?_, ?_⟩
          · have hul := atr_len hq
            have := skip_len (s.drop at1)
            rw [← h2] at this
            have hu2 : u.length ≤ s.length := by rw [List.length_drop] at hul; omega
            rw [List.length_drop]
            omega
          · rw [hA, if_neg (show ¬ (acc.map (·.1)).contains a.1 = true from hd)]
            have hsd := suf_drop (s := s) (y := s.drop at2) (z := u) (by rw [List.length_drop, show s.length - (s.length - at2) = at2 by omega]) (by rw [List.length_drop]; omega) (atr_suf hq)
            rw [hsd.1]
  · cases q
theorem tag_end (y : B) : tagEnd y = (([62] : B).isPrefixOf y || ([47, 62] : B).isPrefixOf y) := by
  rw [Bool.eq_iff_iff, Bool.or_eq_true, pfx_one, List.isPrefixOf_iff_prefix]
  unfold tagEnd
  constructor
  · intro h
    split at h
    · exact Or.inl ⟨_, rfl⟩
    · rename_i t; exact Or.inr ⟨t, rfl⟩
    · cases h
  · rintro (⟨t, rfl⟩ | ⟨t, rfl⟩)
    · rfl
    · rfl
theorem flat2 : ∀ {acc : List Atr} {k : Nat} {x : Atr}, acc[k]? = some x → (acc.flatMap fun a => [sV a.1, sV a.2])[2 * k]? = some (sV x.1)
  | [], k, x, h => by simp at h
  | a :: acc, 0, x, h => by
    simp only [List.getElem?_cons_zero, Option.some.injEq] at h
    subst h; rfl
  | a :: acc, k + 1, x, h => by
    simp only [List.getElem?_cons_succ] at h
    rw [List.flatMap_cons, show 2 * (k + 1) = 2 * k + 2 by omega]
    exact flat2 h
theorem atI_bad {s y : B} {at1 at2 : Nat} {acc : List Atr} (h : AtI s y at1 acc 0) (h2 : s.drop at2 = skip (s.drop at1)) (hte : tagEnd (s.drop at2) = false) (hb : at2 = at1 ∨ s.length ≤ at2) : atrs (y.length + 1) y [] = none := by
  rcases h.2 with ⟨_, f, hf, hA⟩ | ⟨q, _⟩
  · rw [hA]
    cases f with
    | zero => omega
    | succ f =>
      rw [atrs, ← h2, hte, if_neg (by decide), if_pos]
      rcases hb with rfl | q
      · exact Or.inl rfl
      · exact Or.inr (List.drop_eq_nil_of_le q)
  · cases q
theorem atI_end {s y : B} {at1 at2 : Nat} {acc : List Atr} (h : AtI s y at1 acc 0) (h2 : s.drop at2 = skip (s.drop at1)) (hte : tagEnd (s.drop at2) = true) : atrs (y.length + 1) y [] = some (acc, s.drop at2) := by
  rcases h.2 with ⟨_, f, hf, hA⟩ | ⟨q, _⟩
  · rw [hA]
    cases f with
    | zero => omega
    | succ f => rw [atrs, ← h2, hte, if_pos rfl]
  · cases q
theorem AtP.same {b : Nat} {s : B} {at0 : Nat} {ov : Value} {n : Nat} {lv : Value} {w w' : World} {r : Ending} (h : AtP b s at0 ov n lv w r w') (ha : at0 ≤ s.length) :
    Ob b w w' ∧ ∃ a at3 e3, r = .returned (atV a) ∧ at3 ≤ s.length ∧ Rd b s at3 ov n lv e3 w' ∧ (e3 = 0 ∨ e3 = 2) ∧ (e3 = 0 → at0 < at3) ∧
      (match atr (s.drop at0) with
      | some (a', u) => a = a' ∧ at3 = s.length - u.length ∧ e3 = 0
      | none => e3 = 2) := by
  obtain ⟨h1, h2⟩ := h
  refine ⟨h1, ?_⟩
  cases hq : atr (s.drop at0) with
  | none =>
    rw [hq] at h2
    obtain ⟨a, at1, q1, q2, q3⟩ := h2
    exact ⟨a, at1, 2, q1, q2, q3, Or.inr rfl, (fun e => by cases e), rfl⟩
  | some x =>
    obtain ⟨a, u⟩ := x
    rw [hq] at h2
    obtain ⟨q1, q2⟩ := h2
    have hul := atr_len hq
    rw [List.length_drop] at hul
    exact ⟨a, s.length - u.length, 0, q1, by omega, q2, Or.inl rfl, (fun _ => by omega), rfl, rfl, rfl⟩
end Go.Proofs.YtknggeplnffegaaGreatDoor
