/- Several texts of this seat, one behind the other. -/
import Derived.Test.YtflhmgnhjnaiiaaGreatDoorXmY
import Derived.Test.YtflhmgnhjnaiiaaGreatDoorXpI
import Derived.Laws.IdiomStrings
import Derived.Lib.ConvBytes
set_option linter.unusedSimpArgs false
/- The document's own answers of layer xml: Tokens. -/
set_option linter.unusedVariables false
namespace Go.Proofs.YtflhmgnhjnaiiaaGreatDoor
open Go.ChangeShapes Go.WideShapes Go.ChangeAt Go.RowKit
open En Xm
theorem step_n {s s' : St} (h : Xm.step s = .ok s') (hn : s.n ≤ 1) : s'.n ≤ 1 := by
  have pass : ∀ (p : B) (k : Nat), passS p k s = .ok s' → s'.n ≤ 1 := fun p k h => by
    unfold passS at h
    split at h
    · cases h
    · cases h; exact hn
  unfold Xm.step at h
  split at h
  · unfold plainS at h
    simp only at h
    split at h
    · cases h
    · cases h; exact hn
  split at h
  · exact pass _ _ h
  split at h
  · exact pass _ _ h
  split at h
  · unfold dataS at h
    split at h
    · cases h
    · split at h
      · cases h
      · cases h; exact hn
  split at h
  · exact pass _ _ h
  split at h
  · unfold endS at h
    simp only at h
    split at h
    · split at h
      · obtain ⟨_, rfl⟩ := shut_ok h; exact hn
      · cases h
    · cases h
  · unfold openS at h
    simp only at h
    split at h
    · split at h
      · cases h
      · split at h
        · cases h
        · rename_i hb
          have hn1 : (if s.o = [] then s.n + 1 else s.n) ≤ 1 := by
            split
            · rename_i q
              have : ¬ 1 ≤ s.n := fun q2 => hb ⟨q, q2⟩
              omega
            · exact hn
          split at h
          · cases h
          · split at h
            · cases h; exact hn1
            · obtain ⟨_, rfl⟩ := shut_ok h; exact hn1
            · cases h
    · cases h
theorem shut_r {nm r : B} {s s' : St} (h : shut nm r s = .ok s') : s'.r = r := by
  obtain ⟨_, rfl⟩ := shut_ok h; rfl
theorem upt_suf {p r a u : B} (hp : p ≠ []) (h : upt p r = some (a, u)) : u <:+ r := by
  have := (upt_len hp h).2
  exact ⟨a ++ p, this.symm⟩
theorem atrs_suf : ∀ (f : Nat) (r : B) (acc : List Atr) (al : List Atr) (u : B), atrs f r acc = some (al, u) → u <:+ r
  | 0, _, _, _, _, h => by cases h
  | f + 1, r, acc, al, u, h => by
    rw [atrs] at h
    have hs := skip_suf r
    split at h
    · simp only [Option.some.injEq, Prod.mk.injEq] at h
      obtain ⟨_, rfl⟩ := h
      exact hs
    · split at h
      · cases h
      · split at h
        · cases h
        · rename_i a v e
          have := atr_suf e
          split at h
          · cases h
          · exact ((atrs_suf f _ _ _ _ h).trans this).trans hs
theorem nm_suf (r : B) : (nmS r).2 <:+ r := ⟨(nmS r).1, (nmS_eq r).symm⟩
theorem cons_suf {c : UInt8} {u r : B} (h : c :: u <:+ r) : u <:+ r := (List.suffix_cons c u).trans h
theorem step_suf {s s' : St} (h : Xm.step s = .ok s') : s'.r <:+ s.r := by
  have pass : ∀ (p : B) (k : Nat), p ≠ [] → passS p k s = .ok s' → s'.r <:+ s.r := fun p k hp h => by
    unfold passS at h
    split at h
    · cases h
    · rename_i a u e
      cases h
      exact (upt_suf hp e).trans (List.drop_suffix _ _)
  unfold Xm.step at h
  split at h
  · unfold plainS at h
    simp only at h
    split at h
    · cases h
    · cases h
      exact List.dropWhile_suffix _
  split at h
  · exact pass _ _ (by simp) h
  split at h
  · exact pass _ _ (by simp) h
  split at h
  · unfold dataS at h
    split at h
    · cases h
    · rename_i a u e
      split at h
      · cases h
      · cases h
        exact (upt_suf (by simp) e).trans (List.drop_suffix _ _)
  split at h
  · exact pass _ _ (by simp) h
  split at h
  · unfold endS at h
    simp only at h
    split at h
    · split at h
      · rename_i u e
        rw [shut_r h]
        have h1 := skip_suf (nmS (s.r.drop 2)).2
        rw [e] at h1
        exact ((cons_suf h1).trans (nm_suf _)).trans (List.drop_suffix _ _)
      · cases h
    · cases h
  · unfold openS at h
    simp only at h
    split at h
    · split at h
      · cases h
      · rename_i al u e
        have h1 := ((atrs_suf _ _ _ _ _ e).trans (nm_suf _)).trans (List.drop_suffix 1 s.r)
        split at h
        · cases h
        · split at h
          · cases h
          · split at h
            · cases h
              exact cons_suf h1
            · rw [shut_r h]
              exact cons_suf (cons_suf h1)
            · cases h
    · cases h
theorem below_kk {B0 : Nat} {a w w' : World} (h : Below B0 a w) (k : Kept w w') (hB : B0 ≤ w.heap.size) : Below B0 a w' := h.grown (k.grownBy none) hB (fun k hk => by cases hk)
/-- within the loop over a document -/
def LpI (doc : B) (rr : Re) (a : Nat) (o : List B) (n : Nat) (l : List Tk) (e : Int) : Prop :=
  (e = 0 ∧ ∃ f, (doc.drop a).length ≤ f ∧ Xm.run f ⟨doc.drop a, o, n, l⟩ = rr ∧ l.length + 2 * (doc.length - a) ≤ 200000 ∧ o.length ≤ 20 ∧ n ≤ 1) ∨ (e ≠ 0 ∧ rr = .er e)
end Go.Proofs.YtflhmgnhjnaiiaaGreatDoor
/- Pieces in memory, to be read alone; the document's Same. -/
set_option linter.unusedVariables false
namespace Go.Proofs.YtflhmgnhjnaiiaaGreatDoor
open Go.ChangeShapes Go.WideShapes Go.ChangeAt Go.RowKit
open En Xm
/-- attributes, to be read -/
def AtRd (v : Value) (al : List Atr) (w : World) : Prop := ∃ a c, v = .slice a al.length c ∧ (al ≠ [] → ∃ g o, a = some ⟨g, o, none⟩ ∧ al.length ≤ c ∧ ∀ (i : Nat) (t : Atr), al[i]? = some t → w.cell? ⟨g, o + i * 2, none⟩ = some (sV t.1) ∧ w.cell? ⟨g, o + i * 2 + 1, none⟩ = some (sV t.2))
/-- a piece's cells -/
def TkAt (g o : Nat) (t : Tk) (x : Value) (w : World) : Prop := w.cell? ⟨g, o, none⟩ = some (iV t.1) ∧ w.cell? ⟨g, o + 1, none⟩ = some (sV t.2.1) ∧ w.cell? ⟨g, o + 2, none⟩ = some (sV t.2.2.1) ∧ w.cell? ⟨g, o + 3, none⟩ = some x ∧ AtRd x t.2.2.2 w
/-- pieces, to be read -/
def TkRd (v : Value) (l : List Tk) (w : World) : Prop := ∃ a c, v = .slice a l.length c ∧ (l ≠ [] → ∃ g o, a = some ⟨g, o, none⟩ ∧ l.length ≤ c ∧ ∀ (i : Nat) (t : Tk), l[i]? = some t → ∃ x, TkAt g (o + i * 4) t x w)
theorem AtRd.kept {v : Value} {al : List Atr} {w w' : World} (h : AtRd v al w) (k : Kept w w') : AtRd v al w' := by
  obtain ⟨a, c, hv, h⟩ := h
  refine ⟨a, c, hv, fun hne => ?_⟩
  obtain ⟨g, o, ha, hc, h⟩ := h hne
  exact ⟨g, o, ha, hc, fun i t ht => ⟨k.yes (h i t ht).1, k.yes (h i t ht).2⟩⟩
theorem TkAt.kept {g o : Nat} {t : Tk} {x : Value} {w w' : World} (h : TkAt g o t x w) (k : Kept w w') : TkAt g o t x w' := ⟨k.yes h.1, k.yes h.2.1, k.yes h.2.2.1, k.yes h.2.2.2.1, h.2.2.2.2.kept k⟩
theorem TkRd.kept {v : Value} {l : List Tk} {w w' : World} (h : TkRd v l w) (k : Kept w w') : TkRd v l w' := by
  obtain ⟨a, c, hv, h⟩ := h
  refine ⟨a, c, hv, fun hne => ?_⟩
  obtain ⟨g, o, ha, hc, h⟩ := h hne
  exact ⟨g, o, ha, hc, fun i t ht => by
    obtain ⟨x, hx⟩ := h i t ht
    exact ⟨x, hx.kept k⟩⟩
theorem AtRd.slice {v : Value} {al : List Atr} {w : World} (h : AtRd v al w) : ∃ a c, v = .slice a al.length c := by
  obtain ⟨a, c, hv, _⟩ := h
  exact ⟨a, c, hv⟩
theorem TkRd.slice {v : Value} {l : List Tk} {w : World} (h : TkRd v l w) : ∃ a c, v = .slice a l.length c := by
  obtain ⟨a, c, hv, _⟩ := h
  exact ⟨a, c, hv⟩
theorem TkRd.at {a : Option Addr} {n c : Nat} {l : List Tk} {w : World} (h : TkRd (.slice a n c) l w) {i : Nat} {t : Tk} (ht : l[i]? = some t) : n = l.length ∧ ∃ g o x, a = some ⟨g, o, none⟩ ∧ l.length ≤ c ∧ TkAt g (o + i * 4) t x w := by
  obtain ⟨a', c', hv, h⟩ := h
  cases hv
  obtain ⟨g, o, ha, hc, h⟩ := h (fun e => by rw [e] at ht; simp at ht)
  obtain ⟨x, hx⟩ := h i t ht
  exact ⟨rfl, g, o, x, ha, hc, hx⟩
theorem AtRd.at {a : Option Addr} {n c : Nat} {al : List Atr} {w : World} (h : AtRd (.slice a n c) al w) {i : Nat} {t : Atr} (ht : al[i]? = some t) : n = al.length ∧ ∃ g o, a = some ⟨g, o, none⟩ ∧ al.length ≤ c ∧ w.cell? ⟨g, o + i * 2, none⟩ = some (sV t.1) ∧ w.cell? ⟨g, o + i * 2 + 1, none⟩ = some (sV t.2) := by
  obtain ⟨a', c', hv, h⟩ := h
  cases hv
  obtain ⟨g, o, ha, hc, h⟩ := h (fun e => by rw [e] at ht; simp at ht)
  exact ⟨rfl, g, o, ha, hc, (h i t ht).1, (h i t ht).2⟩
theorem flat2b : ∀ {acc : List Atr} {k : Nat} {x : Atr}, acc[k]? = some x → (acc.flatMap fun a => [sV a.1, sV a.2])[k * 2]? = some (sV x.1) ∧ (acc.flatMap fun a => [sV a.1, sV a.2])[k * 2 + 1]? = some (sV x.2)
  | [], k, x, h => by simp at h
  | a :: acc, 0, x, h => by
    simp only [List.getElem?_cons_zero, Option.some.injEq] at h
    subst h; exact ⟨rfl, rfl⟩
  | a :: acc, k + 1, x, h => by
    simp only [List.getElem?_cons_succ] at h
    rw [List.flatMap_cons, show (k + 1) * 2 = k * 2 + 2 by omega, show k * 2 + 2 + 1 = k * 2 + 1 + 2 by omega]
    exact flat2b h
theorem flat4 : ∀ {l : List Tk} {vs : List Value} {k : Nat} {t : Tk} {x : Value}, l[k]? = some t → vs[k]? = some x → (tkCells l vs)[k * 4]? = some (iV t.1) ∧ (tkCells l vs)[k * 4 + 1]? = some (sV t.2.1) ∧ (tkCells l vs)[k * 4 + 2]? = some (sV t.2.2.1) ∧ (tkCells l vs)[k * 4 + 3]? = some x
  | [], vs, k, t, x, h, _ => by simp at h
  | t' :: l, [], k, t, x, _, h => by simp at h
  | t' :: l, v :: vs, 0, t, x, h1, h2 => by
    simp only [List.getElem?_cons_zero, Option.some.injEq] at h1 h2
    subst h1 h2; exact ⟨rfl, rfl, rfl, rfl⟩
  | t' :: l, v :: vs, k + 1, t, x, h1, h2 => by
    simp only [List.getElem?_cons_succ] at h1 h2
    have : tkCells (t' :: l) (v :: vs) = [iV t'.1, sV t'.2.1, sV t'.2.2.1, v] ++ tkCells l vs := rfl
    rw [this, show (k + 1) * 4 = k * 4 + 4 by omega, show k * 4 + 4 + 1 = k * 4 + 1 + 4 by omega, show k * 4 + 4 + 2 = k * 4 + 2 + 4 by omega, show k * 4 + 4 + 3 = k * 4 + 3 + 4 by omega]
    exact flat4 h1 h2
theorem AtsO.rd {B0 : Nat} {v : Value} {al : List Atr} {w : World} (h : AtsO B0 v al w) : AtRd v al w := by
  by_cases hne : al = []
  · obtain ⟨a, c, hv⟩ := own_slice h
    exact ⟨a, c, hv, fun q => absurd hne q⟩
  · obtain ⟨g, cap, hv, hc, _⟩ := own_some h (fun e => hne (List.length_eq_zero_iff.1 e))
    refine ⟨_, cap, hv, fun _ => ⟨g, 0, rfl, hc, fun i t ht => ?_⟩⟩
    have hi := (List.getElem?_eq_some_iff.1 ht).1
    have h' := h
    unfold AtsO at h'
    rw [hv] at h'
    obtain ⟨f1, f2⟩ := flat2b ht
    rw [Nat.zero_add]
    exact ⟨by rw [World.ownsRow.cellAt h' (i * 2) (by omega), f1], by rw [World.ownsRow.cellAt h' (i * 2 + 1) (by omega), f2]⟩
theorem TokO.rd {B0 : Nat} {v : Value} {l : List Tk} {w : World} (h : TokO B0 v l w) : TkRd v l w := by
  obtain ⟨vs, hvs, h, hA⟩ := h
  by_cases hne : l = []
  · obtain ⟨a, c, hv⟩ := own_slice h
    exact ⟨a, c, hv, fun q => absurd hne q⟩
  · obtain ⟨g, cap, hv, hc, _⟩ := own_some h (fun e => hne (List.length_eq_zero_iff.1 e))
    refine ⟨_, cap, hv, fun _ => ⟨g, 0, rfl, hc, fun i t ht => ?_⟩⟩
    have hi := (List.getElem?_eq_some_iff.1 ht).1
    obtain ⟨x, hx⟩ : ∃ x, vs[i]? = some x := ⟨_, List.getElem?_eq_getElem (by omega)⟩
    have h' := h
    rw [hv] at h'
    obtain ⟨f1, f2, f3, f4⟩ := flat4 ht hx
    rw [Nat.zero_add]
    refine ⟨x, ?_, ?_, ?_, ?_, (hA i t x ht hx).rd⟩
    · rw [World.ownsRow.cellAt h' (i * 4) (by omega), f1]
    · rw [World.ownsRow.cellAt h' (i * 4 + 1) (by omega), f2]
    · rw [World.ownsRow.cellAt h' (i * 4 + 2) (by omega), f3]
    · rw [World.ownsRow.cellAt h' (i * 4 + 3) (by omega), f4]
theorem take_eq {α : Type} {l l' : List α} {i : Nat} {a b : α} (h : l.take i = l'.take i) (ha : l[i]? = some a) (hb : l'[i]? = some b) (he : a = b) : l.take (i + 1) = l'.take (i + 1) := by
  rw [List.take_add_one, List.take_add_one, h, ha, hb, he]
theorem take_ne {α : Type} {l l' : List α} {i : Nat} {a b : α} (ha : l[i]? = some a) (hb : l'[i]? = some b) (he : a ≠ b) : l ≠ l' := fun e => by
  rw [e, hb] at ha
  cases ha
  exact he rfl
theorem tk_ext {t t' : Tk} (h1 : t.1 = t'.1) (h2 : t.2.1 = t'.2.1) (h3 : t.2.2.1 = t'.2.2.1) (h4 : t.2.2.2 = t'.2.2.2) : t = t' := by
  obtain ⟨a, b, c, d⟩ := t
  obtain ⟨a', b', c', d'⟩ := t'
  simp only at h1 h2 h3 h4
  rw [h1, h2, h3, h4]
theorem if_ok (c : Prop) [Decidable c] (x y : Bool) (w : World) : (if c then Result.ok x w else Result.ok y w) = Result.ok (if c then x else y) w := by split <;> rfl
theorem if_bb (c : Prop) [Decidable c] (b : Bool) : (if c then b else false) = (decide c && b) := by by_cases h : c <;> simp [h]
set_option maxRecDepth 100000 in
theorem eq_atr (a b : Atr) (w : World) : (Op.equalIn 10000 120 (atV a) (atV b)).run Tryz.prog w = .ok (a == b) w := by
  have h1 : Tryz.prog.stoodInHeld 120 = false := by kernel_rfl
  rw [run_equalIn_struct w 9999 120 _ _ (by simp [go_sem]) h1]
  simp [go_sem]
  simp only [if_ok, if_bb, Bool.and_true]
  congr 1
  rw [Bool.eq_iff_iff]
  obtain ⟨a1, a2⟩ := a
  obtain ⟨b1, b2⟩ := b
  simp
theorem neq_atr (a b : Atr) (w : World) : (binOp .neq 120 (atV a) (atV b)).run Tryz.prog w = .ok (.bool (!(a == b))) w := by
  rw [run_neq_struct, eq_atr]; rfl
def SmP {α : Type} [DecidableEq α] (l l' : List α) (w : World) (e : Ending) (w' : World) : Prop := e = .returned (.bool (decide (l = l'))) ∧ Kept w w'
theorem SmP.no {α : Type} [DecidableEq α] {l l' : List α} {w w' : World} (h : l ≠ l') (k : Kept w w') : SmP l l' w (.returned (.bool false)) w' := ⟨by rw [decide_eq_false h], k⟩
theorem SmP.yes {α : Type} [DecidableEq α] {l l' : List α} {w w' : World} (h : l = l') (k : Kept w w') : SmP l l' w (.returned (.bool true)) w' := ⟨by rw [decide_eq_true h], k⟩
end Go.Proofs.YtflhmgnhjnaiiaaGreatDoor
/- Package xml: Same. -/
set_option linter.unusedVariables false
namespace Go.Proofs.YtflhmgnhjnaiiaaGreatDoor
open Go.ChangeShapes Go.WideShapes Go.ChangeAt Go.RowKit
open En Xm
abbrev tkV (t : Tk) (x : Value) : Value := .agg #[iV t.1, sV t.2.1, sV t.2.2.1, x]
def PsP (t t' : Tk) (w : World) (e : Ending) (w' : World) : Prop := e = .returned (.bool (decide (t = t'))) ∧ Kept w w'
end Go.Proofs.YtflhmgnhjnaiiaaGreatDoor
/- Bytes in memory, to be read; conversions of them. -/
set_option linter.unusedVariables false
namespace Go.Proofs.YtflhmgnhjnaiiaaGreatDoor
open Go.ChangeShapes Go.WideShapes Go.ChangeAt Go.RowKit
open En Xm
/-- bytes, to be read -/
def BRd (v : Value) (l : B) (w : World) : Prop := ∃ a c, v = .slice a l.length c ∧ (l ≠ [] → ∃ g o, a = some ⟨g, o, none⟩ ∧ l.length ≤ c ∧ ∀ (i : Nat) (x : UInt8), l[i]? = some x → w.cell? ⟨g, o + i, none⟩ = some (.int .u8 x.toNat))
theorem BRd.kept {v : Value} {l : B} {w w' : World} (h : BRd v l w) (k : Kept w w') : BRd v l w' := by
  obtain ⟨a, c, hv, h⟩ := h
  refine ⟨a, c, hv, fun hne => ?_⟩
  obtain ⟨g, o, ha, hc, h⟩ := h hne
  exact ⟨g, o, ha, hc, fun i t ht => k.yes (h i t ht)⟩
theorem BRd.slice {v : Value} {l : B} {w : World} (h : BRd v l w) : ∃ a c, v = .slice a l.length c := by
  obtain ⟨a, c, hv, _⟩ := h
  exact ⟨a, c, hv⟩
theorem conv_none (c : Nat) (w : World) : (convert 30 9 (.slice none 0 c)).run Tryz.prog w = .ok (sV []) w := by kernel_rfl
theorem BRd.conv {v : Value} {l : B} {w : World} (h : BRd v l w) : (convert 30 9 v).run Tryz.prog w = .ok (sV l) w := by
  obtain ⟨a, c, rfl, h⟩ := h
  cases l with
  | nil =>
    cases a with
    | none => exact conv_none c w
    | some a => exact run_convert_bytes_back w _ _ _ a c [] Tryz.underlying30 Tryz.underlying5 Tryz.underlying9 (fun j hj => absurd hj (by simp))
  | cons b l =>
    obtain ⟨g, o, rfl, hc, h⟩ := h (by simp)
    exact run_convert_bytes_back w _ _ _ ⟨g, o, none⟩ c (b :: l) Tryz.underlying30 Tryz.underlying5 Tryz.underlying9 (fun j hj => by rw [Addr.add_lit]; exact h j _ (List.getElem?_eq_getElem hj))
theorem str_app (a b : B) : (⟨a.toArray⟩ ++ ⟨b.toArray⟩ : ByteArray) = ⟨(a ++ b).toArray⟩ := by
  apply ByteArray.ext; simp [ByteArray.data_append]
theorem str_lit (s : B) : (⟨s.toArray⟩ : ByteArray).size = s.length := by simp [ByteArray.size]
/-- bytes of a text -/
theorem to_bytes (s : B) (w : World) : ∃ c w', (convert 9 30 (sV s)).run Tryz.prog w = .ok (.slice (some ⟨w.heap.size, 0, none⟩) s.length c) w' ∧ Kept w w' ∧ BRd (.slice (some ⟨w.heap.size, 0, none⟩) s.length c) s w' := by
  have h := Lib.run_convert_string_bytes (P := Tryz.prog) w 9 30 5 ⟨s.toArray⟩ Tryz.underlying9 Tryz.underlying30 Tryz.underlying5
  rw [str_lit] at h
  refine ⟨_, _, h, ?_, ?_⟩
  · exact ⟨rfl, rfl, by rw [Lib.bytesWorld_size]; omega, fun k hk => Lib.bytesWorld_at_old w _ _ k hk, rfl⟩
  · refine ⟨_, _, rfl, fun _ => ⟨_, _, rfl, grownCap_ge _ _ _ _, fun i x hx => ?_⟩⟩
    have hi : i < s.length := (List.getElem?_eq_some_iff.1 hx).1
    rw [Nat.zero_add, Lib.bytesWorld_cell w _ _ i (by rw [str_lit]; exact hi)]
    simp [List.getD, hx]
theorem kept_row {w y z : World} {row : Option Nat} (k : Kept w y) (hg : y.grownBy z row) (hr : ∀ g, row = some g → w.heap.size ≤ g) : Kept w z :=
  ⟨hg.os.trans k.os, hg.output.trans k.output, Nat.le_trans k.size hg.size, fun j hj => (hg.block j (Nat.lt_of_lt_of_le hj k.size) (fun e => by have := hr j e.symm; omega)).trans (k.block j hj), hg.tape.trans k.tape⟩
theorem grown_cell {y z : World} {row : Option Nat} {a : Addr} {v : Value} (hg : y.grownBy z row) (h : y.cell? a = some v) (hne : row ≠ some a.block) : z.cell? a = some v := by
  have hlt : a.block < y.heap.size := by
    unfold World.cell? at h
    split at h
    · rename_i c e1 e2 hb; exact (Array.getElem?_eq_some_iff.1 hb).1
    · cases h
  have hb := hg.block a.block hlt (Ne.symm hne)
  unfold World.cell? at h ⊢
  rw [hb]
  exact h
end Go.Proofs.YtflhmgnhjnaiiaaGreatDoor
