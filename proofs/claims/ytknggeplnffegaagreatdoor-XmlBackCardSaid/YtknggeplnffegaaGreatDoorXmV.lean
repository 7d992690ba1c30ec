/- Pieces in memory, to be read alone; the document's Same. -/
import Derived.Test.YtknggeplnffegaaGreatDoorXmU
set_option linter.unusedVariables false
namespace Go.Proofs.YtknggeplnffegaaGreatDoor
open Go.ChangeShapes Go.WideShapes Go.ChangeAt Go.RowKit
open En Xm
/-- attributes, to be read -/
def AtRd (v : Value) (al : List Atr) (w : World) : Prop := ∃ a c, v = .slice a al.length c ∧ (al ≠ [] → ∃ g o, a = some ⟨g, o, none⟩ ∧ al.length ≤ c ∧ ∀ (i : Nat) (t : Atr), al[i]? = some t → w.cell? ⟨g, o + i * 2, none⟩ = some (sV t.1) ∧ w.cell? ⟨g, o + i * 2 + 1, none⟩ = some (sV t.2))
/-- a piece's cells -/
def TkAt (g o : Nat) (t : Tk) (x : Value) (w : World) : Prop := w.cell? ⟨g, o, none⟩ = some (iV t.1) ∧ w.cell? ⟨g, o + 1, none⟩ = some (sV t.2.1) ∧ w.cell? ⟨g, o + 2, none⟩ = some (sV t.2.2.1) ∧ w.cell? ⟨g, o + 3, none⟩ = some x ∧ AtRd x t.2.2.2 w
/-- pieces, to be read -/
def TkRd (v : Value) (l : List Tk) (w : World) : Prop := ∃ a c, v = .slice a l.length c ∧ (l ≠ [] → ∃ g o, a = some ⟨g, o, none⟩ ∧ l.length ≤ c ∧ ∀ (i : Nat) (t : Tk), l[i]? = some t → ∃ x, TkAt g (o + i * 4) t x w)
theorem AtRd.kept {v : Value} {al : List Atr} {w w' : World} (h : AtRd v al w) (k : Kept w w') : AtRd v al w' := by
  obtain ⟨a, c, hv, h⟩ := h
  refine ⟨a, c, hv, fun hne => ?_⟩
  obtain ⟨g, o, ha, hc, h⟩ := h hne
  exact ⟨g, o, ha, hc, fun i t ht => ⟨k.yes (h i t ht).1, k.yes (h i t ht).2⟩⟩
theorem TkAt.kept {g o : Nat} {t : Tk} {x : Value} {w w' : World} (h : TkAt g o t x w) (k : Kept w w') : TkAt g o t x w' := ⟨k.yes h.1, k.yes h.2.1, k.yes h.2.2.1, k.yes h.2.2.2.1, h.2.2.2.2.kept k⟩
theorem TkRd.kept {v : Value} {l : List Tk} {w w' : World} (h : TkRd v l w) (k : Kept w w') : TkRd v l w' := by
  obtain ⟨a, c, hv, h⟩ := h
  refine ⟨a, c, hv, fun hne => ?_⟩
  obtain ⟨g, o, ha, hc, h⟩ := h hne
  exact ⟨g, o, ha, hc, fun i t ht => by
    obtain ⟨x, hx⟩ := h i t ht
    exact ⟨x, hx.kept k⟩⟩
theorem AtRd.slice {v : Value} {al : List Atr} {w : World} (h : AtRd v al w) : ∃ a c, v = .slice a al.length c := by
  obtain ⟨a, c, hv, _⟩ := h
  exact ⟨a, c, hv⟩
theorem TkRd.slice {v : Value} {l : List Tk} {w : World} (h : TkRd v l w) : ∃ a c, v = .slice a l.length c := by
  obtain ⟨a, c, hv, _⟩ := h
  exact ⟨a, c, hv⟩
theorem TkRd.at {a : Option Addr} {n c : Nat} {l : List Tk} {w : World} (h : TkRd (.slice a n c) l w) {i : Nat} {t : Tk} (ht : l[i]? = some t) : n = l.length ∧ ∃ g o x, a = some ⟨g, o, none⟩ ∧ l.length ≤ c ∧ TkAt g (o + i * 4) t x w := by
  obtain ⟨a', c', hv, h⟩ := h
  cases hv
  obtain ⟨g, o, ha, hc, h⟩ := h (fun e => by rw [e] at ht; simp at ht)
  obtain ⟨x, hx⟩ := h i t ht
  exact ⟨rfl, g, o, x, ha, hc, hx⟩
theorem AtRd.at {a : Option Addr} {n c : Nat} {al : List Atr} {w : World} (h : AtRd (.slice a n c) al w) {i : Nat} {t : Atr} (ht : al[i]? = some t) : n = al.length ∧ ∃ g o, a = some ⟨g, o, none⟩ ∧ al.length ≤ c ∧ w.cell? ⟨g, o + i * 2, none⟩ = some (sV t.1) ∧ w.cell? ⟨g, o + i * 2 + 1, none⟩ = some (sV t.2) := by
  obtain ⟨a', c', hv, h⟩ := h
  cases hv
  obtain ⟨g, o, ha, hc, h⟩ := h (fun e => by rw [e] at ht; simp at ht)
  exact ⟨rfl, g, o, ha, hc, (h i t ht).1, (h i t ht).2⟩
theorem flat2b : ∀ {acc : List Atr} {k : Nat} {x : Atr}, acc[k]? = some x → (acc.flatMap fun a => [sV a.1, sV a.2])[k * 2]? = some (sV x.1) ∧ (acc.flatMap fun a => [sV a.1, sV a.2])[k * 2 + 1]? = some (sV x.2)
  | [], k, x, h => by simp at h
  | a :: acc, 0, x, h => by
    simp only [List.getElem?_cons_zero, Option.some.injEq] at h
    subst h; exact ⟨rfl, rfl⟩
  | a :: acc, k + 1, x, h => by
    simp only [List.getElem?_cons_succ] at h
    rw [List.flatMap_cons, show (k + 1) * 2 = k * 2 + 2 by omega, show k * 2 + 2 + 1 = k * 2 + 1 + 2 by omega]
    exact flat2b h
theorem flat4 : ∀ {l : List Tk} {vs : List Value} {k : Nat} {t : Tk} {x : Value}, l[k]? = some t → vs[k]? = some x → (tkCells l vs)[k * 4]? = some (iV t.1) ∧ (tkCells l vs)[k * 4 + 1]? = some (sV t.2.1) ∧ (tkCells l vs)[k * 4 + 2]? = some (sV t.2.2.1) ∧ (tkCells l vs)[k * 4 + 3]? = some x
  | [], vs, k, t, x, h, _ => by simp at h
  | t' :: l, [], k, t, x, _, h => by simp at h
  | t' :: l, v :: vs, 0, t, x, h1, h2 => by
    simp only [List.getElem?_cons_zero, Option.some.injEq] at h1 h2
    subst h1 h2; exact ⟨rfl, rfl, rfl, rfl⟩
  | t' :: l, v :: vs, k + 1, t, x, h1, h2 => by
    simp only [List.getElem?_cons_succ] at h1 h2
    have : tkCells (t' :: l) (v :: vs) = [iV t'.1, sV t'.2.1, sV t'.2.2.1, v] ++ tkCells l vs := rfl
    rw [this, show (k + 1) * 4 = k * 4 + 4 by omega, show k * 4 + 4 + 1 = k * 4 + 1 + 4 by omega, show k * 4 + 4 + 2 = k * 4 + 2 + 4 by omega, show k * 4 + 4 + 3 = k * 4 + 3 + 4 by omega]
    exact flat4 h1 h2
theorem AtsO.rd {B0 : Nat} {v : Value} {al : List Atr} {w : World} (h : AtsO B0 v al w) : AtRd v al w := by
  by_cases hne : al = []
  · obtain ⟨a, c, hv⟩ := own_slice h
    exact ⟨a, c, hv, fun q => absurd hne q⟩
  · obtain ⟨g, cap, hv, hc, _⟩ := own_some h (fun e => hne (List.length_eq_zero_iff.1 e))
    refine ⟨_, cap, hv, fun _ => ⟨g, 0, rfl, hc, fun i t ht => ?_⟩⟩
    have hi := (List.getElem?_eq_some_iff.1 ht).1
    have h' := h
    unfold AtsO at h'
    rw [hv] at h'
    obtain ⟨f1, f2⟩ := flat2b ht
    rw [Nat.zero_add]
    exact ⟨by rw [World.ownsRow.cellAt h' (i * 2) (by omega), f1], by rw [World.ownsRow.cellAt h' (i * 2 + 1) (by omega), f2]⟩
theorem TokO.rd {B0 : Nat} {v : Value} {l : List Tk} {w : World} (h : TokO B0 v l w) : TkRd v l w := by
  obtain ⟨vs, hvs, h, hA⟩ := h
  by_cases hne : l = []
  · obtain ⟨a, c, hv⟩ := own_slice h
    exact ⟨a, c, hv, fun q => absurd hne q⟩
  · obtain ⟨g, cap, hv, hc, _⟩ := own_some h (fun e => hne (List.length_eq_zero_iff.1 e))
    refine ⟨_, cap, hv, fun _ => ⟨g, 0, rfl, hc, fun i t ht => ?_⟩⟩
    have hi := (List.getElem?_eq_some_iff.1 ht).1
    obtain ⟨x, hx⟩ : ∃ x, vs[i]? = some x := ⟨_, List.getElem?_eq_getElem (by omega)⟩
    have h' := h
    rw [hv] at h'
    obtain ⟨f1, f2, f3, f4⟩ := flat4 ht hx
    rw [Nat.zero_add]
    refine ⟨x, ?_, ?_, ?_, ?_, (hA i t x ht hx).rd⟩
    · rw [World.ownsRow.cellAt h' (i * 4) (by omega), f1]
    · rw [World.ownsRow.cellAt h' (i * 4 + 1) (by omega), f2]
    · rw [World.ownsRow.cellAt h' (i * 4 + 2) (by omega), f3]
    · rw [World.ownsRow.cellAt h' (i * 4 + 3) (by omega), f4]
theorem take_eq {α : Type} {l l' : List α} {i : Nat} {a b : α} (h : l.take i = l'.take i) (ha : l[i]? = some a) (hb : l'[i]? = some b) (he : a = b) : l.take (i + 1) = l'.take (i + 1) := by
  rw [List.take_add_one, List.take_add_one, h, ha, hb, he]
theorem take_ne {α : Type} {l l' : List α} {i : Nat} {a b : α} (ha : l[i]? = some a) (hb : l'[i]? = some b) (he : a ≠ b) : l ≠ l' := fun e => by
  rw [e, hb] at ha
  cases ha
  exact he rfl
theorem tk_ext {t t' : Tk} (h1 : t.1 = t'.1) (h2 : t.2.1 = t'.2.1) (h3 : t.2.2.1 = t'.2.2.1) (h4 : t.2.2.2 = t'.2.2.2) : t = t' := by
  obtain ⟨a, b, c, d⟩ := t
  obtain ⟨a', b', c', d'⟩ := t'
  simp only at h1 h2 h3 h4
  rw [h1, h2, h3, h4]
theorem if_ok (c : Prop) [Decidable c] (x y : Bool) (w : World) : (if c then Result.ok x w else Result.ok y w) = Result.ok (if c then x else y) w := by split <;> rfl
theorem if_bb (c : Prop) [Decidable c] (b : Bool) : (if c then b else false) = (decide c && b) := by by_cases h : c <;> simp [h]
set_option maxRecDepth 100000 in
theorem eq_atr (a b : Atr) (w : World) : (Op.equalIn 10000 44 (atV a) (atV b)).run Tryz.prog w = .ok (a == b) w := by
  have h1 : Tryz.prog.stoodInHeld 44 = false := by kernel_rfl
  rw [run_equalIn_struct w 9999 44 _ _ (by simp [go_sem]) h1]
  simp [go_sem]
  simp only [if_ok, if_bb, Bool.and_true]
  congr 1
  rw [Bool.eq_iff_iff]
  obtain ⟨a1, a2⟩ := a
  obtain ⟨b1, b2⟩ := b
  simp
theorem neq_atr (a b : Atr) (w : World) : (binOp .neq 44 (atV a) (atV b)).run Tryz.prog w = .ok (.bool (!(a == b))) w := by
  rw [run_neq_struct, eq_atr]; rfl
def SmP {α : Type} [DecidableEq α] (l l' : List α) (w : World) (e : Ending) (w' : World) : Prop := e = .returned (.bool (decide (l = l'))) ∧ Kept w w'
theorem SmP.no {α : Type} [DecidableEq α] {l l' : List α} {w w' : World} (h : l ≠ l') (k : Kept w w') : SmP l l' w (.returned (.bool false)) w' := ⟨by rw [decide_eq_false h], k⟩
theorem SmP.yes {α : Type} [DecidableEq α] {l l' : List α} {w w' : World} (h : l = l') (k : Kept w w') : SmP l l' w (.returned (.bool true)) w' := ⟨by rw [decide_eq_true h], k⟩
set_option maxRecDepth 100000 in
set_option maxHeartbeats 8000000 in
theorem rsame_any (v v' : Value) (l l' : List Tk) (w : World) (h : TkRd v l w) (h' : TkRd v' l' w) (hl : l.length ≤ 1000000) (hl' : l'.length ≤ 1000000) (hla : ∀ t ∈ l, t.2.2.2.length ≤ 1000000) :
    Calls Tryz.prog 12 #[v, v'] w (SmP l l' w) := by
  obtain ⟨a, c, hv⟩ := h.slice
  obtain ⟨a', c', hv'⟩ := h'.slice
  subst hv hv'
  by_cases hlen : l.length = l'.length
  · have HL := Lib.hid hlen
    rw [← hlen] at h' ⊢
    clear hl' hlen
    go_enter Tryz.func12, Tryz.ntmps12
    go_wp2_with fail
    go_loopw [5] (fun vi wr => ∃ i : Nat, i ≤ l.length ∧ vi = .int .i64 i ∧ Hid (Kept w wr) ∧ Hid (TkRd (.slice a l.length c) l wr) ∧ Hid (TkRd (.slice a' l.length c') l' wr) ∧ Hid (l.take i = l'.take i)) (fun vi _ => l.length - (intOf vi).toNat)
    case atStart => exact ⟨0, Nat.zero_le _, rfl, Lib.hid (Kept.refl w), Lib.hid h, Lib.hid h', Lib.hid rfl⟩
    case round =>
      obtain ⟨i, hi, rfl, hK, hA, hB, hT⟩ := hrel
      clear h h'
      by_cases hlt : i < l.length
      · have hltI : (i : Int) < l.length := by omega
        obtain ⟨t, ht⟩ : ∃ t, l[i]? = some t := ⟨_, List.getElem?_eq_getElem hlt⟩
        obtain ⟨t', ht'⟩ : ∃ t', l'[i]? = some t' := ⟨_, List.getElem?_eq_getElem (by rw [← HL.out]; exact hlt)⟩
        obtain ⟨-, g, o, x, ha, hc, d0, d1, d2, d3, hx⟩ := hA.out.at ht
        obtain ⟨-, g', o', x', ha', hc', e0, e1, e2, e3, hx'⟩ := hB.out.at ht'
        obtain ⟨pa, ca, hxs⟩ := hx.slice
        obtain ⟨pb, cb, hxs'⟩ := hx'.slice
        subst ha ha' hxs hxs'
        have hall : t.2.2.2.length ≤ 1000000 := hla t (List.mem_of_getElem? ht)
        have HN := Lib.hid (fun (q : t ≠ t') => take_ne ht ht' q)
        have HTT := Lib.hid (fun (q : t = t') => take_eq hT.out ht ht' q)
        clear ht ht' hT
        obtain ⟨k1, n1, s1, al1⟩ := t
        obtain ⟨k2, n2, s2, al2⟩ := t'
        simp only at d0 d1 d2 d3 e0 e1 e2 e3 hx hx' hall
        go_upto_region 6 with (fail)
        by_cases hk : k1 = k2
        · have bk : (k1 != k2) = false := by simp [hk]
          by_cases hn : n1 = n2
          · have bn : (n1 != n2) = false := by simp [hn]
            have bn' : (n1 == n2) = true := by simp [hn]
            by_cases hs : s1 = s2
            · have bs : (s1 != s2) = false := by simp [hs]
              have bs' : (s1 == s2) = true := by simp [hs]
              by_cases hal : al1.length = al2.length
              · have bl : ((al1.length : Int) != al2.length) = false := by simp; omega
                have HAL := Lib.hid (And.intro hk (And.intro hn (And.intro hs hal)))
                clear hk hn hs hal
                go_quiet (fail)
                have K1 := Lib.hid (hK.out.drewN nq)
                have kq := (Kept.refl wr).drewN nq
                have A1 := Lib.hid (hA.out.kept kq)
                have B1 := Lib.hid (hB.out.kept kq)
                have X1 := Lib.hid (hx.kept kq)
                have X1' := Lib.hid (hx'.kept kq)
                have D3 := Lib.hid (kq.yes d3)
                have E3 := Lib.hid (kq.yes e3)
                generalize wr.drewN nq = W1 at *
                clear hA hB hK hx hx' d0 d1 d2 d3 e0 e1 e2 e3 kq bk bn bn' bs bs' bl
                go_wp2_with fail
                go_loopw [6] (fun vj wr => ∃ j : Nat, j ≤ al1.length ∧ vj = .int .i64 j ∧ Hid (Kept w wr) ∧ Hid (Kept W1 wr) ∧ Hid (al1.take j = al2.take j)) (fun vj _ => al1.length - (intOf vj).toNat)
                case atStart => exact ⟨0, Nat.zero_le _, rfl, K1, Lib.hid (Kept.refl W1), Lib.hid rfl⟩
                case round =>
                  obtain ⟨j, hj, rfl, hK, hKq, hTj⟩ := hrel
                  have d3 := hKq.out.yes D3.out
                  have e3 := hKq.out.yes E3.out
                  have hlA : al1.length = al2.length := HAL.out.2.2.2
                  by_cases hjl : j < al1.length
                  · have hjI : (j : Int) < al1.length := by omega
                    have hjI2 : (j : Int) < al2.length := by omega
                    obtain ⟨u, hu⟩ : ∃ u, al1[j]? = some u := ⟨_, List.getElem?_eq_getElem hjl⟩
                    obtain ⟨u', hu'⟩ : ∃ u', al2[j]? = some u' := ⟨_, List.getElem?_eq_getElem (by omega)⟩
                    obtain ⟨-, ga, oa, hpa, hca, f0, f1⟩ := (X1.out.kept hKq.out).at hu
                    obtain ⟨-, gb, ob, hpb, hcb, g0, g1⟩ := (X1'.out.kept hKq.out).at hu'
                    subst hpa hpb
                    have hneq := neq_atr u u'
                    have HU := Lib.hid (fun (q : u ≠ u') => take_ne hu hu' q)
                    have HUT := Lib.hid (fun (q : u = u') => take_eq hTj.out hu hu' q)
                    clear hu hu' hTj hlA
                    by_cases huu : u = u'
                    · have bu : (u == u') = true := by simp [huu]
                      have HN2 := Lib.hid (HUT.out huu)
                      rw [bu] at hneq
                      clear huu bu
                      go_upto_region 11 with (fail)
                      go_quiet (fail)
                      obtain ⟨W2, hW2, K2, KQ2⟩ : ∃ W2, W2 = wr.drewN nq ∧ Hid (Kept w W2) ∧ Hid (Kept W1 W2) := ⟨_, rfl, Lib.hid (hK.out.drewN _), Lib.hid (hKq.out.drewN _)⟩
                      rw [← hW2]
                      clear hW2
                      clear hK hKq d3 e3 f0 f1 g0 g1
                      go_wp2
                      go_roundw
                      case rel => exact ⟨j + 1, hjl, by go_num, K2, KQ2, HN2⟩
                      case measure => simp [intOf]; omega
                    · have bu : (u == u') = false := by simp [huu]
                      rw [bu] at hneq
                      have hbad : l ≠ l' := HN.out (fun q => by
                        rw [Prod.mk.injEq, Prod.mk.injEq, Prod.mk.injEq] at q
                        exact HU.out huu q.2.2.2)
                      clear huu bu
                      go_upto_region 11 with (fail)
                      go_quiet (fail)
                      have Z := Lib.hid (show SmP l l' w (.returned (.bool false)) (wr.drewN nq) from SmP.no hbad (hK.out.drewN nq))
                      clear hK hKq d3 e3 f0 f1 g0 g1
                      go_wp2
                      go_ret
                      exact Z.out
                  · have hjI : ¬ (j : Int) < al1.length := by omega
                    have hee : ((k1, n1, s1, al1) : Tk) = (k2, n2, s2, al2) := by
                      have := hTj.out
                      rw [List.take_of_length_le (by omega), List.take_of_length_le (by omega)] at this
                      obtain ⟨q1, q2, q3, _⟩ := HAL.out
                      rw [q1, q2, q3, this]
                    have HN2 := Lib.hid (HTT.out hee)
                    have A2 := Lib.hid (A1.out.kept hKq.out)
                    have B2 := Lib.hid (B1.out.kept hKq.out)
                    clear hee HTT hTj hlA
                    go_wp2
                    go_roundw
                    case rel => exact ⟨i + 1, hlt, by go_num, hK, A2, B2, HN2⟩
                    case measure => simp [intOf]; omega
              · have bl : ((al1.length : Int) != al2.length) = true := by simp; omega
                have hbad : ((k1, n1, s1, al1) : Tk) ≠ (k2, n2, s2, al2) := fun q => hal (by rw [Prod.mk.injEq, Prod.mk.injEq, Prod.mk.injEq] at q; rw [q.2.2.2])
                clear hk hn hs hal
                go_quiet (fail)
                have Z := Lib.hid (show SmP l l' w (.returned (.bool false)) (wr.drewN nq) from SmP.no (HN.out hbad) (hK.out.drewN nq))
                clear hA hB hK HN HTT hx hx' d0 d1 d2 d3 e0 e1 e2 e3
                go_wp2
                go_ret
                exact Z.out
            · have bs : (s1 != s2) = true := by simp [hs]
              have bs' : (s1 == s2) = false := by simp [hs]
              have hbad : ((k1, n1, s1, al1) : Tk) ≠ (k2, n2, s2, al2) := fun q => hs (by rw [Prod.mk.injEq, Prod.mk.injEq, Prod.mk.injEq] at q; exact q.2.2.1)
              clear hk hn hs
              go_quiet (fail)
              have Z := Lib.hid (show SmP l l' w (.returned (.bool false)) (wr.drewN nq) from SmP.no (HN.out hbad) (hK.out.drewN nq))
              clear hA hB hK HN HTT hx hx' d0 d1 d2 d3 e0 e1 e2 e3
              go_wp2
              go_ret
              exact Z.out
          · have bn : (n1 != n2) = true := by simp [hn]
            have bn' : (n1 == n2) = false := by simp [hn]
            have hbad : ((k1, n1, s1, al1) : Tk) ≠ (k2, n2, s2, al2) := fun q => hn (by rw [Prod.mk.injEq, Prod.mk.injEq] at q; exact q.2.1)
            clear hk hn
            go_quiet (fail)
            have Z := Lib.hid (show SmP l l' w (.returned (.bool false)) (wr.drewN nq) from SmP.no (HN.out hbad) (hK.out.drewN nq))
            clear hA hB hK HN HTT hx hx' d0 d1 d2 d3 e0 e1 e2 e3
            go_wp2
            go_ret
            exact Z.out
        · have bk : (k1 != k2) = true := by simp [hk]
          have hbad : ((k1, n1, s1, al1) : Tk) ≠ (k2, n2, s2, al2) := fun q => hk (by rw [Prod.mk.injEq] at q; exact q.1)
          clear hk
          go_quiet (fail)
          have Z := Lib.hid (show SmP l l' w (.returned (.bool false)) (wr.drewN nq) from SmP.no (HN.out hbad) (hK.out.drewN nq))
          clear hA hB hK HN HTT hx hx' d0 d1 d2 d3 e0 e1 e2 e3
          go_wp2
          go_ret
          exact Z.out
      · have hltI : ¬ (i : Int) < l.length := by omega
        have Z := Lib.hid (show SmP l l' w (.returned (.bool true)) wr from SmP.yes (by
          have := hT.out
          rw [List.take_of_length_le (by omega), List.take_of_length_le (by rw [← HL.out]; omega)] at this
          exact this) hK.out)
        clear hA hB hT hK
        go_wp2
        go_ret
        exact Z.out
  · have hne : ((l.length : Int) != l'.length) = true := by simp; omega
    have hne2 : ¬ (l.length : Int) = l'.length := by omega
    have Z := Lib.hid (show SmP l l' w (.returned (.bool false)) w from SmP.no (fun e => hlen (by rw [e])) (Kept.refl w))
    clear h h' hlen
    go_enter Tryz.func12, Tryz.ntmps12
    go_wp2
    go_ret
    exact Z.out
end Go.Proofs.YtknggeplnffegaaGreatDoor
