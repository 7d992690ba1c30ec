/- Package xml: the list of kinds; a piece is taken by the first whose beginning it has. -/
import Derived.Test.YtflhmgnhjnaiiaaGreatDoorXpG
import Derived.Laws.EntriesVeiled
set_option linter.unusedSimpArgs false
set_option linter.unusedVariables false
namespace Go.Proofs.YtflhmgnhjnaiiaaGreatDoor
open Go.ChangeShapes Go.WideShapes Go.ChangeAt Go.RowKit
open En Xm
abbrev fnV (n : Nat) : Value := .func (.func n) #[] #[]
abbrev kdC : Array Value := #[sV pCom, fnV 41, sV pData, fnV 42, sV pOdd, fnV 43, sV pAsk, fnV 44, sV pEnd, fnV 45, sV [60], fnV 46, sV [], fnV 47]
theorem kinds_any (w : World) : Calls Tryz.prog 31 #[] w fun e w' => e = .returned (.slice (some ⟨w.heap.size, 0, none⟩) 7 7) ∧ w' = w.alloc (.cells kdC 99) := by
  go_enter Tryz.func31, Tryz.ntmps31
  go_wp2
  go_ret
  exact ⟨rfl, rfl⟩
/-- the list of kinds lies -/
def Kd (k : Nat) (w : World) : Prop := w.heap[k]? = some (.cells kdC 99 (0, 0))
theorem kd_new (w : World) : Kd w.heap.size (w.alloc (.cells kdC 99)) := by
  show (w.heap.push _)[w.heap.size]? = _
  simp
theorem Kd.lt {k : Nat} {w : World} (h : Kd k w) : k < w.heap.size := (Array.getElem?_eq_some_iff.1 h).1
theorem Kd.kept {k : Nat} {w w' : World} (h : Kd k w) (o : Kept w w') : Kd k w' := (o.block k h.lt).trans h
theorem Kd.ob {k b : Nat} {w w' : World} (h : Kd k w) (o : Ob b w w') (hne : k ≠ b) : Kd k w' := (o.block k h.lt hne).trans h
theorem Kd.at {k : Nat} {w : World} (h : Kd k w) {j : Nat} {v : Value} (hv : kdC[j]? = some v) : w.cell? ⟨k, j, none⟩ = some v := by
  unfold Kd at h
  simp [World.cell?, h, hv]
/-- a kind in a block of its own -/
def Kb (k : Nat) (p : B) (f : Nat) (w : World) : Prop := w.heap[k]? = some (.cells #[sV p, fnV f] 99 (0, 0))
theorem kb_new (w : World) (p : B) (f : Nat) : Kb w.heap.size p f (w.alloc (.cells #[sV p, fnV f] 99)) := by
  show (w.heap.push _)[w.heap.size]? = _
  simp
theorem Kb.lt {k : Nat} {p : B} {f : Nat} {w : World} (h : Kb k p f w) : k < w.heap.size := (Array.getElem?_eq_some_iff.1 h).1
theorem Kb.ob {k b : Nat} {p : B} {f : Nat} {w w' : World} (h : Kb k p f w) (o : Ob b w w') (hne : k ≠ b) : Kb k p f w' := (o.block k h.lt hne).trans h
theorem Kb.cs {k : Nat} {p : B} {f : Nat} {w : World} (h : Kb k p f w) : w.cell? ⟨k, 0, none⟩ = some (sV p) ∧ w.cell? ⟨k, 1, none⟩ = some (fnV f) := by
  unfold Kb at h
  simp [World.cell?, h]
def beg : List B := [pCom, pData, pOdd, pAsk, pEnd, [60], []]
/-! a step by the first kind whose beginning stands there -/
theorem step_k0 (s : St) (h : pCom.isPrefixOf s.r = true) : Xm.step s = upS [45, 45, 62] ⟨s.r.drop 4, s.o, s.n, s.l⟩ := by
  obtain ⟨t, ht⟩ := List.isPrefixOf_iff_prefix.1 h
  obtain ⟨r, o, n, l⟩ := s
  simp only at ht h ⊢
  subst ht
  unfold Xm.step upS passS
  simp [pCom, List.isPrefixOf]
  cases upt [45, 45, 62] t with
  | none => rfl
  | some x => rfl
theorem step_k1 (s : St) (h : pData.isPrefixOf s.r = true) : Xm.step s = secS ⟨s.r.drop 9, s.o, s.n, s.l⟩ := by
  obtain ⟨t, ht⟩ := List.isPrefixOf_iff_prefix.1 h
  obtain ⟨r, o, n, l⟩ := s
  simp only at ht h ⊢
  subst ht
  unfold Xm.step secS dataS
  simp only [pCom, pAsk, pData]
  simp
  cases upt [93, 93, 62] t with
  | none => simp
  | some x => simp
theorem step_k2 (s : St) (h : pOdd.isPrefixOf s.r = true) (h0 : pCom.isPrefixOf s.r = false) (h1 : pData.isPrefixOf s.r = false) : Xm.step s = upS [62] ⟨s.r.drop 2, s.o, s.n, s.l⟩ := by
  obtain ⟨t, ht⟩ := List.isPrefixOf_iff_prefix.1 h
  obtain ⟨r, o, n, l⟩ := s
  simp only at ht h h0 h1 ⊢
  subst ht
  have hd : ([60, 33] ++ t : B).head? = some 60 := rfl
  have ha : pAsk.isPrefixOf (pOdd ++ t) = false := rfl
  unfold Xm.step upS passS
  rw [h0, h1, h, ha]
  simp [pOdd]
  cases upt [62] t with
  | none => rfl
  | some x => rfl
theorem step_k3 (s : St) (h : pAsk.isPrefixOf s.r = true) : Xm.step s = upS [63, 62] ⟨s.r.drop 2, s.o, s.n, s.l⟩ := by
  obtain ⟨t, ht⟩ := List.isPrefixOf_iff_prefix.1 h
  obtain ⟨r, o, n, l⟩ := s
  simp only at ht h ⊢
  subst ht
  unfold Xm.step upS passS
  simp [pCom, pAsk, List.isPrefixOf]
  cases upt [63, 62] t with
  | none => rfl
  | some x => rfl
theorem step_k4 (s : St) (h : pEnd.isPrefixOf s.r = true) : Xm.step s = cloS ⟨s.r.drop 2, s.o, s.n, s.l⟩ := by
  obtain ⟨t, ht⟩ := List.isPrefixOf_iff_prefix.1 h
  obtain ⟨r, o, n, l⟩ := s
  simp only at ht h ⊢
  subst ht
  unfold Xm.step cloS endS
  simp [pCom, pAsk, pData, pOdd, pEnd, List.isPrefixOf]
  rfl
theorem step_k5 (s : St) (h : ([60] : B).isPrefixOf s.r = true) (h0 : pCom.isPrefixOf s.r = false) (h1 : pData.isPrefixOf s.r = false) (h2 : pOdd.isPrefixOf s.r = false) (h3 : pAsk.isPrefixOf s.r = false) (h4 : pEnd.isPrefixOf s.r = false) : Xm.step s = popenS (s.r.drop 1) ⟨s.r.drop 1, s.o, s.n, s.l⟩ := by
  obtain ⟨t, ht⟩ := pfx_one.1 h
  have hd : s.r.head? = some 60 := by rw [ht]; rfl
  unfold Xm.step
  rw [if_neg (by rw [hd]; simp), h0, h1, h2, h3, h4]
  simp only [Bool.false_eq_true, if_false]
  exact open_popen s
theorem step_k6 (s : St) (h : ([60] : B).isPrefixOf s.r = false) : Xm.step s = plainS s := by
  have hd : s.r.head? ≠ some 60 := by
    cases hr : s.r with
    | nil => simp
    | cons c r =>
      rw [hr, pfx1] at h
      simp only [List.head?_cons, ne_eq, Option.some.injEq]
      intro e
      rw [e] at h; simp at h
  unfold Xm.step
  rw [if_pos hd]
theorem RP.lift {B0 b : Nat} {x y : Re} {w w2 w3 : World} {e : Ending} (h : RP B0 b x w2 e w3) (k : Bo B0 b w w2) (he : y = x) : RP B0 b y w e w3 := by
  subst he
  exact ⟨k.trans h.1, h.2⟩
theorem RP.end {B0 b : Nat} {x : Re} {w w' : World} {e : Ending} (h : RP B0 b x w e w') : e = .returned (.tuple #[]) ∨ ∃ k, e = gon k := by
  cases x with
  | ok s => exact Or.inl h.2.1
  | er k => exact Or.inr ⟨k, h.2⟩
set_option maxRecDepth 100000 in
set_option maxHeartbeats 4000000 in
theorem ppiece_any (E0 B0 b k0 : Nat) (s : St) (w : World) (h : Rdy E0 B0 b s w) (hk : Kd k0 w) (hkb : k0 ≠ b) :
    Calls Tryz.prog 32 #[pV b, .slice (some ⟨k0, 0, none⟩) 7 7] w (RP B0 b (Xm.step s) w) := by
  go_enter Tryz.func32, Tryz.ntmps32
  go_wp2_with fail
  go_loopw [8] (fun i wr => ∃ j : Nat, j ≤ 7 ∧ i = .int .i64 j ∧ Hid (Rdy E0 B0 b s wr) ∧ Hid (Bo B0 b w wr) ∧ Hid (Kd k0 wr) ∧ Hid (∀ m, m < j → ∀ p, beg[m]? = some p → p.isPrefixOf s.r = false)) (fun i _ => 7 - (intOf i).toNat)
  case atStart => exact ⟨0, by omega, rfl, Lib.hid h, Lib.hid (Bo.refl _ _ _), Lib.hid hk, Lib.hid (fun m hm => absurd hm (by omega))⟩
  case round =>
    obtain ⟨j, hj, rfl, hR, hB, hK, HI⟩ := hrel
    clear h hk
    rcases (show j = 0 ∨ j = 1 ∨ j = 2 ∨ j = 3 ∨ j = 4 ∨ j = 5 ∨ j = 6 ∨ j = 7 by omega) with rfl | rfl | rfl | rfl | rfl | rfl | rfl | rfl
    · have c0 := hK.out.at (j := 0) rfl
      have c1 := hK.out.at (j := 1) rfl
      have k1 := (Kept.refl wr).alloc (.cells #[sV pCom, fnV 41] 99)
      have R1 := Lib.hid (hR.out.kept k1).1
      have B1 := Lib.hid (hB.out.trans (hR.out.kept k1).2)
      have K1 := Lib.hid (hK.out.kept k1)
      have Q1 := Lib.hid (kb_new wr pCom 41)
      have hbl : b < wr.heap.size := by have := hR.out.1; exact Nat.lt_of_lt_of_le this.1 this.2.1
      clear k1 hR hB hK
      go_wp2_with fail
      generalize hW : wr.alloc (.cells #[sV pCom, fnV 41] 99) = W1 at *
      clear hW c0 c1
      obtain ⟨ov, g, lv, hP, _, hback⟩ := R1.out.ob
      refine (pskip_any b s.r pCom ov g lv _ hP).mono ?_
      rintro e w2 ⟨rfl, p2, o2⟩
      have K2 := Lib.hid (K1.out.ob o2 hkb)
      have Q2 := Lib.hid (Q1.out.ob o2 (by omega))
      have hback2 := hback _ w2 (by split <;> simp) p2 o2
      have B2 := Lib.hid (B1.out.trans hback2.2)
      have R2 := Lib.hid hback2.1
      clear K1 Q1 hback hback2 B1 R1 p2 o2 hP
      cases hq : (pCom : B).isPrefixOf s.r with
      | true =>
        rw [hq, if_pos rfl] at R2
        have hst : Xm.step s = _ := step_k0 s hq
        have HS := Lib.hid hst
        have HC := Lib.hid (pcomm_any E0 B0 b _ w2 R2.out)
        obtain ⟨q0, q1⟩ := Q2.out.cs
        clear hst R2 K2 Q2 HI hq
        go_wp2_with fail
        refine HC.out.mono ?_
        intro e w3 h3
        have hZ : RP B0 b (Xm.step s) w e w3 := h3.lift B2.out HS.out
        rcases hZ.end with rfl | ⟨kk, rfl⟩
        · have Z := Lib.hid hZ
          clear hZ h3 HC HS
          go_wp2
          go_end0
          exact Z.out
        · exact ⟨rfl, hZ⟩
      | false =>
        rw [hq, if_neg (by decide)] at R2
        have HI2 : Hid (∀ m, m < 1 → ∀ p, beg[m]? = some p → p.isPrefixOf s.r = false) := Lib.hid (fun m hm p hp => by
          by_cases hm2 : m = 0
          · subst hm2
            cases hp
            exact hq
          · exact HI.out m (by omega) p hp)
        clear hq HI Q2
        go_wp2
        go_roundw
        case rel => exact ⟨1, by omega, by go_num, R2, B2, K2, HI2⟩
        case measure => simp [intOf]
    · have c0 := hK.out.at (j := 2) rfl
      have c1 := hK.out.at (j := 3) rfl
      have k1 := (Kept.refl wr).alloc (.cells #[sV pData, fnV 42] 99)
      have R1 := Lib.hid (hR.out.kept k1).1
      have B1 := Lib.hid (hB.out.trans (hR.out.kept k1).2)
      have K1 := Lib.hid (hK.out.kept k1)
      have Q1 := Lib.hid (kb_new wr pData 42)
      have hbl : b < wr.heap.size := by have := hR.out.1; exact Nat.lt_of_lt_of_le this.1 this.2.1
      clear k1 hR hB hK
      go_wp2_with fail
      generalize hW : wr.alloc (.cells #[sV pData, fnV 42] 99) = W1 at *
      clear hW c0 c1
      obtain ⟨ov, g, lv, hP, _, hback⟩ := R1.out.ob
      refine (pskip_any b s.r pData ov g lv _ hP).mono ?_
      rintro e w2 ⟨rfl, p2, o2⟩
      have K2 := Lib.hid (K1.out.ob o2 hkb)
      have Q2 := Lib.hid (Q1.out.ob o2 (by omega))
      have hback2 := hback _ w2 (by split <;> simp) p2 o2
      have B2 := Lib.hid (B1.out.trans hback2.2)
      have R2 := Lib.hid hback2.1
      clear K1 Q1 hback hback2 B1 R1 p2 o2 hP
      cases hq : (pData : B).isPrefixOf s.r with
      | true =>
        rw [hq, if_pos rfl] at R2
        have hst : Xm.step s = _ := step_k1 s hq
        have HS := Lib.hid hst
        have HC := Lib.hid (psect_any E0 B0 b _ w2 R2.out)
        obtain ⟨q0, q1⟩ := Q2.out.cs
        clear hst R2 K2 Q2 HI hq
        go_wp2_with fail
        refine HC.out.mono ?_
        intro e w3 h3
        have hZ : RP B0 b (Xm.step s) w e w3 := h3.lift B2.out HS.out
        rcases hZ.end with rfl | ⟨kk, rfl⟩
        · have Z := Lib.hid hZ
          clear hZ h3 HC HS
          go_wp2
          go_end0
          exact Z.out
        · exact ⟨rfl, hZ⟩
      | false =>
        rw [hq, if_neg (by decide)] at R2
        have HI2 : Hid (∀ m, m < 2 → ∀ p, beg[m]? = some p → p.isPrefixOf s.r = false) := Lib.hid (fun m hm p hp => by
          by_cases hm2 : m = 1
          · subst hm2
            cases hp
            exact hq
          · exact HI.out m (by omega) p hp)
        clear hq HI Q2
        go_wp2
        go_roundw
        case rel => exact ⟨2, by omega, by go_num, R2, B2, K2, HI2⟩
        case measure => simp [intOf]
    · have c0 := hK.out.at (j := 4) rfl
      have c1 := hK.out.at (j := 5) rfl
      have k1 := (Kept.refl wr).alloc (.cells #[sV pOdd, fnV 43] 99)
      have R1 := Lib.hid (hR.out.kept k1).1
      have B1 := Lib.hid (hB.out.trans (hR.out.kept k1).2)
      have K1 := Lib.hid (hK.out.kept k1)
      have Q1 := Lib.hid (kb_new wr pOdd 43)
      have hbl : b < wr.heap.size := by have := hR.out.1; exact Nat.lt_of_lt_of_le this.1 this.2.1
      clear k1 hR hB hK
      go_wp2_with fail
      generalize hW : wr.alloc (.cells #[sV pOdd, fnV 43] 99) = W1 at *
      clear hW c0 c1
      obtain ⟨ov, g, lv, hP, _, hback⟩ := R1.out.ob
      refine (pskip_any b s.r pOdd ov g lv _ hP).mono ?_
      rintro e w2 ⟨rfl, p2, o2⟩
      have K2 := Lib.hid (K1.out.ob o2 hkb)
      have Q2 := Lib.hid (Q1.out.ob o2 (by omega))
      have hback2 := hback _ w2 (by split <;> simp) p2 o2
      have B2 := Lib.hid (B1.out.trans hback2.2)
      have R2 := Lib.hid hback2.1
      clear K1 Q1 hback hback2 B1 R1 p2 o2 hP
      cases hq : (pOdd : B).isPrefixOf s.r with
      | true =>
        rw [hq, if_pos rfl] at R2
        have hst : Xm.step s = _ := step_k2 s hq (HI.out 0 (by omega) _ rfl) (HI.out 1 (by omega) _ rfl)
        have HS := Lib.hid hst
        have HC := Lib.hid (pdecl_any E0 B0 b _ w2 R2.out)
        obtain ⟨q0, q1⟩ := Q2.out.cs
        clear hst R2 K2 Q2 HI hq
        go_wp2_with fail
        refine HC.out.mono ?_
        intro e w3 h3
        have hZ : RP B0 b (Xm.step s) w e w3 := h3.lift B2.out HS.out
        rcases hZ.end with rfl | ⟨kk, rfl⟩
        · have Z := Lib.hid hZ
          clear hZ h3 HC HS
          go_wp2
          go_end0
          exact Z.out
        · exact ⟨rfl, hZ⟩
      | false =>
        rw [hq, if_neg (by decide)] at R2
        have HI2 : Hid (∀ m, m < 3 → ∀ p, beg[m]? = some p → p.isPrefixOf s.r = false) := Lib.hid (fun m hm p hp => by
          by_cases hm2 : m = 2
          · subst hm2
            cases hp
            exact hq
          · exact HI.out m (by omega) p hp)
        clear hq HI Q2
        go_wp2
        go_roundw
        case rel => exact ⟨3, by omega, by go_num, R2, B2, K2, HI2⟩
        case measure => simp [intOf]
    · have c0 := hK.out.at (j := 6) rfl
      have c1 := hK.out.at (j := 7) rfl
      have k1 := (Kept.refl wr).alloc (.cells #[sV pAsk, fnV 44] 99)
      have R1 := Lib.hid (hR.out.kept k1).1
      have B1 := Lib.hid (hB.out.trans (hR.out.kept k1).2)
      have K1 := Lib.hid (hK.out.kept k1)
      have Q1 := Lib.hid (kb_new wr pAsk 44)
      have hbl : b < wr.heap.size := by have := hR.out.1; exact Nat.lt_of_lt_of_le this.1 this.2.1
      clear k1 hR hB hK
      go_wp2_with fail
      generalize hW : wr.alloc (.cells #[sV pAsk, fnV 44] 99) = W1 at *
      clear hW c0 c1
      obtain ⟨ov, g, lv, hP, _, hback⟩ := R1.out.ob
      refine (pskip_any b s.r pAsk ov g lv _ hP).mono ?_
      rintro e w2 ⟨rfl, p2, o2⟩
      have K2 := Lib.hid (K1.out.ob o2 hkb)
      have Q2 := Lib.hid (Q1.out.ob o2 (by omega))
      have hback2 := hback _ w2 (by split <;> simp) p2 o2
      have B2 := Lib.hid (B1.out.trans hback2.2)
      have R2 := Lib.hid hback2.1
      clear K1 Q1 hback hback2 B1 R1 p2 o2 hP
      cases hq : (pAsk : B).isPrefixOf s.r with
      | true =>
        rw [hq, if_pos rfl] at R2
        have hst : Xm.step s = _ := step_k3 s hq
        have HS := Lib.hid hst
        have HC := Lib.hid (pinst_any E0 B0 b _ w2 R2.out)
        obtain ⟨q0, q1⟩ := Q2.out.cs
        clear hst R2 K2 Q2 HI hq
        go_wp2_with fail
        refine HC.out.mono ?_
        intro e w3 h3
        have hZ : RP B0 b (Xm.step s) w e w3 := h3.lift B2.out HS.out
        rcases hZ.end with rfl | ⟨kk, rfl⟩
        · have Z := Lib.hid hZ
          clear hZ h3 HC HS
          go_wp2
          go_end0
          exact Z.out
        · exact ⟨rfl, hZ⟩
      | false =>
        rw [hq, if_neg (by decide)] at R2
        have HI2 : Hid (∀ m, m < 4 → ∀ p, beg[m]? = some p → p.isPrefixOf s.r = false) := Lib.hid (fun m hm p hp => by
          by_cases hm2 : m = 3
          · subst hm2
            cases hp
            exact hq
          · exact HI.out m (by omega) p hp)
        clear hq HI Q2
        go_wp2
        go_roundw
        case rel => exact ⟨4, by omega, by go_num, R2, B2, K2, HI2⟩
        case measure => simp [intOf]
    · have c0 := hK.out.at (j := 8) rfl
      have c1 := hK.out.at (j := 9) rfl
      have k1 := (Kept.refl wr).alloc (.cells #[sV pEnd, fnV 45] 99)
      have R1 := Lib.hid (hR.out.kept k1).1
      have B1 := Lib.hid (hB.out.trans (hR.out.kept k1).2)
      have K1 := Lib.hid (hK.out.kept k1)
      have Q1 := Lib.hid (kb_new wr pEnd 45)
      have hbl : b < wr.heap.size := by have := hR.out.1; exact Nat.lt_of_lt_of_le this.1 this.2.1
      clear k1 hR hB hK
      go_wp2_with fail
      generalize hW : wr.alloc (.cells #[sV pEnd, fnV 45] 99) = W1 at *
      clear hW c0 c1
      obtain ⟨ov, g, lv, hP, _, hback⟩ := R1.out.ob
      refine (pskip_any b s.r pEnd ov g lv _ hP).mono ?_
      rintro e w2 ⟨rfl, p2, o2⟩
      have K2 := Lib.hid (K1.out.ob o2 hkb)
      have Q2 := Lib.hid (Q1.out.ob o2 (by omega))
      have hback2 := hback _ w2 (by split <;> simp) p2 o2
      have B2 := Lib.hid (B1.out.trans hback2.2)
      have R2 := Lib.hid hback2.1
      clear K1 Q1 hback hback2 B1 R1 p2 o2 hP
      cases hq : (pEnd : B).isPrefixOf s.r with
      | true =>
        rw [hq, if_pos rfl] at R2
        have hst : Xm.step s = _ := step_k4 s hq
        have HS := Lib.hid hst
        have HC := Lib.hid (pclose_any E0 B0 b _ w2 R2.out)
        obtain ⟨q0, q1⟩ := Q2.out.cs
        clear hst R2 K2 Q2 HI hq
        go_wp2_with fail
        refine HC.out.mono ?_
        intro e w3 h3
        have hZ : RP B0 b (Xm.step s) w e w3 := h3.lift B2.out HS.out
        rcases hZ.end with rfl | ⟨kk, rfl⟩
        · have Z := Lib.hid hZ
          clear hZ h3 HC HS
          go_wp2
          go_end0
          exact Z.out
        · exact ⟨rfl, hZ⟩
      | false =>
        rw [hq, if_neg (by decide)] at R2
        have HI2 : Hid (∀ m, m < 5 → ∀ p, beg[m]? = some p → p.isPrefixOf s.r = false) := Lib.hid (fun m hm p hp => by
          by_cases hm2 : m = 4
          · subst hm2
            cases hp
            exact hq
          · exact HI.out m (by omega) p hp)
        clear hq HI Q2
        go_wp2
        go_roundw
        case rel => exact ⟨5, by omega, by go_num, R2, B2, K2, HI2⟩
        case measure => simp [intOf]
    · have c0 := hK.out.at (j := 10) rfl
      have c1 := hK.out.at (j := 11) rfl
      have k1 := (Kept.refl wr).alloc (.cells #[sV [60], fnV 46] 99)
      have R1 := Lib.hid (hR.out.kept k1).1
      have B1 := Lib.hid (hB.out.trans (hR.out.kept k1).2)
      have K1 := Lib.hid (hK.out.kept k1)
      have Q1 := Lib.hid (kb_new wr [60] 46)
      have hbl : b < wr.heap.size := by have := hR.out.1; exact Nat.lt_of_lt_of_le this.1 this.2.1
      clear k1 hR hB hK
      go_wp2_with fail
      generalize hW : wr.alloc (.cells #[sV [60], fnV 46] 99) = W1 at *
      clear hW c0 c1
      obtain ⟨ov, g, lv, hP, _, hback⟩ := R1.out.ob
      refine (pskip_any b s.r [60] ov g lv _ hP).mono ?_
      rintro e w2 ⟨rfl, p2, o2⟩
      have K2 := Lib.hid (K1.out.ob o2 hkb)
      have Q2 := Lib.hid (Q1.out.ob o2 (by omega))
      have hback2 := hback _ w2 (by split <;> simp) p2 o2
      have B2 := Lib.hid (B1.out.trans hback2.2)
      have R2 := Lib.hid hback2.1
      clear K1 Q1 hback hback2 B1 R1 p2 o2 hP
      cases hq : ([60] : B).isPrefixOf s.r with
      | true =>
        rw [hq, if_pos rfl] at R2
        have hst : Xm.step s = _ := step_k5 s hq (HI.out 0 (by omega) _ rfl) (HI.out 1 (by omega) _ rfl) (HI.out 2 (by omega) _ rfl) (HI.out 3 (by omega) _ rfl) (HI.out 4 (by omega) _ rfl)
        have HS := Lib.hid hst
        have HC := Lib.hid (popen_any E0 B0 b _ w2 R2.out)
        obtain ⟨q0, q1⟩ := Q2.out.cs
        clear hst R2 K2 Q2 HI hq
        go_wp2_with fail
        refine HC.out.mono ?_
        intro e w3 h3
        have hZ : RP B0 b (Xm.step s) w e w3 := h3.lift B2.out HS.out
        rcases hZ.end with rfl | ⟨kk, rfl⟩
        · have Z := Lib.hid hZ
          clear hZ h3 HC HS
          go_wp2
          go_end0
          exact Z.out
        · exact ⟨rfl, hZ⟩
      | false =>
        rw [hq, if_neg (by decide)] at R2
        have HI2 : Hid (∀ m, m < 6 → ∀ p, beg[m]? = some p → p.isPrefixOf s.r = false) := Lib.hid (fun m hm p hp => by
          by_cases hm2 : m = 5
          · subst hm2
            cases hp
            exact hq
          · exact HI.out m (by omega) p hp)
        clear hq HI Q2
        go_wp2
        go_roundw
        case rel => exact ⟨6, by omega, by go_num, R2, B2, K2, HI2⟩
        case measure => simp [intOf]
    · have c0 := hK.out.at (j := 12) rfl
      have c1 := hK.out.at (j := 13) rfl
      have k1 := (Kept.refl wr).alloc (.cells #[sV ([] : B), fnV 47] 99)
      have R1 := Lib.hid (hR.out.kept k1).1
      have B1 := Lib.hid (hB.out.trans (hR.out.kept k1).2)
      have K1 := Lib.hid (hK.out.kept k1)
      have Q1 := Lib.hid (kb_new wr ([] : B) 47)
      have hbl : b < wr.heap.size := by have := hR.out.1; exact Nat.lt_of_lt_of_le this.1 this.2.1
      clear k1 hR hB hK
      go_wp2_with fail
      generalize hW : wr.alloc (.cells #[sV ([] : B), fnV 47] 99) = W1 at *
      clear hW c0 c1
      obtain ⟨ov, g, lv, hP, _, hback⟩ := R1.out.ob
      refine (pskip_any b s.r ([] : B) ov g lv _ hP).mono ?_
      rintro e w2 ⟨rfl, p2, o2⟩
      have K2 := Lib.hid (K1.out.ob o2 hkb)
      have Q2 := Lib.hid (Q1.out.ob o2 (by omega))
      have hback2 := hback _ w2 (by split <;> simp) p2 o2
      have B2 := Lib.hid (B1.out.trans hback2.2)
      have R2 := Lib.hid hback2.1
      clear K1 Q1 hback hback2 B1 R1 p2 o2 hP
      cases hq : (([] : B) : B).isPrefixOf s.r with
      | true =>
        rw [hq, if_pos rfl] at R2
        have hst : Xm.step s = _ := step_k6 s (HI.out 5 (by omega) _ rfl)
        have HS := Lib.hid hst
        have HC := Lib.hid (ptext_any E0 B0 b _ w2 R2.out)
        obtain ⟨q0, q1⟩ := Q2.out.cs
        clear hst R2 K2 Q2 HI hq
        go_wp2_with fail
        refine HC.out.mono ?_
        intro e w3 h3
        have hZ : RP B0 b (Xm.step s) w e w3 := h3.lift B2.out HS.out
        rcases hZ.end with rfl | ⟨kk, rfl⟩
        · have Z := Lib.hid hZ
          clear hZ h3 HC HS
          go_wp2
          go_end0
          exact Z.out
        · exact ⟨rfl, hZ⟩
      | false => simp at hq
    · have := HI.out 6 (by omega) [] rfl
      simp at this
end Go.Proofs.YtflhmgnhjnaiiaaGreatDoor
