/- The document's own answers of layer xml: Tokens. -/
import Derived.Test.YtknggeplnffegaaGreatDoorXmT
import Derived.Test.YtknggeplnffegaaGreatDoorXpI
set_option linter.unusedVariables false
namespace Go.Proofs.YtknggeplnffegaaGreatDoor
open Go.ChangeShapes Go.WideShapes Go.ChangeAt Go.RowKit
open En Xm
theorem step_n {s s' : St} (h : Xm.step s = .ok s') (hn : s.n ≤ 1) : s'.n ≤ 1 := by
  have pass : ∀ (p : B) (k : Nat), passS p k s = .ok s' → s'.n ≤ 1 := fun p k h => by
    unfold passS at h
    split at h
    · cases h
    · cases h; exact hn
  unfold Xm.step at h
  split at h
  · unfold plainS at h
    simp only at h
    split at h
    · cases h
    · cases h; exact hn
  split at h
  · exact pass _ _ h
  split at h
  · exact pass _ _ h
  split at h
  · unfold dataS at h
    split at h
    · cases h
    · split at h
      · cases h
      · cases h; exact hn
  split at h
  · exact pass _ _ h
  split at h
  · unfold endS at h
    simp only at h
    split at h
    · split at h
      · obtain ⟨_, rfl⟩ := shut_ok h; exact hn
      · cases h
    · cases h
  · unfold openS at h
    simp only at h
    split at h
    · split at h
      · cases h
      · split at h
        · cases h
        · rename_i hb
          have hn1 : (if s.o = [] then s.n + 1 else s.n) ≤ 1 := by
            split
            · rename_i q
              have : ¬ 1 ≤ s.n := fun q2 => hb ⟨q, q2⟩
              omega
            · exact hn
          split at h
          · cases h
          · split at h
            · cases h; exact hn1
            · obtain ⟨_, rfl⟩ := shut_ok h; exact hn1
            · cases h
    · cases h
theorem shut_r {nm r : B} {s s' : St} (h : shut nm r s = .ok s') : s'.r = r := by
  obtain ⟨_, rfl⟩ := shut_ok h; rfl
theorem upt_suf {p r a u : B} (hp : p ≠ []) (h : upt p r = some (a, u)) : u <:+ r := by
  have := (upt_len hp h).2
  exact ⟨a ++ p, this.symm⟩
theorem atrs_suf : ∀ (f : Nat) (r : B) (acc : List Atr) (al : List Atr) (u : B), atrs f r acc = some (al, u) → u <:+ r
  | 0, _, _, _, _, h => by cases h
  | f + 1, r, acc, al, u, h => by
    rw [atrs] at h
    have hs := skip_suf r
    split at h
    · simp only [Option.some.injEq, Prod.mk.injEq] at h
      obtain ⟨_, rfl⟩ := h
      exact hs
    · split at h
      · cases h
      · split at h
        · cases h
        · rename_i a v e
          have := atr_suf e
          split at h
          · cases h
          · exact ((atrs_suf f _ _ _ _ h).trans this).trans hs
theorem nm_suf (r : B) : (nmS r).2 <:+ r := ⟨(nmS r).1, (nmS_eq r).symm⟩
theorem cons_suf {c : UInt8} {u r : B} (h : c :: u <:+ r) : u <:+ r := (List.suffix_cons c u).trans h
theorem step_suf {s s' : St} (h : Xm.step s = .ok s') : s'.r <:+ s.r := by
  have pass : ∀ (p : B) (k : Nat), p ≠ [] → passS p k s = .ok s' → s'.r <:+ s.r := fun p k hp h => by
    unfold passS at h
    split at h
    · cases h
    · rename_i a u e
      cases h
      exact (upt_suf hp e).trans (List.drop_suffix _ _)
  unfold Xm.step at h
  split at h
  · unfold plainS at h
    simp only at h
    split at h
    · cases h
    · cases h
      exact List.dropWhile_suffix _
  split at h
  · exact pass _ _ (by simp) h
  split at h
  · exact pass _ _ (by simp) h
  split at h
  · unfold dataS at h
    split at h
    · cases h
    · rename_i a u e
      split at h
      · cases h
      · cases h
        exact (upt_suf (by simp) e).trans (List.drop_suffix _ _)
  split at h
  · exact pass _ _ (by simp) h
  split at h
  · unfold endS at h
    simp only at h
    split at h
    · split at h
      · rename_i u e
        rw [shut_r h]
        have h1 := skip_suf (nmS (s.r.drop 2)).2
        rw [e] at h1
        exact ((cons_suf h1).trans (nm_suf _)).trans (List.drop_suffix _ _)
      · cases h
    · cases h
  · unfold openS at h
    simp only at h
    split at h
    · split at h
      · cases h
      · rename_i al u e
        have h1 := ((atrs_suf _ _ _ _ _ e).trans (nm_suf _)).trans (List.drop_suffix 1 s.r)
        split at h
        · cases h
        · split at h
          · cases h
          · split at h
            · cases h
              exact cons_suf h1
            · rw [shut_r h]
              exact cons_suf (cons_suf h1)
            · cases h
    · cases h
theorem rd_new (w : World) (doc : B) : Rd w.heap.size doc 0 (.slice none 0 0) 0 (.slice none 0 0) 0 (w.alloc (.cells #[sV doc, iV 0, .slice none 0 0, iV 0, .slice none 0 0, iV 0] 48)) := by
  show (w.heap.push _)[w.heap.size]? = _
  simp
theorem below_kk {B0 : Nat} {a w w' : World} (h : Below B0 a w) (k : Kept w w') (hB : B0 ≤ w.heap.size) : Below B0 a w' := h.grown (k.grownBy none) hB (fun k hk => by cases hk)
/-- within the loop over a document -/
def LpI (doc : B) (rr : Re) (a : Nat) (o : List B) (n : Nat) (l : List Tk) (e : Int) : Prop :=
  (e = 0 ∧ ∃ f, (doc.drop a).length ≤ f ∧ Xm.run f ⟨doc.drop a, o, n, l⟩ = rr ∧ l.length + 2 * (doc.length - a) ≤ 200000 ∧ o.length ≤ 20 ∧ n ≤ 1) ∨ (e ≠ 0 ∧ rr = .er e)
set_option maxRecDepth 100000 in
set_option maxHeartbeats 4000000 in
theorem rtokens_any (g : Option Addr) (c : Nat) (doc : B) (w : World) (hcv : doc.length ≤ 100000 → (convert 22 9 (.slice g doc.length c)).run Tryz.prog w = .ok (sV doc) w) :
    Calls Tryz.prog 11 #[.slice g doc.length c] w (TkP (tok doc) w) := by
  by_cases hl : doc.length ≤ 100000
  · have HT := Lib.hid (show tok doc = rdS doc by rw [tok_rdS, if_neg (by omega)])
    have HR := Lib.hid (show rdS doc = (match Xm.run doc.length ⟨doc, [], 0, []⟩ with
      | .er e => ([], e)
      | .ok s => if s.o ≠ [] ∨ s.n = 0 then ([], 2) else (s.l, 0)) from rfl)
    generalize rdS doc = d at *
    generalize hrun : Xm.run doc.length ⟨doc, [], 0, []⟩ = rr at *
    have HRN := Lib.hid hrun
    clear hrun
    have hcv1 := hcv hl
    have hd : ¬ (100000 : Int) < doc.length := by omega
    have hB := Lib.hid ((Below.refl w.heap.size w).alloc (Nat.le_refl _) (.cells #[sV doc, iV 0, .slice none 0 0, iV 0, .slice none 0 0, iV 0] 48))
    have H0 : Hid (RS w.heap.size w.heap.size doc 0 [] 0 [] 0 (w.alloc (.cells #[sV doc, iV 0, .slice none 0 0, iV 0, .slice none 0 0, iV 0] 48))) := Lib.hid ⟨Nat.le_refl _, by simp, .slice none 0 0, .slice none 0 0, rd_new w doc, World.ownsRow_nil _ _ _ _, tok_nil _ _⟩
    clear hcv
    go_enter Tryz.func11, Tryz.ntmps11
    go_upto_block 0 with (fail)
    generalize w.alloc (.cells #[sV doc, iV 0, .slice none 0 0, iV 0, .slice none 0 0, iV 0] 48) = W0 at *
    clear hcv1 hd
    go_wp2_with fail
    go_loopw [] (fun wr => ∃ (a : Nat) (o : List B) (n : Nat) (l : List Tk) (e : Int), a ≤ doc.length ∧ Hid (RS w.heap.size w.heap.size doc a o n l e wr) ∧ Hid (Below w.heap.size w wr) ∧ Hid (LpI doc rr a o n l e)) (fun wr => (if intOf ((wr.cell? ⟨w.heap.size, 5, none⟩).getD undef) = 0 then doc.length - (intOf ((wr.cell? ⟨w.heap.size, 1, none⟩).getD undef)).toNat + 1 else 0))
    case atStart =>
      exact ⟨0, [], 0, [], 0, Nat.zero_le _, H0, hB, Lib.hid (Or.inl ⟨rfl, doc.length, by simp, HRN.out, by simp; omega, by simp, by omega⟩)⟩
    case round =>
      obtain ⟨a, o, n, l, e, hal, hR, hZ, hI⟩ := hrel
      clear H0 hB HRN
      obtain ⟨ov, lv, hRd, ⟨oa, oc, hov⟩, _⟩ := hR.out.of
      obtain ⟨c0, c1, c2, c3, c4, c5⟩ := hRd.cs
      have hmes : (if intOf ((wr.cell? ⟨w.heap.size, 5, none⟩).getD undef) = 0 then doc.length - (intOf ((wr.cell? ⟨w.heap.size, 1, none⟩).getD undef)).toNat + 1 else 0) = (if e = 0 then doc.length - a + 1 else 0) := by
        rw [c5, c1]
        by_cases q : e = 0
        · simp [intOf, q]
        · simp [intOf, q]
      rcases hI.out with ⟨rfl, f, hf, hF, hll, hol, hn1⟩ | ⟨he, hre⟩
      · rw [if_pos rfl] at hmes
        by_cases hlt : a < doc.length
        · have hdB : decide ((a : Int) < doc.length) = true := decide_eq_true (by omega)
          have he0 : ((0 : Int) == 0) = true := rfl
          have HF := Lib.hid hF
          clear hI c2 c3 c4 hF
          go_upto_region 4 with (fail)
          go_quiet (fail)
          rename_i nq
          have H1 := Lib.hid (hR.out.kept ((Kept.refl wr).drewN nq)).1
          have Z1 := Lib.hid (hZ.out.trans (hR.out.kept ((Kept.refl wr).drewN nq)).2)
          generalize wr.drewN nq = W1 at *
          clear hR hZ hRd c0 c1 c5 hdB
          go_wp2_with fail
          refine (rstep_any w.heap.size w.heap.size doc a o n l _ H1.out hlt (by omega) (by omega) (by omega) (by omega)).mono ?_
          rintro r w2 ⟨rfl, b2, h2⟩
          have hrne : doc.drop a ≠ [] := by
            intro q
            have := congrArg List.length q
            rw [List.length_drop] at this
            simp at this; omega
          obtain ⟨f', rfl⟩ : ∃ f', f = f' + 1 := by
            cases f with
            | zero => exact absurd (List.length_eq_zero_iff.1 (by omega)) hrne
            | succ f => exact ⟨f, rfl⟩
          have hF1 := HF.out
          rw [Xm.run, if_neg hrne] at hF1
          cases hst : Xm.step ⟨doc.drop a, o, n, l⟩ with
          | ok s' =>
            rw [hst] at h2 hF1
            simp only at h2 hF1
            have hsl := step_len hrne hst
            have hbd := step_bd hst
            have hsn := step_n hst hn1
            have hsuf := step_suf hst
            simp only at hsl hbd hsuf hsn
            rw [List.length_drop] at hsl hf
            have hdr : doc.drop (doc.length - s'.r.length) = s'.r := by
              obtain ⟨t, ht⟩ := hsuf.trans (List.drop_suffix a doc)
              rw [← ht]
              rw [List.length_append, Nat.add_sub_cancel, List.drop_left]
            have HN : Hid (LpI doc rr (doc.length - s'.r.length) s'.o s'.n s'.l 0) := Lib.hid (Or.inl ⟨rfl, f', by rw [hdr]; omega, by rw [hdr]; exact hF1, by omega, hbd.2 hol, hsn⟩)
            have R2 := Lib.hid h2
            have Z2 := Lib.hid (Z1.out.trans b2)
            have hcs : (if intOf ((w2.cell? ⟨w.heap.size, 5, none⟩).getD undef) = 0 then doc.length - (intOf ((w2.cell? ⟨w.heap.size, 1, none⟩).getD undef)).toNat + 1 else 0) = doc.length - (doc.length - s'.r.length) + 1 := by
              obtain ⟨_, _, hRd2, _⟩ := h2.of
              rw [hRd2.cs.2.1, hRd2.cs.2.2.2.2.2]; simp [intOf]
            clear h2 b2 hst hF1 HF H1 Z1
            go_wp2
            go_roundw
            case rel => exact ⟨_, _, _, _, 0, by omega, R2, Z2, HN⟩
            case measure =>
              rw [hmes]
              show (if intOf ((w2.cell? ⟨w.heap.size, 5, none⟩).getD undef) = 0 then doc.length - (intOf ((w2.cell? ⟨w.heap.size, 1, none⟩).getD undef)).toNat + 1 else 0) < doc.length - a + 1
              rw [hcs]; omega
          | er k =>
            rw [hst] at h2 hF1
            obtain ⟨at1, o1, n1, l1, ha1, h2⟩ := h2
            have hk0 : k ≠ 0 := by
              rcases step_er hst with rfl | rfl <;> decide
            have HN : Hid (LpI doc rr at1 o1 n1 l1 k) := Lib.hid (Or.inr ⟨hk0, hF1.symm⟩)
            have R2 := Lib.hid h2
            have Z2 := Lib.hid (Z1.out.trans b2)
            have hcs : (if intOf ((w2.cell? ⟨w.heap.size, 5, none⟩).getD undef) = 0 then doc.length - (intOf ((w2.cell? ⟨w.heap.size, 1, none⟩).getD undef)).toNat + 1 else 0) = 0 := by
              obtain ⟨_, _, hRd2, _⟩ := h2.of
              rw [hRd2.cs.2.2.2.2.2]; simp [intOf, hk0]
            clear h2 b2 hst hF1 HF H1 Z1
            go_wp2
            go_roundw
            case rel => exact ⟨_, _, _, _, k, ha1, R2, Z2, HN⟩
            case measure =>
              rw [hmes]
              show (if intOf ((w2.cell? ⟨w.heap.size, 5, none⟩).getD undef) = 0 then doc.length - (intOf ((w2.cell? ⟨w.heap.size, 1, none⟩).getD undef)).toNat + 1 else 0) < doc.length - a + 1
              rw [hcs]; omega
        · have hdB : decide ((a : Int) < doc.length) = false := decide_eq_false (by omega)
          have hrne : doc.drop a = [] := List.drop_eq_nil_of_le (by omega)
          have hrun : rr = .ok ⟨[], o, n, l⟩ := by
            rw [← hF, hrne]
            cases f with
            | zero => rfl
            | succ f => rw [Xm.run, if_pos rfl]
          have HD := Lib.hid (show tok doc = if o ≠ [] ∨ n = 0 then ([], 2) else (l, 0) by rw [HT.out, HR.out, hrun])
          clear hI hF hrun HR HT hmes
          go_upto_region 4 with (fail)
          go_quiet (fail)
          rename_i nq
          have H1 := Lib.hid (hR.out.kept ((Kept.refl wr).drewN nq)).1
          have Z1 := Lib.hid (hZ.out.trans (hR.out.kept ((Kept.refl wr).drewN nq)).2)
          generalize wr.drewN nq = W1 at *
          clear hR hZ hRd c0 c1 c2 c3 c4 c5 hdB hov
          obtain ⟨ov, lv, hRd, ⟨oa, oc, hov⟩, hback⟩ := H1.out.of
          have HBK := Lib.hid hback
          obtain ⟨c0, c1, c2, c3, c4, c5⟩ := hRd.cs
          have f5 := hRd.fz 5
          subst hov
          clear hback
          by_cases hbad : o ≠ [] ∨ n = 0
          · have HX := Lib.hid (show tok doc = ([], 2) by rw [HD.out, if_pos hbad])
            have S2 := hRd.setE 2
            obtain ⟨q1, q2⟩ := HBK.out _ _ _ _ S2 ((Ob.refl w.heap.size W1).set 5 (iV 2))
            have Z2 := Lib.hid (Z1.out.trans q2)
            have HS2 := Lib.hid S2
            by_cases ho : o = []
            · have hn0 : n = 0 := by
                rcases hbad with q | q
                · exact absurd ho q
                · exact q
              have hlen : o.length = 0 := by rw [ho]; rfl
              rw [hlen] at c2
              subst hn0
              clear HD HBK S2 q1 q2 hRd H1 Z1 hbad ho c0 c1 c4 hlen
              go_upto_region 8 with (fail)
              generalize W1.setCell ⟨w.heap.size, 5, none⟩ (iV 2) = W2 at *
              obtain ⟨d0, d1, d2, d3, d4, d5⟩ := HS2.out.cs
              clear c2 c3 c5 f5 d0 d1 d2 d3 d4
              go_upto_region 9 with (fail)
              go_quiet (fail)
              clear d5 HS2
              go_wp2
              go_ret2
              rw [HX.out]
              exact ⟨Kept.of_below (below_kk Z2.out ((Kept.refl _).drewN _) (by have := Z2.out.size; omega)), _, rfl, tok_nil _ _⟩
            · have hpos : (0 : Int) < o.length := by have := List.length_pos_iff.2 ho; omega
              clear HD HBK S2 q1 q2 hRd H1 Z1 hbad c0 c1 c4
              go_upto_region 8 with (fail)
              generalize W1.setCell ⟨w.heap.size, 5, none⟩ (iV 2) = W2 at *
              obtain ⟨d0, d1, d2, d3, d4, d5⟩ := HS2.out.cs
              clear c2 c3 c5 f5 d0 d1 d2 d3 d4
              go_upto_region 9 with (fail)
              go_quiet (fail)
              clear d5 HS2
              go_wp2
              go_ret2
              rw [HX.out]
              exact ⟨Kept.of_below (below_kk Z2.out ((Kept.refl _).drewN _) (by have := Z2.out.size; omega)), _, rfl, tok_nil _ _⟩
          · simp only [not_or, ne_eq, Decidable.not_not] at hbad
            have HX := Lib.hid (show tok doc = (l, 0) by rw [HD.out, if_neg (by simp [hbad.1, hbad.2])])
            have hlen : o.length = 0 := by rw [hbad.1]; rfl
            rw [hlen] at c2
            have hn0 : ((n : Int) == 0) = false := by simp; exact hbad.2
            obtain ⟨_, _, ov', lv', hRd', _, hT'⟩ := H1.out
            have hlv : lv' = lv := by
              have := hRd'.cs.2.2.2.2.1
              rw [c4] at this
              cases this; rfl
            subst hlv
            obtain ⟨la, lc, hlv⟩ : ∃ la lc, lv' = .slice la l.length lc := by
              obtain ⟨vs, _, h2, _⟩ := hT'
              exact own_slice h2
            subst hlv
            have Z := Lib.hid (show TkP (tok doc) w (.returned (.tuple #[.slice la l.length lc, iV 0])) W1 from ⟨Kept.of_below Z1.out, _, by rw [HX.out], by rw [HX.out]; exact hT'⟩)
            clear HD HBK hRd H1 Z1 hbad c0 c1 hRd' hT' hlen HX
            go_wp2
            go_ret2
            exact Z.out
      · have heB : ((e : Int) == 0) = false := by simp; exact he
        have heB2 : ((e : Int) != 0) = true := by simp; exact he
        have HX := Lib.hid (show tok doc = ([], e) by rw [HT.out, HR.out, hre])
        have hdB : ∃ q, q = decide ((a : Int) < doc.length) := ⟨_, rfl⟩
        obtain ⟨q, hq⟩ := hdB
        clear hI HR HT hmes hre
        by_cases hlt : a < doc.length
        · have hdB : decide ((a : Int) < doc.length) = true := decide_eq_true (by omega)
          clear hq
          go_upto_region 4 with (fail)
          go_quiet (fail)
          rename_i nq
          have H1 := Lib.hid (hR.out.kept ((Kept.refl wr).drewN nq)).1
          have Z1 := Lib.hid (hZ.out.trans (hR.out.kept ((Kept.refl wr).drewN nq)).2)
          generalize wr.drewN nq = W1 at *
          clear hR hZ hRd c0 c1 c2 c3 c4 c5 hdB hov
          obtain ⟨ov, lv, hRd, _, _⟩ := H1.out.of
          obtain ⟨c0, c1, c2, c3, c4, c5⟩ := hRd.cs
          clear c0 c1 c2 c3 c4 hRd
          go_upto_region 9 with (fail)
          go_quiet (fail)
          clear c5
          go_wp2
          go_ret2
          rw [HX.out]
          exact ⟨Kept.of_below (below_kk Z1.out ((Kept.refl _).drewN _) (by have := Z1.out.size; omega)), _, rfl, tok_nil _ _⟩
        · have hdB : decide ((a : Int) < doc.length) = false := decide_eq_false (by omega)
          clear hq
          go_upto_region 4 with (fail)
          go_quiet (fail)
          rename_i nq
          have H1 := Lib.hid (hR.out.kept ((Kept.refl wr).drewN nq)).1
          have Z1 := Lib.hid (hZ.out.trans (hR.out.kept ((Kept.refl wr).drewN nq)).2)
          generalize wr.drewN nq = W1 at *
          clear hR hZ hRd c0 c1 c2 c3 c4 c5 hdB hov
          obtain ⟨ov, lv, hRd, _, _⟩ := H1.out.of
          obtain ⟨c0, c1, c2, c3, c4, c5⟩ := hRd.cs
          clear c0 c1 c2 c3 c4 hRd
          go_upto_region 9 with (fail)
          go_quiet (fail)
          clear c5
          go_wp2
          go_ret2
          rw [HX.out]
          exact ⟨Kept.of_below (below_kk Z1.out ((Kept.refl _).drewN _) (by have := Z1.out.size; omega)), _, rfl, tok_nil _ _⟩
  · have HT := Lib.hid (show tok doc = ([], 4) by rw [tok_rdS, if_pos (by omega)])
    have hd : (100000 : Int) < doc.length := by omega
    clear hcv hl
    go_enter Tryz.func11, Tryz.ntmps11
    go_wp2
    go_ret2
    rw [HT.out]
    exact ⟨Kept.refl w, _, rfl, tok_nil _ _⟩
end Go.Proofs.YtknggeplnffegaaGreatDoor
