/- Package xml: what takes each kind of piece. -/
import Derived.Test.YtflhmgnhjnaiiaaGreatDoorXpS
set_option linter.unusedSimpArgs false
set_option linter.unusedVariables false
namespace Go.Proofs.YtflhmgnhjnaiiaaGreatDoor
open Go.ChangeShapes Go.WideShapes Go.ChangeAt Go.RowKit
open En Xm
/-- up to a text: nothing -/
def upS (p : B) (s : St) : Re := match upt p s.r with
  | none => .er 2
  | some (_, u) => .ok ⟨u, s.o, s.n, s.l⟩
def secS (s : St) : Re := if s.o = [] then .er 2 else match upt [93, 93, 62] s.r with
  | none => .er 2
  | some (a, u) => .ok ⟨u, s.o, s.n, put a s.o s.l⟩
def cloS (s : St) : Re := if isN (nmS s.r).1 = true then
    match skip (nmS s.r).2 with
    | 62 :: u => shut (nmS s.r).1 u s
    | _ => .er 2
  else .er 2
/-- what the reader's calls need -/
def Rdy (E0 B0 b : Nat) (s : St) (w : World) : Prop := PR B0 b s w ∧ EX E0 w ∧ E0 ≤ b ∧ E0 ≤ B0 ∧ s.r.length ≤ 100000 ∧ s.l.length ≤ 900000 ∧ s.o.length ≤ 800
theorem Rdy.ob {E0 B0 b : Nat} {s : St} {w : World} (h : Rdy E0 B0 b s w) : ∃ ov g lv, PB b s.r ov g lv w ∧ (∃ oa oc, ov = .slice oa s.o.length oc) ∧ ∀ (r' : B) (w' : World), r'.length ≤ s.r.length → PB b r' ov g lv w' → Ob b w w' → Rdy E0 B0 b ⟨r', s.o, s.n, s.l⟩ w' ∧ Bo B0 b w w' := by
  obtain ⟨h1, h2, h3, h4, h5, h6, h7⟩ := h
  obtain ⟨ov, lv, hP, hs, hback⟩ := h1.of
  exact ⟨ov, _, lv, hP, hs, fun r' w' hl hp o => ⟨⟨(hback r' w' hp o).1, h2.ob o h3, h3, h4, Nat.le_trans hl h5, h6, h7⟩, (hback r' w' hp o).2⟩⟩
theorem Rdy.kept {E0 B0 b : Nat} {s : St} {w w' : World} (h : Rdy E0 B0 b s w) (k : Kept w w') : Rdy E0 B0 b s w' ∧ Bo B0 b w w' :=
  ⟨⟨h.1.kept k, h.2.1.kept k, h.2.2⟩, (Bo.refl B0 b w).kk k h.1.2.1⟩
theorem pcomm_any (E0 B0 b : Nat) (s : St) (w : World) (h : Rdy E0 B0 b s w) :
    Calls Tryz.prog 41 #[pV b] w (RP B0 b (upS [45, 45, 62] s) w) := by
  obtain ⟨ov, g, lv, hP, _, hback⟩ := h.ob
  have HB := Lib.hid (And.intro hback (fun (w' : World) (o : Ob b w w') => Bo.of o h.1.2.1))
  have HU := Lib.hid (pupto_any b s.r [45, 45, 62] ov g lv w hP h.2.1.2.1 (by simp) (by have := h.2.2.2.2.1; omega))
  clear hP hback h
  go_enter Tryz.func41, Tryz.ntmps41
  go_wp2_with fail
  refine HU.out.mono ?_
  rintro e w1 ⟨o1, he⟩
  cases hu : upt [45, 45, 62] s.r with
  | none =>
    rw [hu] at he
    subst he
    have hb : Bo B0 b w w1 := HB.out.2 w1 o1
    exact ⟨rfl, RP.er hb (by unfold upS; rw [hu])⟩
  | some x =>
    obtain ⟨a, u⟩ := x
    rw [hu] at he
    simp only at he
    obtain ⟨rfl, h1⟩ := he
    obtain ⟨q1, q2⟩ := HB.out.1 u w1 (by have := (upt_len (by simp) hu).1; omega) h1 o1
    have Z := Lib.hid (RP.ok (x := upS [45, 45, 62] s) q2 q1.1 (by unfold upS; rw [hu]))
    clear q1 q2 h1 o1 hu
    go_wp2
    go_end0
    exact Z.out
theorem pdecl_any (E0 B0 b : Nat) (s : St) (w : World) (h : Rdy E0 B0 b s w) :
    Calls Tryz.prog 43 #[pV b] w (RP B0 b (upS [62] s) w) := by
  obtain ⟨ov, g, lv, hP, _, hback⟩ := h.ob
  have HB := Lib.hid (And.intro hback (fun (w' : World) (o : Ob b w w') => Bo.of o h.1.2.1))
  have HU := Lib.hid (pupto_any b s.r [62] ov g lv w hP h.2.1.2.1 (by simp) (by have := h.2.2.2.2.1; omega))
  clear hP hback h
  go_enter Tryz.func43, Tryz.ntmps43
  go_wp2_with fail
  refine HU.out.mono ?_
  rintro e w1 ⟨o1, he⟩
  cases hu : upt [62] s.r with
  | none =>
    rw [hu] at he
    subst he
    have hb : Bo B0 b w w1 := HB.out.2 w1 o1
    exact ⟨rfl, RP.er hb (by unfold upS; rw [hu])⟩
  | some x =>
    obtain ⟨a, u⟩ := x
    rw [hu] at he
    simp only at he
    obtain ⟨rfl, h1⟩ := he
    obtain ⟨q1, q2⟩ := HB.out.1 u w1 (by have := (upt_len (by simp) hu).1; omega) h1 o1
    have Z := Lib.hid (RP.ok (x := upS [62] s) q2 q1.1 (by unfold upS; rw [hu]))
    clear q1 q2 h1 o1 hu
    go_wp2
    go_end0
    exact Z.out
theorem pinst_any (E0 B0 b : Nat) (s : St) (w : World) (h : Rdy E0 B0 b s w) :
    Calls Tryz.prog 44 #[pV b] w (RP B0 b (upS [63, 62] s) w) := by
  obtain ⟨ov, g, lv, hP, _, hback⟩ := h.ob
  have HB := Lib.hid (And.intro hback (fun (w' : World) (o : Ob b w w') => Bo.of o h.1.2.1))
  have HU := Lib.hid (pupto_any b s.r [63, 62] ov g lv w hP h.2.1.2.1 (by simp) (by have := h.2.2.2.2.1; omega))
  clear hP hback h
  go_enter Tryz.func44, Tryz.ntmps44
  go_wp2_with fail
  refine HU.out.mono ?_
  rintro e w1 ⟨o1, he⟩
  cases hu : upt [63, 62] s.r with
  | none =>
    rw [hu] at he
    subst he
    have hb : Bo B0 b w w1 := HB.out.2 w1 o1
    exact ⟨rfl, RP.er hb (by unfold upS; rw [hu])⟩
  | some x =>
    obtain ⟨a, u⟩ := x
    rw [hu] at he
    simp only at he
    obtain ⟨rfl, h1⟩ := he
    obtain ⟨q1, q2⟩ := HB.out.1 u w1 (by have := (upt_len (by simp) hu).1; omega) h1 o1
    have Z := Lib.hid (RP.ok (x := upS [63, 62] s) q2 q1.1 (by unfold upS; rw [hu]))
    clear q1 q2 h1 o1 hu
    go_wp2
    go_end0
    exact Z.out
theorem psect_any (E0 B0 b : Nat) (s : St) (w : World) (h : Rdy E0 B0 b s w) :
    Calls Tryz.prog 42 #[pV b] w (RP B0 b (secS s) w) := by
  obtain ⟨ov, g, lv, hP, ⟨oa, oc, hov⟩, hback⟩ := h.ob
  have HB := Lib.hid (And.intro hback (fun (w' : World) (o : Ob b w w') => Bo.of o h.1.2.1))
  have HU := Lib.hid (pupto_any b s.r [93, 93, 62] ov g lv w hP h.2.1.2.1 (by simp) (by have := h.2.2.2.2.1; omega))
  have hll := h.2.2.2.2.2.1
  have hb0 : Bo B0 b w w := Bo.refl _ _ _
  obtain ⟨c0, c1, c2, c3⟩ := hP.cs
  clear hP hback h c0 c2 c3
  by_cases ho : s.o = []
  · have hlen : s.o.length = 0 := by rw [ho]; rfl
    rw [hov, hlen] at c1
    have Z := Lib.hid (show RP B0 b (secS s) w (gon 2) w from RP.er hb0 (by unfold secS; rw [if_pos ho]))
    clear HB HU ho hov
    go_enter Tryz.func42, Tryz.ntmps42
    go_wp2_with fail
    refine (need_no _).mono ?_
    rintro e w1 ⟨rfl, rfl⟩
    exact ⟨rfl, Z.out⟩
  · have hlen : (0 : Int) < s.o.length := by have := List.length_pos_iff.2 ho; omega
    subst hov
    go_enter Tryz.func42, Tryz.ntmps42
    go_wp2_with fail
    refine (need_ok _ (by simp; omega) _).mono ?_
    rintro e w1 ⟨rfl, rfl⟩
    go_wp2_with fail
    refine HU.out.mono ?_
    rintro e w1 ⟨o1, he⟩
    cases hu : upt [93, 93, 62] s.r with
    | none =>
      rw [hu] at he
      subst he
      exact ⟨rfl, RP.er (HB.out.2 w1 o1) (by unfold secS; rw [hu, if_neg ho])⟩
    | some x =>
      obtain ⟨a, u⟩ := x
      rw [hu] at he
      simp only at he
      obtain ⟨rfl, h1⟩ := he
      obtain ⟨q1, q2⟩ := HB.out.1 u w1 (by have := (upt_len (by simp) hu).1; omega) h1 o1
      have Z := Lib.hid (And.intro (paddt_any B0 b ⟨u, s.o, s.n, s.l⟩ a w1 q1.1 ho (by show s.l.length ≤ _; omega)) (And.intro q2 (show secS s = .ok ⟨u, s.o, s.n, put a s.o s.l⟩ by unfold secS; rw [hu, if_neg ho])))
      clear q1 q2 h1 o1 hu
      go_wp2_with fail
      refine Z.out.1.mono ?_
      rintro e w2 ⟨b2, rfl, h2⟩
      have Y := Lib.hid (RP.ok (Z.out.2.1.trans b2) h2 Z.out.2.2)
      clear Z b2 h2
      go_wp2
      go_end0
      exact Y.out
theorem tr_blank (l : B) : tr l = [] ↔ l.all spB = true := by
  unfold tr
  rw [trF_nil]
  rw [Bool.eq_false_iff, List.all_eq_true]
  constructor
  · intro h c hc
    cases q : spB c with
    | true => rfl
    | false => exact absurd (List.any_eq_true.2 ⟨c, hc, by rw [q]; rfl⟩) h
  · intro h q
    obtain ⟨c, hc, q2⟩ := List.any_eq_true.1 q
    rw [h c hc] at q2; cases q2
set_option maxRecDepth 100000 in
set_option maxHeartbeats 1000000 in
theorem ptext_any (E0 B0 b : Nat) (s : St) (w : World) (h : Rdy E0 B0 b s w) :
    Calls Tryz.prog 47 #[pV b] w (RP B0 b (plainS s) w) := by
  obtain ⟨ov, g, lv, hP, ⟨oa, oc, hov⟩, hback⟩ := h.ob
  have hll := h.2.2.2.2.2.1
  have hrl := h.2.2.2.2.1
  obtain ⟨c0, c1, c2, c3⟩ := hP.cs
  have f0 := hP.fz 0
  obtain ⟨t1, t2⟩ := take_while_len (· != 60) s.r
  have hle : (s.r.takeWhile (· != 60)).length ≤ s.r.length := (List.takeWhile_prefix _).length_le
  have hdl : (s.r.dropWhile (· != 60)).length ≤ s.r.length := (List.dropWhile_suffix _).length_le
  have hto := cut_to s.r (s.r.takeWhile (· != 60)).length hle
  have hfr := cut_from s.r ((s.r.takeWhile (· != 60)).length : Nat) _ rfl hle
  rw [t1] at hto
  rw [t2] at hfr
  obtain ⟨q1, q2⟩ := hback (s.r.dropWhile (· != 60)) _ hdl (hP.setR _) ((Ob.refl b w).set 0 (sV (s.r.dropWhile (· != 60))))
  have R1 := Lib.hid q1
  have B1 := Lib.hid q2
  have hix : (Lib.indexByte s.r 60 = -1 ∧ (s.r.takeWhile (· != 60)).length = s.r.length) ∨ Lib.indexByte s.r 60 = ((s.r.takeWhile (· != 60)).length : Int) := by
    rcases ixb_while 60 s.r with ⟨g1, g2, _⟩ | ⟨g1, _, _⟩
    · exact Or.inl ⟨g1, by rw [g2]⟩
    · exact Or.inr g1
  have HPS := Lib.hid (show plainS s = if (gone (s.r.takeWhile (· != 60))).2 = false ∨ (s.o = [] ∧ (s.r.takeWhile (· != 60)).all spB = false) then .er 2 else .ok ⟨s.r.dropWhile (· != 60), s.o, s.n, put (gone (s.r.takeWhile (· != 60))).1 s.o s.l⟩ from rfl)
  clear t1 t2 q1 q2 hback h hP c2 c3 hdl
  generalize s.r.takeWhile (· != 60) = t at *
  generalize s.r.dropWhile (· != 60) = u at *
  have htl : t.length ≤ 200000 := by omega
  subst hov
  by_cases ho : s.o = []
  · have hlen : s.o.length = 0 := by rw [ho]; rfl
    rw [hlen] at c1
    rcases hix with ⟨g1, g2⟩ | g1
    · rw [g2] at hto hfr
      go_enter Tryz.func47, Tryz.ntmps47
      go_wp2_with fail
      refine (ixb_any s.r 60 _).mono ?_
      rintro e w0 ⟨rfl, rfl⟩
      rw [g1]
      go_wp2_with fail
      generalize w.setCell ⟨b, 0, none⟩ (sV u) = W1 at *
      refine (trim_any t _ R1.out.2.1.1 htl).mono ?_
      rintro e w2 ⟨rfl, k2⟩
      have B2 := Lib.hid (B1.out.trans (R1.out.kept k2).2)
      have R2 := Lib.hid (R1.out.kept k2).1
      clear R1 B1 k2
      by_cases ht : tr t = []
      · have hall := (tr_blank t).1 ht
        have hg : gone t = (t, true) := gone_plain (bl_no hall).2
        have Z := Lib.hid (RP.ok (x := plainS s) B2.out R2.out.1 (by
          rw [HPS.out, hg, if_neg (by rw [hall]; simp)]
          congr 2
          unfold put
          rw [if_pos (Or.inr ho)]))
        clear HPS R2 B2 hall hg
        rw [ht]
        clear ht
        go_wp2_with fail
        refine (need_ok _ (by rfl) _).mono ?_
        rintro e w3 ⟨rfl, rfl⟩
        go_wp2
        go_end0
        exact Z.out
      · have hall : t.all spB = false := by
          rw [Bool.eq_false_iff]
          exact fun q => ht ((tr_blank t).2 q)
        have Z := Lib.hid (show RP B0 b (plainS s) w (gon 2) w2 from RP.er B2.out (by rw [HPS.out, if_pos (Or.inr ⟨ho, hall⟩)]))
        have hte : (tr t).isEmpty = false := by simpa using ht
        clear HPS R2 B2 hall
        go_wp2_with fail
        refine (need_not _ (by simp) _).mono ?_
        rintro e w3 ⟨rfl, rfl⟩
        exact ⟨rfl, Z.out⟩
    · go_enter Tryz.func47, Tryz.ntmps47
      go_wp2_with fail
      refine (ixb_any s.r 60 _).mono ?_
      rintro e w0 ⟨rfl, rfl⟩
      rw [g1]
      go_wp2_with fail
      generalize w.setCell ⟨b, 0, none⟩ (sV u) = W1 at *
      refine (trim_any t _ R1.out.2.1.1 htl).mono ?_
      rintro e w2 ⟨rfl, k2⟩
      have B2 := Lib.hid (B1.out.trans (R1.out.kept k2).2)
      have R2 := Lib.hid (R1.out.kept k2).1
      clear R1 B1 k2
      by_cases ht : tr t = []
      · have hall := (tr_blank t).1 ht
        have hg : gone t = (t, true) := gone_plain (bl_no hall).2
        have Z := Lib.hid (RP.ok (x := plainS s) B2.out R2.out.1 (by
          rw [HPS.out, hg, if_neg (by rw [hall]; simp)]
          congr 2
          unfold put
          rw [if_pos (Or.inr ho)]))
        clear HPS R2 B2 hall hg
        rw [ht]
        clear ht
        go_wp2_with fail
        refine (need_ok _ (by rfl) _).mono ?_
        rintro e w3 ⟨rfl, rfl⟩
        go_wp2
        go_end0
        exact Z.out
      · have hall : t.all spB = false := by
          rw [Bool.eq_false_iff]
          exact fun q => ht ((tr_blank t).2 q)
        have Z := Lib.hid (show RP B0 b (plainS s) w (gon 2) w2 from RP.er B2.out (by rw [HPS.out, if_pos (Or.inr ⟨ho, hall⟩)]))
        have hte : (tr t).isEmpty = false := by simpa using ht
        clear HPS R2 B2 hall
        go_wp2_with fail
        refine (need_not _ (by simp) _).mono ?_
        rintro e w3 ⟨rfl, rfl⟩
        exact ⟨rfl, Z.out⟩
  · have hlen : ((s.o.length : Int) == 0) = false := by simp; exact ho
    have hlen2 : ¬ (s.o.length : Int) = 0 := by have := List.length_pos_iff.2 ho; omega
    rcases hix with ⟨g1, g2⟩ | g1
    · rw [g2] at hto hfr
      go_enter Tryz.func47, Tryz.ntmps47
      go_wp2_with fail
      refine (ixb_any s.r 60 _).mono ?_
      rintro e w0 ⟨rfl, rfl⟩
      rw [g1]
      go_wp2_with fail
      generalize w.setCell ⟨b, 0, none⟩ (sV u) = W1 at *
      refine (pdec_any t _ R1.out.2.1.1 htl).mono ?_
      rintro e w2 ⟨he, k2⟩
      have B2 := Lib.hid (B1.out.trans (R1.out.kept k2).2)
      have R2 := Lib.hid (R1.out.kept k2).1
      clear R1 B1 k2
      cases hg : (gone t).2 with
      | false =>
        rw [hg, if_neg (by decide)] at he
        subst he
        exact ⟨rfl, RP.er B2.out (by rw [HPS.out, if_pos (Or.inl hg)])⟩
      | true =>
        rw [hg, if_pos rfl] at he
        subst he
        have Z := Lib.hid (And.intro (paddt_any B0 b ⟨u, s.o, s.n, s.l⟩ (gone t).1 w2 R2.out.1 ho (by show s.l.length ≤ _; omega)) (show plainS s = .ok ⟨u, s.o, s.n, put (gone t).1 s.o s.l⟩ by rw [HPS.out, if_neg (by rw [hg]; simp [ho])]))
        clear HPS R2 hg
        generalize (gone t).1 = d at *
        go_wp2_with fail
        refine Z.out.1.mono ?_
        rintro e w3 ⟨b3, rfl, h3⟩
        have Y := Lib.hid (RP.ok (B2.out.trans b3) h3 Z.out.2)
        clear Z b3 h3 B2
        go_wp2
        go_end0
        exact Y.out
    · go_enter Tryz.func47, Tryz.ntmps47
      go_wp2_with fail
      refine (ixb_any s.r 60 _).mono ?_
      rintro e w0 ⟨rfl, rfl⟩
      rw [g1]
      go_wp2_with fail
      generalize w.setCell ⟨b, 0, none⟩ (sV u) = W1 at *
      refine (pdec_any t _ R1.out.2.1.1 htl).mono ?_
      rintro e w2 ⟨he, k2⟩
      have B2 := Lib.hid (B1.out.trans (R1.out.kept k2).2)
      have R2 := Lib.hid (R1.out.kept k2).1
      clear R1 B1 k2
      cases hg : (gone t).2 with
      | false =>
        rw [hg, if_neg (by decide)] at he
        subst he
        exact ⟨rfl, RP.er B2.out (by rw [HPS.out, if_pos (Or.inl hg)])⟩
      | true =>
        rw [hg, if_pos rfl] at he
        subst he
        have Z := Lib.hid (And.intro (paddt_any B0 b ⟨u, s.o, s.n, s.l⟩ (gone t).1 w2 R2.out.1 ho (by show s.l.length ≤ _; omega)) (show plainS s = .ok ⟨u, s.o, s.n, put (gone t).1 s.o s.l⟩ by rw [HPS.out, if_neg (by rw [hg]; simp [ho])]))
        clear HPS R2 hg
        generalize (gone t).1 = d at *
        go_wp2_with fail
        refine Z.out.1.mono ?_
        rintro e w3 ⟨b3, rfl, h3⟩
        have Y := Lib.hid (RP.ok (B2.out.trans b3) h3 Z.out.2)
        clear Z b3 h3 B2
        go_wp2
        go_end0
        exact Y.out
theorem patrs_len : ∀ (f : Nat) (r : B) (acc : List Atr) (al : List Atr) (u : B), patrs f r acc = some (al, u) → u.length ≤ r.length
  | 0, _, _, _, _, h => by cases h
  | f + 1, r, acc, al, u, h => by
    rw [patrs] at h
    have hs := skip_len r
    split at h
    · simp only [Option.some.injEq, Prod.mk.injEq] at h
      obtain ⟨_, rfl⟩ := h
      exact hs
    · split at h
      · cases h
      · rename_i a v e
        have := atr_len e
        split at h
        · cases h
        · have := patrs_len f _ _ _ _ h
          omega
theorem entS_ok (nm : B) (al : List Atr) (s s' : St) (h : entS nm al s = .ok s') : s'.l.length = s.l.length + 1 ∧ s'.o.length = s.o.length + 1 := by
  unfold entS at h
  split at h
  · cases h
  · split at h
    · cases h
    · cases h
      simp
theorem pclose_any (E0 B0 b : Nat) (s : St) (w : World) (h : Rdy E0 B0 b s w) :
    Calls Tryz.prog 45 #[pV b] w (RP B0 b (cloS s) w) := by
  have hrl := h.2.2.2.2.1
  have hll := h.2.2.2.2.2.1
  have hol := h.2.2.2.2.2.2
  have HH := Lib.hid h
  obtain ⟨ov, g, lv, hP, _, hback⟩ := h.ob
  have HB := Lib.hid (And.intro hback (fun (w' : World) (o : Ob b w w') => Bo.of o h.1.2.1))
  have HN := Lib.hid (ptname_any b s.r ov g lv w hP (by omega))
  clear hP hback h
  go_enter Tryz.func45, Tryz.ntmps45
  go_wp2_with fail
  refine HN.out.mono ?_
  rintro e w1 ⟨o1, he⟩
  cases hn : isN (nmS s.r).1 with
  | false =>
    rw [hn, if_neg (by decide)] at he
    subst he
    exact ⟨rfl, RP.er (HB.out.2 w1 o1) (by unfold cloS; rw [hn, if_neg (by decide)])⟩
  | true =>
    rw [hn, if_pos rfl] at he
    obtain ⟨rfl, p1⟩ := he
    have HC := Lib.hid (show cloS s = (match skip (nmS s.r).2 with
      | 62 :: u => shut (nmS s.r).1 u s
      | _ => .er 2) by unfold cloS; rw [hn, if_pos rfl])
    have hyl := nmS_len s.r
    have hsl := skip_len (nmS s.r).2
    clear hn HN
    generalize (nmS s.r).1 = nm at *
    generalize (nmS s.r).2 = y at *
    have HL := Lib.hid (pblanks_any b y ov g lv w1 p1 (by omega))
    go_wp2_with fail
    refine HL.out.mono ?_
    rintro e w2 ⟨rfl, p2, o2⟩
    have o2' := o1.trans o2
    clear HL o1 o2 p1
    generalize skip y = z at *
    have HS := Lib.hid (pskip_any b z [62] ov g lv w2 p2)
    generalize decide (z.length < y.length) = bq
    clear p2
    go_wp2_with fail
    refine HS.out.mono ?_
    rintro e w3 ⟨rfl, p3, o3⟩
    have o3' := Lib.hid (o2'.trans o3)
    clear HS o2' o3
    cases hq : ([62] : B).isPrefixOf z with
    | false =>
      have Z := Lib.hid (show RP B0 b (cloS s) w (gon 2) w3 from RP.er (HB.out.2 w3 o3'.out) (by
        rw [HC.out]
        split
        · exact absurd rfl (pfx1_no hq _)
        · rfl))
      clear HC HB hq p3 o3'
      go_wp2_with fail
      refine (need_no _).mono ?_
      rintro e w4 ⟨rfl, rfl⟩
      exact ⟨rfl, Z.out⟩
    | true =>
      obtain ⟨u, rfl⟩ := pfx_one.1 hq
      rw [if_pos hq] at p3
      obtain ⟨q1, q2⟩ := HB.out.1 u w3 (by simp at hsl; omega) p3 o3'.out
      have Z := Lib.hid (And.intro (pleave_any B0 b ⟨u, s.o, s.n, s.l⟩ nm w3 q1.1 (by show s.l.length ≤ _; omega) (by show s.o.length ≤ _; omega)) (And.intro q2 (show cloS s = shut nm u ⟨u, s.o, s.n, s.l⟩ by rw [HC.out]; rfl)))
      clear HC HB hq p3 o3' q1 q2 HH
      go_wp2_with fail
      refine (need_yes _).mono ?_
      rintro e w4 ⟨rfl, rfl⟩
      go_wp2_with fail
      refine Z.out.1.mono ?_
      rintro e w5 ⟨b5, he⟩
      have he' : RP B0 b (cloS s) w e w5 := by rw [Z.out.2.2]; exact ⟨Z.out.2.1.trans b5, he⟩
      cases hc : shut nm u ⟨u, s.o, s.n, s.l⟩ with
      | ok s' =>
        simp only [hc] at he
        obtain ⟨rfl, _⟩ := he
        have Y := Lib.hid he'
        clear he' Z b5 hc
        go_wp2
        go_end0
        exact Y.out
      | er k =>
        simp only [hc] at he
        subst he
        exact ⟨rfl, he'⟩
set_option maxRecDepth 100000 in
set_option maxHeartbeats 1000000 in
theorem popen_any (E0 B0 b : Nat) (s : St) (w : World) (h : Rdy E0 B0 b s w) :
    Calls Tryz.prog 46 #[pV b] w (RP B0 b (popenS s.r s) w) := by
  have hrl := h.2.2.2.2.1
  have hll := h.2.2.2.2.2.1
  have hol := h.2.2.2.2.2.2
  have hE := Lib.hid (And.intro h.2.1 (And.intro h.2.2.1 h.1.2.1))
  obtain ⟨ov, g, lv, hP, _, hback⟩ := h.ob
  have HB := Lib.hid (And.intro hback (fun (w' : World) (o : Ob b w w') => Bo.of o h.1.2.1))
  have HN := Lib.hid (ptname_any b s.r ov g lv w hP (by omega))
  clear hP hback h
  go_enter Tryz.func46, Tryz.ntmps46
  go_wp2_with fail
  refine HN.out.mono ?_
  rintro e w1 ⟨o1, he⟩
  cases hn : isN (nmS s.r).1 with
  | false =>
    rw [hn, if_neg (by decide)] at he
    subst he
    exact ⟨rfl, RP.er (HB.out.2 w1 o1) (by unfold popenS; rw [hn, if_neg (by decide)])⟩
  | true =>
    rw [hn, if_pos rfl] at he
    obtain ⟨rfl, p1⟩ := he
    have HC := Lib.hid (show popenS s.r s = (match patrs ((nmS s.r).2.length + 1) (nmS s.r).2 [] with
      | none => .er 2
      | some (al, u) =>
        if ([62] : B).isPrefixOf (if ([47] : B).isPrefixOf u = true then u.drop 1 else u) = true then
          if s.o = [] ∧ 1 ≤ s.n then .er 2
          else if 20 < s.o.length + 1 then .er 5
          else
            let s' : St := ⟨(if ([47] : B).isPrefixOf u = true then u.drop 1 else u).drop 1, s.o ++ [(nmS s.r).1], if s.o = [] then s.n + 1 else s.n, s.l ++ [tO (nmS s.r).1 al]⟩
            if ([47] : B).isPrefixOf u = true then shut (nmS s.r).1 s'.r s' else .ok s'
        else .er 2) by
      unfold popenS
      rw [hn, if_pos rfl]
      cases patrs ((nmS s.r).2.length + 1) (nmS s.r).2 [] with
      | none => rfl
      | some x => rfl)
    have hyl := nmS_len s.r
    clear hn HN
    generalize (nmS s.r).1 = nm at *
    generalize (nmS s.r).2 = y at *
    have HA := Lib.hid (pattrs_any E0 b y ov g lv w1 p1 (hE.out.1.ob o1 hE.out.2.1) hE.out.2.1 (by omega))
    clear p1
    go_wp2_with fail
    refine HA.out.mono ?_
    rintro e w2 ⟨o2, he⟩
    have O2 := Lib.hid (o1.trans o2)
    have hs1 := o1.size
    clear HA o1 o2
    cases hp : patrs (y.length + 1) y [] with
    | none =>
      rw [hp] at he
      subst he
      exact ⟨rfl, RP.er (HB.out.2 w2 O2.out) (by rw [HC.out, hp])⟩
    | some x =>
      obtain ⟨al, u⟩ := x
      rw [hp] at he
      simp only at he
      obtain ⟨v, rfl, hx, p2⟩ := he
      have hul := patrs_len _ _ _ _ _ hp
      have HD := Lib.hid (show popenS s.r s = (if ([62] : B).isPrefixOf (if ([47] : B).isPrefixOf u = true then u.drop 1 else u) = true then
          if s.o = [] ∧ 1 ≤ s.n then .er 2
          else if 20 < s.o.length + 1 then .er 5
          else
            let s' : St := ⟨(if ([47] : B).isPrefixOf u = true then u.drop 1 else u).drop 1, s.o ++ [nm], if s.o = [] then s.n + 1 else s.n, s.l ++ [tO nm al]⟩
            if ([47] : B).isPrefixOf u = true then shut nm s'.r s' else .ok s'
        else .er 2) by rw [HC.out, hp])
      obtain ⟨xo, xc, hxs⟩ := own_slice hx
      have HX := Lib.hid (own_mono hx (show B0 ≤ w1.heap.size by have := hE.out.2.2; omega))
      have HPU := Lib.hid p2
      clear HC hp hx p2 hE
      subst hxs
      have HS := Lib.hid (pskip_any b u [47] ov g lv w2 HPU.out)
      have nA := Lib.hid (pb_noA HPU.out)
      go_wp2_with fail
      refine HS.out.mono ?_
      rintro e w3 ⟨rfl, p3, o3⟩
      have O3 := Lib.hid (O2.out.trans o3)
      have HX3 := Lib.hid (AtsO.ob HX.out o3 nA.out)
      have hu1l : (if ([47] : B).isPrefixOf u = true then u.drop 1 else u).length ≤ u.length := by split <;> simp
      have p3' : PB b (if ([47] : B).isPrefixOf u = true then u.drop 1 else u) ov g lv w3 := p3
      clear HS o3 O2 HX HPU nA p3
      generalize (if ([47] : B).isPrefixOf u = true then u.drop 1 else u) = u1 at *
      generalize ([47] : B).isPrefixOf u = q47 at *
      have HS := Lib.hid (pskip_any b u1 [62] ov g lv w3 p3')
      have nA := Lib.hid (pb_noA p3')
      clear p3'
      go_wp2_with fail
      refine HS.out.mono ?_
      rintro e w4 ⟨rfl, p4, o4⟩
      have O4 := Lib.hid (O3.out.trans o4)
      have HX4 := Lib.hid (AtsO.ob HX3.out o4 nA.out)
      clear HS o4 O3 HX3 nA
      cases hq : ([62] : B).isPrefixOf u1 with
      | false =>
        have Z := Lib.hid (show RP B0 b (popenS s.r s) w (gon 2) w4 from RP.er (HB.out.2 w4 O4.out) (by rw [HD.out, hq, if_neg (by decide)]))
        clear HD HB hq p4 O4 HX4
        go_wp2_with fail
        refine (need_no _).mono ?_
        rintro e w5 ⟨rfl, rfl⟩
        exact ⟨rfl, Z.out⟩
      | true =>
        rw [hq, if_pos rfl] at p4
        obtain ⟨q1, q2⟩ := HB.out.1 (u1.drop 1) w4 (by rw [List.length_drop]; omega) p4 O4.out
        have HF := Lib.hid (show popenS s.r s = (match entS nm al ⟨u1.drop 1, s.o, s.n, s.l⟩ with
          | .er k => .er k
          | .ok s' => if q47 = true then shut nm s'.r s' else .ok s') by
          rw [HD.out, hq, if_pos rfl]
          unfold entS
          simp only
          split
          · rfl
          · split
            · rfl
            · rfl)
        have Z := Lib.hid (And.intro (penter_any B0 b ⟨u1.drop 1, s.o, s.n, s.l⟩ nm al _ w4 q1.1 HX4.out (by show s.l.length ≤ _; omega) (by show s.o.length ≤ _; omega)) q2)
        have hE4 := Lib.hid (entS_ok nm al ⟨u1.drop 1, s.o, s.n, s.l⟩)
        clear HD HB hq p4 O4 HX4 q1 q2
        go_wp2_with fail
        refine (need_yes _).mono ?_
        rintro e w5 ⟨rfl, rfl⟩
        go_wp2_with fail
        refine Z.out.1.mono ?_
        rintro e w5 ⟨b5, he⟩
        have B5 := Lib.hid (Z.out.2.trans b5)
        clear Z b5
        cases hen : entS nm al ⟨u1.drop 1, s.o, s.n, s.l⟩ with
        | er k =>
          rw [hen] at he
          subst he
          exact ⟨rfl, RP.er B5.out (by rw [HF.out, hen])⟩
        | ok s' =>
          rw [hen] at he
          simp only at he
          obtain ⟨rfl, h5⟩ := he
          have hbd := hE4.out s' hen
          have HG := Lib.hid (show popenS s.r s = if q47 = true then shut nm s'.r s' else .ok s' by rw [HF.out, hen])
          clear HF hen hE4
          cases q47 with
          | false =>
            have Y := Lib.hid (RP.ok (x := popenS s.r s) B5.out h5 (by rw [HG.out, if_neg (by decide)]))
            clear HG B5 h5
            go_wp2
            go_end0
            exact Y.out
          | true =>
            have HL := Lib.hid (pleave_any B0 b s' nm w5 h5 (by rw [hbd.1]; show s.l.length + 1 ≤ _; omega) (by rw [hbd.2]; show s.o.length + 1 ≤ _; omega))
            have HJ := Lib.hid (show popenS s.r s = shut nm s'.r s' by rw [HG.out, if_pos rfl])
            clear HG h5
            go_wp2_with fail
            refine HL.out.mono ?_
            rintro e w6 ⟨b6, he⟩
            have B6 := Lib.hid (B5.out.trans b6)
            clear HL b6 B5
            cases hsh : shut nm s'.r s' with
            | er k =>
              rw [hsh] at he
              subst he
              exact ⟨rfl, RP.er B6.out (by rw [HJ.out, hsh])⟩
            | ok s6 =>
              rw [hsh] at he
              simp only at he
              obtain ⟨rfl, h6⟩ := he
              have Y := Lib.hid (RP.ok (x := popenS s.r s) B6.out h6 (by rw [HJ.out, hsh]))
              clear HJ B6 h6 hsh
              go_wp2
              go_end0
              exact Y.out
end Go.Proofs.YtflhmgnhjnaiiaaGreatDoor
