/- The document's own answers of layer xml: a step of its reader. -/
import Derived.Test.YtknggeplnffegaaGreatDoorXmS
import Derived.Test.YtknggeplnffegaaGreatDoorXmX
set_option linter.unusedVariables false
namespace Go.Proofs.YtknggeplnffegaaGreatDoor
open Go.ChangeShapes Go.WideShapes Go.ChangeAt Go.RowKit
open En Xm
theorem RS.kept {B0 b : Nat} {s : B} {a : Nat} {o : List B} {n : Nat} {l : List Tk} {e : Int} {w w' : World} (h : RS B0 b s a o n l e w) (k : Kept w w') : RS B0 b s a o n l e w' ∧ Below B0 w w' := by
  obtain ⟨ov, lv, hR, _, hb⟩ := h.of
  exact hb a n e w' (hR.kept k) ((Ob.refl b w).kept k)
/-- up to a text: nothing of it counts -/
theorem pass_st {B0 b : Nat} {s p : B} {at0 k : Nat} {o : List B} {n : Nat} {l : List Tk} {w W w' : World} {r : Ending} {ov lv : Value} (hp : p ≠ []) (ha : at0 + k ≤ s.length) (hz : Below B0 w W)
    (hback : ∀ (at1 n1 : Nat) (e1 : Int) (w' : World), Rd b s at1 ov n1 lv e1 w' → Ob b W w' → RS B0 b s at1 o n1 l e1 w' ∧ Below B0 W w') (h : UpP b s p (at0 + k) ov n lv 0 W r w') :
    StP B0 b s (passS p k ⟨s.drop at0, o, n, l⟩) w (.returned (.tuple #[])) w' := by
  obtain ⟨o1, h1⟩ := h
  have hd : (s.drop at0).drop k = s.drop (at0 + k) := by rw [List.drop_drop]
  unfold StP passS
  simp only [hd]
  cases hu : upt p (s.drop (at0 + k)) with
  | none =>
    rw [hu] at h1
    obtain ⟨q1, q2⟩ := hback _ _ _ w' h1.2 o1
    exact ⟨trivial, hz.trans q2, _, o, n, l, Nat.le_refl _, q1⟩
  | some x =>
    obtain ⟨a, u⟩ := x
    rw [hu] at h1
    obtain ⟨q1, q2⟩ := hback _ _ _ w' h1.2 o1
    exact ⟨trivial, hz.trans q2, q1⟩
theorem UpP.ret {b : Nat} {s p : B} {at0 : Nat} {ov : Value} {n : Nat} {lv : Value} {e : Int} {w w' : World} {r : Ending} (h : UpP b s p at0 ov n lv e w r w') : ∃ a : B, r = .returned (sV a) := by
  obtain ⟨_, h⟩ := h
  cases hu : upt p (s.drop at0) with
  | none => rw [hu] at h; exact ⟨[], h.1⟩
  | some x => rw [hu] at h; exact ⟨x.1, h.1⟩
theorem pfx_room {p s : B} {at0 : Nat} (h : p.isPrefixOf (s.drop at0) = true) (ha : at0 ≤ s.length) : at0 + p.length ≤ s.length := by
  have := pfx_len h
  rw [List.length_drop] at this
  omega
set_option maxRecDepth 100000 in
set_option maxHeartbeats 4000000 in
theorem rstep_any (B0 b : Nat) (s : B) (at0 : Nat) (o : List B) (n : Nat) (l : List Tk) (w : World) (h : RS B0 b s at0 o n l 0 w) (ha : at0 < s.length) (hs : s.length ≤ 1000000) (hl : l.length ≤ 900000) (hol : o.length ≤ 900) (hn : n ≤ 1000000) :
    Calls Tryz.prog 22 #[pV b] w (StP B0 b s (Xm.step ⟨s.drop at0, o, n, l⟩) w) := by
  obtain ⟨c, hc⟩ : ∃ c, s[at0]? = some c := ⟨_, List.getElem?_eq_getElem ha⟩
  have hd := drop_at2 hc
  have HST := Lib.hid (show Xm.step ⟨s.drop at0, o, n, l⟩ = (if c ≠ 60 then plainS ⟨s.drop at0, o, n, l⟩
    else if pCom.isPrefixOf (s.drop at0) = true then passS [45, 45, 62] 4 ⟨s.drop at0, o, n, l⟩
    else if pAsk.isPrefixOf (s.drop at0) = true then passS [63, 62] 2 ⟨s.drop at0, o, n, l⟩
    else if pData.isPrefixOf (s.drop at0) = true then dataS ⟨s.drop at0, o, n, l⟩
    else if pOdd.isPrefixOf (s.drop at0) = true then passS [62] 2 ⟨s.drop at0, o, n, l⟩
    else if pEnd.isPrefixOf (s.drop at0) = true then endS ⟨s.drop at0, o, n, l⟩
    else openS ⟨s.drop at0, o, n, l⟩) by
    unfold Xm.step
    simp only [hd, List.head?_cons, ne_eq, Option.some.injEq])
  have hat := byte_at s at0 c hc
  have hP1 := Lib.hid (fun q : pCom.isPrefixOf (s.drop at0) = true => pfx_room q (by omega))
  have hP2 := Lib.hid (fun q : pAsk.isPrefixOf (s.drop at0) = true => pfx_room q (by omega))
  have hP3 := Lib.hid (fun q : pData.isPrefixOf (s.drop at0) = true => pfx_room q (by omega))
  have hP4 := Lib.hid (fun q : pOdd.isPrefixOf (s.drop at0) = true => pfx_room q (by omega))
  have hP5 := Lib.hid (fun q : pEnd.isPrefixOf (s.drop at0) = true => pfx_room q (by omega))
  have B0' := Lib.hid (Below.refl B0 w)
  have H0 := Lib.hid h
  clear hc hd h
  go_enter Tryz.func22, Tryz.ntmps22
  go_wp2_with fail
  obtain ⟨ov0, lv0, hR0, _, _⟩ := H0.out.of
  refine (rbegins_any b s pCom at0 ov0 n lv0 0 _ hR0 (by omega) hs (by simp [pCom])).mono ?_
  rintro r w1 ⟨rfl, k1⟩
  have H1 := Lib.hid (H0.out.kept k1).1
  have Z1 := Lib.hid (B0'.out.trans (H0.out.kept k1).2)
  clear hR0 k1
  go_wp2_with fail
  obtain ⟨ov1, lv1, hR1, _, _⟩ := H1.out.of
  refine (rbegins_any b s pAsk at0 ov1 n lv1 0 _ hR1 (by omega) hs (by simp [pAsk])).mono ?_
  rintro r w2 ⟨rfl, k2⟩
  have H2 := Lib.hid (H1.out.kept k2).1
  have Z2 := Lib.hid (Z1.out.trans (H1.out.kept k2).2)
  clear hR1 k2
  go_wp2_with fail
  obtain ⟨ov2, lv2, hR2, _, _⟩ := H2.out.of
  refine (rbegins_any b s pData at0 ov2 n lv2 0 _ hR2 (by omega) hs (by simp [pData])).mono ?_
  rintro r w3 ⟨rfl, k3⟩
  have H3 := Lib.hid (H2.out.kept k3).1
  have Z3 := Lib.hid (Z2.out.trans (H2.out.kept k3).2)
  clear hR2 k3
  go_wp2_with fail
  obtain ⟨ov3, lv3, hR3, _, _⟩ := H3.out.of
  refine (rbegins_any b s pOdd at0 ov3 n lv3 0 _ hR3 (by omega) hs (by simp [pOdd])).mono ?_
  rintro r w4 ⟨rfl, k4⟩
  have H4 := Lib.hid (H3.out.kept k4).1
  have Z4 := Lib.hid (Z3.out.trans (H3.out.kept k4).2)
  clear hR3 k4
  go_wp2_with fail
  obtain ⟨ov4, lv4, hR4, _, _⟩ := H4.out.of
  refine (rbegins_any b s pEnd at0 ov4 n lv4 0 _ hR4 (by omega) hs (by simp [pEnd])).mono ?_
  rintro r w5 ⟨rfl, k5⟩
  have H5 := Lib.hid (H4.out.kept k5).1
  have Z5 := Lib.hid (Z4.out.trans (H4.out.kept k5).2)
  clear hR4 k5
  generalize pCom.isPrefixOf (s.drop at0) = q1 at *
  generalize pAsk.isPrefixOf (s.drop at0) = q2 at *
  generalize pData.isPrefixOf (s.drop at0) = q3 at *
  generalize pOdd.isPrefixOf (s.drop at0) = q4 at *
  generalize pEnd.isPrefixOf (s.drop at0) = q5 at *
  go_upto_region 5 with (fail)
  obtain ⟨ov, lv, hR, _, _⟩ := H5.out.of
  obtain ⟨c0, c1, c2, c3, c4, c5⟩ := hR.cs
  clear c2 c3 c4 c5
  by_cases h60 : c = 60
  · have gb : ((c.toNat : Int) != 60) = false := by rw [h60]; rfl
    have HS2 := Lib.hid (show Xm.step ⟨s.drop at0, o, n, l⟩ = (if q1 = true then passS [45, 45, 62] 4 ⟨s.drop at0, o, n, l⟩
      else if q2 = true then passS [63, 62] 2 ⟨s.drop at0, o, n, l⟩
      else if q3 = true then dataS ⟨s.drop at0, o, n, l⟩
      else if q4 = true then passS [62] 2 ⟨s.drop at0, o, n, l⟩
      else if q5 = true then endS ⟨s.drop at0, o, n, l⟩
      else openS ⟨s.drop at0, o, n, l⟩) by rw [HST.out, if_neg (by simp [h60])])
    clear HST h60
    go_quiet (fail)
    rename_i nq
    have H6 := Lib.hid (H5.out.kept ((Kept.refl w5).drewN nq)).1
    have Z6 := Lib.hid (Z5.out.trans (H5.out.kept ((Kept.refl w5).drewN nq)).2)
    generalize w5.drewN nq = w6 at *
    clear H5 Z5 hR c0 c1 gb hat
    cases q1 with
    | true =>
      have HS3 := Lib.hid (show Xm.step ⟨s.drop at0, o, n, l⟩ = passS [45, 45, 62] 4 ⟨s.drop at0, o, n, l⟩ by rw [HS2.out]; simp)
      have hk2 : at0 + 4 ≤ s.length := hP1.out rfl
      obtain ⟨ov6, lv6, hR6, hA6, hAB6⟩ := H6.out.setA (a' := at0 + 4)
      obtain ⟨d0, d1, d2, d3, d4, d5⟩ := hR6.cs
      have e1 := hR6.fz 1
      have A6 : Hid (RS B0 b s (at0 + 4) o n l 0 (w6.setCell ⟨b, 1, none⟩ (.int .i64 ((at0 : Int) + 4)))) := Lib.hid hA6
      have AB6 : Hid (Below B0 w (w6.setCell ⟨b, 1, none⟩ (.int .i64 ((at0 : Int) + 4)))) := Lib.hid (Z6.out.trans hAB6)
      clear hR6 hA6 hAB6 H6 Z6 d0 d2 d3 d4 d5 HS2 hP1 hP2 hP3 hP4 hP5
      go_wp2_with fail
      generalize w6.setCell ⟨b, 1, none⟩ (.int .i64 ((at0 : Int) + 4)) = W7 at *
      obtain ⟨ov7, lv7, hR7, _, hback7⟩ := A6.out.of
      have HB7 := Lib.hid hback7
      have HU := Lib.hid (rupto_any b s [45, 45, 62] (at0 + 4) ov7 n lv7 0 W7 hR7 hk2 hs (by simp) (by simp))
      clear hR7 hback7 d1 e1
      refine HU.out.mono ?_
      intro r w8 h8
      obtain ⟨a, rfl⟩ := h8.ret
      have Z := pass_st (k := 4) (by simp) hk2 AB6.out HB7.out h8
      rw [← HS3.out] at Z
      have ZZ := Lib.hid Z
      clear Z h8 HU HB7 A6 AB6
      go_wp2
      go_end0
      exact ZZ.out
    | false =>
      cases q2 with
      | true =>
        have HS3 := Lib.hid (show Xm.step ⟨s.drop at0, o, n, l⟩ = passS [63, 62] 2 ⟨s.drop at0, o, n, l⟩ by rw [HS2.out]; simp)
        have hk2 : at0 + 2 ≤ s.length := hP2.out rfl
        obtain ⟨ov6, lv6, hR6, hA6, hAB6⟩ := H6.out.setA (a' := at0 + 2)
        obtain ⟨d0, d1, d2, d3, d4, d5⟩ := hR6.cs
        have e1 := hR6.fz 1
        have A6 : Hid (RS B0 b s (at0 + 2) o n l 0 (w6.setCell ⟨b, 1, none⟩ (.int .i64 ((at0 : Int) + 2)))) := Lib.hid hA6
        have AB6 : Hid (Below B0 w (w6.setCell ⟨b, 1, none⟩ (.int .i64 ((at0 : Int) + 2)))) := Lib.hid (Z6.out.trans hAB6)
        clear hR6 hA6 hAB6 H6 Z6 d0 d2 d3 d4 d5 HS2 hP1 hP2 hP3 hP4 hP5
        go_wp2_with fail
        generalize w6.setCell ⟨b, 1, none⟩ (.int .i64 ((at0 : Int) + 2)) = W7 at *
        obtain ⟨ov7, lv7, hR7, _, hback7⟩ := A6.out.of
        have HB7 := Lib.hid hback7
        have HU := Lib.hid (rupto_any b s [63, 62] (at0 + 2) ov7 n lv7 0 W7 hR7 hk2 hs (by simp) (by simp))
        clear hR7 hback7 d1 e1
        refine HU.out.mono ?_
        intro r w8 h8
        obtain ⟨a, rfl⟩ := h8.ret
        have Z := pass_st (k := 2) (by simp) hk2 AB6.out HB7.out h8
        rw [← HS3.out] at Z
        have ZZ := Lib.hid Z
        clear Z h8 HU HB7 A6 AB6
        go_wp2
        go_end0
        exact ZZ.out
      | false =>
        cases q3 with
        | true =>
          have HS3 := Lib.hid (show Xm.step ⟨s.drop at0, o, n, l⟩ = dataS ⟨s.drop at0, o, n, l⟩ by rw [HS2.out]; simp)
          have hk := hP3.out rfl
          have hk2 : at0 + 9 ≤ s.length := hk
          obtain ⟨ov6, lv6, hR6, hA6, hAB6⟩ := H6.out.setA (a' := at0 + 9)
          obtain ⟨d0, d1, d2, d3, d4, d5⟩ := hR6.cs
          have e1 := hR6.fz 1
          have A6 : Hid (RS B0 b s (at0 + 9) o n l 0 (w6.setCell ⟨b, 1, none⟩ (.int .i64 ((at0 : Int) + 9)))) := Lib.hid hA6
          have AB6 : Hid (Below B0 w (w6.setCell ⟨b, 1, none⟩ (.int .i64 ((at0 : Int) + 9)))) := Lib.hid (Z6.out.trans hAB6)
          clear hR6 hA6 hAB6 H6 Z6 d0 d2 d3 d4 d5 HS2 hP1 hP2 hP3 hP4 hP5 hk
          go_wp2_with fail
          generalize w6.setCell ⟨b, 1, none⟩ (.int .i64 ((at0 : Int) + 9)) = W7 at *
          obtain ⟨ov7, lv7, hR7, hs7, hback7⟩ := A6.out.of
          have HB7 := Lib.hid hback7
          have HU := Lib.hid (rupto_any b s [93, 93, 62] (at0 + 9) ov7 n lv7 0 W7 hR7 hk2 hs (by simp) (by simp))
          clear hR7 hback7 d1 e1
          refine HU.out.mono ?_
          rintro r w8 ⟨o8, h8⟩
          have hdd : (s.drop at0).drop 9 = s.drop (at0 + 9) := by rw [List.drop_drop]
          obtain ⟨oa7, oc7, hov7⟩ := hs7
          cases hu : upt [93, 93, 62] (s.drop (at0 + 9)) with
          | none =>
            rw [hu] at h8
            obtain ⟨rfl, h8⟩ := h8
            have HX := Lib.hid (show Xm.step ⟨s.drop at0, o, n, l⟩ = .er 2 by rw [HS3.out]; unfold dataS; simp only [hdd, hu])
            obtain ⟨g0, g1, g2, g3, g4, g5⟩ := h8.cs
            rw [hov7] at g2
            obtain ⟨R8, B8⟩ := HB7.out _ _ _ w8 h8 o8
            have H8 := Lib.hid R8
            have Z8 := Lib.hid (AB6.out.trans B8)
            have HRd := Lib.hid h8
            have hos := Lib.hid o8
            clear HS3 hu h8 o8 R8 B8 HU A6 AB6 hdd g0 g1 g3 g4 g5
            by_cases ho : o = []
            · have hlen : o.length = 0 := by rw [ho]; rfl
              rw [hlen] at g2
              subst hov7
              go_wp2_with fail
              refine (rfail_any b s s.length _ n lv7 (er1 0 2) 2 _ HRd.out).mono ?_
              rintro r w9 ⟨rfl, h9, o9⟩
              obtain ⟨R9, B9⟩ := HB7.out _ _ _ w9 h9 (hos.out.trans o9)
              have H9 : Hid (RS B0 b s s.length o n l 2 w9) := Lib.hid R9
              have hb9 := Lib.hid (o9.below H8.out.1 H8.out.2.1)
              have hl9 : l.length ≤ 1000000 := by omega
              clear h9 o9 R9 B9 HB7 HRd hos
              go_wp2_with fail
              refine (rtext_any B0 b s [] s.length o n l 2 _ H9.out hl9 (by omega)).mono ?_
              rintro r w10 ⟨rfl, h10, b10⟩
              have Z := Lib.hid (And.intro h10 (Z8.out.trans (hb9.out.trans b10)))
              clear h10 b10
              go_wp2
              go_end0
              refine ⟨rfl, Z.out.2, ?_⟩
              rw [HX.out]
              exact ⟨s.length, o, n, _, Nat.le_refl _, Z.out.1⟩
            · have hlen : ((o.length : Int) == 0) = false := by simp; exact ho
              have hl9 : l.length ≤ 1000000 := by omega
              subst hov7
              clear HB7 HRd hos
              go_wp2_with fail
              refine (rtext_any B0 b s [] s.length o n l (er1 0 2) _ H8.out hl9 (by omega)).mono ?_
              rintro r w10 ⟨rfl, h10, b10⟩
              have Z := Lib.hid (And.intro h10 (Z8.out.trans b10))
              clear h10 b10
              go_wp2
              go_end0
              refine ⟨rfl, Z.out.2, ?_⟩
              rw [HX.out]
              exact ⟨s.length, o, n, _, Nat.le_refl _, Z.out.1⟩
          | some x =>
            obtain ⟨a, u⟩ := x
            rw [hu] at h8
            obtain ⟨rfl, h8⟩ := h8
            have HX := Lib.hid (show Xm.step ⟨s.drop at0, o, n, l⟩ = if o = [] then .er 2 else .ok ⟨u, o, n, put a o l⟩ by rw [HS3.out]; unfold dataS; simp only [hdd, hu])
            obtain ⟨g0, g1, g2, g3, g4, g5⟩ := h8.cs
            rw [hov7] at g2
            obtain ⟨R8, B8⟩ := HB7.out _ _ _ w8 h8 o8
            have H8 := Lib.hid R8
            have Z8 := Lib.hid (AB6.out.trans B8)
            have HRd := Lib.hid h8
            have hos := Lib.hid o8
            have hul : s.length - u.length ≤ s.length := by omega
            clear HS3 hu h8 o8 R8 B8 HU A6 AB6 hdd g0 g1 g3 g4 g5
            by_cases ho : o = []
            · have hlen : o.length = 0 := by rw [ho]; rfl
              have HXX := Lib.hid (show Xm.step ⟨s.drop at0, o, n, l⟩ = .er 2 by rw [HX.out, if_pos ho])
              rw [hlen] at g2
              subst hov7
              go_wp2_with fail
              refine (rfail_any b s (s.length - u.length) _ n lv7 0 2 _ HRd.out).mono ?_
              rintro r w9 ⟨rfl, h9, o9⟩
              obtain ⟨R9, B9⟩ := HB7.out _ _ _ w9 h9 (hos.out.trans o9)
              have H9 : Hid (RS B0 b s (s.length - u.length) o n l 2 w9) := Lib.hid R9
              have hb9 := Lib.hid (o9.below H8.out.1 H8.out.2.1)
              have hl9 : l.length ≤ 1000000 := by omega
              clear h9 o9 R9 B9 HB7 HRd hos HX
              go_wp2_with fail
              refine (rtext_any B0 b s a (s.length - u.length) o n l 2 _ H9.out hl9 (by omega)).mono ?_
              rintro r w10 ⟨rfl, h10, b10⟩
              have Z := Lib.hid (And.intro h10 (Z8.out.trans (hb9.out.trans b10)))
              clear h10 b10
              go_wp2
              go_end0
              refine ⟨rfl, Z.out.2, ?_⟩
              rw [HXX.out]
              exact ⟨_, o, n, _, hul, Z.out.1⟩
            · have hlen : ((o.length : Int) == 0) = false := by simp; exact ho
              have HXX := Lib.hid (show Xm.step ⟨s.drop at0, o, n, l⟩ = .ok ⟨u, o, n, put a o l⟩ by rw [HX.out, if_neg ho])
              have hl9 : l.length ≤ 1000000 := by omega
              subst hov7
              clear HB7 HRd hos HX
              go_wp2_with fail
              refine (rtext_any B0 b s a (s.length - u.length) o n l 0 _ H8.out hl9 (by omega)).mono ?_
              rintro r w10 ⟨rfl, h10, b10⟩
              have Z := Lib.hid (And.intro h10 (Z8.out.trans b10))
              clear h10 b10
              go_wp2
              go_end0
              refine ⟨rfl, Z.out.2, ?_⟩
              rw [HXX.out]
              exact Z.out.1
        | false =>
          cases q4 with
          | true =>
            have HS3 := Lib.hid (show Xm.step ⟨s.drop at0, o, n, l⟩ = passS [62] 2 ⟨s.drop at0, o, n, l⟩ by rw [HS2.out]; simp)
            have hk2 : at0 + 2 ≤ s.length := hP4.out rfl
            obtain ⟨ov6, lv6, hR6, hA6, hAB6⟩ := H6.out.setA (a' := at0 + 2)
            obtain ⟨d0, d1, d2, d3, d4, d5⟩ := hR6.cs
            have e1 := hR6.fz 1
            have A6 : Hid (RS B0 b s (at0 + 2) o n l 0 (w6.setCell ⟨b, 1, none⟩ (.int .i64 ((at0 : Int) + 2)))) := Lib.hid hA6
            have AB6 : Hid (Below B0 w (w6.setCell ⟨b, 1, none⟩ (.int .i64 ((at0 : Int) + 2)))) := Lib.hid (Z6.out.trans hAB6)
            clear hR6 hA6 hAB6 H6 Z6 d0 d2 d3 d4 d5 HS2 hP1 hP2 hP3 hP4 hP5
            go_wp2_with fail
            generalize w6.setCell ⟨b, 1, none⟩ (.int .i64 ((at0 : Int) + 2)) = W7 at *
            obtain ⟨ov7, lv7, hR7, _, hback7⟩ := A6.out.of
            have HB7 := Lib.hid hback7
            have HU := Lib.hid (rupto_any b s [62] (at0 + 2) ov7 n lv7 0 W7 hR7 hk2 hs (by simp) (by simp))
            clear hR7 hback7 d1 e1
            refine HU.out.mono ?_
            intro r w8 h8
            obtain ⟨a, rfl⟩ := h8.ret
            have Z := pass_st (k := 2) (by simp) hk2 AB6.out HB7.out h8
            rw [← HS3.out] at Z
            have ZZ := Lib.hid Z
            clear Z h8 HU HB7 A6 AB6
            go_wp2
            go_end0
            exact ZZ.out
          | false =>
            cases q5 with
            | true =>
              have HS3 := Lib.hid (show Xm.step ⟨s.drop at0, o, n, l⟩ = endS ⟨s.drop at0, o, n, l⟩ by rw [HS2.out]; simp)
              have hk : at0 + 2 ≤ s.length := hP5.out rfl
              clear HS2 hP1 hP2 hP3 hP4 hP5
              go_wp2_with fail
              refine (rending_any B0 b s at0 o n l _ H6.out hk hs (by omega) (by omega)).mono ?_
              rintro r w7 ⟨rfl, b7, h7⟩
              rw [← HS3.out] at h7
              have Z := Lib.hid (show StP B0 b s (Xm.step ⟨s.drop at0, o, n, l⟩) w (.returned (.tuple #[])) w7 from ⟨rfl, Z6.out.trans b7, h7⟩)
              clear b7 h7
              go_wp2
              go_end0
              exact Z.out
            | false =>
              have HS3 := Lib.hid (show Xm.step ⟨s.drop at0, o, n, l⟩ = openS ⟨s.drop at0, o, n, l⟩ by rw [HS2.out]; simp)
              clear HS2 hP1 hP2 hP3 hP4 hP5
              go_wp2_with fail
              refine (ropening_any B0 b s at0 o n l _ H6.out (by omega) hs hl hol hn).mono ?_
              rintro r w7 ⟨rfl, b7, h7⟩
              rw [← HS3.out] at h7
              have Z := Lib.hid (show StP B0 b s (Xm.step ⟨s.drop at0, o, n, l⟩) w (.returned (.tuple #[])) w7 from ⟨rfl, Z6.out.trans b7, h7⟩)
              clear b7 h7
              go_wp2
              go_end0
              exact Z.out
  · have gb : ((c.toNat : Int) != 60) = true := by
      have : ¬ (c.toNat : Int) = 60 := fun q => h60 (u8_eq q)
      simp [this]
    have HS3 := Lib.hid (show Xm.step ⟨s.drop at0, o, n, l⟩ = plainS ⟨s.drop at0, o, n, l⟩ by rw [HST.out, if_pos h60])
    clear HST h60 hP1 hP2 hP3 hP4 hP5
    go_quiet (fail)
    rename_i nq
    have H6 := Lib.hid (H5.out.kept ((Kept.refl w5).drewN nq)).1
    have Z6 := Lib.hid (Z5.out.trans (H5.out.kept ((Kept.refl w5).drewN nq)).2)
    generalize w5.drewN nq = w6 at *
    clear H5 Z5 hR c0 c1 gb hat
    go_wp2_with fail
    refine (rplain_any B0 b s at0 o n l _ H6.out (by omega) hs (by omega) (by omega)).mono ?_
    intro r w7 h7
    obtain ⟨rfl, b7, h7⟩ := h7.st
    rw [← HS3.out] at h7
    have Z := Lib.hid (show StP B0 b s (Xm.step ⟨s.drop at0, o, n, l⟩) w (.returned (.tuple #[])) w7 from ⟨rfl, Z6.out.trans b7, h7⟩)
    clear b7 h7
    go_wp2
    go_end0
    exact Z.out
end Go.Proofs.YtknggeplnffegaaGreatDoor
