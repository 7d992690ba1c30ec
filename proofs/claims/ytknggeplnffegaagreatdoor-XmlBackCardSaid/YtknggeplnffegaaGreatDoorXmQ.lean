/- The document's own answers of layer xml: the end of an element, read. -/
import Derived.Test.YtknggeplnffegaaGreatDoorXmO
set_option linter.unusedVariables false
namespace Go.Proofs.YtknggeplnffegaaGreatDoor
open Go.ChangeShapes Go.WideShapes Go.ChangeAt Go.RowKit
open En Xm
/-- what a step comes to -/
def StP (B0 b : Nat) (s : B) (re : Re) (w : World) (r : Ending) (w' : World) : Prop :=
  r = .returned (.tuple #[]) ∧ Below B0 w w' ∧ match re with
  | .ok s' => RS B0 b s (s.length - s'.r.length) s'.o s'.n s'.l 0 w'
  | .er e => ∃ at1 o1 n1 l1, at1 ≤ s.length ∧ RS B0 b s at1 o1 n1 l1 e w'
theorem PlP.st {B0 b : Nat} {s : B} {at0 : Nat} {o : List B} {n : Nat} {l : List Tk} {w : World} {r : Ending} {w' : World} (h : PlP B0 b s at0 o n l w r w') : StP B0 b s (plainS ⟨s.drop at0, o, n, l⟩) w r w' := by
  obtain ⟨h1, h2, h3⟩ := h
  refine ⟨h1, h2, ?_⟩
  cases hq : plainS ⟨s.drop at0, o, n, l⟩ with
  | ok s' => rw [hq] at h3; exact h3
  | er e => rw [hq] at h3; obtain ⟨a, b1, c⟩ := h3; exact ⟨a, o, n, l, b1, c⟩
theorem suf_drop {s y z : B} (hy : s.drop (s.length - y.length) = y) (hl : y.length ≤ s.length) (hz : z <:+ y) : s.drop (s.length - z.length) = z ∧ z.length ≤ s.length := by
  obtain ⟨t, ht⟩ := hz
  have h1 := congrArg List.length ht
  rw [List.length_append] at h1
  refine ⟨?_, by omega⟩
  have : s.drop (s.length - y.length + t.length) = z := by
    rw [← List.drop_drop, hy, ← ht, List.drop_left]
  rw [show s.length - z.length = s.length - y.length + t.length by omega, this]
theorem skip_suf (y : B) : skip y <:+ y := by unfold skip; exact List.dropWhile_suffix _
theorem pfx_one {q : UInt8} {y : B} : ([q] : B).isPrefixOf y = true ↔ ∃ t, y = q :: t := by
  rw [List.isPrefixOf_iff_prefix]
  constructor
  · rintro ⟨t, rfl⟩; exact ⟨t, rfl⟩
  · rintro ⟨t, rfl⟩; exact ⟨t, rfl⟩
set_option maxRecDepth 100000 in
set_option maxHeartbeats 4000000 in
theorem rending_any (B0 b : Nat) (s : B) (at0 : Nat) (o : List B) (n : Nat) (l : List Tk) (w : World) (h : RS B0 b s at0 o n l 0 w) (ha : at0 + 2 ≤ s.length) (hs : s.length ≤ 1000000) (hl : l.length ≤ 1000000) (hol : o.length ≤ 1000) :
    Calls Tryz.prog 40 #[pV b] w (StP B0 b s (endS ⟨s.drop at0, o, n, l⟩) w) := by
  obtain ⟨ov, lv, hR0, _, hback⟩ := h.of
  have HB := Lib.hid hback
  obtain ⟨c0, c1, c2, c3, c4, c5⟩ := hR0.cs
  have f1 := hR0.fz 1
  have H1 := Lib.hid (hR0.setAt (at0 + 2))
  have O1 := Lib.hid ((Ob.refl b w).set 1 (iV ((at0 + 2 : Nat) : Int)))
  clear c2 c3 c4 c5 hback h hR0
  go_enter Tryz.func40, Tryz.ntmps40
  go_wp2_with fail
  refine (rtname_any b s (at0 + 2) ov n lv 0 _ H1.out ha hs).mono ?_
  rintro r w2 ⟨o2, rfl, h2⟩
  have O2 := Lib.hid (O1.out.trans o2)
  obtain ⟨hy, hyl⟩ := nm_drop (s.drop (at0 + 2)) s (at0 + 2) rfl ha
  have HES := Lib.hid (show endS ⟨s.drop at0, o, n, l⟩ = (if isN (nmS (s.drop (at0 + 2))).1 = true then (match skip (nmS (s.drop (at0 + 2))).2 with | 62 :: u => shut (nmS (s.drop (at0 + 2))).1 u ⟨s.drop at0, o, n, l⟩ | _ => .er 2) else .er 2) by
    unfold endS
    simp only [List.drop_drop]
    rfl)
  generalize (nmS (s.drop (at0 + 2))).1 = nm at *
  generalize (nmS (s.drop (at0 + 2))).2 = y at *
  have h2' : Rd b s (s.length - y.length) ov n lv (if isN nm = true then 0 else 2) w2 := by
    have : er1 0 2 = 2 := rfl
    rw [this] at h2; exact h2
  generalize hg1 : (if isN nm = true then (0 : Int) else 2) = e1 at h2'
  have HE1 := Lib.hid hg1.symm
  have H2 := Lib.hid h2'
  obtain ⟨hz, hzl⟩ := suf_drop hy hyl (skip_suf y)
  have HZ0 := Lib.hid hy
  clear h2 h2' hg1 o2 H1 O1 c0 c1 f1 hy
  go_wp2_with fail
  refine (rspaces_any b s (s.length - y.length) ov n lv e1 _ H2.out (by omega) hs).mono ?_
  rintro r w3 ⟨o3, rfl, h3⟩
  rw [HZ0.out] at h3 ⊢
  have O3 := Lib.hid (O2.out.trans o3)
  have H3 := Lib.hid h3
  have HZ := Lib.hid hz
  clear h3 o3 H2 O2 hz
  generalize skip y = z at *
  go_wp2_with fail
  refine (rbegins_any b s [62] (s.length - z.length) ov n lv e1 _ H3.out (by omega) hs (by simp)).mono ?_
  rintro r w4 ⟨rfl, k4⟩
  rw [HZ.out]
  have O4 := Lib.hid (O3.out.kept k4)
  have H4 := Lib.hid (H3.out.kept k4)
  clear H3 O3 k4
  cases hb : ([62] : B).isPrefixOf z with
  | false =>
    have hre : endS ⟨s.drop at0, o, n, l⟩ = .er 2 := by
      rw [HES.out]
      split
      · split
        · rename_i u
          rw [pfx_one.2 ⟨u, rfl⟩] at hb; cases hb
        · rfl
      · rfl
    have e2 : er1 e1 2 = 2 := by rw [HE1.out]; split <;> rfl
    have HRE := Lib.hid hre
    clear hre hb
    go_wp2_with fail
    refine (rfail_any b s (s.length - z.length) ov n lv e1 2 _ H4.out).mono ?_
    rintro r w5 ⟨rfl, h5, o5⟩
    rw [e2] at h5
    obtain ⟨q1, q2⟩ := HB.out _ _ _ w5 h5 (O4.out.trans o5)
    have Z := Lib.hid (And.intro q1 q2)
    clear h5 o5 q1 q2
    go_wp2
    refine bodyPost_ret (results_none rfl _ _ _) rfl ?_
    refine ⟨rfl, Z.out.2, ?_⟩
    rw [HRE.out]
    exact ⟨_, o, n, l, by omega, Z.out.1⟩
  | true =>
    obtain ⟨u, hu⟩ := pfx_one.1 hb
    subst hu
    simp only [List.length_cons] at H4 hzl HZ
    have hre := HES.out
    simp only at hre
    obtain ⟨d0, d1, d2, d3, d4, d5⟩ := H4.out.cs
    have g1 := H4.out.fz 1
    have h5 := H4.out.setAt (s.length - (u.length + 1) + 1)
    have o5 := O4.out.set 1 (iV ((s.length - (u.length + 1) + 1 : Nat) : Int))
    obtain ⟨q1, q2⟩ := HB.out _ _ _ _ h5 o5
    have Q := Lib.hid (And.intro q1 q2)
    have HRE := Lib.hid hre
    clear h5 o5 q1 q2 hre hb d2 d3 d4 d5
    go_wp2_with fail
    generalize hk : s.length - (u.length + 1) = k at *
    refine (rclose_any B0 b s nm (k + 1) o n l e1 _ Q.out.1 hl hol).mono ?_
    rintro r w6 ⟨rfl, b6, hc⟩
    have Z := Lib.hid (And.intro b6 hc)
    clear b6 hc
    go_wp2
    go_end0
    refine ⟨rfl, Q.out.2.trans Z.out.1, ?_⟩
    rw [HRE.out]
    have hc := Z.out.2
    have e2 : er1 2 2 = 2 := rfl
    have e0 : er1 0 2 = 2 := rfl
    by_cases hn : isN nm = true
    · rw [if_pos hn]
      have he : e1 = 0 := by rw [HE1.out, if_pos hn]
      rw [he] at hc
      unfold shut
      simp only
      by_cases hq : o.getLast? = some nm
      · rw [if_pos hq] at hc ⊢
        show RS B0 b s (s.length - u.length) o.dropLast n (l ++ [tC nm]) 0 w6
        rw [show s.length - u.length = k + 1 by omega]
        exact hc
      · rw [if_neg hq] at hc ⊢
        rw [e0] at hc
        exact ⟨_, o, n, l, by omega, hc⟩
    · rw [if_neg hn]
      have he : e1 = 2 := by rw [HE1.out, if_neg hn]
      rw [he] at hc
      by_cases hq : o.getLast? = some nm
      · rw [if_pos hq] at hc
        exact ⟨_, _, n, _, by omega, hc⟩
      · rw [if_neg hq, e2] at hc
        exact ⟨_, o, n, l, by omega, hc⟩
end Go.Proofs.YtknggeplnffegaaGreatDoor
