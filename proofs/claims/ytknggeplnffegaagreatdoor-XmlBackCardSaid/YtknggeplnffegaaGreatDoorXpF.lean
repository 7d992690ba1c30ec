/- Package xml: text, an element's end, an element's beginning, told to the reader. -/
import Derived.Test.YtknggeplnffegaaGreatDoorXpE
set_option linter.unusedVariables false
namespace Go.Proofs.YtknggeplnffegaaGreatDoor
open Go.ChangeShapes Go.WideShapes Go.ChangeAt Go.RowKit
open En Xm
theorem paddt_any (B0 b : Nat) (s : St) (t : B) (w : World) (h : PR B0 b s w) (ho : s.o ≠ []) (hl : s.l.length ≤ 1000000) :
    Calls Tryz.prog 63 #[pV b, sV t] w (RP B0 b (.ok ⟨s.r, s.o, s.n, put t s.o s.l⟩) w) := by
  by_cases ht : t = []
  · subst ht
    have Z := Lib.hid (show RP B0 b (.ok ⟨s.r, s.o, s.n, put [] s.o s.l⟩) w (.returned (.tuple #[])) w from RP.ok (Bo.refl _ _ _) h (by unfold put; simp))
    clear h
    go_enter Tryz.func63, Tryz.ntmps63
    go_wp2
    go_end0
    exact Z.out
  · have hte : t.isEmpty = false := by simpa using ht
    have hp : put t s.o s.l = s.l ++ [tX t] := by unfold put; rw [if_neg (by simp [ht, ho])]
    rw [hp]
    have Z := Lib.hid (padd_any B0 b s (tX t) (.slice none 0 0) w h (AtsO.nil B0 w) hl)
    clear h hp ho
    go_enter Tryz.func63, Tryz.ntmps63
    go_wp2_with fail
    refine Z.out.mono ?_
    rintro e w1 ⟨b1, rfl, h1⟩
    have Y := Lib.hid (RP.ok (x := .ok ⟨s.r, s.o, s.n, s.l ++ [tX t]⟩) b1 h1 rfl)
    clear b1 h1 Z
    go_wp2
    go_end0
    exact Y.out
theorem OwnS.cut {B0 g cap : Nat} {o : List B} {w : World} (h : OwnS B0 (.slice (some ⟨g, 0, none⟩) o.length cap) o w) : OwnS B0 (.slice (some ⟨g, 0, none⟩) (o.length - 1) cap) o.dropLast w := by
  obtain ⟨h1, h2⟩ := h
  refine ⟨by simp, ?_⟩
  rcases h2 with ⟨h2, _⟩ | ⟨g', cap', cur, h2, h3, h4, h5, h6, h7, h8⟩
  · cases h2
  · cases h2
    refine Or.inr ⟨g, cap, cur, by rw [List.length_dropLast], h3, h4, by rw [List.length_dropLast]; omega, h6, h7, ?_⟩
    rw [List.length_dropLast, Nat.mul_one]
    rw [Nat.mul_one] at h8
    have := congrArg (List.take (o.length - 1)) h8
    rw [List.take_take, Nat.min_eq_left (by omega)] at this
    rw [this, List.dropLast_eq_take, List.map_take]
theorem PR.setO {B0 b : Nat} {s : St} {ov lv v' : Value} {w : World} {o' : List B} (hB : b < B0) (hB2 : B0 ≤ w.heap.size) (hn : o' ≠ [] → 1 ≤ s.n) (hR : PB b s.r ov (decide (1 ≤ s.n)) lv w) (hO : OwnS B0 v' o' w) (hT : TokO B0 lv s.l w) :
    PR B0 b ⟨s.r, o', s.n, s.l⟩ (w.setCell ⟨b, 1, none⟩ v') :=
  ⟨hB, by simpa [World.setCell] using hB2, hn, v', lv, hR.setO v', hO.keep ((Ob.refl b w).set 1 v').grown (NoRow.of hR (by decide)), hT.keep ((Ob.refl b w).set 1 v').grown (NoRow.of hR (by decide)) (NoRow.of hR (by decide))⟩
set_option maxRecDepth 100000 in
set_option maxHeartbeats 2000000 in
theorem pleave_any (B0 b : Nat) (s : St) (nm : B) (w : World) (h : PR B0 b s w) (hl : s.l.length ≤ 1000000) (hol : s.o.length ≤ 1000) :
    Calls Tryz.prog 66 #[pV b, sV nm] w (RP B0 b (shut nm s.r s) w) := by
  obtain ⟨hB, hB2, hn, ov, lv, hP, hO, hT⟩ := h
  obtain ⟨c0, c1, c2, c3⟩ := hP.cs
  by_cases ho : s.o = []
  · obtain ⟨oa, oc, hov⟩ := own_slice hO
    rw [hov] at c1
    have hlen : s.o.length = 0 := by rw [ho]; rfl
    have Z := Lib.hid (show RP B0 b (shut nm s.r s) w (gon 2) w from RP.er (Bo.refl _ _ _) (by unfold shut; rw [ho, if_neg (by simp)]))
    clear hO hT hP hov c0 c2 c3 hn
    rw [hlen] at c1
    go_enter Tryz.func66, Tryz.ntmps66
    go_wp2_with fail
    refine (need_no _).mono ?_
    rintro e w1 ⟨rfl, rfl⟩
    exact ⟨rfl, Z.out⟩
  have hlen : s.o.length ≠ 0 := fun e => ho (List.length_eq_zero_iff.1 e)
  obtain ⟨g, cap, hov, hcap, hcm⟩ := own_some hO hlen
  obtain ⟨x, hx⟩ : ∃ x, s.o.getLast? = some x := ⟨s.o.getLast ho, List.getLast?_eq_some_getLast ho⟩
  subst hov
  have hcl : w.cell? ⟨g, s.o.length - 1, none⟩ = some (sV x) := by
    rw [World.ownsRow.cellAt hO (s.o.length - 1) (by omega), List.getElem?_map, last_of ho, hx]; rfl
  have hnl : ((s.o.length : Int) - 1) = ((s.o.length - 1 : Nat) : Int) := by omega
  have hge : decide ((0 : Int) ≤ (s.o.length : Int) - 1) = true := decide_eq_true (by omega)
  have h1 : (0 : Int) ≤ (s.o.length : Int) - 1 := by omega
  have h2 : (s.o.length : Int) - 1 < s.o.length := by omega
  by_cases hnm : x = nm
  · subst hnm
    have hxx : (x == x) = true := by simp
    have hsl : ∀ W : World, (Instr.slice 40 (.slice (some ⟨g, 0, none⟩) s.o.length cap) none (some (iV ((s.o.length - 1 : Nat) : Int))) none).run Tryz.prog W = .ok (.slice (some ⟨g, 0, none⟩) (s.o.length - 1) cap) W := fun W => by
      rw [run_slice_h W 40 _ _ _ (by kernel_rfl) .i64 _ (by omega) (by omega), Int.toNat_natCast, show Tryz.prog.elem 40 = 9 by kernel_rfl]
      simp [sliced, Result.andThen]
      intro _
      rfl
    have H8 := Lib.hid (PR.setO (s := s) hB hB2 (fun q => hn ho) hP hO.cut hT)
    have HX := Lib.hid hx
    have hb8 := Lib.hid ((Bo.refl B0 b w).set 1 (.slice (some ⟨g, 0, none⟩) (s.o.length - 1) cap))
    have f1 := hP.fz 1
    clear hO hT hP c0 c2 c3 hn hx
    go_enter Tryz.func66, Tryz.ntmps66
    go_wp2_with fail
    refine (need_yes _).mono ?_
    rintro e w1 ⟨rfl, rfl⟩
    go_upto_region 3 with (fail)
    generalize w.setCell ⟨b, 1, none⟩ (.slice (some ⟨g, 0, none⟩) (s.o.length - 1) cap) = W1 at *
    go_wp2_with fail
    refine (padd_any B0 b ⟨s.r, s.o.dropLast, s.n, s.l⟩ (tC x) (.slice none 0 0) _ H8.out (AtsO.nil B0 _) hl).mono ?_
    rintro e w2 ⟨b2, rfl, h2'⟩
    have Z := Lib.hid (show RP B0 b (shut x s.r s) w (.returned (.tuple #[])) w2 from RP.ok (hb8.out.trans b2) h2' (by unfold shut; rw [if_pos HX.out]))
    clear b2 h2'
    go_wp2
    go_end0
    exact Z.out
  · have hxb : (x == nm) = false := by simpa using hnm
    have Z := Lib.hid (show RP B0 b (shut nm s.r s) w (gon 2) w from RP.er (Bo.refl _ _ _) (by unfold shut; rw [hx, if_neg (by simpa using hnm)]))
    clear hO hT hP c0 c2 c3 hn hx
    go_enter Tryz.func66, Tryz.ntmps66
    go_wp2_with fail
    refine (need_no _).mono ?_
    rintro e w1 ⟨rfl, rfl⟩
    exact ⟨rfl, Z.out⟩
/-- an element is entered -/
def entS (nm : B) (al : List Atr) (s : St) : Re :=
  if s.o = [] ∧ 1 ≤ s.n then .er 2
  else if 20 < s.o.length + 1 then .er 5
  else .ok ⟨s.r, s.o ++ [nm], if s.o = [] then s.n + 1 else s.n, s.l ++ [tO nm al]⟩
theorem PR.setG {B0 b : Nat} {s : St} {w : World} {n' : Nat} (h : PR B0 b s w) (hn' : 1 ≤ n') : PR B0 b ⟨s.r, s.o, n', s.l⟩ (w.setCell ⟨b, 2, none⟩ (.bool true)) := by
  obtain ⟨hB, hB2, hn, ov, lv, hP, hO, hT⟩ := h
  refine ⟨hB, by simpa [World.setCell] using hB2, fun _ => hn', ov, lv, ?_, hO.keep ((Ob.refl b w).set 2 _).grown (NoRow.of hP (by decide)), hT.keep ((Ob.refl b w).set 2 _).grown (NoRow.of hP (by decide)) (NoRow.of hP (by decide))⟩
  have := hP.setG true
  rw [show decide (1 ≤ n') = true from decide_eq_true hn']
  exact this
set_option maxRecDepth 100000 in
set_option maxHeartbeats 2000000 in
theorem penter_any (B0 b : Nat) (s : St) (nm : B) (al : List Atr) (xa : Value) (w : World) (h : PR B0 b s w) (hx : AtsO B0 xa al w) (hl : s.l.length ≤ 1000000) (hol : s.o.length ≤ 900) :
    Calls Tryz.prog 68 #[pV b, sV nm, xa] w (RP B0 b (entS nm al s) w) := by
  have hh := h
  obtain ⟨hB, hB2, hn, ov, lv, hP, hO, hT⟩ := h
  obtain ⟨c0, c1, c2, c3⟩ := hP.cs
  obtain ⟨oa, oc, hov⟩ := own_slice hO
  obtain ⟨xo, xc, hxs⟩ := own_slice hx
  by_cases hbad : s.o = [] ∧ 1 ≤ s.n
  · have hlen : s.o.length = 0 := by rw [hbad.1]; rfl
    rw [decide_eq_true hbad.2] at c2
    rw [hov, hlen] at c1
    have Z := Lib.hid (show RP B0 b (entS nm al s) w (gon 2) w from RP.er (Bo.refl _ _ _) (by unfold entS; rw [if_pos hbad]))
    clear hh hO hT hP hn hx hov c0 c3 hbad
    subst hxs
    go_enter Tryz.func68, Tryz.ntmps68
    go_wp2_with fail
    refine (need_no _).mono ?_
    rintro e w1 ⟨rfl, rfl⟩
    exact ⟨rfl, Z.out⟩
  · -- the flag set, the name appended
    have hn' : 1 ≤ (if s.o = [] then s.n + 1 else s.n) := by
      split
      · omega
      · rename_i q; exact hn q
    have hneed : (!decide (1 ≤ s.n) || decide ((0 : Int) < s.o.length)) = true := by
      by_cases q : s.o = []
      · have h0 : decide (1 ≤ s.n) = false := decide_eq_false fun q2 => hbad ⟨q, q2⟩
        rw [h0]; rfl
      · have h0 : decide ((0 : Int) < s.o.length) = true := decide_eq_true (by have := List.length_pos_iff.2 q; omega)
        rw [h0, Bool.or_true]
    have HENT := Lib.hid (show entS nm al s = if 20 < s.o.length + 1 then .er 5 else .ok ⟨s.r, s.o ++ [nm], if s.o = [] then s.n + 1 else s.n, s.l ++ [tO nm al]⟩ by unfold entS; rw [if_neg hbad])
    have G1 := hh.setG hn'
    have Gx := own_keep hx ((Ob.refl b w).set 2 (.bool true)).grown (NoRow.of hP (by decide))
    have Gb := (Bo.refl B0 b w).set 2 (.bool true)
    have f2 := hP.fz 2
    clear hO hT hx hbad hh
    generalize hn0 : (if s.o = [] then s.n + 1 else s.n) = n' at *
    obtain ⟨_, hB3, hn3, ov3, lv3, hP3, hO3, hT3⟩ := G1
    have hd : decide (1 ≤ n') = true := decide_eq_true hn'
    rw [hd] at hP3
    subst hov
    subst hxs
    cases hg : decide (1 ≤ s.n) with
    | false =>
      rw [hg] at c2
      clear hneed
      go_enter Tryz.func68, Tryz.ntmps68
      go_wp2_with fail
      refine (need_yes _).mono ?_
      rintro e w1 ⟨rfl, rfl⟩
      go_upto_region 2 with (fail)
      generalize w.setCell ⟨b, 2, none⟩ (.bool true) = W1 at *
      obtain ⟨oa3, oc3, hov3⟩ := own_slice hO3
      obtain ⟨i0, hi, hz0, hz1, hz2⟩ := info_parts infoS
      have x1 := World.grownBy_alloc W1 (.cells #[sV nm] 9) none
      have hOx := Lib.hid (World.ownsRow.alloc hO3 (.cells #[sV nm] 9))
      have hPx := Lib.hid (hP3.kept ((Kept.refl W1).alloc (.cells #[sV nm] 9)))
      have hTx := Lib.hid (hT3.keep x1 NoRow.none NoRow.none)
      have hXx := Lib.hid (own_keep Gx x1 NoRow.none)
      have hbx := Lib.hid (Gb.alloc hB3 (.cells #[sV nm] 9))
      obtain ⟨d0, d1, d2, d3⟩ := hP3.cs
      subst hov3
      clear hO3 hP3 hT3 Gx Gb x1 c0 c1 c2 c3 hP
      go_wp2_with (at_builtin; refine wpList_append_own _ rfl _ _ 40 rfl B0 9 i0 _ 1 16 Tryz.underlying40 hi hz0 hz1 hz2 rfl (by decide) _ _ _ rfl hOx.out ⟨W1.heap.size, 0, none⟩ 1 1 [sV nm] rfl rfl ?n1 ?n2 ?n3 ?n4 ?n5 ?_)
      case n1 =>
        intro j u hj
        match j, hj with
        | 0, hj => simp at hj; subst hj; simp [Addr.add]
      case n2 => intro u hu; simp at hu; subst hu; rfl
      case n3 => unfold maxLen; omega
      case n4 => omega
      case n5 => simp; omega
      intro v' w7 hown' hgrow _
      have hBx : B0 ≤ (W1.alloc (.cells #[sV nm] 9)).heap.size := by simp; omega
      have P7 := hPx.out.grow hgrow (NoRow.own hOx.out (by decide))
      have T7 := hTx.out.keep hgrow (NoRow.own hOx.out (by decide)) (NoRow.own hOx.out (by decide))
      have X7 := own_keep hXx.out hgrow (NoRow.own hOx.out (by decide))
      have O7 : OwnS B0 v' (s.o ++ [nm]) w7 := by
        unfold OwnS
        rw [List.length_append, List.map_append]
        exact hown'
      have B7 : Bo B0 b w w7 := hbx.out.grown hgrow hBx (fun k hk => (World.ownsRow.lt hOx.out k hk).1)
      have hB7 : B0 ≤ w7.heap.size := Nat.le_trans hBx hgrow.size
      obtain ⟨ao, cp, hv'⟩ := own_slice hown'
      have f7 := P7.fz 1
      obtain ⟨g0, g1, g2, g3⟩ := P7.cs
      have H8 := Lib.hid (PR.setO (s := ⟨s.r, s.o, n', s.l⟩) (o' := s.o ++ [nm]) hB hB7 (fun _ => hn') (by rw [hd]; exact P7) O7 T7)
      have X8 := Lib.hid (own_keep X7 ((Ob.refl b w7).set 1 v').grown (NoRow.of P7 (by decide)))
      have B8 := Lib.hid (B7.set 1 v')
      clear P7 T7 X7 O7 B7 hown' hgrow hOx hPx hTx hXx hbx hBx
      subst hv'
      go_upto_region 3 with (fail)
      generalize w7.setCell ⟨b, 1, none⟩ (.slice ao (s.o.length + 1) cp) = W8 at *
      clear g0 g1 g2 g3 f7 d0 d1 d2 d3
      obtain ⟨_, _, _, ov8, lv8, P8, O8, _⟩ := H8.out
      obtain ⟨oa8, oc8, hov8⟩ := own_slice O8
      obtain ⟨g0, g1, g2, g3⟩ := P8.cs
      rw [hov8, List.length_append] at g1
      clear P8 O8 hov8
      by_cases h20 : 20 < s.o.length + 1
      · have h20I : (20 : Int) < (s.o.length : Int) + 1 := by omega
        have Z := Lib.hid (show RP B0 b (entS nm al s) w (gon 5) W8 from RP.er B8.out (by rw [HENT.out, if_pos h20]))
        clear H8 X8 B8 HENT h20
        go_wp2
        exact ⟨rfl, Z.out⟩
      · have h20I : ¬ (20 : Int) < (s.o.length : Int) + 1 := by omega
        have HE := Lib.hid (show entS nm al s = .ok ⟨s.r, s.o ++ [nm], n', s.l ++ [tO nm al]⟩ by rw [HENT.out, if_neg h20])
        clear HENT h20
        go_wp2_with fail
        refine (padd_any B0 b ⟨s.r, s.o ++ [nm], n', s.l⟩ (tO nm al) _ _ H8.out X8.out hl).mono ?_
        rintro e w9 ⟨b9, rfl, h9⟩
        have Z := Lib.hid (show RP B0 b (entS nm al s) w (.returned (.tuple #[])) w9 from RP.ok (B8.out.trans b9) h9 HE.out)
        clear b9 h9
        go_wp2
        go_end0
        exact Z.out
    | true =>
      rw [hg] at c2
      have hpos : (0 : Int) < s.o.length := by
        rw [hg, Bool.not_true, Bool.false_or] at hneed
        exact of_decide_eq_true hneed
      clear hneed
      go_enter Tryz.func68, Tryz.ntmps68
      go_wp2_with fail
      refine (need_ok _ (decide_eq_true (by omega)) _).mono ?_
      rintro e w1 ⟨rfl, rfl⟩
      go_upto_region 2 with (fail)
      generalize w.setCell ⟨b, 2, none⟩ (.bool true) = W1 at *
      obtain ⟨oa3, oc3, hov3⟩ := own_slice hO3
      obtain ⟨i0, hi, hz0, hz1, hz2⟩ := info_parts infoS
      have x1 := World.grownBy_alloc W1 (.cells #[sV nm] 9) none
      have hOx := Lib.hid (World.ownsRow.alloc hO3 (.cells #[sV nm] 9))
      have hPx := Lib.hid (hP3.kept ((Kept.refl W1).alloc (.cells #[sV nm] 9)))
      have hTx := Lib.hid (hT3.keep x1 NoRow.none NoRow.none)
      have hXx := Lib.hid (own_keep Gx x1 NoRow.none)
      have hbx := Lib.hid (Gb.alloc hB3 (.cells #[sV nm] 9))
      obtain ⟨d0, d1, d2, d3⟩ := hP3.cs
      subst hov3
      clear hO3 hP3 hT3 Gx Gb x1 c0 c1 c2 c3 hP
      go_wp2_with (at_builtin; refine wpList_append_own _ rfl _ _ 40 rfl B0 9 i0 _ 1 16 Tryz.underlying40 hi hz0 hz1 hz2 rfl (by decide) _ _ _ rfl hOx.out ⟨W1.heap.size, 0, none⟩ 1 1 [sV nm] rfl rfl ?n1 ?n2 ?n3 ?n4 ?n5 ?_)
      case n1 =>
        intro j u hj
        match j, hj with
        | 0, hj => simp at hj; subst hj; simp [Addr.add]
      case n2 => intro u hu; simp at hu; subst hu; rfl
      case n3 => unfold maxLen; omega
      case n4 => omega
      case n5 => simp; omega
      intro v' w7 hown' hgrow _
      have hBx : B0 ≤ (W1.alloc (.cells #[sV nm] 9)).heap.size := by simp; omega
      have P7 := hPx.out.grow hgrow (NoRow.own hOx.out (by decide))
      have T7 := hTx.out.keep hgrow (NoRow.own hOx.out (by decide)) (NoRow.own hOx.out (by decide))
      have X7 := own_keep hXx.out hgrow (NoRow.own hOx.out (by decide))
      have O7 : OwnS B0 v' (s.o ++ [nm]) w7 := by
        unfold OwnS
        rw [List.length_append, List.map_append]
        exact hown'
      have B7 : Bo B0 b w w7 := hbx.out.grown hgrow hBx (fun k hk => (World.ownsRow.lt hOx.out k hk).1)
      have hB7 : B0 ≤ w7.heap.size := Nat.le_trans hBx hgrow.size
      obtain ⟨ao, cp, hv'⟩ := own_slice hown'
      have f7 := P7.fz 1
      obtain ⟨g0, g1, g2, g3⟩ := P7.cs
      have H8 := Lib.hid (PR.setO (s := ⟨s.r, s.o, n', s.l⟩) (o' := s.o ++ [nm]) hB hB7 (fun _ => hn') (by rw [hd]; exact P7) O7 T7)
      have X8 := Lib.hid (own_keep X7 ((Ob.refl b w7).set 1 v').grown (NoRow.of P7 (by decide)))
      have B8 := Lib.hid (B7.set 1 v')
      clear P7 T7 X7 O7 B7 hown' hgrow hOx hPx hTx hXx hbx hBx
      subst hv'
      go_upto_region 3 with (fail)
      generalize w7.setCell ⟨b, 1, none⟩ (.slice ao (s.o.length + 1) cp) = W8 at *
      clear g0 g1 g2 g3 f7 d0 d1 d2 d3
      obtain ⟨_, _, _, ov8, lv8, P8, O8, _⟩ := H8.out
      obtain ⟨oa8, oc8, hov8⟩ := own_slice O8
      obtain ⟨g0, g1, g2, g3⟩ := P8.cs
      rw [hov8, List.length_append] at g1
      clear P8 O8 hov8
      by_cases h20 : 20 < s.o.length + 1
      · have h20I : (20 : Int) < (s.o.length : Int) + 1 := by omega
        have Z := Lib.hid (show RP B0 b (entS nm al s) w (gon 5) W8 from RP.er B8.out (by rw [HENT.out, if_pos h20]))
        clear H8 X8 B8 HENT h20
        go_wp2
        exact ⟨rfl, Z.out⟩
      · have h20I : ¬ (20 : Int) < (s.o.length : Int) + 1 := by omega
        have HE := Lib.hid (show entS nm al s = .ok ⟨s.r, s.o ++ [nm], n', s.l ++ [tO nm al]⟩ by rw [HENT.out, if_neg h20])
        clear HENT h20
        go_wp2_with fail
        refine (padd_any B0 b ⟨s.r, s.o ++ [nm], n', s.l⟩ (tO nm al) _ _ H8.out X8.out hl).mono ?_
        rintro e w9 ⟨b9, rfl, h9⟩
        have Z := Lib.hid (show RP B0 b (entS nm al s) w (.returned (.tuple #[])) w9 from RP.ok (B8.out.trans b9) h9 HE.out)
        clear b9 h9
        go_wp2
        go_end0
        exact Z.out
end Go.Proofs.YtknggeplnffegaaGreatDoor
