import Derived.Test.YtjlpkgipdkjfhaaGreatDoorDc
import Derived.Test.YtjlpkgipdkjfhaaGreatDoorDgRa
import Derived.Test.YtjlpkgipdkjfhaaGreatDoorRq
import Derived.Test.YtjlpkgipdkjfhaaGreatDoorPtRj
import Derived.Test.YtjlpkgipdkjfhaaGreatDoorRa
import Derived.Test.YtjlpkgipdkjfhaaGreatDoorRc
set_option linter.unusedSimpArgs false
set_option linter.unusedVariables false
namespace Go.Proofs.YtjlpkgipdkjfhaaGreatDoor.Bk.Dg
open Go.ChangeShapes Go.WideShapes Go.ChangeAt Go.RowKit Go.Shelf
open Go.Proofs.YtjlpkgipdkjfhaaGreatDoor.Dg
open Hd (Hdr HRd SRd OwnM okA lnA)
open Pt (joined b0 LRd jB jX jE)
open Sm (inCal)
theorem rmail_any (t o : Int) (w : World) : Calls Tryz.prog 30 #[iV t, iV o] w fun e w' => e = .returned (.tuple #[sV (mlS t o).1, iV (mlS t o).2]) ∧ Kept w w' := by
  by_cases ho : o < -93599 ∨ 93599 < o
  · have hz : mlS t o = ([], 1) := by unfold mlS; rw [if_neg (by omega)]
    rw [hz]
    exact Sm.rmail_off t o w ho
  · by_cases hi : inCal (t + o)
    · have hz : mlS t o = (Sm.mtx (t + o) o, 0) := by unfold mlS; rw [if_pos ⟨by omega, hi⟩]
      rw [hz]
      exact (Sm.rmail_yes t o w (by omega) (by omega) hi).mono fun e w' h => h.2
    · have hz : mlS t o = ([], 1) := by unfold mlS; rw [if_neg (fun e => hi e.2)]
      rw [hz]
      exact Sm.rmail_not t o w (by omega) (by omega) hi
theorem rall7 (rcp S D I X : B) (y : World) (h : okA [(fromN, fromT), (toN, rcp), (sbN, S), (dtN, D), (idN, I), (mvN, mvT), (ctN, X)] = true) :
    Calls Tryz.prog 33 #[.slice (some ⟨y.heap.size, 0, none⟩) 7 7] (y.alloc (.cells #[sV fromN, sV fromT, sV toN, sV rcp, sV sbN, sV S, sV dtN, sV D, sV idN, sV I, sV mvN, sV mvT, sV ctN, sV X] 41))
      fun e w' => ∃ xv, e = .returned (.tuple #[xv, iV 0]) ∧ OwnM y.heap.size xv (lnA [(fromN, fromT), (toN, rcp), (sbN, S), (dtN, D), (idN, I), (mvN, mvT), (ctN, X)]) w' ∧ Kept y w' := by
  have k := (Kept.refl y).alloc (.cells #[sV fromN, sV fromT, sV toN, sV rcp, sV sbN, sV S, sV dtN, sV D, sV idN, sV I, sV mvN, sV mvT, sV ctN, sV X] 41)
  refine (Hd.rall_any _ _ _ (hrd7 rcp S D I X y) (fun x hx => ?_)).mono ?_
  · have := (Hd.okA_all h).1 x hx
    unfold Hd.okH Hd.nam at this
    simp only [Bool.and_eq_true, decide_eq_true_eq] at this
    omega
  · rintro e w' ⟨xv, rfl, ho, kk⟩
    rw [Hd.aE_ok h]
    rw [Hd.all_lnA h] at ho
    exact ⟨xv, rfl, ho.mono k.size, k.trans kk⟩
theorem rjoin_two (kv lv : Value) (l : List It) (w : World) (hk : SRd kv [kT, kH] w) (hl : LRd lv [txt l, htm l] w) (h1 : (txt l).length ≤ 100000) (h2 : (htm l).length ≤ 100000) :
    Calls Tryz.prog 31 #[kv, lv] w fun e w' => ∃ xv, e = .returned (.tuple #[xv, sV b0, iV 0]) ∧ OwnB w.heap.size xv (joined (two l)) w' ∧ Kept w w' := by
  have h := Pt.rjoin_any kv lv [kT, kH] [txt l, htm l] w hk hl (by
    intro k hk
    simp only [List.mem_cons, List.not_mem_nil, or_false] at hk
    rcases hk with rfl | rfl <;> decide) (by
    intro b hb
    simp only [List.mem_cons, List.not_mem_nil, or_false] at hb
    rcases hb with rfl | rfl
    · exact h1
    · exact h2)
  have e1 : jB [kT, kH] [txt l, htm l] = joined (two l) := by unfold jB; rw [if_pos (okJ_two l)]; rfl
  have e2 : jX [kT, kH] [txt l, htm l] = b0 := by unfold jX; rw [if_pos (okJ_two l)]
  have e3 : jE [kT, kH] [txt l, htm l] = 0 := by unfold jE; rw [if_pos (okJ_two l)]
  unfold Pt.RjR at h
  rw [e1, e2, e3] at h
  exact h
theorem srd_two (w y : World) (k : Kept (w.alloc (.cells #[sV kT, sV kH] 9)) y) : SRd (.slice (some ⟨w.heap.size, 0, none⟩) 2 2) [kT, kH] y := by
  refine ⟨_, _, rfl, fun _ => ⟨w.heap.size, 0, rfl, by decide, fun i t hi => ?_⟩⟩
  match i, hi with
  | 0, hi => cases hi; exact k.new 0 rfl
  | 1, hi => cases hi; exact k.new 1 rfl
  | n + 2, hi => simp at hi
theorem lrd_two (x1 x2 : Value) (b1 b2 : B) (w : World) (h1 : BRd x1 b1 w) (h2 : BRd x2 b2 w) : LRd (.slice (some ⟨w.heap.size, 0, none⟩) 2 2) [b1, b2] (w.alloc (.cells #[x1, x2] 25)) := by
  have k := (Kept.refl w).alloc (.cells #[x1, x2] 25)
  have g := Kept.refl (w.alloc (.cells #[x1, x2] 25))
  refine ⟨_, _, rfl, fun e => (by cases e), fun _ => ⟨w.heap.size, 0, rfl, by simp, fun i t hi => ?_⟩⟩
  match i, hi with
  | 0, hi => cases hi; exact ⟨x1, g.new 0 rfl, h1.kept k⟩
  | 1, hi => cases hi; exact ⟨x2, g.new 1 rfl, h2.kept k⟩
  | n + 2, hi => simp at hi
set_option maxRecDepth 100000 in
set_option maxHeartbeats 8000000 in
theorem rbuild_any (rcp : B) (sub no t o : Int) (v : Value) (l : List It) (w : World) (hR : ItRd v l w) (hF : Fw l 12) (hr : rcp.length ≤ 1000000) :
    Calls Tryz.prog 12 #[sV rcp, iV sub, iV no, iV t, iV o, v] w (BdP (bldR rcp sub no t o l) w) := by
  have HR := Lib.hid hR
  have HI := Lib.hid (fun w => rid_any sub no w)
  have HAd := Lib.hid (fun w => raddress_any rcp w hr)
  have HM := Lib.hid (fun w => rmail_any t o w)
  have HTx := Lib.hid (fun w hR => rtext_any v l w hR 12 hF (by omega))
  have HHt := Lib.hid (fun w hR => rhtml_any v l w hR 12 hF (by omega))
  have hS := hF.sm (by omega)
  have htx : (txt l).length ≤ 100000 := by have h1 := hF.txt; have h2 := hF.1; omega
  have hht : (htm l).length ≤ 100000 := by have h1 := hF.htm; have h2 := hF.1; omega
  have HJ := Lib.hid (fun kv lv w hk hl => rjoin_two kv lv l w hk hl htx hht)
  have HB := Lib.hid (show bldR rcp sub no t o l = if okI sub no = true then (if adr rcp = true then (if l = [] then ([], 3) else (if (mlS t o).2 = 0 then (mail rcp sub.toNat no.toNat (mlS t o).1 l, 0) else ([], (mlS t o).2))) else ([], 1)) else ([], 1) from rfl)
  have hml := mlS_len t o
  have hS4 := hF.1
  have hal := @adr_len rcp
  obtain ⟨va, vc, rfl⟩ := hR.slice
  generalize bldR rcp sub no t o l = R at *
  generalize mlS t o = m at *
  obtain ⟨D, me⟩ := m
  simp only at HM HB hml
  clear hR hr hF
  by_cases hi : okI sub no = true
  case neg =>
    rw [idR_no hi] at HI
    have HZ := Lib.hid (show R = ([], 1) by rw [HB.out, if_neg hi])
    clear hi HB hml hal hS4
    go_enter Tryz.func12, Tryz.ntmps12
    go_wp2_with fail
    refine (HI.out _).mono ?_
    rintro e y ⟨rfl, rfl⟩
    go_wp2
    go_ret2
    rw [HZ.out]
    exact BdP.nil 1 (Kept.refl _)
  rw [idR_yes hi] at HI
  cases ha : adr rcp with
  | false =>
    have HZ := Lib.hid (show R = ([], 1) by rw [HB.out, if_pos hi, if_neg (by rw [ha]; decide)])
    rw [ha] at HAd
    clear hi HB hml ha hal hS4
    generalize idT no.toNat sub.toNat = I at *
    go_enter Tryz.func12, Tryz.ntmps12
    go_wp2_with fail
    refine (HI.out _).mono ?_
    rintro e y ⟨rfl, rfl⟩
    go_wp2_with fail
    refine (HAd.out _).mono ?_
    rintro e y2 ⟨rfl, rfl⟩
    go_wp2
    go_ret2
    rw [HZ.out]
    exact BdP.nil 1 (Kept.refl _)
  | true =>
    have hal := hal ha
    rw [ha] at HAd
    by_cases hl : l = []
    · have HZ := Lib.hid (show R = ([], 3) by rw [HB.out, if_pos hi, if_pos ha, if_pos hl])
      have hlI : (l.length : Int) = 0 := by rw [hl]; rfl
      clear hi HB hml ha hal hl HJ HR hS4 hS HTx HHt htx hht
      generalize l.length = n at *
      generalize idT no.toNat sub.toNat = I at *
      go_enter Tryz.func12, Tryz.ntmps12
      go_wp2_with fail
      refine (HI.out _).mono ?_
      rintro e y ⟨rfl, rfl⟩
      go_wp2_with fail
      refine (HAd.out _).mono ?_
      rintro e y2 ⟨rfl, rfl⟩
      go_wp2
      go_ret2
      rw [HZ.out]
      exact BdP.nil 3 (Kept.refl _)
    · have hlI : ¬ (l.length : Int) = 0 := fun e => hl (List.length_eq_zero_iff.1 (by omega))
      by_cases hm : me = 0
      case neg =>
        have HZ := Lib.hid (show R = ([], me) by rw [HB.out, if_pos hi, if_pos ha, if_neg hl, if_neg hm])
        clear hi HB hml ha hal hl hS4
        have hlI' : ((l.length : Int) == 0) = false := beq_eq_false_iff_ne.2 hlI
        generalize idT no.toNat sub.toNat = I at *
        go_enter Tryz.func12, Tryz.ntmps12
        go_wp2_with fail
        refine (HI.out _).mono ?_
        rintro e y ⟨rfl, rfl⟩
        go_wp2_with fail
        refine (HAd.out _).mono ?_
        rintro e y2 ⟨rfl, rfl⟩
        go_wp2_with fail
        refine (HM.out _).mono ?_
        rintro e y3 ⟨rfl, k3⟩
        have K3 := Lib.hid k3
        clear k3
        go_wp2
        go_ret2
        rw [HZ.out]
        exact BdP.nil me K3.out
      subst hm
      have HZ := Lib.hid (show R = (lnA (hd7 rcp sub.toNat no.toNat D l.length) ++ joined (two l), 0) by rw [HB.out, if_pos hi, if_pos ha, if_neg hl, if_pos rfl]; rfl)
      obtain ⟨i1, i2, i3, i4⟩ := okI_iff.1 hi
      obtain ⟨s', rfl⟩ := Int.eq_ofNat_of_zero_le i1
      obtain ⟨n', rfl⟩ := Int.eq_ofNat_of_zero_le (show 0 ≤ no by omega)
      have hOK7 := (hd7_ok (rcp := rcp) (sub := s') (no := n') (date := D) (n := l.length) hal (by omega) (by omega) (by omega) (by omega))
      have HOK := Lib.hid hOK7
      have HN1 := Lib.hid (fun w => rnum_any n' w (by omega))
      have HN2 := Lib.hid (fun w => rnum_any l.length w (by omega))
      have l1 := dec_le10 9 n' (by omega)
      have l2 := dec_le10 9 l.length (by omega)
      rw [Int.toNat_natCast, Int.toNat_natCast] at HZ HI
      have HL := Lib.hid (show (lnA (hd7 rcp s' n' D l.length)).length ≤ 50000000000000 ∧ (joined (two l)).length ≤ 50000000000000 from ⟨by have := lnA7 (Hd.okA_all hOK7).1; simp only [hd7, List.length_cons, List.length_nil] at this ⊢; omega, by have := two_len l; have := hS.2.1; have := hS.2.2.1; omega⟩)
      clear hOK7
      unfold hd7 at HOK HZ HL
      have hb0 : b0.length = 3 := rfl
      have HCT := Lib.hid (show ct7 = ctT ++ (b0 ++ [34]) from rfl)
      generalize hct : ct7 = CT at *
      clear hct
      have HSJ := Lib.hid (show sbj n' l.length = dgW ++ (Lib.decDigits n' ++ ([58, 32] ++ (Lib.decDigits l.length ++ noun l.length))) from rfl)
      have HNN := Lib.hid (show noun l.length = if l.length = 1 then enS else enP from rfl)
      have hnn : (noun l.length).length ≤ 10 := by unfold noun; split <;> decide
      generalize sbj n' l.length = S at *
      generalize noun l.length = nn at *
      generalize idT n' s' = I at *
      generalize Lib.decDigits n' = da at *
      generalize Lib.decDigits l.length = db at *
      have hlI' : ((l.length : Int) == 0) = false := beq_eq_false_iff_ne.2 hlI
      clear hi HB hml ha hl i1 i2 i3 i4
      go_enter Tryz.func12, Tryz.ntmps12
      go_wp2_with fail
      refine (HI.out _).mono ?_
      rintro e y ⟨rfl, rfl⟩
      go_wp2_with fail
      refine (HAd.out _).mono ?_
      rintro e y2 ⟨rfl, rfl⟩
      go_wp2_with fail
      refine (HM.out _).mono ?_
      rintro e y3 ⟨rfl, k3⟩
      have K3 := Lib.hid k3
      have k4 := (Kept.refl y3).alloc (.cells #[sV kT, sV kH] 9)
      have K4 := Lib.hid (k3.trans k4)
      clear k3 k4
      go_wp2_with fail
      refine (HTx.out _ (HR.out.kept K4.out)).mono ?_
      rintro e y5 ⟨rfl, k5⟩
      have K5 := Lib.hid (K4.out.trans k5)
      have S5 := Lib.hid (show Kept (y3.alloc (.cells #[sV kT, sV kH] 9)) y5 from k5)
      obtain ⟨c6, y6, hcv6, k6, hb6⟩ := to_bytes (txt l) y5
      have K6 := Lib.hid (K5.out.trans k6)
      have S6 := Lib.hid (S5.out.trans k6)
      have B6 := Lib.hid hb6
      clear k5 k6 hb6 S5 K5 K4
      generalize txt l = tx at *
      go_wp2_with fail
      refine (HHt.out _ (HR.out.kept K6.out)).mono ?_
      rintro e y7 ⟨rfl, k7⟩
      obtain ⟨c8, y8, hcv8, k8, hb8⟩ := to_bytes (htm l) y7
      have K8 := Lib.hid ((K6.out.trans k7).trans k8)
      have S8 := Lib.hid ((S6.out.trans k7).trans k8)
      have B8 := Lib.hid ((B6.out.kept k7).kept k8)
      have L9 := Lib.hid (lrd_two _ _ _ _ y8 B8.out hb8)
      have k9 := (Kept.refl y8).alloc (.cells #[.slice (some ⟨y5.heap.size, 0, none⟩) tx.length c6, .slice (some ⟨y7.heap.size, 0, none⟩) (htm l).length c8] 25)
      have S9 := Lib.hid (srd_two y3 _ (S8.out.trans k9))
      have K9 := Lib.hid (K8.out.trans k9)
      clear k7 k8 hb8 K6 S6 B6 k9 hcv6 K8 S8 B8
      generalize htm l = ht at *
      go_wp2_with fail
      refine (HJ.out _ _ _ S9.out L9.out).mono ?_
      rintro e y10 ⟨xb, rfl, hxb, k10⟩
      have HXB := Lib.hid hxb
      have K10 := Lib.hid (K9.out.trans k10)
      clear k10 hxb L9 S9 K9 hcv8
      by_cases hone : (l.length : Int) = 1
      · have HNZ := Lib.hid (show nn = enS by rw [HNN.out, if_pos (by omega)])
        have hsb : (⟨#[68, 105, 103, 101, 115, 116, 32]⟩ : ByteArray) ++ ⟨da.toArray⟩ ++ ⟨#[58, 32]⟩ ++ ⟨db.toArray⟩ ++ ⟨#[32, 101, 110, 116, 114, 121]⟩ = ⟨S.toArray⟩ := (sbj_bytes da db enS).trans (by rw [HSJ.out, HNZ.out])
        have HSB := Lib.hid hsb
        have hone' : ((l.length : Int) == 1) = true := beq_iff_eq.2 hone
        clear hsb hone hlI HNZ HNN HSJ
        go_wp2_with fail
        refine (HN1.out _).mono ?_
        rintro e y11 ⟨rfl, rfl⟩
        go_wp2_with fail
        refine (HN2.out _).mono ?_
        rintro e y12 ⟨rfl, rfl⟩
        go_wp2_with fail
        have hcb := ct_bytes b0
        dsimp only at hcb
        rw [hcb, ← HCT.out, HSB.out]
        clear hcb
        refine (rall7 rcp S D I CT y10 HOK.out).mono ?_
        rintro e y13 ⟨xa, rfl, hoa, k13⟩
        have HOA := Lib.hid hoa
        have K13 := Lib.hid (K10.out.trans k13)
        have R13 := Lib.hid (HXB.out.kept k13).rd
        have hB13 := k13.size
        clear k13 hoa HXB
        generalize lnA [(fromN, fromT), (toN, rcp), (sbN, S), (dtN, D), (idN, I), (mvN, mvT), (ctN, CT)] = LL at *
        go_wp2_with (at_builtin; refine Hd.wpList_sliceM rfl _ _ rfl y10.heap.size _ _ LL (joined (two l)) rfl HOA.out rfl R13.out (by have := HL.out; omega) hB13 ?_)
        intro v' z hz hgz _
        have KZ := Lib.hid (kept_row K13.out hgz (fun g hg => by have := (HOA.out.lt g hg).1; have := K10.out.size; omega))
        have RZ := Lib.hid hz.rd
        clear hz hgz
        go_wp2
        go_ret2
        rw [HZ.out]
        exact ⟨_, rfl, RZ.out, KZ.out⟩
      · have HNZ := Lib.hid (show nn = enP by rw [HNN.out, if_neg (by omega)])
        have hsb : (⟨#[68, 105, 103, 101, 115, 116, 32]⟩ : ByteArray) ++ ⟨da.toArray⟩ ++ ⟨#[58, 32]⟩ ++ ⟨db.toArray⟩ ++ ⟨#[32, 101, 110, 116, 114, 105, 101, 115]⟩ = ⟨S.toArray⟩ := (sbj_bytes da db enP).trans (by rw [HSJ.out, HNZ.out])
        have HSB := Lib.hid hsb
        have hone' : ((l.length : Int) == 1) = false := beq_eq_false_iff_ne.2 hone
        clear hsb hone hlI HNZ HNN HSJ
        go_wp2_with fail
        refine (HN1.out _).mono ?_
        rintro e y11 ⟨rfl, rfl⟩
        go_wp2_with fail
        refine (HN2.out _).mono ?_
        rintro e y12 ⟨rfl, rfl⟩
        go_wp2_with fail
        have hcb := ct_bytes b0
        dsimp only at hcb
        rw [hcb, ← HCT.out, HSB.out]
        clear hcb
        refine (rall7 rcp S D I CT y10 HOK.out).mono ?_
        rintro e y13 ⟨xa, rfl, hoa, k13⟩
        have HOA := Lib.hid hoa
        have K13 := Lib.hid (K10.out.trans k13)
        have R13 := Lib.hid (HXB.out.kept k13).rd
        have hB13 := k13.size
        clear k13 hoa HXB
        generalize lnA [(fromN, fromT), (toN, rcp), (sbN, S), (dtN, D), (idN, I), (mvN, mvT), (ctN, CT)] = LL at *
        go_wp2_with (at_builtin; refine Hd.wpList_sliceM rfl _ _ rfl y10.heap.size _ _ LL (joined (two l)) rfl HOA.out rfl R13.out (by have := HL.out; omega) hB13 ?_)
        intro v' z hz hgz _
        have KZ := Lib.hid (kept_row K13.out hgz (fun g hg => by have := (HOA.out.lt g hg).1; have := K10.out.size; omega))
        have RZ := Lib.hid hz.rd
        clear hz hgz
        go_wp2
        go_ret2
        rw [HZ.out]
        exact ⟨_, rfl, RZ.out, KZ.out⟩
end Go.Proofs.YtjlpkgipdkjfhaaGreatDoor.Bk.Dg
