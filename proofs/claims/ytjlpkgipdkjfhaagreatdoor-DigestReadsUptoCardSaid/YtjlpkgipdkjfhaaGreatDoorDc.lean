import Derived.Test.YtjlpkgipdkjfhaaGreatDoorDgJ
import Derived.Test.YtjlpkgipdkjfhaaGreatDoorHd
import Derived.Test.YtjlpkgipdkjfhaaGreatDoorCa
set_option linter.unusedVariables false
set_option linter.unusedSimpArgs false
namespace Go.Proofs.YtjlpkgipdkjfhaaGreatDoor.Bk.Dg
open Go.ChangeShapes Go.WideShapes Go.ChangeAt Go.RowKit Go.Shelf
open Go.Proofs.YtjlpkgipdkjfhaaGreatDoor.Dg
open Hd (Hdr HRd OwnM okA lnA)
open Pt (joined b0)
open Sm (inCal)
open Classical in
noncomputable def mlS (t o : Int) : B × Int := if (-93599 ≤ o ∧ o ≤ 93599) ∧ inCal (t + o) then (Sm.mtx (t + o) o, 0) else ([], 1)
theorem nm_len (l : List UInt8) (i : Nat) : (Sm.nm l i).length ≤ 3 := by unfold Sm.nm; simp; omega
open Civ Sm in
theorem mtx_len (u o : Int) : (Sm.mtx u o).length ≤ 60 := by
  have h1 := nm_len Sm.dayNames ((u / 86400 + 4) % 7).toNat
  have h2 := nm_len Sm.monNames ((mo (u / 86400)).toNat - 1)
  unfold Sm.mtx
  simp only [List.length_append, List.length_cons, List.length_nil, Civ.dig_length, Sm.clk_length, Sm.offs_length]
  omega
theorem mlS_len (t o : Int) : (mlS t o).1.length ≤ 60 := by
  unfold mlS
  split
  · exact mtx_len _ _
  · simp
theorem mlS_err (t o : Int) : (mlS t o).2 = 0 ∨ (mlS t o).2 = 1 := by
  unfold mlS
  split
  · exact Or.inl rfl
  · exact Or.inr rfl
theorem mail_any (t o : Int) (w : World) (hT : Pt.Tab w) (t0 : -9223372036854775808 ≤ t) (t1 : t ≤ 9223372036854775807) :
    Calls Tryz.prog 25 #[iV t, iV o] w fun e w' => e = .returned (.tuple #[sV (mlS t o).1, iV (mlS t o).2]) ∧ Kept w w' := by
  by_cases ho : o < -93599 ∨ 93599 < o
  · have hz : mlS t o = ([], 1) := by unfold mlS; rw [if_neg (by omega)]
    rw [hz]
    refine (Sm.mail_off t o w ho).mono ?_
    rintro e w' ⟨rfl, rfl⟩
    exact ⟨rfl, Kept.refl _⟩
  · by_cases hi : inCal (t + o)
    · have hz : mlS t o = (Sm.mtx (t + o) o, 0) := by unfold mlS; rw [if_pos ⟨by omega, hi⟩]
      rw [hz]
      exact (Sm.mail_yes t o w (by omega) (by omega) hi hT).mono fun e w' h => h.2
    · have hz : mlS t o = ([], 1) := by unfold mlS; rw [if_neg (fun e => hi e.2)]
      rw [hz]
      exact Sm.mail_not t o w (by omega) (by omega) t0 t1 hi
noncomputable def bldR (rcp : B) (sub no t o : Int) (l : List It) : B × Int :=
  if okI sub no = true then (if adr rcp = true then (if l = [] then ([], 3) else (if (mlS t o).2 = 0 then (mail rcp sub.toNat no.toNat (mlS t o).1 l, 0) else ([], (mlS t o).2))) else ([], 1)) else ([], 1)
theorem hrd7 (rcp S D I X : B) (y : World) : HRd (.slice (some ⟨y.heap.size, 0, none⟩) 7 7) [(fromN, fromT), (toN, rcp), (sbN, S), (dtN, D), (idN, I), (mvN, mvT), (ctN, X)]
    (y.alloc (.cells #[sV fromN, sV fromT, sV toN, sV rcp, sV sbN, sV S, sV dtN, sV D, sV idN, sV I, sV mvN, sV mvT, sV ctN, sV X] 41)) := by
  have g := (Kept.refl (y.alloc (.cells #[sV fromN, sV fromT, sV toN, sV rcp, sV sbN, sV S, sV dtN, sV D, sV idN, sV I, sV mvN, sV mvT, sV ctN, sV X] 41)))
  refine ⟨_, _, rfl, fun _ => ⟨y.heap.size, 0, rfl, by simp, fun i h hi => ?_⟩⟩
  match i, hi with
  | 0, hi => cases hi; exact ⟨g.new 0 rfl, g.new 1 rfl⟩
  | 1, hi => cases hi; exact ⟨g.new 2 rfl, g.new 3 rfl⟩
  | 2, hi => cases hi; exact ⟨g.new 4 rfl, g.new 5 rfl⟩
  | 3, hi => cases hi; exact ⟨g.new 6 rfl, g.new 7 rfl⟩
  | 4, hi => cases hi; exact ⟨g.new 8 rfl, g.new 9 rfl⟩
  | 5, hi => cases hi; exact ⟨g.new 10 rfl, g.new 11 rfl⟩
  | 6, hi => cases hi; exact ⟨g.new 12 rfl, g.new 13 rfl⟩
  | n + 7, hi => simp at hi
theorem lnA7 {hs : List Hdr} (h : ∀ x ∈ hs, Hd.okH x = true) : (lnA hs).length ≤ hs.length * 76100 + 2 := by
  have := Hd.lns_len 76100 hs (fun x hx => by
    have h1 := h x hx
    unfold Hd.okH Hd.nam at h1
    simp only [Bool.and_eq_true, decide_eq_true_eq] at h1
    have := Hd.lnH_len x
    omega)
  unfold Hd.lnA
  simp only [List.length_append, List.length_cons, List.length_nil]
  omega
theorem pc_len (p : B × B) (h : p.1.length ≤ 60) : (Pt.pc p).length ≤ 200000 + 6 * p.2.length := by
  have h1 := Qp.enc_len p.2 0
  have h2 := lnA7 (Hd.okA_all (Pt.hds_ok (k := p.1) (by omega))).1
  have h3 : (Pt.hds p.1).length = 2 := rfl
  unfold Pt.pc
  simp only [List.length_append, List.length_cons, List.length_nil]
  omega
theorem two_len (l : List It) : (joined (two l)).length ≤ 6 * (txt l).length + 6 * (htm l).length + 500000 := by
  have h1 := pc_len (kT, txt l) (show kT.length ≤ 60 by decide)
  have h2 := pc_len (kH, htm l) (show kH.length ≤ 60 by decide)
  have h3 : Pt.dl.length = 5 := rfl
  have h4 : Pt.fin.length = 4 := rfl
  unfold two
  rw [Pt.joined, Pt.joined, Pt.joined]
  simp only [List.length_append] at h1 h2 ⊢
  omega
theorem ct_bytes (x : B) : (⟨#[109, 117, 108, 116, 105, 112, 97, 114, 116, 47, 97, 108, 116, 101, 114, 110, 97, 116, 105, 118, 101, 59, 32, 98, 111, 117, 110, 100, 97, 114, 121, 61, 34]⟩ : ByteArray) ++ ⟨x.toArray⟩ ++ ⟨#[34]⟩ = ⟨(ctT ++ (x ++ [34])).toArray⟩ := by
  apply ByteArray.ext
  simp [ByteArray.data_append, ctT]
theorem all7 (rcp S D I X : B) (y : World) (hE : Env y) (h : okA [(fromN, fromT), (toN, rcp), (sbN, S), (dtN, D), (idN, I), (mvN, mvT), (ctN, X)] = true) :
    Calls Tryz.prog 27 #[.slice (some ⟨y.heap.size, 0, none⟩) 7 7] (y.alloc (.cells #[sV fromN, sV fromT, sV toN, sV rcp, sV sbN, sV S, sV dtN, sV D, sV idN, sV I, sV mvN, sV mvT, sV ctN, sV X] 41))
      fun e w' => ∃ xv, e = .returned (.tuple #[xv, iV 0]) ∧ OwnM y.heap.size xv (lnA [(fromN, fromT), (toN, rcp), (sbN, S), (dtN, D), (idN, I), (mvN, mvT), (ctN, X)]) w' ∧ Kept y w' := by
  have k := (Kept.refl y).alloc (.cells #[sV fromN, sV fromT, sV toN, sV rcp, sV sbN, sV S, sV dtN, sV D, sV idN, sV I, sV mvN, sV mvT, sV ctN, sV X] 41)
  refine (Hd.all_any _ _ _ (hrd7 rcp S D I X y) (hE.kept k) (fun x hx => ?_)).mono ?_
  · have := (Hd.okA_all h).1 x hx
    unfold Hd.okH Hd.nam at this
    simp only [Bool.and_eq_true, decide_eq_true_eq] at this
    omega
  · rintro e w' ⟨xv, rfl, ho, kk⟩
    rw [Hd.aE_ok h]
    rw [Hd.all_lnA h] at ho
    exact ⟨xv, rfl, ho.mono k.size, k.trans kk⟩
def BdP (r : B × Int) (w : World) (e : Ending) (w' : World) : Prop := ∃ xv, e = .returned (.tuple #[xv, iV r.2]) ∧ BRd xv r.1 w' ∧ Kept w w'
theorem BdP.nil (n : Int) {w w' : World} (k : Kept w w') : BdP ([], n) w (.returned (.tuple #[.slice none 0 0, iV n])) w' := ⟨_, rfl, ⟨none, 0, rfl, fun _ => rfl, fun h => absurd rfl h⟩, k⟩
set_option maxRecDepth 100000 in
set_option maxHeartbeats 8000000 in
theorem build_any (rcp : B) (sub no t o : Int) (v : Value) (l : List It) (w : World) (hR : ItRd v l w) (hE : EX w) (hS : Sm l) (hr : rcp.length ≤ 1000000000) (t0 : -9223372036854775808 ≤ t) (t1 : t ≤ 9223372036854775807) :
    Calls Tryz.prog 11 #[sV rcp, iV sub, iV no, iV t, iV o, v] w (BdP (bldR rcp sub no t o l) w) := by
  have HR := Lib.hid hR
  have HE := Lib.hid hE
  have HI := Lib.hid (id_any sub no w hE)
  have HAd := Lib.hid (fun w hE => isAddress_any rcp w hE hr)
  have HM := Lib.hid (fun w hT => mail_any t o w hT t0 t1)
  have HJ := Lib.hid (fun w hR hE => joined_any v l w hR hE hS)
  have HB := Lib.hid (show bldR rcp sub no t o l = if okI sub no = true then (if adr rcp = true then (if l = [] then ([], 3) else (if (mlS t o).2 = 0 then (mail rcp sub.toNat no.toNat (mlS t o).1 l, 0) else ([], (mlS t o).2))) else ([], 1)) else ([], 1) from rfl)
  have hml := mlS_len t o
  have hme := mlS_err t o
  have hS4 := hS.2.2.2
  have hal := @adr_len rcp
  obtain ⟨va, vc, rfl⟩ := hR.slice
  generalize bldR rcp sub no t o l = R at *
  generalize mlS t o = m at *
  obtain ⟨D, me⟩ := m
  simp only at HM HB hml hme
  clear hR hE hr t0 t1
  by_cases hi : okI sub no = true
  case neg =>
    rw [idR_no hi] at HI
    have HZ := Lib.hid (show R = ([], 1) by rw [HB.out, if_neg hi])
    clear hi HB hme hml hal hS4
    go_enter Tryz.func11, Tryz.ntmps11
    go_wp2_with fail
    refine HI.out.mono ?_
    rintro e y ⟨rfl, k⟩
    have K := Lib.hid k
    clear k
    go_wp2
    go_ret2
    rw [HZ.out]
    exact BdP.nil 1 K.out
  rw [idR_yes hi] at HI
  cases ha : adr rcp with
  | false =>
    have HZ := Lib.hid (show R = ([], 1) by rw [HB.out, if_pos hi, if_neg (by rw [ha]; decide)])
    rw [ha] at HAd
    clear hi HB hme hml ha hal hS4
    generalize idT no.toNat sub.toNat = I at *
    go_enter Tryz.func11, Tryz.ntmps11
    go_wp2_with fail
    refine HI.out.mono ?_
    rintro e y ⟨rfl, k⟩
    go_wp2_with fail
    refine (HAd.out _ (HE.out.kept k).e).mono ?_
    rintro e y2 ⟨rfl, k2⟩
    have K := Lib.hid (k.trans k2)
    clear k k2
    go_wp2
    go_ret2
    rw [HZ.out]
    exact BdP.nil 1 K.out
  | true =>
    have hal := hal ha
    rw [ha] at HAd
    by_cases hl : l = []
    · have HZ := Lib.hid (show R = ([], 3) by rw [HB.out, if_pos hi, if_pos ha, if_pos hl])
      have hlI : (l.length : Int) = 0 := by rw [hl]; rfl
      clear hi HB hme hml ha hal hl HJ HR hS4 hS
      generalize l.length = n at *
      generalize idT no.toNat sub.toNat = I at *
      go_enter Tryz.func11, Tryz.ntmps11
      go_wp2_with fail
      refine HI.out.mono ?_
      rintro e y ⟨rfl, k⟩
      go_wp2_with fail
      refine (HAd.out _ (HE.out.kept k).e).mono ?_
      rintro e y2 ⟨rfl, k2⟩
      have K := Lib.hid (k.trans k2)
      clear k k2
      go_wp2
      go_ret2
      rw [HZ.out]
      exact BdP.nil 3 K.out
    · have hlI : ¬ (l.length : Int) = 0 := fun e => hl (List.length_eq_zero_iff.1 (by omega))
      by_cases hm : me = 0
      case neg =>
        have HZ := Lib.hid (show R = ([], me) by rw [HB.out, if_pos hi, if_pos ha, if_neg hl, if_neg hm])
        clear hi HB hme hml ha hal hl hS4
        have hlI' : ((l.length : Int) == 0) = false := beq_eq_false_iff_ne.2 hlI
        generalize idT no.toNat sub.toNat = I at *
        go_enter Tryz.func11, Tryz.ntmps11
        go_wp2_with fail
        refine HI.out.mono ?_
        rintro e y ⟨rfl, k⟩
        go_wp2_with fail
        refine (HAd.out _ (HE.out.kept k).e).mono ?_
        rintro e y2 ⟨rfl, k2⟩
        have K := Lib.hid (k.trans k2)
        clear k k2
        go_wp2_with fail
        refine (HM.out _ (HE.out.kept K.out).t).mono ?_
        rintro e y3 ⟨rfl, k3⟩
        have K3 := Lib.hid (K.out.trans k3)
        clear k3
        go_wp2
        go_ret2
        rw [HZ.out]
        exact BdP.nil me K3.out
      subst hm
      have HZ := Lib.hid (show R = (lnA (hd7 rcp sub.toNat no.toNat D l.length) ++ joined (two l), 0) by rw [HB.out, if_pos hi, if_pos ha, if_neg hl, if_pos rfl]; rfl)
      obtain ⟨i1, i2, i3, i4⟩ := okI_iff.1 hi
      obtain ⟨s', rfl⟩ := Int.eq_ofNat_of_zero_le i1
      obtain ⟨n', rfl⟩ := Int.eq_ofNat_of_zero_le (show 0 ≤ no by omega)
      have hOK7 := (hd7_ok (rcp := rcp) (sub := s') (no := n') (date := D) (n := l.length) hal (by omega) (by omega) (by omega) (by omega))
      have HOK := Lib.hid hOK7
      have HSb := Lib.hid (fun w hE => subject_any n' l.length w hE (by omega) (by omega))
      rw [Int.toNat_natCast, Int.toNat_natCast] at HZ HI
      have HL := Lib.hid (show (lnA (hd7 rcp s' n' D l.length)).length ≤ 50000000000000 ∧ (joined (two l)).length ≤ 50000000000000 from ⟨by have := lnA7 (Hd.okA_all hOK7).1; simp only [hd7, List.length_cons, List.length_nil] at this ⊢; omega, by have := two_len l; have := hS.2.1; have := hS.2.2.1; omega⟩)
      clear hOK7
      unfold hd7 at HOK HZ HL
      have hb0 : b0.length = 3 := rfl
      have HCT := Lib.hid (show ct7 = ctT ++ (b0 ++ [34]) from rfl)
      generalize hct : ct7 = CT at *
      clear hct
      generalize sbj n' l.length = S at *
      generalize idT n' s' = I at *
      have hlI' : ((l.length : Int) == 0) = false := beq_eq_false_iff_ne.2 hlI
      clear hi HB hme hml ha hl i1 i2 i3 i4
      go_enter Tryz.func11, Tryz.ntmps11
      go_wp2_with fail
      refine HI.out.mono ?_
      rintro e y ⟨rfl, k⟩
      go_wp2_with fail
      refine (HAd.out _ (HE.out.kept k).e).mono ?_
      rintro e y2 ⟨rfl, k2⟩
      have K := Lib.hid (k.trans k2)
      clear k k2
      go_wp2_with fail
      refine (HM.out _ (HE.out.kept K.out).t).mono ?_
      rintro e y3 ⟨rfl, k3⟩
      have K3 := Lib.hid (K.out.trans k3)
      clear k3
      go_wp2_with fail
      refine (HJ.out _ (HR.out.kept K3.out) (HE.out.kept K3.out)).mono ?_
      rintro e y4 ⟨xb, rfl, hxb, k4⟩
      have HXB := Lib.hid hxb
      have K4 := Lib.hid (K3.out.trans k4)
      clear k4 hxb
      go_wp2_with fail
      refine (HSb.out _ (HE.out.kept K4.out)).mono ?_
      rintro e y5 ⟨rfl, k5⟩
      have K5 := Lib.hid (K4.out.trans k5)
      have HXB5 := Lib.hid (HXB.out.kept k5)
      clear k5 HXB
      go_wp2_with fail
      have hcb := ct_bytes b0
      dsimp only at hcb
      rw [hcb, ← HCT.out]
      clear hcb
      refine (all7 rcp S D I CT y5 (HE.out.kept K5.out).e HOK.out).mono ?_
      rintro e y6 ⟨xa, rfl, hoa, k6⟩
      have HOA := Lib.hid hoa
      have K6 := Lib.hid (K5.out.trans k6)
      have R6 := Lib.hid (HXB5.out.kept k6).rd
      have hB6 := k6.size
      clear k6 hoa HXB5
      generalize lnA [(fromN, fromT), (toN, rcp), (sbN, S), (dtN, D), (idN, I), (mvN, mvT), (ctN, CT)] = LL at *
      go_wp2_with (at_builtin; refine Hd.wpList_sliceM rfl _ _ rfl y5.heap.size _ _ LL (joined (two l)) rfl HOA.out rfl R6.out (by have := HL.out; omega) hB6 ?_)
      intro v' z hz hgz _
      have KZ := Lib.hid (kept_row K6.out hgz (fun g hg => by have := (HOA.out.lt g hg).1; have := K5.out.size; omega))
      have RZ := Lib.hid hz.rd
      clear hz hgz
      go_wp2
      go_ret2
      rw [HZ.out]
      exact ⟨_, rfl, RZ.out, KZ.out⟩
end Go.Proofs.YtjlpkgipdkjfhaaGreatDoor.Bk.Dg
namespace Go.Proofs.YtjlpkgipdkjfhaaGreatDoor.Bk.Dg
open Go.ChangeShapes Go.WideShapes Go.ChangeAt Go.RowKit Go.Shelf
open Go.Proofs.YtjlpkgipdkjfhaaGreatDoor.Dg
abbrev exI : B := [60, 49, 50, 46, 51, 64, 109, 97, 105, 108, 99, 111, 97, 99, 104, 62]
theorem ex_id : idT 12 3 = exI := by
  unfold idT clo
  rw [Lib.decDigits_two (by omega) (by omega), Lib.decDigits_one (by omega)]
  decide
theorem ex_idR : idR 3 12 = (exI, 0) := by
  rw [idR_yes (okI_iff.2 (by omega))]
  exact congrArg (fun s => (s, (0 : Int))) ex_id
theorem ex_ps : psR exI = (3, 12, 0) := by
  have := ps_yes (no := 12) (sub := 3) (by omega) (by omega) (by omega)
  rw [ex_id] at this
  exact this
def ex1 : It := ⟨0, 0, [], [84], [117], [60, 112, 62, 120], 0⟩
theorem ex_txt : txt [ex1] = [84, 10, 117, 10, 120, 10, 10] := by decide +kernel
theorem ex_htm : htm [ex1] = [60, 117, 108, 62, 10, 60, 108, 105, 62, 60, 97, 32, 104, 114, 101, 102, 61, 34, 117, 34, 62, 84, 60, 47, 97, 62, 60, 47, 108, 105, 62, 10, 60, 47, 117, 108, 62, 10] := by decide +kernel
theorem ex_sm : Sm [ex1] := by
  refine ⟨fun x hx => ?_, by rw [ex_txt]; decide, by rw [ex_htm]; decide, by decide⟩
  simp only [List.mem_singleton] at hx
  subst hx
  decide
theorem ex_bld : (bldR [97, 64, 98] 1 1 0 0 [ex1]).2 = 0 := by
  have hm : (mlS 0 0).2 = 0 := by
    unfold mlS
    rw [if_pos ⟨by omega, by unfold Sm.inCal; omega⟩]
  unfold bldR
  rw [if_pos (okI_iff.2 (by omega)), if_pos (by decide +kernel), if_neg (by simp), if_pos hm]
theorem it_new (y : World) (x : It) : ItRd (.slice (some ⟨y.heap.size, 0, none⟩) 1 1) [x] (y.alloc (.cells (i7 x) 50)) := by
  have g := Kept.refl (y.alloc (.cells (i7 x) 50))
  refine ⟨_, _, rfl, fun _ => ⟨y.heap.size, 0, rfl, by simp, fun i t hi => ?_⟩⟩
  match i, hi with
  | 0, hi => cases hi; exact ⟨g.new 0 rfl, g.new 1 rfl, g.new 2 rfl, g.new 3 rfl, g.new 4 rfl, g.new 5 rfl, g.new 6 rfl⟩
  | n + 1, hi => simp at hi
set_option maxRecDepth 100000 in
set_option maxHeartbeats 4000000 in
theorem awake16_any (w : World) (hE : EX w) : Calls Tryz.prog 9 #[] w fun e w' => e = .returned (.bool true) ∧ Kept w w' := by
  have HE := Lib.hid hE
  have HI := Lib.hid (id_any 3 12 w hE)
  rw [ex_idR] at HI
  have HP := Lib.hid (fun w hE => parse_any exI w hE (by decide))
  rw [ex_ps] at HP
  have HB := Lib.hid (fun v w hR hE => build_any [97, 64, 98] 1 1 0 0 v [ex1] w hR hE ex_sm (by decide) (by omega) (by omega))
  have HT := Lib.hid (fun v w hR hE => text_any v [ex1] w hR hE ex_sm)
  have HH := Lib.hid (fun v w hR hE => html_any v [ex1] w hR hE ex_sm)
  rw [ex_txt] at HT
  rw [ex_htm] at HH
  have HBE := Lib.hid ex_bld
  generalize bldR [97, 64, 98] 1 1 0 0 [ex1] = R at *
  obtain ⟨rb, re⟩ := R
  have hre : re = 0 := HBE.out
  subst hre
  clear hE
  go_enter Tryz.func9, Tryz.ntmps9
  go_wp2_with fail
  refine HI.out.mono ?_
  rintro e y1 ⟨rfl, k1⟩
  go_wp2_with fail
  refine (HP.out _ (HE.out.kept k1)).mono ?_
  rintro e y2 ⟨rfl, k2⟩
  have K2 := k1.trans k2
  have k3 := (Kept.refl y2).alloc (.cells (i7 ex1) 50)
  have K3 := Lib.hid (K2.trans k3)
  have R3 := Lib.hid (it_new y2 ex1)
  clear k1 k2 k3 K2
  go_upto_region 4 with (fail)
  rw [show y2.alloc (.cells #[.int .i64 0, .int .i64 0, .string ⟨#[]⟩, .string ⟨#[84]⟩, .string ⟨#[117]⟩, .string ⟨#[60, 112, 62, 120]⟩, .int .i64 0] 50) = y2.alloc (.cells (i7 ex1) 50) from rfl]
  generalize y2.heap.size = b at *
  generalize y2.alloc (.cells (i7 ex1) 50) = y3 at *
  go_wp2_with fail
  refine (HB.out _ _ R3.out (HE.out.kept K3.out)).mono ?_
  rintro e y4 ⟨xv, rfl, hx, k4⟩
  have K4 := Lib.hid (K3.out.trans k4)
  have R4 := Lib.hid (R3.out.kept k4)
  clear hx k4
  go_wp2_with fail
  refine (HT.out _ _ R4.out (HE.out.kept K4.out).p).mono ?_
  rintro e y5 ⟨rfl, k5⟩
  have K5 := Lib.hid (K4.out.trans k5)
  have R5 := Lib.hid (R4.out.kept k5)
  clear k5
  go_wp2_with fail
  refine (HH.out _ _ R5.out (HE.out.kept K5.out).p).mono ?_
  rintro e y6 ⟨rfl, k6⟩
  have K6 := Lib.hid (K5.out.trans k6)
  clear k6
  go_wp2
  go_ret
  exact ⟨rfl, K6.out⟩
end Go.Proofs.YtjlpkgipdkjfhaaGreatDoor.Bk.Dg
