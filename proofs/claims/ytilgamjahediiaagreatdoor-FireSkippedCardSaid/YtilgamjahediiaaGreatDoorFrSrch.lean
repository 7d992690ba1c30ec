/- Contracts of package fire: the search for the first second: by turns. -/
import Derived.Test.YtilgamjahediiaaGreatDoorFrTry
set_option linter.unusedVariables false
namespace Go.Proofs.YtilgamjahediiaaGreatDoor
open Go.ChangeShapes Go.WideShapes Go.ChangeAt Go.RowKit
open Civ Zn Lc Crn
set_option maxRecDepth 100000 in
set_option maxHeartbeats 4000000 in
theorem zoffs_any (z : Zo) (w : World) : Calls Tryz.prog 97 #[zoV z] w fun e w' => e = .returned (.tuple #[.int .i64 (lsZ z), .int .i64 (msZ z)]) ∧ Kept w w' := by
  have HL := Lib.hid (show lsZ z = if z.has = true then min z.off z.ahead else z.off from rfl)
  have HM := Lib.hid (show msZ z = if z.has = true then max z.off z.ahead else z.off from rfl)
  generalize lsZ z = ls at *
  generalize msZ z = ms at *
  have B0 := Lib.hid (bz_new w z)
  have K0 := Lib.hid ((Kept.refl w).alloc (.cells (zo15 z.std z.off z.has z.dst z.ahead z.fr.k z.fr.m z.fr.w z.fr.d z.fr.a z.to.k z.to.m z.to.w z.to.d z.to.a) 25))
  go_enter Tryz.func97, Tryz.ntmps97
  go_upto_region 1 with (fail)
  generalize w.alloc (.cells (zo15 z.std z.off z.has z.dst z.ahead z.fr.k z.fr.m z.fr.w z.fr.d z.fr.a z.to.k z.to.m z.to.w z.to.d z.to.a) 25) = x at *
  have c1 := B0.out.cs.c1
  have c2 := B0.out.cs.c2
  have c4 := B0.out.cs.c4
  cases hh : z.has with
  | false =>
    rw [hh] at c2
    have HE := Lib.hid (show ls = z.off ∧ ms = z.off from ⟨by rw [HL.out, hh]; rfl, by rw [HM.out, hh]; rfl⟩)
    clear HL HM hh
    go_upto_region 2 with (fail)
    go_quiet (fail)
    go_wp2
    go_ret2
    exact ⟨by rw [HE.out.1, HE.out.2]; rfl, K0.out.drewN _⟩
  | true =>
    rw [hh] at c2
    have HE := Lib.hid (show ls = min z.off z.ahead ∧ ms = max z.off z.ahead from ⟨by rw [HL.out, hh]; rfl, by rw [HM.out, hh]; rfl⟩)
    clear HL HM hh
    go_upto_region 3 with (fail)
    go_region
    go_wp2
    go_ret2
    exact ⟨by rw [HE.out.1, HE.out.2]; rfl, K0.out.drew⟩
theorem first_bds (y : Int) (h : 1960 ≤ y) (h' : y ≤ 10010) : -3653 ≤ first y 1 ∧ first y 1 ≤ 2936916 := first_bd y 1 h h' (by omega) (by omega)
theorem turn_bd {f : Int → Int} (T : Turn f) {y : Int} (h : 1960 ≤ y) (h' : y ≤ 10010) : -1000000000 ≤ f y ∧ f y ≤ 300000000000 := by
  have a := first_bds y h h'
  have b := T.lo y (by omega); have c := T.hi y (by omega)
  omega
theorem tF_bd (z : Zo) (y : Int) : -1000000000 ≤ tF z y ∧ tF z y ≤ 300000000000 := by
  unfold tF
  by_cases h : tOk z y = true
  · rw [if_pos h]
    unfold tOk yrB at h
    simp only [Bool.and_eq_true, decide_eq_true_eq] at h
    exact turn_bd (turn_from h.1.1 h.1.2) h.2.1 h.2.2
  · rw [if_neg h]; omega
theorem tU_bd (z : Zo) (y : Int) : -1000000000 ≤ tU z y ∧ tU z y ≤ 300000000000 := by
  unfold tU
  by_cases h : tOk z y = true
  · rw [if_pos h]
    unfold tOk yrB at h
    simp only [Bool.and_eq_true, decide_eq_true_eq] at h
    exact turn_bd (turn_upto h.1.1 h.1.2) h.2.1 h.2.2
  · rw [if_neg h]; omega
theorem Cr.save {w0 A B : World} {sl : Nat → Value} {L : Nat → List Int} (h : Cr w0 sl L) (k : Kept w0 A) (v : Save (fun k => w0.heap.size ≤ k) A B) : Cr B sl L :=
  h.kept (kept_sub k (v.below (n := w0.heap.size) k.size (fun _ h => h)) (Nat.le_refl _))
theorem yr_of (t : Int) (w : World) (h1 : 0 ≤ t) (h2 : t ≤ 253402300799) : (seS t).y = yr (t / 86400) ∧ 1970 ≤ yr (t / 86400) ∧ yr (t / 86400) ≤ 9999 := by
  obtain ⟨_, h3, h4⟩ := of_year t w (by simp [scB]; omega)
  refine ⟨?_, h3, h4⟩
  unfold seS; rw [if_pos (by unfold inCal; omega)]
set_option maxRecDepth 100000 in
set_option maxHeartbeats 8000000 in
theorem tryTurns_any (z : Zo) (c : CR) (sl : Nat → Value) (b : Nat) (fr U : Int) (w0 w : World) (hc : Cr w0 sl c.L) (hk : Kept w0 w) (hb : w0.heap.size ≤ b) (hS : Sx b z sl c.st fr U 0 w) (f1 : 86400 ≤ fr) (f2 : fr ≤ U) (f3 : U ≤ 253402214400) :
    Calls Tryz.prog 73 #[.pointer (some ⟨b, 0, none⟩)] w fun e w' => (∃ v, e = .returned v) ∧ (∃ up fo, Sx b z sl c.st fr up fo w' ∧ SInv z c fr U up fo ∧ (∀ y, yr (fr / 86400) - 1 ≤ y → y ≤ yr (U / 86400) + 1 → Not6 z c fr up (tF z y) ∧ Not6 z c fr up (tU z y))) ∧ Save (fun k => k = b) w w' := by
  have HC := Lib.hid hc; have HK := Lib.hid hk; have HS := Lib.hid hS
  obtain ⟨ya, ya1, ya2⟩ := yr_of fr w (by omega) (by omega)
  obtain ⟨yb, yb1, yb2⟩ := yr_of U w (by omega) (by omega)
  have hyy := yr_mono (t := fr) (u := U) (of_year fr w (by simp [scB]; omega)).1 (of_year U w (by simp [scB]; omega)).1 f2
  generalize yr (fr / 86400) = Y0 at *
  generalize yr (U / 86400) = Y1 at *
  have a25 : w.cell? ⟨b, 25, none⟩ = some (.int .i64 fr) := cell_of hS rfl
  have a26 : w.cell? ⟨b, 26, none⟩ = some (.int .i64 U) := cell_of hS rfl
  have YA := Lib.hid ya; have YB := Lib.hid yb
  clear hc hk hS ya yb
  go_enter Tryz.func73, Tryz.ntmps73
  go_wp2_with fail
  refine (se_any fr _ (by omega) (by omega)).mono ?_
  rintro e x1 ⟨rfl, k1⟩
  have D1 := Bs.new x1 (seS fr)
  have k2 := k1.trans ((Kept.refl x1).alloc (.cells #[.int .i64 (seS fr).y, .int .i64 (seS fr).m, .int .i64 (seS fr).d, .int .i64 (seS fr).h, .int .i64 (seS fr).i, .int .i64 (seS fr).s] 34))
  have hd1 := k1.size
  clear a25 a26
  go_upto_region 1 with (fail)
  generalize x1.alloc (.cells #[.int .i64 (seS fr).y, .int .i64 (seS fr).m, .int .i64 (seS fr).d, .int .i64 (seS fr).h, .int .i64 (seS fr).i, .int .i64 (seS fr).s] 34) = x2 at *
  generalize x1.heap.size = d1 at *
  have S2 := Lib.hid (HS.out.kept k2); have K2 := Lib.hid k2
  have a26 : x2.cell? ⟨b, 26, none⟩ = some (.int .i64 U) := cell_of S2.out rfl
  clear k1 k2
  go_wp2_with fail
  refine (se_any U _ (by omega) (by omega)).mono ?_
  rintro e x3 ⟨rfl, k3⟩
  have D3 := Bs.new x3 (seS U)
  have k4 := k3.trans ((Kept.refl x3).alloc (.cells #[.int .i64 (seS U).y, .int .i64 (seS U).m, .int .i64 (seS U).d, .int .i64 (seS U).h, .int .i64 (seS U).i, .int .i64 (seS U).s] 34))
  have hd3 := k3.size
  have hd2 := K2.out.size
  clear a26
  go_upto_region 2 with (fail)
  generalize x3.alloc (.cells #[.int .i64 (seS U).y, .int .i64 (seS U).m, .int .i64 (seS U).d, .int .i64 (seS U).h, .int .i64 (seS U).i, .int .i64 (seS U).s] 34) = x4 at *
  generalize x3.heap.size = d3 at *
  have E1 := Lib.hid (D1.save (M := fun _ => False) (Save.of_kept _ k4) (fun h => h))
  have E3 := Lib.hid D3
  have S4 := Lib.hid (S2.out.kept k4); have K4 := Lib.hid (K2.out.trans k4)
  have hbl := HS.out.lt
  have hdl := D1.lt
  clear k3 k4 S2 K2 D1 D3
  have e0 : x4.cell? ⟨d1, 0, none⟩ = some (.int .i64 Y0) := by rw [← YA.out]; exact E1.out.cells.1
  go_wp2_with fail
  go_loopw [6, 7, 8, 9] (fun y _ _ _ wr => ∃ (yy up fo : Int), y = .int .i64 yy ∧ Y0 - 1 ≤ yy ∧ yy ≤ Y1 + 2 ∧ Sx b z sl c.st fr up fo wr ∧ SInv z c fr U up fo ∧ (∀ y, Y0 - 1 ≤ y → y < yy → Not6 z c fr up (tF z y) ∧ Not6 z c fr up (tU z y)) ∧ Save (fun k => k = b) x4 wr) (fun y _ _ _ _ => (Y1 + 2 - intOf y).toNat)
  case atStart =>
    exact ⟨_, U, 0, rfl, by omega, by omega, S4.out, Or.inl ⟨rfl, rfl⟩, fun y y1 y2 => by omega, Save.refl _ _⟩
  case round =>
    clear e0
    obtain ⟨yy, up, fo, rfl, y1, y2, hs, hi, hn, hv⟩ := hrel
    have HSr := Lib.hid hs; have HI := Lib.hid hi; have HN := Lib.hid hn; have HV := Lib.hid hv
    have e3 : wr.cell? ⟨d3, 0, none⟩ = some (.int .i64 Y1) := by rw [← YB.out]; exact (E3.out.save hv (by omega)).cells.1
    have HKr := Lib.hid (show Kept w0 wr from kept_sub (HK.out.trans K4.out) (hv.below (n := w0.heap.size) (by have := (HK.out.trans K4.out).size; omega) (fun k h => by omega)) (Nat.le_refl _))
    clear hs hi hn hv
    by_cases hle : yy ≤ Y1 + 1
    · obtain ⟨a0, a1, a2, a3, a4, a5, a6, a7, a8, a9, a10, a11, a12, a13, a14, a15, a16, a17, a18, a19, a20, a21, a22, a23, a24, a25, a26, a27⟩ := HSr.out.cells
      clear a15 a16 a17 a18 a19 a20 a21 a22 a23 a24 a25 a26 a27
      go_wp2_with fail
      refine (turns_any z yy _).mono ?_
      rintro e x5 ⟨rfl, k5⟩
      have S5 := Lib.hid (HSr.out.kept k5); have V5 := Lib.hid (HV.out.trans (Save.of_kept _ k5)); have K5 := Lib.hid (HKr.out.trans k5)
      clear a0 a1 a2 a3 a4 a5 a6 a7 a8 a9 a10 a11 a12 a13 a14 e3 k5 HSr HV HKr
      obtain ⟨p1, p2⟩ := tF_bd z yy
      obtain ⟨p3, p4⟩ := tU_bd z yy
      have HFE := Lib.hid (show tF z yy = tF z yy from rfl)
      obtain ⟨i1, i2, i3⟩ := try_inv (t := tF z yy) HI.out
      obtain ⟨j1, j2, j3⟩ := try_inv (t := tU z yy) i1
      have HA := Lib.hid (fun x hx hs => try_any z c sl b fr up fo (tF z yy) x hx hs (by omega) (by omega) (by omega))
      have HB := Lib.hid (fun x hx hs => try_any z c sl b fr (trU z c fr up (tF z yy)) (trF z c fr up fo (tF z yy)) (tU z yy) x hx hs (by omega) (by omega) (by omega))
      have HJ := Lib.hid j1
      have HNN := Lib.hid (show ∀ y, Y0 - 1 ≤ y → y < yy + 1 → Not6 z c fr (trU z c fr (trU z c fr up (tF z yy)) (tU z yy)) (tF z y) ∧ Not6 z c fr (trU z c fr (trU z c fr up (tF z yy)) (tU z yy)) (tU z y) from fun y q1 q2 => by
        by_cases hy : y = yy
        · subst hy; exact ⟨i3.mono j2, j3⟩
        · have := HN.out y q1 (by omega)
          exact ⟨this.1.mono (by omega), this.2.mono (by omega)⟩)
      clear i1 i2 i3 j1 j2 j3 HI HN HFE
      generalize trF z c fr (trU z c fr up (tF z yy)) (trF z c fr up fo (tF z yy)) (tU z yy) = fo2 at *
      generalize trU z c fr (trU z c fr up (tF z yy)) (tU z yy) = up2 at *
      generalize trU z c fr up (tF z yy) = up1 at *
      generalize trF z c fr up fo (tF z yy) = fo1 at *
      generalize htf : tF z yy = tf at HA p1 p2 ⊢
      generalize htu : tU z yy = tu at HB p3 p4 ⊢
      generalize tE z yy = te at *
      clear htf htu
      go_wp2_with fail
      refine (HA.out _ (HC.out.kept K5.out) S5.out).mono ?_
      rintro e x6 ⟨⟨v6, rfl⟩, s6, k6⟩
      have S6 := Lib.hid s6; have V6 := Lib.hid (V5.out.trans k6)
      have K6 := Lib.hid (show Kept w0 x6 from kept_sub K5.out (k6.below (n := w0.heap.size) K5.out.size (fun k h => by omega)) (Nat.le_refl _))
      clear s6 k6 S5 V5 K5
      go_wp2_with fail
      refine (HB.out _ (HC.out.kept K6.out) S6.out).mono ?_
      rintro e x7 ⟨⟨v7, rfl⟩, s7, k7⟩
      have S7 := Lib.hid s7; have V7 := Lib.hid (V6.out.trans k7)
      clear s7 k7 S6 V6 K6
      go_wp2
      go_roundw
      case rel => exact ⟨_, up2, fo2, rfl, by omega, by omega, S7.out, HJ.out, HNN.out, V7.out⟩
      case measure => simp only [intOf]; omega
    · obtain rfl : yy = Y1 + 2 := by omega
      go_wp2
      go_end0
      exact ⟨⟨_, rfl⟩, ⟨up, fo, HSr.out, HI.out, fun y q1 q2 => HN.out y q1 (by omega)⟩, (Save.of_kept _ K4.out).trans HV.out⟩
end Go.Proofs.YtilgamjahediiaaGreatDoor
