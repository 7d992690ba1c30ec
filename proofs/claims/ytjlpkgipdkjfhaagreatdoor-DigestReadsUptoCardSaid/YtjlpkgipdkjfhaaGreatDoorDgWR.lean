import Derived.Test.YtjlpkgipdkjfhaaGreatDoorDc
import Derived.Test.YtjlpkgipdkjfhaaGreatDoorDgFw
import Derived.Test.YtjlpkgipdkjfhaaGreatDoorHdCt
import Derived.Test.YtjlpkgipdkjfhaaGreatDoorPtS
import Derived.Test.YtjlpkgipdkjfhaaGreatDoorQa
import Derived.Deep.RegionHeld3
import Derived.BigQuiet
set_option linter.unusedSimpArgs false
set_option linter.unusedVariables false
namespace Go.Proofs.YtjlpkgipdkjfhaaGreatDoor.Bk.Dg
open Go.ChangeShapes Go.WideShapes Go.ChangeAt Go.RowKit Go.Shelf
open Go.Proofs.YtjlpkgipdkjfhaaGreatDoor.Dg
open Hd (Hdr lnA lnH lns okA)
open Pt (joined b0)
theorem bld_ok {rcp : B} {sub no t o : Int} {l : List It} (h : (bldR rcp sub no t o l).2 = 0) : okI sub no = true ∧ adr rcp = true ∧ (bldR rcp sub no t o l).1 = mail rcp sub.toNat no.toNat (mlS t o).1 l := by
  unfold bldR at h ⊢
  split at h
  · rename_i h1
    rw [if_pos h1]
    split at h
    · rename_i h2
      rw [if_pos h2]
      split at h
      · cases h
      · rename_i h3
        rw [if_neg h3]
        split at h
        · rename_i h4
          rw [if_pos h4]
          exact ⟨h1, h2, rfl⟩
        · rename_i h4
          exact absurd h h4
    · cases h
  · cases h
theorem pc_len2 (p : B × B) (n : Nat) (h : (lnA (Pt.hds p.1)).length ≤ n) : (Pt.pc p).length ≤ n + 6 * p.2.length + 4 := by
  have h1 := Qp.enc_len p.2 0
  unfold Pt.pc
  simp only [List.length_append, List.length_cons, List.length_nil]
  omega
theorem two_len2 (l : List It) : (joined (two l)).length ≤ 6 * (txt l).length + 6 * (htm l).length + 1000 := by
  have h1 := pc_len2 (kT, txt l) 200 (show (lnA (Pt.hds kT)).length ≤ 200 by decide +kernel)
  have h2 := pc_len2 (kH, htm l) 200 (show (lnA (Pt.hds kH)).length ≤ 200 by decide +kernel)
  have h3 : Pt.dl.length = 5 := rfl
  have h4 : Pt.fin.length = 4 := rfl
  unfold two
  rw [Pt.joined, Pt.joined, Pt.joined]
  simp only [List.length_append] at h1 h2 ⊢
  omega
theorem hd7_len {rcp : B} {sub no : Nat} {date : B} {n : Nat} (h1 : rcp.length ≤ 60) (h2 : sub < 8) (h3 : no ≤ 1073741824) (h4 : date.length ≤ 60) (h5 : n ≤ 1000000000000) : (lnA (hd7 rcp sub no date n)).length ≤ 20000 := by
  have h6 := id_len h3 h2
  have h7 := dec_le10 9 no (by omega)
  have h8 := dec_le10 13 n (by omega)
  have h9 : (sbj no n).length ≤ 60 := by
    unfold sbj noun dgW enS enP
    simp only [List.length_append, List.length_cons, List.length_nil]
    split <;> simp <;> omega
  have k := Hd.lns_len 2000 (hd7 rcp sub no date n) (fun x hx => by
    have q := Hd.lnH_len x
    simp only [hd7, List.mem_cons, List.not_mem_nil, or_false] at hx
    rcases hx with rfl | rfl | rfl | rfl | rfl | rfl | rfl <;> (refine Nat.le_trans q ?_)
    · decide
    · show toN.length + 19 * rcp.length + 6 ≤ 2000
      have : toN.length = 2 := rfl
      omega
    · show sbN.length + 19 * (sbj no n).length + 6 ≤ 2000
      have : sbN.length = 7 := rfl
      omega
    · show dtN.length + 19 * date.length + 6 ≤ 2000
      have : dtN.length = 4 := rfl
      omega
    · show idN.length + 19 * (idT no sub).length + 6 ≤ 2000
      have : idN.length = 10 := rfl
      omega
    · decide
    · decide)
  unfold Hd.lnA
  have : (hd7 rcp sub no date n).length = 7 := rfl
  simp only [List.length_append, List.length_cons, List.length_nil]
  omega
theorem ct_cut : (ct7.take 36).drop 33 = b0 := by decide
theorem own_cap {B0 : Nat} {v : Value} {l : B} {w : World} (h : OwnB B0 v l w) : ∀ a n c, v = .slice a n c → c ≤ 9223372036854775807 := by
  intro a n c e
  rcases h.2 with ⟨h1, _⟩ | ⟨g, cap, cur, h1, _, _, _, h5, _⟩
  · rw [h1] at e; cases e; omega
  · rw [h1] at e; cases e; unfold maxLen at h5; omega
theorem sp_two {l : List It} {ks ls : List B} (h : Pt.Sp (joined (two l)) b0 ks ls) : ks = [kT, kH] ∧ ls = [txt l, htm l] := by
  have h2 := two_spl l
  exact Pt.Sp.one h (Or.inl ⟨by rw [h2]; rfl, rfl⟩)
set_option maxRecDepth 100000 in
set_option maxHeartbeats 16000000 in
theorem reads16_walk (rcp : B) (sub no t : Int) (v : Value) (l : List It) (w : World) (hE : EX w) (hA : ItA v l w) (hS : Sm l) (hr : rcp.length ≤ 1000000000) (t0 : -9223372036854775808 ≤ t) (t1 : t ≤ 9223372036854775807) :
    Calls Tryz.prog 6 #[sV rcp, iV sub, iV no, iV t, v] w fun e w' => e = .returned (.bool true) ∧ Kept w w' := by
  have hsz : (ByteArray.mk rcp.toArray).size = rcp.length := List.size_toArray
  have HE := Lib.hid hE
  have HW := Lib.hid (awake16_any w hE)
  have HR := Lib.hid hA.rd
  have HF := Lib.hid (fun w hR => few_any v l 12 w hR (by omega) hA.n hA.b)
  have HB := Lib.hid (fun w hR hE => build_any rcp sub no t 0 v l w hR hE hS hr t0 t1)
  obtain ⟨va, vc, rfl⟩ := hA.rd.slice
  have HT := Lib.hid (fun w hR hE => text_any (.slice va l.length vc) l w hR hE hS)
  have HH := Lib.hid (fun w hR hE => html_any (.slice va l.length vc) l w hR hE hS)
  have hml := mlS_len t 0
  clear hE hS
  cases hf : fwB l 12 with
  | false =>
    rw [hf] at HF
    generalize bldR rcp sub no t 0 l = R at *
    obtain ⟨r1, r2⟩ := R
    clear hf hA hml
    go_enter Tryz.func6, Tryz.ntmps6
    go_wp2_with fail
    refine HW.out.mono ?_
    rintro e y ⟨rfl, k⟩
    go_wp2_with fail
    refine (HF.out _ (HR.out.kept k)).mono ?_
    rintro e y2 ⟨rfl, k2⟩
    have K2 := Lib.hid (k.trans k2)
    clear k k2
    go_wp2_with fail
    refine (HB.out _ (HR.out.kept K2.out) (HE.out.kept K2.out)).mono ?_
    rintro e y3 ⟨xa, rfl, ra, k3⟩
    have K3 := Lib.hid (K2.out.trans k3)
    have RA := Lib.hid ra
    clear k3 ra
    go_wp2
    go_ret
    exact ⟨rfl, K3.out⟩
  | true =>
    have hFw := fwB_iff.1 hf
    rw [hf] at HF
    by_cases hl : (100 : Int) < rcp.length
    · generalize bldR rcp sub no t 0 l = R at *
      obtain ⟨r1, r2⟩ := R
      clear hf hA hFw hml
      go_enter Tryz.func6, Tryz.ntmps6
      go_wp2_with fail
      refine HW.out.mono ?_
      rintro e y ⟨rfl, k⟩
      go_wp2_with fail
      refine (HF.out _ (HR.out.kept k)).mono ?_
      rintro e y2 ⟨rfl, k2⟩
      have K2 := Lib.hid (k.trans k2)
      clear k k2
      go_wp2_with fail
      refine (HB.out _ (HR.out.kept K2.out) (HE.out.kept K2.out)).mono ?_
      rintro e y3 ⟨xa, rfl, ra, k3⟩
      have K3 := Lib.hid (K2.out.trans k3)
      have RA := Lib.hid ra
      clear k3 ra
      go_wp2
      go_ret
      exact ⟨rfl, K3.out⟩
    · by_cases hr2 : (bldR rcp sub no t 0 l).2 = 0
      case neg =>
        generalize bldR rcp sub no t 0 l = R at *
        obtain ⟨r1, r2⟩ := R
        simp only at hr2
        have hr2' : (r2 != 0) = true := bne_iff_ne.2 hr2
        clear hf hA hFw hml hr2
        go_enter Tryz.func6, Tryz.ntmps6
        go_wp2_with fail
        refine HW.out.mono ?_
        rintro e y ⟨rfl, k⟩
        go_wp2_with fail
        refine (HF.out _ (HR.out.kept k)).mono ?_
        rintro e y2 ⟨rfl, k2⟩
        have K2 := Lib.hid (k.trans k2)
        clear k k2
        go_wp2_with fail
        refine (HB.out _ (HR.out.kept K2.out) (HE.out.kept K2.out)).mono ?_
        rintro e y3 ⟨xa, rfl, ra, k3⟩
        have K3 := Lib.hid (K2.out.trans k3)
        have RA := Lib.hid ra
        clear k3 ra
        go_wp2
        go_ret
        exact ⟨rfl, K3.out⟩
      obtain ⟨h1, h2, h3⟩ := bld_ok hr2
      obtain ⟨i1, i2, i3, i4⟩ := okI_iff.1 h1
      have hal := adr_len h2
      have hpsx := ps_yes (no := no.toNat) (sub := sub.toNat) (by omega) (by omega) (by omega)
      rw [Int.toNat_of_nonneg i1, Int.toNat_of_nonneg (show 0 ≤ no by omega)] at hpsx
      have hidl := id_len (no := no.toNat) (sub := sub.toNat) (by omega) (by omega)
      have HP := Lib.hid (fun w hE => parse_any (idT no.toNat sub.toNat) w hE (by omega))
      rw [hpsx] at HP
      have hln := hFw.1
      have hOK := hd7_ok (rcp := rcp) (sub := sub.toNat) (no := no.toNat) (date := (mlS t 0).1) (n := l.length) (by omega) (by omega) (by omega) (by omega) (by omega)
      obtain ⟨hc1, hc2, hc3⟩ := Hd.cut_some (mail_cut hOK)
      have hml2 : (mail rcp sub.toNat no.toNat (mlS t 0).1 l).length ≤ 1000000 := by
        have q1 := hd7_len (rcp := rcp) (sub := sub.toNat) (no := no.toNat) (date := (mlS t 0).1) (n := l.length) (by omega) (by omega) (by omega) (by omega) (by omega)
        have q2 := two_len2 l
        have q3 := hFw.txt
        have q4 := hFw.htm
        unfold mail
        rw [List.length_append]
        omega
      have hjl : (joined (two l)).length ≤ 1000000 := by
        have q2 := two_len2 l
        have q3 := hFw.txt
        have q4 := hFw.htm
        omega
      have HCut := Lib.hid (fun v w hR hE => Hd.cut_any v _ w hR hE hml2)
      rw [hc1, hc2, hc3] at HCut
      have HSp := Lib.hid (fun v w hR hE hcap => Pt.split_any v (joined (two l)) b0 w hR hE hjl (by decide) hcap)
      have HSE := Lib.hid (show Pt.sE (joined (two l)) b0 = 0 by unfold Pt.sE; rw [two_spl l]; rfl)
      have HS2 := Lib.hid (fun ks ls h => sp_two (l := l) (ks := ks) (ls := ls) h)
      have h3' := h3
      obtain ⟨R, hRR⟩ : ∃ R, bldR rcp sub no t 0 l = R := ⟨_, rfl⟩
      rw [hRR] at HB hr2 h3'
      obtain ⟨r1, r2⟩ := R
      simp only at hr2 h3'
      subst hr2
      rw [← h3'] at HCut
      unfold Pt.SpR at HSp
      rw [HSE.out] at HSp
      have s10 : ∀ w, (Instr.slice 9 (.string ⟨ct7.toArray⟩) (some (.int .i64 33)) (some (.int .i64 36)) none).run Tryz.prog w = .ok (sV b0) w := fun w => by
        have := Qp.cut_both ct7 33 36 (by decide) (by decide) w
        rwa [ct_cut] at this
      unfold hd7 at HCut
      have h37 : ct7.length = 37 := by decide
      have hs37 : (ByteArray.mk ct7.toArray).size = 37 := by rw [show (ByteArray.mk ct7.toArray).size = ct7.length from List.size_toArray, h37]
      generalize ct7 = CT at *
      generalize joined (two l) = JJ at *
      generalize sbj no.toNat l.length = SB at *
      generalize idT no.toNat sub.toNat = ID at *
      generalize (mlS t 0).1 = D at *
      generalize txt l = tx at *
      generalize htm l = ht at *
      generalize b0 = bb at *
      clear hf hA hFw h1 h2 h3 h3' i1 i2 i3 i4 hal hpsx hidl hOK hc1 hc2 hc3 hml hml2 hjl hRR hln HSE
      go_enter Tryz.func6, Tryz.ntmps6
      go_wp2_with fail
      refine HW.out.mono ?_
      rintro e y ⟨rfl, k⟩
      go_wp2_with fail
      refine (HF.out _ (HR.out.kept k)).mono ?_
      rintro e y2 ⟨rfl, k2⟩
      have K2 := Lib.hid (k.trans k2)
      clear k k2
      go_wp2_with fail
      refine (HB.out _ (HR.out.kept K2.out) (HE.out.kept K2.out)).mono ?_
      rintro e y3 ⟨xa, rfl, ra, k3⟩
      have K3 := Lib.hid (K2.out.trans k3)
      have RA := Lib.hid ra
      clear k3 ra
      go_wp2_with fail
      refine (HCut.out _ _ RA.out (HE.out.kept K3.out).e).mono ?_
      rintro e y4 ⟨lv, rv, rfl, hh, hrv, k4⟩
      have K4 := Lib.hid (K3.out.trans k4)
      have RV := Lib.hid hrv
      have HD := Lib.hid hh.rd
      obtain ⟨g1, o1, cc1, e1, n1, q10, q11⟩ := hh.rd.at (i := 1) rfl
      subst e1
      obtain ⟨g4, o4, cc4, e4, n4, q40, q41⟩ := hh.rd.at (i := 4) rfl
      cases e4
      obtain ⟨g6, o6, cc6, e6, n6, q60, q61⟩ := hh.rd.at (i := 6) rfl
      cases e6
      simp only [List.length_cons, List.length_nil] at n1
      obtain ⟨ra, rc, hrs⟩ := own_slice hrv
      clear k4 hrv hh n4 n6 q10 q40 q60
      go_wp2_with fail
      refine (HP.out _ (HE.out.kept K4.out)).mono ?_
      rintro e y5 ⟨rfl, k5⟩
      have K5 := Lib.hid (K4.out.trans k5)
      have RV5 := Lib.hid (RV.out.kept k5)
      have q61' := k5.yes q61
      clear k5 q11 q41 q61 RV
      go_upto_region 10 with (fail)
      go_quiet (fail)
      have KQ := Lib.hid (K5.out.trans ((Kept.refl y5).drewN nq))
      have RVQ := Lib.hid (RV5.out.kept ((Kept.refl y5).drewN nq))
      clear K5 RV5 q61'
      generalize y5.drewN nq = y6 at *
      go_wp2_with fail
      rw [← hrs]
      refine (HSp.out _ _ RVQ.out.rd (HE.out.kept KQ.out).e (own_cap RVQ.out)).mono ?_
      rintro e y7 ⟨kv, lv2, ks, ls, rfl, hks, hls, hsp, k7⟩
      obtain ⟨rfl, rfl⟩ := HS2.out ks ls hsp
      have K7 := Lib.hid (KQ.out.trans k7)
      obtain ⟨ka, kc, rfl⟩ := own_slice hks
      obtain ⟨mg, mo, mc, x1, e1, m1, m2, bx1⟩ := hls.rd.at (i := 0) rfl
      subst e1
      obtain ⟨mg2, mo2, mc2, x2, e2, m3, m4, bx2⟩ := hls.rd.at (i := 1) rfl
      cases e2
      have HC1 := Lib.hid (fun y (k : Kept y7 y) => (bx1.kept k).conv)
      have HC2 := Lib.hid (fun y (k : Kept y7 y) => (bx2.kept k).conv)
      obtain ⟨xa1, xc1, rfl⟩ := bx1.slice
      obtain ⟨xa2, xc2, rfl⟩ := bx2.slice
      simp only [List.length_cons, List.length_nil] at m1
      rw [Nat.add_zero] at m2
      clear k7 hks hls hsp RVQ KQ bx1 bx2 m3
      go_upto_region 12 with (fail)
      refine wp_region_held_drew (S := (fun y => Kept y7 y ∧ y.cell? ⟨mg, mo, none⟩ = some (.slice xa1 tx.length xc1) ∧ y.cell? ⟨mg, mo + 1, none⟩ = some (.slice xa2 ht.length xc2))) (by kernel_rfl) ⟨(Kept.refl y7).drew, ((Kept.refl y7).drew).yes m2, ((Kept.refl y7).drew).yes m4⟩ (fun hS0 => ?_)
      have KD := Lib.hid (K7.out.trans hS0.1)
      have KX := Lib.hid hS0.1
      clear K7 m2 m4
      generalize y7.drew = y8 at *
      refine wpAnyH_take (i := 0) (oi := { dst := some 109, op := Go.Op.move (Go.Operand.tmp 20), type := 26, pos := "law.go:74", after := #[], guard := none }) (v := ?vb0) rfl (by kernel_rfl) (by kernel_rfl) (by kernel_rfl) (fun _ _ _ h => h) (Or.inl ⟨by rfl, ?yb0⟩) (by assumption) ?rb0
      case yb0 => (intro wq hSw; (try dsimp only at hSw); go_simp; try with_reducible rfl)
      simp only [Act.put, List.setIfInBounds_toArray, List.set_cons_zero, List.set_cons_succ]
      refine wpAnyH_take (i := 1) (oi := { dst := some 110, op := Go.Op.binOp Go.BinOp.eql 26 (Go.Operand.tmp 109) (Go.Operand.const (Go.Value.int Go.IntKind.i64 0)) 26, type := 4, pos := "law.go:74", after := #[{ on := 0, ground := Go.Ground.data }], guard := none }) (v := Value.bool true) rfl (by kernel_rfl) (by kernel_rfl) (by kernel_rfl) (fun _ _ _ h => h) (Or.inl ⟨by rfl, ?yb1⟩) (by assumption) ?rb1
      case yb1 => (intro wq hSw; (try dsimp only at hSw); go_simp; try (first | with_reducible rfl | simp | rfl))
      simp only [Act.put, List.setIfInBounds_toArray, List.set_cons_zero, List.set_cons_succ]
      refine wpAnyH_take (i := 2) (oi := { dst := some 111, op := Go.Op.move (Go.Operand.tmp 110), type := 4, pos := "law.go:74", after := #[{ on := 1, ground := Go.Ground.data }], guard := none }) (v := ?vb2) rfl (by kernel_rfl) (by kernel_rfl) (by kernel_rfl) (fun _ _ _ h => h) (Or.inl ⟨by rfl, ?yb2⟩) (by assumption) ?rb2
      case yb2 => (intro wq hSw; (try dsimp only at hSw); go_simp; try with_reducible rfl)
      simp only [Act.put, List.setIfInBounds_toArray, List.set_cons_zero, List.set_cons_succ]
      refine wpAnyH_take (i := 3) (oi := { dst := some 112, op := Go.Op.move (Go.Operand.tmp 18), type := 3, pos := "law.go:74", after := #[{ on := 2, ground := Go.Ground.guard }], guard := some (2, true) }) (v := ?vb3) rfl (by kernel_rfl) (by kernel_rfl) (by kernel_rfl) (fun _ _ _ h => h) (Or.inl ⟨by rfl, ?yb3⟩) (by assumption) ?rb3
      case yb3 => (intro wq hSw; (try dsimp only at hSw); go_simp; try with_reducible rfl)
      simp only [Act.put, List.setIfInBounds_toArray, List.set_cons_zero, List.set_cons_succ]
      refine wpAnyH_take (i := 4) (oi := { dst := some 113, op := Go.Op.move (Go.Operand.tmp 1), type := 3, pos := "law.go:74", after := #[{ on := 2, ground := Go.Ground.guard }], guard := some (2, true) }) (v := ?vb4) rfl (by kernel_rfl) (by kernel_rfl) (by kernel_rfl) (fun _ _ _ h => h) (Or.inl ⟨by rfl, ?yb4⟩) (by assumption) ?rb4
      case yb4 => (intro wq hSw; (try dsimp only at hSw); go_simp; try with_reducible rfl)
      simp only [Act.put, List.setIfInBounds_toArray, List.set_cons_zero, List.set_cons_succ]
      refine wpAnyH_take (i := 5) (oi := { dst := some 114, op := Go.Op.binOp Go.BinOp.eql 3 (Go.Operand.tmp 112) (Go.Operand.tmp 113) 3, type := 4, pos := "law.go:74", after := #[{ on := 3, ground := Go.Ground.data }, { on := 4, ground := Go.Ground.data }, { on := 2, ground := Go.Ground.guard }], guard := some (2, true) }) (v := Value.bool true) rfl (by kernel_rfl) (by kernel_rfl) (by kernel_rfl) (fun _ _ _ h => h) (Or.inl ⟨by rfl, ?yb5⟩) (by assumption) ?rb5
      case yb5 => (intro wq hSw; (try dsimp only at hSw); go_simp; try (first | with_reducible rfl | simp | rfl))
      simp only [Act.put, List.setIfInBounds_toArray, List.set_cons_zero, List.set_cons_succ]
      refine wpAnyH_take (i := 6) (oi := { dst := some 115, op := Go.Op.pick (Go.Operand.tmp 111) (Go.Operand.tmp 114) (Go.Operand.const (Go.Value.bool false)), type := 4, pos := "law.go:74", after := #[{ on := 2, ground := Go.Ground.data }, { on := 5, ground := Go.Ground.data }], guard := none }) (v := ?vb6) rfl (by kernel_rfl) (by kernel_rfl) (by kernel_rfl) (fun _ _ _ h => h) (Or.inl ⟨by rfl, ?yb6⟩) (by assumption) ?rb6
      case yb6 => (intro wq hSw; (try dsimp only at hSw); go_simp; try with_reducible rfl)
      simp only [Act.put, List.setIfInBounds_toArray, List.set_cons_zero, List.set_cons_succ]
      refine wpAnyH_take (i := 7) (oi := { dst := some 116, op := Go.Op.move (Go.Operand.tmp 115), type := 4, pos := "law.go:74", after := #[{ on := 6, ground := Go.Ground.data }, { on := 2, ground := Go.Ground.chain }], guard := none }) (v := ?vb7) rfl (by kernel_rfl) (by kernel_rfl) (by kernel_rfl) (fun _ _ _ h => h) (Or.inl ⟨by rfl, ?yb7⟩) (by assumption) ?rb7
      case yb7 => (intro wq hSw; (try dsimp only at hSw); go_simp; try with_reducible rfl)
      simp only [Act.put, List.setIfInBounds_toArray, List.set_cons_zero, List.set_cons_succ]
      refine wpAnyH_take (i := 8) (oi := { dst := some 117, op := Go.Op.move (Go.Operand.tmp 19), type := 3, pos := "law.go:74", after := #[{ on := 7, ground := Go.Ground.guard }], guard := some (7, true) }) (v := ?vb8) rfl (by kernel_rfl) (by kernel_rfl) (by kernel_rfl) (fun _ _ _ h => h) (Or.inl ⟨by rfl, ?yb8⟩) (by assumption) ?rb8
      case yb8 => (intro wq hSw; (try dsimp only at hSw); go_simp; try with_reducible rfl)
      simp only [Act.put, List.setIfInBounds_toArray, List.set_cons_zero, List.set_cons_succ]
      refine wpAnyH_take (i := 9) (oi := { dst := some 118, op := Go.Op.move (Go.Operand.tmp 2), type := 3, pos := "law.go:74", after := #[{ on := 7, ground := Go.Ground.guard }], guard := some (7, true) }) (v := ?vb9) rfl (by kernel_rfl) (by kernel_rfl) (by kernel_rfl) (fun _ _ _ h => h) (Or.inl ⟨by rfl, ?yb9⟩) (by assumption) ?rb9
      case yb9 => (intro wq hSw; (try dsimp only at hSw); go_simp; try with_reducible rfl)
      simp only [Act.put, List.setIfInBounds_toArray, List.set_cons_zero, List.set_cons_succ]
      refine wpAnyH_take (i := 10) (oi := { dst := some 119, op := Go.Op.binOp Go.BinOp.eql 3 (Go.Operand.tmp 117) (Go.Operand.tmp 118) 3, type := 4, pos := "law.go:74", after := #[{ on := 8, ground := Go.Ground.data }, { on := 9, ground := Go.Ground.data }, { on := 7, ground := Go.Ground.guard }], guard := some (7, true) }) (v := Value.bool true) rfl (by kernel_rfl) (by kernel_rfl) (by kernel_rfl) (fun _ _ _ h => h) (Or.inl ⟨by rfl, ?yb10⟩) (by assumption) ?rb10
      case yb10 => (intro wq hSw; (try dsimp only at hSw); go_simp; try (first | with_reducible rfl | simp | rfl))
      simp only [Act.put, List.setIfInBounds_toArray, List.set_cons_zero, List.set_cons_succ]
      refine wpAnyH_take (i := 11) (oi := { dst := some 120, op := Go.Op.pick (Go.Operand.tmp 116) (Go.Operand.tmp 119) (Go.Operand.const (Go.Value.bool false)), type := 4, pos := "law.go:74", after := #[{ on := 7, ground := Go.Ground.data }, { on := 10, ground := Go.Ground.data }], guard := none }) (v := ?vb11) rfl (by kernel_rfl) (by kernel_rfl) (by kernel_rfl) (fun _ _ _ h => h) (Or.inl ⟨by rfl, ?yb11⟩) (by assumption) ?rb11
      case yb11 => (intro wq hSw; (try dsimp only at hSw); go_simp; try with_reducible rfl)
      simp only [Act.put, List.setIfInBounds_toArray, List.set_cons_zero, List.set_cons_succ]
      refine wpAnyH_take (i := 12) (oi := { dst := some 121, op := Go.Op.move (Go.Operand.tmp 120), type := 4, pos := "law.go:74", after := #[{ on := 11, ground := Go.Ground.data }, { on := 7, ground := Go.Ground.chain }], guard := none }) (v := ?vb12) rfl (by kernel_rfl) (by kernel_rfl) (by kernel_rfl) (fun _ _ _ h => h) (Or.inl ⟨by rfl, ?yb12⟩) (by assumption) ?rb12
      case yb12 => (intro wq hSw; (try dsimp only at hSw); go_simp; try with_reducible rfl)
      simp only [Act.put, List.setIfInBounds_toArray, List.set_cons_zero, List.set_cons_succ]
      refine wpAnyH_take (i := 13) (oi := { dst := some 122, op := Go.Op.move (Go.Operand.tmp 24), type := 26, pos := "law.go:74", after := #[{ on := 12, ground := Go.Ground.guard }], guard := some (12, true) }) (v := ?vb13) rfl (by kernel_rfl) (by kernel_rfl) (by kernel_rfl) (fun _ _ _ h => h) (Or.inl ⟨by rfl, ?yb13⟩) (by assumption) ?rb13
      case yb13 => (intro wq hSw; (try dsimp only at hSw); go_simp; try with_reducible rfl)
      simp only [Act.put, List.setIfInBounds_toArray, List.set_cons_zero, List.set_cons_succ]
      refine wpAnyH_take (i := 14) (oi := { dst := some 123, op := Go.Op.binOp Go.BinOp.eql 26 (Go.Operand.tmp 122) (Go.Operand.const (Go.Value.int Go.IntKind.i64 0)) 26, type := 4, pos := "law.go:74", after := #[{ on := 13, ground := Go.Ground.data }, { on := 12, ground := Go.Ground.guard }], guard := some (12, true) }) (v := Value.bool true) rfl (by kernel_rfl) (by kernel_rfl) (by kernel_rfl) (fun _ _ _ h => h) (Or.inl ⟨by rfl, ?yb14⟩) (by assumption) ?rb14
      case yb14 => (intro wq hSw; (try dsimp only at hSw); go_simp; try (first | with_reducible rfl | simp | rfl))
      simp only [Act.put, List.setIfInBounds_toArray, List.set_cons_zero, List.set_cons_succ]
      refine wpAnyH_take (i := 15) (oi := { dst := some 124, op := Go.Op.pick (Go.Operand.tmp 121) (Go.Operand.tmp 123) (Go.Operand.const (Go.Value.bool false)), type := 4, pos := "law.go:74", after := #[{ on := 12, ground := Go.Ground.data }, { on := 14, ground := Go.Ground.data }], guard := none }) (v := ?vb15) rfl (by kernel_rfl) (by kernel_rfl) (by kernel_rfl) (fun _ _ _ h => h) (Or.inl ⟨by rfl, ?yb15⟩) (by assumption) ?rb15
      case yb15 => (intro wq hSw; (try dsimp only at hSw); go_simp; try with_reducible rfl)
      simp only [Act.put, List.setIfInBounds_toArray, List.set_cons_zero, List.set_cons_succ]
      refine wpAnyH_take (i := 16) (oi := { dst := some 125, op := Go.Op.move (Go.Operand.tmp 124), type := 4, pos := "law.go:74", after := #[{ on := 15, ground := Go.Ground.data }, { on := 12, ground := Go.Ground.chain }], guard := none }) (v := ?vb16) rfl (by kernel_rfl) (by kernel_rfl) (by kernel_rfl) (fun _ _ _ h => h) (Or.inl ⟨by rfl, ?yb16⟩) (by assumption) ?rb16
      case yb16 => (intro wq hSw; (try dsimp only at hSw); go_simp; try with_reducible rfl)
      simp only [Act.put, List.setIfInBounds_toArray, List.set_cons_zero, List.set_cons_succ]
      refine wpAnyH_take (i := 17) (oi := { dst := some 126, op := Go.Op.move (Go.Operand.tmp 22), type := 42, pos := "law.go:74", after := #[{ on := 16, ground := Go.Ground.guard }], guard := some (16, true) }) (v := ?vb17) rfl (by kernel_rfl) (by kernel_rfl) (by kernel_rfl) (fun _ _ _ h => h) (Or.inl ⟨by rfl, ?yb17⟩) (by assumption) ?rb17
      case yb17 => (intro wq hSw; (try dsimp only at hSw); go_simp; try with_reducible rfl)
      simp only [Act.put, List.setIfInBounds_toArray, List.set_cons_zero, List.set_cons_succ]
      refine wpAnyH_take (i := 18) (oi := { dst := some 127, op := Go.Op.call { callee := Go.Callee.builtin Go.Builtin.len, args := #[Go.Operand.tmp 126], argTypes := #[42] }, type := 3, pos := "law.go:74", after := #[{ on := 17, ground := Go.Ground.data }, { on := 16, ground := Go.Ground.guard }], guard := some (16, true) }) (v := ?vb18) rfl (by kernel_rfl) (by kernel_rfl) (by kernel_rfl) (fun _ _ _ h => h) (Or.inl ⟨by rfl, ?yb18⟩) (by assumption) ?rb18
      case yb18 => (intro wq hSw; (try dsimp only at hSw); go_simp; try with_reducible rfl)
      simp only [Act.put, List.setIfInBounds_toArray, List.set_cons_zero, List.set_cons_succ]
      refine wpAnyH_take (i := 19) (oi := { dst := some 128, op := Go.Op.binOp Go.BinOp.eql 3 (Go.Operand.tmp 127) (Go.Operand.const (Go.Value.int Go.IntKind.i64 2)) 3, type := 4, pos := "law.go:74", after := #[{ on := 18, ground := Go.Ground.data }, { on := 16, ground := Go.Ground.guard }], guard := some (16, true) }) (v := Value.bool true) rfl (by kernel_rfl) (by kernel_rfl) (by kernel_rfl) (fun _ _ _ h => h) (Or.inl ⟨by rfl, ?yb19⟩) (by assumption) ?rb19
      case yb19 => (intro wq hSw; (try dsimp only at hSw); go_simp; try (first | with_reducible rfl | simp | rfl))
      simp only [Act.put, List.setIfInBounds_toArray, List.set_cons_zero, List.set_cons_succ]
      refine wpAnyH_take (i := 20) (oi := { dst := some 129, op := Go.Op.pick (Go.Operand.tmp 125) (Go.Operand.tmp 128) (Go.Operand.const (Go.Value.bool false)), type := 4, pos := "law.go:74", after := #[{ on := 16, ground := Go.Ground.data }, { on := 19, ground := Go.Ground.data }], guard := none }) (v := ?vb20) rfl (by kernel_rfl) (by kernel_rfl) (by kernel_rfl) (fun _ _ _ h => h) (Or.inl ⟨by rfl, ?yb20⟩) (by assumption) ?rb20
      case yb20 => (intro wq hSw; (try dsimp only at hSw); go_simp; try with_reducible rfl)
      simp only [Act.put, List.setIfInBounds_toArray, List.set_cons_zero, List.set_cons_succ]
      refine wpAnyH_take (i := 21) (oi := { dst := some 130, op := Go.Op.move (Go.Operand.tmp 129), type := 4, pos := "law.go:74", after := #[{ on := 20, ground := Go.Ground.data }, { on := 16, ground := Go.Ground.chain }], guard := none }) (v := ?vb21) rfl (by kernel_rfl) (by kernel_rfl) (by kernel_rfl) (fun _ _ _ h => h) (Or.inl ⟨by rfl, ?yb21⟩) (by assumption) ?rb21
      case yb21 => (intro wq hSw; (try dsimp only at hSw); go_simp; try with_reducible rfl)
      simp only [Act.put, List.setIfInBounds_toArray, List.set_cons_zero, List.set_cons_succ]
      refine wpAnyH_take (i := 22) (oi := { dst := some 131, op := Go.Op.move (Go.Operand.tmp 23), type := 43, pos := "law.go:74", after := #[{ on := 21, ground := Go.Ground.guard }], guard := some (21, true) }) (v := ?vb22) rfl (by kernel_rfl) (by kernel_rfl) (by kernel_rfl) (fun _ _ _ h => h) (Or.inl ⟨by rfl, ?yb22⟩) (by assumption) ?rb22
      case yb22 => (intro wq hSw; (try dsimp only at hSw); go_simp; try with_reducible rfl)
      simp only [Act.put, List.setIfInBounds_toArray, List.set_cons_zero, List.set_cons_succ]
      refine wpAnyH_take (i := 23) (oi := { dst := some 132, op := Go.Op.indexAddr 43 (Go.Operand.tmp 131) (Go.Operand.const (Go.Value.int Go.IntKind.i64 0)), type := 0, pos := "law.go:74", after := #[{ on := 22, ground := Go.Ground.data }, { on := 21, ground := Go.Ground.guard }], guard := some (21, true) }) (v := ?vb23) rfl (by kernel_rfl) (by kernel_rfl) (by kernel_rfl) (fun _ _ _ h => h) (Or.inl ⟨by rfl, ?yb23⟩) (by assumption) ?rb23
      case yb23 => (intro wq hSw; (try dsimp only at hSw); go_simp; try with_reducible rfl)
      simp only [Act.put, List.setIfInBounds_toArray, List.set_cons_zero, List.set_cons_succ]
      refine wpAnyH_take (i := 24) (oi := { dst := some 133, op := Go.Op.load 25 (Go.Operand.tmp 132), type := 25, pos := "law.go:74", after := #[{ on := 23, ground := Go.Ground.data }, { on := 21, ground := Go.Ground.guard }], guard := some (21, true) }) (v := ?vb24) rfl (by kernel_rfl) (by kernel_rfl) (by kernel_rfl) (fun _ _ _ h => h) (Or.inl ⟨by rfl, ?yb24⟩) (by assumption) ?rb24
      case yb24 => (intro wq hSw; (try dsimp only at hSw); go_simp; try with_reducible rfl)
      simp only [Act.put, List.setIfInBounds_toArray, List.set_cons_zero, List.set_cons_succ]
      refine wpAnyH_take (i := 25) (oi := { dst := some 134, op := Go.Op.convert 25 9 (Go.Operand.tmp 133), type := 9, pos := "law.go:74", after := #[{ on := 24, ground := Go.Ground.data }, { on := 21, ground := Go.Ground.guard }], guard := some (21, true) }) (v := sV tx) rfl (by kernel_rfl) (by kernel_rfl) (by kernel_rfl) (fun _ _ _ h => h) (Or.inl ⟨by rfl, ?yb25⟩) (by assumption) ?rb25
      case yb25 => (intro wq hSw; (try dsimp only at hSw); first | exact HC1.out _ hSw.1 | (go_simp; rw [HC1.out _ hSw.1]; rfl) | (go_simp; trace_state; sorry))
      simp only [Act.put, List.setIfInBounds_toArray, List.set_cons_zero, List.set_cons_succ]
      refine wpAnyH_take (i := 26) (oi := { dst := some 135, op := Go.Op.move (Go.Operand.tmp 4), type := 22, pos := "law.go:74", after := #[{ on := 21, ground := Go.Ground.guard }], guard := some (21, true) }) (v := ?vb26) rfl (by kernel_rfl) (by kernel_rfl) (by kernel_rfl) (fun _ _ _ h => h) (Or.inl ⟨by rfl, ?yb26⟩) (by assumption) ?rb26
      case yb26 => (intro wq hSw; (try dsimp only at hSw); go_simp; try with_reducible rfl)
      simp only [Act.put, List.setIfInBounds_toArray, List.set_cons_zero, List.set_cons_succ]
      refine wpAnyH_ready (rs := [27]) (by kernel_rfl) (by simp) (AllReadyH.cons (o := { dst := some 136, op := Go.Op.call { callee := Go.Callee.value (Go.Operand.func 13), args := #[Go.Operand.tmp 135], argTypes := #[22] }, type := 9, pos := "law.go:74", after := #[{ on := 26, ground := Go.Ground.data }, { on := 21, ground := Go.Ground.chain }, { on := 21, ground := Go.Ground.guard }], guard := some (21, true) }) rfl (fun K hK => ?_) AllReadyH.nil)
      go_simp
      refine (HT.out _ (HR.out.kept KD.out) (HE.out.kept KD.out).p).mono ?_
      rintro e y9 ⟨rfl, k9⟩
      have KE := Lib.hid (KD.out.trans k9)
      have KY := Lib.hid (KX.out.trans k9)
      refine Shut.out hK _ _ ⟨KY.out, k9.yes hS0.2.1, k9.yes hS0.2.2⟩ (fun hSb => ?_)
      clear hK K
      try simp only [Act.put, List.setIfInBounds_toArray, List.set_cons_zero, List.set_cons_succ]
      refine wpAnyH_take (i := 28) (oi := { dst := some 137, op := Go.Op.binOp Go.BinOp.eql 9 (Go.Operand.tmp 134) (Go.Operand.tmp 136) 9, type := 4, pos := "law.go:74", after := #[{ on := 25, ground := Go.Ground.data }, { on := 27, ground := Go.Ground.data }, { on := 21, ground := Go.Ground.guard }], guard := some (21, true) }) (v := Value.bool true) rfl (by kernel_rfl) (by kernel_rfl) (by kernel_rfl) (fun _ _ _ h => h) (Or.inl ⟨by rfl, ?yb28⟩) (by assumption) ?rb28
      case yb28 => (intro wq hSw; (try dsimp only at hSw); go_simp; try (first | with_reducible rfl | simp | rfl))
      simp only [Act.put, List.setIfInBounds_toArray, List.set_cons_zero, List.set_cons_succ]
      refine wpAnyH_take (i := 29) (oi := { dst := some 138, op := Go.Op.pick (Go.Operand.tmp 130) (Go.Operand.tmp 137) (Go.Operand.const (Go.Value.bool false)), type := 4, pos := "law.go:74", after := #[{ on := 21, ground := Go.Ground.data }, { on := 28, ground := Go.Ground.data }], guard := none }) (v := ?vb29) rfl (by kernel_rfl) (by kernel_rfl) (by kernel_rfl) (fun _ _ _ h => h) (Or.inl ⟨by rfl, ?yb29⟩) (by assumption) ?rb29
      case yb29 => (intro wq hSw; (try dsimp only at hSw); go_simp; try with_reducible rfl)
      simp only [Act.put, List.setIfInBounds_toArray, List.set_cons_zero, List.set_cons_succ]
      refine wpAnyH_take (i := 30) (oi := { dst := some 139, op := Go.Op.move (Go.Operand.tmp 138), type := 4, pos := "law.go:74", after := #[{ on := 29, ground := Go.Ground.data }, { on := 27, ground := Go.Ground.chain }], guard := none }) (v := ?vb30) rfl (by kernel_rfl) (by kernel_rfl) (by kernel_rfl) (fun _ _ _ h => h) (Or.inl ⟨by rfl, ?yb30⟩) (by assumption) ?rb30
      case yb30 => (intro wq hSw; (try dsimp only at hSw); go_simp; try with_reducible rfl)
      simp only [Act.put, List.setIfInBounds_toArray, List.set_cons_zero, List.set_cons_succ]
      refine wpAnyH_take (i := 31) (oi := { dst := some 140, op := Go.Op.move (Go.Operand.tmp 23), type := 43, pos := "law.go:74", after := #[{ on := 30, ground := Go.Ground.guard }], guard := some (30, true) }) (v := ?vb31) rfl (by kernel_rfl) (by kernel_rfl) (by kernel_rfl) (fun _ _ _ h => h) (Or.inl ⟨by rfl, ?yb31⟩) (by assumption) ?rb31
      case yb31 => (intro wq hSw; (try dsimp only at hSw); go_simp; try with_reducible rfl)
      simp only [Act.put, List.setIfInBounds_toArray, List.set_cons_zero, List.set_cons_succ]
      refine wpAnyH_take (i := 32) (oi := { dst := some 141, op := Go.Op.indexAddr 43 (Go.Operand.tmp 140) (Go.Operand.const (Go.Value.int Go.IntKind.i64 1)), type := 0, pos := "law.go:74", after := #[{ on := 31, ground := Go.Ground.data }, { on := 30, ground := Go.Ground.guard }], guard := some (30, true) }) (v := ?vb32) rfl (by kernel_rfl) (by kernel_rfl) (by kernel_rfl) (fun _ _ _ h => h) (Or.inl ⟨by rfl, ?yb32⟩) (by assumption) ?rb32
      case yb32 => (intro wq hSw; (try dsimp only at hSw); go_simp; try with_reducible rfl)
      simp only [Act.put, List.setIfInBounds_toArray, List.set_cons_zero, List.set_cons_succ]
      refine wpAnyH_take (i := 33) (oi := { dst := some 142, op := Go.Op.load 25 (Go.Operand.tmp 141), type := 25, pos := "law.go:74", after := #[{ on := 32, ground := Go.Ground.data }, { on := 30, ground := Go.Ground.guard }], guard := some (30, true) }) (v := ?vb33) rfl (by kernel_rfl) (by kernel_rfl) (by kernel_rfl) (fun _ _ _ h => h) (Or.inl ⟨by rfl, ?yb33⟩) (by assumption) ?rb33
      case yb33 => (intro wq hSw; (try dsimp only at hSw); go_simp; try with_reducible rfl)
      simp only [Act.put, List.setIfInBounds_toArray, List.set_cons_zero, List.set_cons_succ]
      refine wpAnyH_take (i := 34) (oi := { dst := some 143, op := Go.Op.convert 25 9 (Go.Operand.tmp 142), type := 9, pos := "law.go:74", after := #[{ on := 33, ground := Go.Ground.data }, { on := 30, ground := Go.Ground.guard }], guard := some (30, true) }) (v := sV ht) rfl (by kernel_rfl) (by kernel_rfl) (by kernel_rfl) (fun _ _ _ h => h) (Or.inl ⟨by rfl, ?yb34⟩) (by assumption) ?rb34
      case yb34 => (intro wq hSw; (try dsimp only at hSw); first | exact HC2.out _ hSw.1 | (go_simp; rw [HC2.out _ hSw.1]; rfl) | (go_simp; trace_state; sorry))
      simp only [Act.put, List.setIfInBounds_toArray, List.set_cons_zero, List.set_cons_succ]
      refine wpAnyH_take (i := 35) (oi := { dst := some 144, op := Go.Op.move (Go.Operand.tmp 4), type := 22, pos := "law.go:74", after := #[{ on := 30, ground := Go.Ground.guard }], guard := some (30, true) }) (v := ?vb35) rfl (by kernel_rfl) (by kernel_rfl) (by kernel_rfl) (fun _ _ _ h => h) (Or.inl ⟨by rfl, ?yb35⟩) (by assumption) ?rb35
      case yb35 => (intro wq hSw; (try dsimp only at hSw); go_simp; try with_reducible rfl)
      simp only [Act.put, List.setIfInBounds_toArray, List.set_cons_zero, List.set_cons_succ]
      refine wpAnyH_ready (rs := [36]) (by kernel_rfl) (by simp) (AllReadyH.cons (o := { dst := some 145, op := Go.Op.call { callee := Go.Callee.value (Go.Operand.func 15), args := #[Go.Operand.tmp 144], argTypes := #[22] }, type := 9, pos := "law.go:74", after := #[{ on := 35, ground := Go.Ground.data }, { on := 30, ground := Go.Ground.chain }, { on := 30, ground := Go.Ground.guard }], guard := some (30, true) }) rfl (fun K hK => ?_) AllReadyH.nil)
      go_simp
      refine (HH.out _ (HR.out.kept KE.out) (HE.out.kept KE.out).p).mono ?_
      rintro e y10 ⟨rfl, k10⟩
      have KF := Lib.hid (KE.out.trans k10)
      refine Shut.out hK _ _ ⟨KY.out.trans k10, k10.yes (k9.yes hS0.2.1), k10.yes (k9.yes hS0.2.2)⟩ (fun hSb => ?_)
      clear hK K
      try simp only [Act.put, List.setIfInBounds_toArray, List.set_cons_zero, List.set_cons_succ]
      refine wpAnyH_take (i := 37) (oi := { dst := some 146, op := Go.Op.binOp Go.BinOp.eql 9 (Go.Operand.tmp 143) (Go.Operand.tmp 145) 9, type := 4, pos := "law.go:74", after := #[{ on := 34, ground := Go.Ground.data }, { on := 36, ground := Go.Ground.data }, { on := 30, ground := Go.Ground.guard }], guard := some (30, true) }) (v := Value.bool true) rfl (by kernel_rfl) (by kernel_rfl) (by kernel_rfl) (fun _ _ _ h => h) (Or.inl ⟨by rfl, ?yb37⟩) (by assumption) ?rb37
      case yb37 => (intro wq hSw; (try dsimp only at hSw); go_simp; try (first | with_reducible rfl | simp | rfl))
      simp only [Act.put, List.setIfInBounds_toArray, List.set_cons_zero, List.set_cons_succ]
      refine wpAnyH_take (i := 38) (oi := { dst := some 147, op := Go.Op.pick (Go.Operand.tmp 139) (Go.Operand.tmp 146) (Go.Operand.const (Go.Value.bool false)), type := 4, pos := "law.go:74", after := #[{ on := 30, ground := Go.Ground.data }, { on := 37, ground := Go.Ground.data }], guard := none }) (v := ?vb38) rfl (by kernel_rfl) (by kernel_rfl) (by kernel_rfl) (fun _ _ _ h => h) (Or.inl ⟨by rfl, ?yb38⟩) (by assumption) ?rb38
      case yb38 => (intro wq hSw; (try dsimp only at hSw); go_simp; try with_reducible rfl)
      simp only [Act.put, List.setIfInBounds_toArray, List.set_cons_zero, List.set_cons_succ]
      refine wpAnyH_take (i := 39) (oi := { dst := some 10, op := Go.Op.assign (Go.Operand.tmp 147), type := 4, pos := "law.go:74", after := #[{ on := 38, ground := Go.Ground.data }, { on := 36, ground := Go.Ground.chain }, { on := 0, ground := Go.Ground.phase }, { on := 1, ground := Go.Ground.phase }, { on := 2, ground := Go.Ground.phase }, { on := 3, ground := Go.Ground.phase }, { on := 4, ground := Go.Ground.phase }, { on := 5, ground := Go.Ground.phase }, { on := 6, ground := Go.Ground.phase }, { on := 7, ground := Go.Ground.phase }, { on := 8, ground := Go.Ground.phase }, { on := 9, ground := Go.Ground.phase }, { on := 10, ground := Go.Ground.phase }, { on := 11, ground := Go.Ground.phase }, { on := 12, ground := Go.Ground.phase }, { on := 13, ground := Go.Ground.phase }, { on := 14, ground := Go.Ground.phase }, { on := 15, ground := Go.Ground.phase }, { on := 16, ground := Go.Ground.phase }, { on := 17, ground := Go.Ground.phase }, { on := 18, ground := Go.Ground.phase }, { on := 19, ground := Go.Ground.phase }, { on := 20, ground := Go.Ground.phase }, { on := 21, ground := Go.Ground.phase }, { on := 22, ground := Go.Ground.phase }, { on := 23, ground := Go.Ground.phase }, { on := 24, ground := Go.Ground.phase }, { on := 25, ground := Go.Ground.phase }, { on := 26, ground := Go.Ground.phase }, { on := 27, ground := Go.Ground.phase }, { on := 28, ground := Go.Ground.phase }, { on := 29, ground := Go.Ground.phase }, { on := 30, ground := Go.Ground.phase }, { on := 31, ground := Go.Ground.phase }, { on := 32, ground := Go.Ground.phase }, { on := 33, ground := Go.Ground.phase }, { on := 34, ground := Go.Ground.phase }, { on := 35, ground := Go.Ground.phase }, { on := 36, ground := Go.Ground.phase }, { on := 37, ground := Go.Ground.phase }, { on := 38, ground := Go.Ground.phase }], guard := none }) (v := ?vb39) rfl (by kernel_rfl) (by kernel_rfl) (by kernel_rfl) (fun _ _ _ h => h) (Or.inl ⟨by rfl, ?yb39⟩) (by assumption) ?rb39
      case yb39 => (intro wq hSw; (try dsimp only at hSw); go_simp; try with_reducible rfl)
      simp only [Act.put, List.setIfInBounds_toArray, List.set_cons_zero, List.set_cons_succ]
      refine wpAnyH_done (by kernel_rfl) ?_ _
      go_wp2
      go_ret
      exact ⟨rfl, KF.out⟩
end Go.Proofs.YtjlpkgipdkjfhaaGreatDoor.Bk.Dg
