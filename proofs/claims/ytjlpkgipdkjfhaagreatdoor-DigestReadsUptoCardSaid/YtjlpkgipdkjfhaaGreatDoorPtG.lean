import Derived.Test.YtjlpkgipdkjfhaaGreatDoorTc
import Derived.Test.YtjlpkgipdkjfhaaGreatDoorHdCt
import Derived.Test.YtjlpkgipdkjfhaaGreatDoorQpD
import Derived.Lib.SlBytesConst
import Derived.OwnWalk
set_option linter.unusedSimpArgs false
set_option linter.unusedVariables false
namespace Go.Proofs.YtjlpkgipdkjfhaaGreatDoor.Bk.Pt
open Go.ChangeShapes Go.WideShapes Go.ChangeAt Go.RowKit Go.Shelf
open Hd (SRd OwnS Hdr cutA cE cL cR cut_some cut_none)
def GP (p t b : B) : Prop := ∀ x, gP p = some x → x = (t, b)
theorem gP_none {p : B} (h : cutA (Lib.trimPrefix p [13, 10]) = none) : gP p = none := by unfold gP; rw [h]
theorem gP_nil {p r : B} (h : cutA (Lib.trimPrefix p [13, 10]) = some ([], r)) : gP p = none := by unfold gP; rw [h]
theorem gP_some {p r : B} {h : Hdr} {hs : List Hdr} (hc : cutA (Lib.trimPrefix p [13, 10]) = some (h :: hs, r)) : gP p = match Qp.dec (Lib.trimSuffix r [13, 10]) with | none => none | some b => some (h.2, b) := by unfold gP; rw [hc]; rfl
theorem GP.no {p t b : B} (h : gP p = none) : GP p t b := fun x hx => by rw [h] at hx; cases hx
theorem trimPre_len (l p : B) : (Lib.trimPrefix l p).length ≤ l.length := by unfold Lib.trimPrefix; split <;> simp
theorem trimSuf_len (l p : B) : (Lib.trimSuffix l p).length ≤ l.length := by unfold Lib.trimSuffix; split <;> simp <;> omega
theorem OwnB.mono' {w : World} {B0 B1 : Nat} {v : Value} {l : B} (h : OwnB B1 v l w) (hB : B0 ≤ B1) : OwnB B0 v l w := own_mono h hB
set_option maxRecDepth 100000 in
set_option maxHeartbeats 4000000 in
theorem guessPart_any (v : Value) (p : B) (w : World) (hR : BRd v p w) (hE : Env w) (hl : p.length ≤ 1000000) :
    Calls Tryz.prog 91 #[v] w fun e w' => ∃ (t b : B) (xv : Value), e = .returned (.tuple #[sV t, xv, .bool (gP p).isSome]) ∧ OwnB w.heap.size xv b w' ∧ GP p t b ∧ t.length ≤ 4000 ∧ b.length ≤ p.length ∧ Kept w w' := by
  have kc := fun (w : World) (C : Array Value) (n c : Nat) => Lib.run_convert_bytes_const (P := Tryz.prog) w 25 5 C n c Tryz.underlying25 Tryz.underlying5
  obtain ⟨va, vc, rfl⟩ := hR.slice
  have HE := Lib.hid hE
  have ka := (Kept.refl w).alloc (.cells #[.int .u8 13, .int .u8 10] 5 (2, 3))
  have KA := Lib.hid ka
  have RA := Lib.hid (brd_new w [13, 10] 5 #[.int .u8 13, .int .u8 10] rfl 2 (Nat.le_refl 2) (2, 3))
  have HTP := Lib.hid (trimP_any _ _ p [13, 10] _ (hR.kept ka) RA.out (by decide))
  have hql := trimPre_len p [13, 10]
  have HG1 := Lib.hid (fun h => gP_none (p := p) h)
  have HG2 := Lib.hid (fun r h => gP_nil (p := p) (r := r) h)
  have HG3 := Lib.hid (fun r x hs h => gP_some (p := p) (r := r) (h := x) (hs := hs) h)
  clear hR hE ka
  generalize Lib.trimPrefix p [13, 10] = q at *
  go_enter Tryz.func91, Tryz.ntmps91
  go_wp2_with fail
  refine HTP.out.mono ?_
  rintro e x1 ⟨qv, rfl, hq, hx1⟩
  have hx1' := hx1.symm
  subst hx1'
  have HC := Lib.hid (Hd.cut_any qv q _ hq (HE.out.kept KA.out) (by omega))
  obtain ⟨qa, qc, rfl⟩ := hq.slice
  have hsz := KA.out.size
  generalize w.alloc (.cells #[.int .u8 13, .int .u8 10] 5 (2, 3)) = y1 at *
  clear HTP hx1 hq RA
  go_wp2_with fail
  refine HC.out.mono ?_
  rintro e x2 ⟨lv, rv, rfl, hlv, hrv, k2⟩
  have K2 := Lib.hid (KA.out.trans k2)
  clear HC k2 KA
  cases hc : cutA q with
  | none =>
    have HQ := Lib.hid (HG1.out hc)
    obtain ⟨e1, e2, e3⟩ := cut_none hc
    rw [e1]
    obtain ⟨la, lc, rfl⟩ := own_slice hlv
    obtain ⟨ra, rc, rfl⟩ := own_slice hrv
    clear hc e1 e2 e3 HG1 HG2 HG3 hlv hrv kc
    go_wp2
    go_ret3
    exact ⟨[], [], _, by rw [HQ.out]; rfl, OwnB.nil _ _, GP.no HQ.out, by simp, by simp, K2.out⟩
  | some z =>
    obtain ⟨hs, r⟩ := z
    obtain ⟨e1, e2, e3⟩ := cut_some hc
    rw [e1]
    rw [e2] at hlv
    rw [e3] at hrv
    cases hs with
    | nil =>
      have HQ := Lib.hid (HG2.out r hc)
      obtain ⟨la, lc, rfl⟩ := own_slice hlv
      obtain ⟨ra, rc, rfl⟩ := own_slice hrv
      clear hc e1 e2 e3 HG1 HG2 HG3 hlv hrv kc
      go_wp2
      go_ret3
      exact ⟨[], [], _, by rw [HQ.out]; rfl, OwnB.nil _ _, GP.no HQ.out, by simp, by simp, K2.out⟩
    | cons h hs =>
      have HQ := Lib.hid (HG3.out r h hs hc)
      obtain ⟨hok, hqe⟩ := Hd.cutA_iff.1 hc
      have htl := (Hd.okH_nam ((Hd.okA_all hok).1 h (by simp))).2
      have hrl : r.length ≤ q.length := by rw [hqe, List.length_append]; omega
      have HH := Lib.hid hlv.rd
      have HRv := Lib.hid hrv.rd
      obtain ⟨la, lc, rfl⟩ := own_slice hlv
      obtain ⟨ra, rc, rfl⟩ := own_slice hrv
      clear hc e1 e2 e3 HG1 HG2 HG3 hlv hrv hok hqe
      have kb := (Kept.refl x2).alloc (.cells #[.int .u8 13, .int .u8 10] 5 (2, 3))
      have KB := Lib.hid (K2.out.trans kb)
      have RB := Lib.hid (brd_new x2 [13, 10] 5 #[.int .u8 13, .int .u8 10] rfl 2 (Nat.le_refl 2) (2, 3))
      have HTS := Lib.hid (trimS_any _ _ r [13, 10] _ (HRv.out.kept kb) RB.out (by decide) (by omega))
      have HHB := Lib.hid (HH.out.kept kb)
      have hsl := trimSuf_len r [13, 10]
      clear kb HRv HH
      generalize Lib.trimSuffix r [13, 10] = s at *
      obtain ⟨n, hn⟩ : ∃ n, n = (h :: hs).length := ⟨_, rfl⟩
      rw [← hn] at HHB
      rw [← hn]
      have hnz : ¬ (n : Int) = 0 := by rw [hn]; simp; omega
      have hnp : 0 < (n : Int) := by omega
      have HN := Lib.hid hn
      clear hn
      go_wp2_with fail
      refine HTS.out.mono ?_
      rintro e x3 ⟨sv, rfl, hs', hx3⟩
      have hx3' := hx3.symm
      subst hx3'
      have HD := Lib.hid (Qp.decode_any sv s _ hs' (by omega))
      obtain ⟨sa, sc, rfl⟩ := hs'.slice
      have hszB := KB.out.size
      generalize x2.alloc (.cells #[.int .u8 13, .int .u8 10] 5 (2, 3)) = y3 at *
      clear HTS hx3 hs' RB kc K2
      go_wp2_with fail
      refine HD.out.mono ?_
      rintro e x4 ⟨dv, rfl, ⟨xv, hxo, rfl⟩, k4⟩
      have K4 := Lib.hid (KB.out.trans k4)
      obtain ⟨g, o, c, hv, hc, c0, c1⟩ := (HHB.out.kept k4).at (i := 0) rfl
      rw [← HN.out] at hv hc
      injection hv with hv1 hv2 hv3
      subst hv1
      subst hv3
      clear k4 KB HHB HD
      cases hd : Qp.dec s with
      | none =>
        have HZ := Lib.hid (show gP p = none by rw [HQ.out, hd])
        rw [show Qp.dE s = 2 by unfold Qp.dE; rw [hd]; rfl]
        rw [hd] at hxo
        have HO := Lib.hid (OwnB.mono' hxo hszB)
        obtain ⟨xa, xc, hxv⟩ := own_slice hxo
        subst hxv
        clear hd hxo HQ
        go_wp2
        go_ret3
        exact ⟨h.2, [], _, by rw [HZ.out]; rfl, HO.out, GP.no HZ.out, htl, by simp, K4.out⟩
      | some b =>
        have HZ := Lib.hid (show gP p = some (h.2, b) by rw [HQ.out, hd])
        rw [show Qp.dE s = 0 by unfold Qp.dE; rw [hd]; rfl]
        rw [hd, Option.getD_some] at hxo
        have hbl := Qp.dec_le hd
        have HO := Lib.hid (OwnB.mono' hxo hszB)
        obtain ⟨xa, xc, hxv⟩ := own_slice hxo
        subst hxv
        clear hd hxo HQ
        go_wp2
        go_ret3
        exact ⟨h.2, b, _, by rw [HZ.out]; rfl, HO.out, fun x hx => by rw [HZ.out] at hx; cases hx; rfl, htl, by omega, K4.out⟩
end Go.Proofs.YtjlpkgipdkjfhaaGreatDoor.Bk.Pt
