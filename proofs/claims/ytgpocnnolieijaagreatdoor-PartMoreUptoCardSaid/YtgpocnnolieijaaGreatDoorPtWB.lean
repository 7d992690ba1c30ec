/- PartBack: what is joined is split, by its boundary alone. -/
import Derived.Test.YtgpocnnolieijaaGreatDoorPtSm
set_option linter.unusedSimpArgs false
set_option linter.unusedVariables false
namespace Go.Proofs.YtgpocnnolieijaaGreatDoor.Pt
open Go.ChangeShapes Go.WideShapes Go.ChangeAt Go.RowKit Go.Shelf
open Hd (SRd OwnS lnA lns)
theorem hds_len60 {k : B} (h : k.length ≤ 60) : (lnA (hds k)).length ≤ 1500 := by
  have h1 := Hd.lnH_len (nmT, k)
  have h2 := Hd.lnH_len (nmE, qpT)
  simp only at h1 h2
  rw [show nmT.length = 12 from rfl] at h1
  rw [show nmE.length = 25 from rfl, show qpT.length = 16 from rfl] at h2
  unfold lnA lns hds
  simp only [List.flatMap_cons, List.flatMap_nil, List.length_append, List.length_cons, List.length_nil]
  omega
theorem joined_le : ∀ l : List (B × B), (∀ x ∈ l, x.1.length ≤ 60 ∧ x.2.length ≤ 300) → (joined l).length ≤ l.length * 3400 + 9
  | [], _ => by decide
  | x :: l, h => by
    have h1 := joined_le l (fun y hy => h y (by simp [hy]))
    obtain ⟨h2, h3⟩ := h x (by simp)
    have h4 := hds_len60 h2
    have h5 := Qp.enc_len x.2 0
    rw [joined]
    unfold pc
    simp only [List.length_append, List.length_cons, List.length_nil, Nat.add_mul]
    rw [show dl.length = 5 from rfl]
    omega
theorem zip_small {ks ls : List B} (h : okJ ks ls = true) (hl : ∀ d ∈ ls, d.length ≤ 300) : (joined (ks.zip ls)).length ≤ 30000 := by
  obtain ⟨h1, h2, h3⟩ := okJ_iff.1 h
  have := joined_le (ks.zip ls) (fun x hx => by
    have := List.of_mem_zip hx
    exact ⟨(kd_mem (h3 _ this.1)).2, hl _ this.2⟩)
  rw [List.length_zip] at this
  have h4 : min ks.length ls.length * 3400 ≤ 8 * 3400 := Nat.mul_le_mul_right _ (by omega)
  omega
theorem sp_joined {ks ls : List B} (h : okJ ks ls = true) : spl (joined (ks.zip ls)) b0 = some (ks.zip ls) := by
  unfold okJ at h
  rw [Bool.and_eq_true] at h
  exact spl_iff.2 ⟨h.2, rfl, rfl⟩
theorem sp_other {b x : B} (h : ¬ x = b0) : spl b x = none := by
  cases hs : spl b x with
  | none => rfl
  | some l => exact absurd (spl_iff.1 hs).2.1 h
set_option maxRecDepth 100000 in
set_option maxHeartbeats 4000000 in
theorem back15_walk (kv lv : Value) (ks ls : List B) (o : B) (w : World) (hk : SRd kv ks w) (hl : LRd lv ls w) (hol : o.length ≤ maxLen) (hE : Env w) :
    Calls Tryz.prog 5 #[kv, lv, sV o] w fun e w' => e = .returned (.bool true) ∧ Kept w w' := by
  have hos : (ByteArray.mk o.toArray).size = o.length := List.size_toArray
  obtain ⟨ka, kc, rfl⟩ := hk.slice
  obtain ⟨la, lc, rfl⟩ := hl.slice
  have HK := Lib.hid hk
  have HL := Lib.hid hl
  have HE := Lib.hid hE
  have HA := Lib.hid (awake15_any w hE)
  clear hk hl hE
  go_enter Tryz.func5, Tryz.ntmps5
  go_wp2_with fail
  refine HA.out.mono ?_
  rintro e x1 ⟨rfl, k1⟩
  have K1 := Lib.hid k1
  have HF := Lib.hid (few_any _ _ ks ls x1 (HK.out.kept k1) (HL.out.kept k1))
  clear k1 HA
  go_wp2_with fail
  refine HF.out.mono ?_
  rintro e x2 ⟨rfl, hx2⟩
  have hx2' := hx2.symm
  subst hx2'
  clear hx2 HF
  cases hf : few ks ls with
  | false =>
    clear hf
    go_wp2
    go_ret
    exact ⟨rfl, K1.out⟩
  | true =>
    obtain ⟨⟨hkn, hln⟩, hkb, hlb⟩ := few_iff.1 hf
    have HLB := Lib.hid hlb
    have HJ := Lib.hid (join_any _ _ ks ls x1 (HK.out.kept K1.out) (HL.out.kept K1.out) (HE.out.kept K1.out) (fun k hk => by have := hkb k hk; omega) (fun d hd => by have := hlb d hd; omega))
    clear hf hkb hlb
    by_cases h2 : (100 : Int) < o.length
    · go_wp2
      go_ret
      exact ⟨rfl, K1.out⟩
    go_wp2_with fail
    refine HJ.out.mono ?_
    rintro e y1 ⟨bv, rfl, hb, k2⟩
    have K2 := Lib.hid (K1.out.trans k2)
    clear k2 HJ
    cases hok : okJ ks ls with
    | false =>
      obtain ⟨e1, e2, e3⟩ := j_no (ks := ks) (ls := ls) (by rw [hok]; decide)
      rw [e1] at hb
      rw [e2, e3]
      obtain ⟨ba, bc, hbv⟩ := own_slice hb
      rw [show ([] : B).length = 0 from rfl] at hbv
      subst hbv
      clear hok e1 e2 e3 hb
      go_wp2
      go_ret
      exact ⟨rfl, K2.out⟩
    | true =>
      obtain ⟨e1, e2, e3⟩ := j_yes hok
      rw [e1] at hb
      rw [e2, e3]
      have hjl := zip_small hok HLB.out
      have HSj := Lib.hid (sp_joined hok)
      have hkl := (okJ_iff.1 hok).1
      have HKL := Lib.hid hkl
      have HS := Lib.hid (split_any bv (joined (ks.zip ls)) b0 y1 hb.rd (HE.out.kept K2.out) (by omega) (by decide) (OwnB.cap hb))
      have HS2 := Lib.hid (fun (y : World) (k : Kept y1 y) => split_any bv (joined (ks.zip ls)) o y (hb.kept k).rd (HE.out.kept (K2.out.trans k)) (by omega) (by omega) (OwnB.cap hb))
      obtain ⟨ba, bc, hbv⟩ := own_slice hb
      generalize joined (ks.zip ls) = J at *
      subst hbv
      clear hok e1 e2 e3 hb hkl
      go_wp2_with fail
      refine HS.out.mono ?_
      rintro e y2 ⟨kv2, lv2, ks2, ls2, rfl, hks2, hls2, hsp2, k2⟩
      obtain ⟨rfl, rfl⟩ := hsp2.one (Or.inl ⟨HSj.out, HKL.out⟩ : Sp J b0 ks ls)
      rw [show sE J b0 = 0 by unfold sE; rw [HSj.out]; rfl]
      have HSm := Lib.hid (same_any _ _ kv2 lv2 ks2 ls2 y2 (HK.out.kept (K2.out.trans k2)) (HL.out.kept (K2.out.trans k2)) hks2.rd hls2.rd (by omega) (by omega))
      have HS3 := Lib.hid (fun (y : World) (k : Kept y2 y) => HS2.out y (k2.trans k))
      have K3 := Lib.hid (K2.out.trans k2)
      obtain ⟨ka2, kc2, rfl⟩ := own_slice hks2
      obtain ⟨la2, lc2, rfl⟩ := hls2.slice
      clear hks2 hls2 hsp2 HS HS2 k2
      go_wp2_with fail
      refine HSm.out.mono ?_
      rintro e y3 ⟨rfl, k3⟩
      have K4 := Lib.hid (K3.out.trans k3)
      have HS4 := Lib.hid (HS3.out y3 k3)
      clear HSm HS3 k3
      go_wp2_with fail
      refine HS4.out.mono ?_
      rintro e y4 ⟨kv3, lv3, ks3, ls3, rfl, hks3, hls3, hsp3, k4⟩
      have K5 := Lib.hid (K4.out.trans k4)
      obtain ⟨ka3, kc3, rfl⟩ := own_slice hks3
      obtain ⟨la3, lc3, rfl⟩ := hls3.slice
      clear hks3 hls3 hsp3 k4 HS4
      by_cases hob : o = b0
      · have hoq : (o == b0) = true := by rw [beq_iff_eq]; exact hob
        clear hob
        generalize sE J o = E at *
        generalize b0 = x0 at *
        go_wp2
        go_ret
        exact ⟨rfl, K5.out⟩
      · have hoq : (o == b0) = false := beq_eq_false_iff_ne.2 hob
        rw [show sE J o = 2 by unfold sE; rw [sp_other hob]; rfl]
        clear hob
        generalize b0 = x0 at *
        go_wp2
        go_ret
        exact ⟨rfl, K5.out⟩
end Go.Proofs.YtgpocnnolieijaaGreatDoor.Pt
