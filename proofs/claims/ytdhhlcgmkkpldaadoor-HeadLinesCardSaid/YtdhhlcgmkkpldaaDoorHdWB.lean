/- What is written is read; what is read is written so. -/
import Derived.Test.YtdhhlcgmkkpldaaDoorHdAw
set_option linter.unusedSimpArgs false
set_option linter.unusedVariables false
namespace Go.Proofs.YtdhhlcgmkkpldaaDoor.Hd
open Go.ChangeShapes Go.WideShapes Go.ChangeAt Go.RowKit Go.Shelf
/-- one header, in a list -/
theorem hrd_one (w : World) (h : Hdr) : HRd (.slice (some ⟨w.heap.size, 0, none⟩) 1 1) [h] (w.alloc (.cells #[sV h.1, sV h.2] 23)) := by
  refine ⟨_, _, rfl, fun _ => ⟨_, _, rfl, Nat.le_refl _, fun i t ht => ?_⟩⟩
  match i, ht with
  | 0, ht =>
    simp at ht
    subst ht
    exact ⟨(Kept.refl _).new 0 rfl, (Kept.refl _).new 1 rfl⟩
set_option maxRecDepth 100000 in
set_option maxHeartbeats 8000000 in
theorem back14_walk (h : Hdr) (v : Value) (l : B) (w : World) (hn : h.1.length ≤ maxLen) (ht : h.2.length ≤ maxLen) (hB : BRd v l w) (hd : l.length ≤ maxLen) (hE : Env w) :
    Calls Tryd.prog 5 #[hV h, v] w fun e w' => e = .returned (.bool true) ∧ Kept w w' := by
  unfold maxLen at hd
  obtain ⟨va, vc, hvv⟩ := hB.slice
  subst hvv
  have HB := Lib.hid hB
  have HE := Lib.hid hE
  clear hB hE
  have HNT := Lib.hid (And.intro hn ht)
  obtain ⟨n, t⟩ := h
  clear hn ht
  have k0 := (Kept.refl w).alloc (.cells #[sV n, sV t] 23)
  have c0 := (Kept.refl (w.alloc (.cells #[sV n, sV t] 23))).new 0 (v := sV n) rfl
  have c1 := (Kept.refl (w.alloc (.cells #[sV n, sV t] 23))).new 1 (v := sV t) rfl
  go_enter Tryd.func5, Tryd.ntmps5
  go_upto_region 1 with (fail)
  generalize w.alloc (.cells #[sV n, sV t] 23) = x0 at *
  go_wp2_with fail
  refine (awake14_any _ (HE.out.kept k0)).mono ?_
  rintro e x1 ⟨rfl, k1⟩
  have d0 := k1.yes c0
  have d1 := k1.yes c1
  have ka := (Kept.refl x1).alloc (.cells #[sV n, sV t] 23)
  have HF := Lib.hid (few_any _ [(n, t)] 1 _ (hrd_one x1 (n, t)) (by unfold maxLen; simp only [List.length_cons, List.length_nil]; omega) (fun x hx => by simp at hx; subst hx; exact HNT.out))
  have K2 := Lib.hid ((k0.trans k1).trans ka)
  have e0 := ka.yes d0
  have e1 := ka.yes d1
  clear k0 k1 ka c0 c1
  go_upto_region 2 with (fail)
  go_wp2_with fail
  refine HF.out.mono ?_
  rintro e x2 ⟨rfl, rfl⟩
  clear HF d0 d1
  cases hf : fewB [(n, t)] 1 with
  | false =>
    clear hf
    go_wp2
    go_ret
    exact ⟨rfl, K2.out⟩
  | true =>
    obtain ⟨-, hfb⟩ := few_bd hf
    obtain ⟨hnl, htl⟩ := hfb (n, t) (by simp)
    simp only at hnl htl
    clear hf hfb
    generalize x1.alloc (.cells #[sV n, sV t] 23) = x3 at *
    by_cases hs : 2000 < (l.length : Int)
    · go_wp2
      go_ret
      exact ⟨rfl, K2.out⟩
    have hl : l.length ≤ 1000000 := by omega
    go_wp2_with fail
    refine (line_any (n, t) _ (HE.out.kept K2.out) (by simp only; omega) (by simp only; omega)).mono ?_
    rintro e x4 ⟨xv, rfl, hO, k4⟩
    have K4 := Lib.hid (K2.out.trans k4)
    have f0 := k4.yes e0
    have f1 := k4.yes e1
    clear k4 e0 e1 K2
    cases hk : okH (n, t) with
    | false =>
      rw [lE_no hk]
      obtain ⟨xa, xc, hxv⟩ := hO.slice
      subst hxv
      clear hO hk
      go_wp2_with fail
      refine (read_any _ l _ (HB.out.kept K4.out) (HE.out.kept K4.out) hl).mono ?_
      rintro e z ⟨rfl, kz⟩
      have KZ := Lib.hid (K4.out.trans kz)
      clear kz
      cases hr : red l with
      | none =>
        rw [(rE_none hr).1, (rE_none hr).2]
        have heq : ∀ W, (binOp .eql 23 (hV ([], [])) (hV ([], []))).run Tryd.prog W = .ok (.bool true) W := fun W => (eql_hdr _ _ W).trans (by rfl)
        have kb := (Kept.refl z).alloc (.cells #[sV [], sV []] 23)
        have q0 := (Kept.refl (z.alloc (.cells #[sV [], sV []] 23))).new 0 (v := sV []) rfl
        have q1 := (Kept.refl (z.alloc (.cells #[sV [], sV []] 23))).new 1 (v := sV []) rfl
        have KB := Lib.hid (KZ.out.trans kb)
        clear kb hr
        go_upto_region 11 with (fail)
        generalize z.alloc (.cells #[sV [], sV []] 23) = z1 at *
        go_wp2
        go_ret
        exact ⟨rfl, KB.out⟩
      | some g =>
        obtain ⟨gk, gs⟩ := line_ok (red_iff.1 hr)
        rw [(rE_some hr).1, (rE_some hr).2]
        obtain ⟨gn, gt⟩ := g
        have hgk := okH_nam gk
        have hgn := (nam_all hgk.1).2.2
        have hgt := hgk.2
        simp only at hgn hgt
        have kb := (Kept.refl z).alloc (.cells #[sV gn, sV gt] 23)
        have q0 := (Kept.refl (z.alloc (.cells #[sV gn, sV gt] 23))).new 0 (v := sV gn) rfl
        have q1 := (Kept.refl (z.alloc (.cells #[sV gn, sV gt] 23))).new 1 (v := sV gt) rfl
        have KB := Lib.hid (KZ.out.trans kb)
        have HLn := Lib.hid (fun w hE => line_any (gn, gt) w hE (by simp only; omega) (by simp only; omega))
        have HGS := Lib.hid gs
        have HGK := Lib.hid gk
        clear kb hr gs gk hgk
        go_upto_region 11 with (fail)
        generalize z.alloc (.cells #[sV gn, sV gt] 23) = z1 at *
        go_wp2_with fail
        refine (HLn.out _ (HE.out.kept KB.out)).mono ?_
        rintro e z2 ⟨yv, rfl, hy, k2⟩
        rw [line_lnH HGK.out, Option.getD_some, ← HGS.out] at hy
        rw [lE_ok HGK.out]
        have K2 := Lib.hid (KB.out.trans k2)
        have hc1 := hy.rd.conv
        have hc2 := (HB.out.kept K2.out).conv
        obtain ⟨ya, yc, hyv⟩ := hy.slice
        subst hyv
        clear hy k2 q0 q1 HGS HGK HLn
        go_wp2
        go_ret
        exact ⟨rfl, K2.out⟩
    | true =>
      have hln := lnH_len (n, t)
      simp only at hln
      have hred := red_iff.2 (line_lnH hk)
      rw [line_lnH hk, Option.getD_some] at hO
      rw [lE_ok hk]
      have HX := Lib.hid hO.rd
      obtain ⟨xa, xc, hxv⟩ := hO.slice
      have HRd := Lib.hid (And.intro (rE_some hred).1 (rE_some hred).2)
      clear hO hk hred
      generalize lnH (n, t) = ln at *
      subst hxv
      go_wp2_with fail
      refine (read_any _ ln _ HX.out (HE.out.kept K4.out) (by omega)).mono ?_
      rintro e x5 ⟨rfl, k5⟩
      rw [HRd.out.1, HRd.out.2]
      have kc := (Kept.refl x5).alloc (.cells #[sV n, sV t] 23)
      have g0 := (Kept.refl (x5.alloc (.cells #[sV n, sV t] 23))).new 0 (v := sV n) rfl
      have g1 := (Kept.refl (x5.alloc (.cells #[sV n, sV t] 23))).new 1 (v := sV t) rfl
      have h0 := (k5.trans kc).yes f0
      have h1 := (k5.trans kc).yes f1
      have K6 := Lib.hid ((K4.out.trans k5).trans kc)
      have hneq : ∀ W, (binOp .neq 23 (hV (n, t)) (hV (n, t))).run Tryd.prog W = .ok (.bool false) W := fun W => (neq_hdr _ _ W).trans (by simp)
      clear k5 kc f0 f1 HX HRd
      go_upto_region 8 with (fail)
      generalize x5.alloc (.cells #[sV n, sV t] 23) = x6 at *
      go_upto_region 10 with (fail)
      clear g0 g1 h0 h1 hneq
      go_wp2_with fail
      refine (read_any _ l _ (HB.out.kept K6.out) (HE.out.kept K6.out) hl).mono ?_
      rintro e z ⟨rfl, kz⟩
      have KZ := Lib.hid (K6.out.trans kz)
      clear kz
      cases hr : red l with
      | none =>
        rw [(rE_none hr).1, (rE_none hr).2]
        have heq : ∀ W, (binOp .eql 23 (hV ([], [])) (hV ([], []))).run Tryd.prog W = .ok (.bool true) W := fun W => (eql_hdr _ _ W).trans (by rfl)
        have kb := (Kept.refl z).alloc (.cells #[sV [], sV []] 23)
        have q0 := (Kept.refl (z.alloc (.cells #[sV [], sV []] 23))).new 0 (v := sV []) rfl
        have q1 := (Kept.refl (z.alloc (.cells #[sV [], sV []] 23))).new 1 (v := sV []) rfl
        have KB := Lib.hid (KZ.out.trans kb)
        clear kb hr
        go_upto_region 11 with (fail)
        generalize z.alloc (.cells #[sV [], sV []] 23) = z1 at *
        go_wp2
        go_ret
        exact ⟨rfl, KB.out⟩
      | some g =>
        obtain ⟨gk, gs⟩ := line_ok (red_iff.1 hr)
        rw [(rE_some hr).1, (rE_some hr).2]
        obtain ⟨gn, gt⟩ := g
        have hgk := okH_nam gk
        have hgn := (nam_all hgk.1).2.2
        have hgt := hgk.2
        simp only at hgn hgt
        have kb := (Kept.refl z).alloc (.cells #[sV gn, sV gt] 23)
        have q0 := (Kept.refl (z.alloc (.cells #[sV gn, sV gt] 23))).new 0 (v := sV gn) rfl
        have q1 := (Kept.refl (z.alloc (.cells #[sV gn, sV gt] 23))).new 1 (v := sV gt) rfl
        have KB := Lib.hid (KZ.out.trans kb)
        have HLn := Lib.hid (fun w hE => line_any (gn, gt) w hE (by simp only; omega) (by simp only; omega))
        have HGS := Lib.hid gs
        have HGK := Lib.hid gk
        clear kb hr gs gk hgk
        go_upto_region 11 with (fail)
        generalize z.alloc (.cells #[sV gn, sV gt] 23) = z1 at *
        go_wp2_with fail
        refine (HLn.out _ (HE.out.kept KB.out)).mono ?_
        rintro e z2 ⟨yv, rfl, hy, k2⟩
        rw [line_lnH HGK.out, Option.getD_some, ← HGS.out] at hy
        rw [lE_ok HGK.out]
        have K2 := Lib.hid (KB.out.trans k2)
        have hc1 := hy.rd.conv
        have hc2 := (HB.out.kept K2.out).conv
        obtain ⟨ya, yc, hyv⟩ := hy.slice
        subst hyv
        clear hy k2 q0 q1 HGS HGK HLn
        go_wp2
        go_ret
        exact ⟨rfl, K2.out⟩
end Go.Proofs.YtdhhlcgmkkpldaaDoor.Hd
