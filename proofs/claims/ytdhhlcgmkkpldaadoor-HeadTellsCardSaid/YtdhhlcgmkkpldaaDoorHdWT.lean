/- Any header's lines, any text's pieces, and whether it is plain, are what the document says, or have the error. -/
import Derived.Test.YtdhhlcgmkkpldaaDoorHdWB
import Derived.Deep.RegionHeld3
set_option linter.unusedSimpArgs false
set_option linter.unusedVariables false
namespace Go.Proofs.YtdhhlcgmkkpldaaDoor.Hd
open Go.ChangeShapes Go.WideShapes Go.ChangeAt Go.RowKit Go.Shelf
set_option maxRecDepth 100000 in
set_option maxHeartbeats 8000000 in
theorem tells14_walk (h : Hdr) (w : World) (hn : h.1.length ≤ maxLen) (ht : h.2.length ≤ maxLen) (hE : Env w) :
    Calls Tryd.prog 3 #[hV h] w fun e w' => e = .returned (.bool true) ∧ Kept w w' := by
  have HE := Lib.hid hE
  clear hE
  have HNT := Lib.hid (And.intro hn ht)
  obtain ⟨n, t⟩ := h
  clear hn ht
  have k0 := (Kept.refl w).alloc (.cells #[sV n, sV t] 23)
  have c0 := (Kept.refl (w.alloc (.cells #[sV n, sV t] 23))).new 0 (v := sV n) rfl
  have c1 := (Kept.refl (w.alloc (.cells #[sV n, sV t] 23))).new 1 (v := sV t) rfl
  go_enter Tryd.func3, Tryd.ntmps3
  go_upto_region 1 with (fail)
  generalize w.alloc (.cells #[sV n, sV t] 23) = x0 at *
  go_wp2_with fail
  refine (awake14_any _ (HE.out.kept k0)).mono ?_
  rintro e x1 ⟨rfl, k1⟩
  have d0 := k1.yes c0
  have d1 := k1.yes c1
  have ka := (Kept.refl x1).alloc (.cells #[sV n, sV t] 23)
  have HF := Lib.hid (few_any _ [(n, t)] 1 _ (hrd_one x1 (n, t)) (by unfold maxLen; simp only [List.length_cons, List.length_nil]; omega) (fun x hx => by simp at hx; subst hx; exact HNT.out))
  have K2 := Lib.hid ((k0.trans k1).trans ka)
  have e0 := ka.yes d0
  have e1 := ka.yes d1
  clear k0 k1 ka c0 c1
  go_upto_region 2 with (fail)
  go_wp2_with fail
  refine HF.out.mono ?_
  rintro e x2 ⟨rfl, rfl⟩
  clear HF d0 d1
  cases hf : fewB [(n, t)] 1 with
  | false =>
    clear hf
    go_wp2
    go_ret
    exact ⟨rfl, K2.out⟩
  | true =>
    obtain ⟨-, hfb⟩ := few_bd hf
    obtain ⟨hnl, htl⟩ := hfb (n, t) (by simp)
    simp only at hnl htl
    clear hf hfb
    generalize x1.alloc (.cells #[sV n, sV t] 23) = x3 at *
    go_wp2_with fail
    refine (line_any (n, t) _ (HE.out.kept K2.out) (by simp only; omega) (by simp only; omega)).mono ?_
    rintro e x4 ⟨xv, rfl, hO, k4⟩
    have K4 := Lib.hid (K2.out.trans k4)
    have f0 := k4.yes e0
    have f1 := k4.yes e1
    have O4 := Lib.hid hO
    obtain ⟨xa, xc, hxv⟩ := hO.slice
    generalize hz : (line (n, t)).getD [] = z at *
    subst hxv
    clear k4 e0 e1 K2 hO
    go_wp2_with fail
    refine (rline_any (n, t) _ (by simp only; omega) (by simp only; omega)).mono ?_
    rintro e x5 ⟨yv, rfl, hy, k5⟩
    rw [hz] at hy
    have K5 := Lib.hid (K4.out.trans k5)
    have g0 := k5.yes f0
    have g1 := k5.yes f1
    have O5 := Lib.hid (O4.out.kept k5)
    have Y5 := Lib.hid hy
    obtain ⟨ya, yc, hyv⟩ := hy.slice
    subst hyv
    clear k5 f0 f1 K4 hy O4
    generalize lE (n, t) = le at *
    have HW := Lib.hid (fun w hE => allWords_any t w hE (by omega))
    have HRW := Lib.hid (fun w => rwords_any t w (by omega))
    have HP := Lib.hid (fun w hE => plain_any t w hE (by omega))
    have HRP := Lib.hid (fun w => rplain_any t w (by unfold maxLen; omega))
    have hwl : (wds t).length ≤ 10000000 := by have := sumW_wds t; have := (sumW_len (wds t)).1; omega
    have HSm := Lib.hid (fun v v' w h h' => rsameS_any (wds t) (wds t) v v' w h h' hwl hwl)
    go_upto_region 7 with (fail)
    refine wp_region_held_drew (S := (fun y => y.cell? ⟨w.heap.size, 1, none⟩ = some (sV t))) (by kernel_rfl) g1 (fun hS0 => ?_)
    have KD := Lib.hid (K5.out.trans (Kept.refl x5).drew)
    have OD := Lib.hid (O5.out.kept (Kept.refl x5).drew)
    have YD := Lib.hid (Y5.out.kept (Kept.refl x5).drew)
    clear K5 O5 Y5 g0 g1
    generalize x5.drew = x6 at *
    refine wpAnyH_take (i := 0) (oi := { dst := some 32, op := Go.Op.fieldAddr 23 (Go.Operand.tmp 1) 1, type := 0, pos := "law.go:41", after := #[], guard := none }) (v := ?vb0) rfl (by kernel_rfl) (by kernel_rfl) (by kernel_rfl) (fun _ _ _ h => h) (Or.inl ⟨by rfl, ?yb0⟩) (by assumption) ?rb0
    case yb0 => (intro wq hSw; (try dsimp only at hSw); go_simp; try with_reducible rfl)
    simp only [Act.put, List.setIfInBounds_toArray, List.set_cons_zero, List.set_cons_succ]
    refine wpAnyH_take (i := 1) (oi := { dst := some 33, op := Go.Op.load 9 (Go.Operand.tmp 32), type := 9, pos := "law.go:41", after := #[{ on := 0, ground := Go.Ground.data }], guard := none }) (v := ?vb1) rfl (by kernel_rfl) (by kernel_rfl) (by kernel_rfl) (fun _ _ _ h => h) (Or.inl ⟨by rfl, ?yb1⟩) (by assumption) ?rb1
    case yb1 => (intro wq hSw; (try dsimp only at hSw); go_simp; try with_reducible rfl)
    simp only [Act.put, List.setIfInBounds_toArray, List.set_cons_zero, List.set_cons_succ]
    refine wpAnyH_take (i := 3) (oi := { dst := some 35, op := Go.Op.fieldAddr 23 (Go.Operand.tmp 1) 1, type := 0, pos := "law.go:41", after := #[], guard := none }) (v := ?vb3) rfl (by kernel_rfl) (by kernel_rfl) (by kernel_rfl) (fun _ _ _ h => h) (Or.inl ⟨by rfl, ?yb3⟩) (by assumption) ?rb3
    case yb3 => (intro wq hSw; (try dsimp only at hSw); go_simp; try with_reducible rfl)
    simp only [Act.put, List.setIfInBounds_toArray, List.set_cons_zero, List.set_cons_succ]
    refine wpAnyH_take (i := 4) (oi := { dst := some 36, op := Go.Op.load 9 (Go.Operand.tmp 35), type := 9, pos := "law.go:41", after := #[{ on := 3, ground := Go.Ground.data }], guard := none }) (v := ?vb4) rfl (by kernel_rfl) (by kernel_rfl) (by kernel_rfl) (fun _ _ _ h => h) (Or.inl ⟨by rfl, ?yb4⟩) (by assumption) ?rb4
    case yb4 => (intro wq hSw; (try dsimp only at hSw); go_simp; try with_reducible rfl)
    simp only [Act.put, List.setIfInBounds_toArray, List.set_cons_zero, List.set_cons_succ]
    refine wpAnyH_ready (rs := [2]) (by kernel_rfl) (by simp) (AllReadyH.cons (o := { dst := some 34, op := Go.Op.call { callee := Go.Callee.value (Go.Operand.func 13), args := #[Go.Operand.tmp 33], argTypes := #[9] }, type := 32, pos := "law.go:41", after := #[{ on := 1, ground := Go.Ground.data }], guard := none }) rfl (fun K hK => ?_) AllReadyH.nil)
    go_simp
    refine (HW.out _ (HE.out.kept KD.out)).mono ?_
    rintro e y1 ⟨av, rfl, ha, ka⟩
    have KA := Lib.hid (KD.out.trans ka)
    refine Shut.out hK _ _ (ka.yes hS0) (fun hSb => ?_)
    clear hK K
    try simp only [Act.put, List.setIfInBounds_toArray, List.set_cons_zero, List.set_cons_succ]
    have SA1 := Lib.hid ha.rd
    obtain ⟨aa, ac, hav⟩ := own_slice ha
    subst hav
    refine wpAnyH_ready (rs := [5]) (by kernel_rfl) (by simp) (AllReadyH.cons (o := { dst := some 37, op := Go.Op.call { callee := Go.Callee.value (Go.Operand.func 14), args := #[Go.Operand.tmp 36], argTypes := #[9] }, type := 32, pos := "law.go:41", after := #[{ on := 4, ground := Go.Ground.data }, { on := 2, ground := Go.Ground.chain }], guard := none }) rfl (fun K hK => ?_) AllReadyH.nil)
    go_simp
    refine (HRW.out _).mono ?_
    rintro e y2 ⟨bv, rfl, hb, kb⟩
    have KB := Lib.hid (KA.out.trans kb)
    refine Shut.out hK _ _ (kb.yes hSb) (fun hSb => ?_)
    clear hK K
    try simp only [Act.put, List.setIfInBounds_toArray, List.set_cons_zero, List.set_cons_succ]
    have SA := Lib.hid (SA1.out.kept kb)
    have SB := Lib.hid hb.rd
    have OB := Lib.hid (OD.out.kept (ka.trans kb))
    have YB := Lib.hid (YD.out.kept (ka.trans kb))
    obtain ⟨ba, bc, hbv⟩ := own_slice hb
    subst hbv
    clear ka kb ha hb SA1 OD YD
    refine wpAnyH_ready (rs := [6]) (by kernel_rfl) (by simp) (AllReadyH.cons (o := { dst := some 38, op := Go.Op.call { callee := Go.Callee.value (Go.Operand.func 12), args := #[Go.Operand.tmp 34, Go.Operand.tmp 37], argTypes := #[32, 32] }, type := 4, pos := "law.go:41", after := #[{ on := 2, ground := Go.Ground.data }, { on := 5, ground := Go.Ground.data }, { on := 5, ground := Go.Ground.chain }], guard := none }) rfl (fun K hK => ?_) AllReadyH.nil)
    go_simp
    refine (HSm.out _ _ _ SA.out SB.out).mono ?_
    rintro e y3 ⟨rfl, k3⟩
    rw [decide_eq_true (show wds t = wds t from rfl)]
    have K3 := Lib.hid (KB.out.trans k3)
    refine Shut.out hK _ _ (k3.yes hSb) (fun hSb => ?_)
    clear hK K
    try simp only [Act.put, List.setIfInBounds_toArray, List.set_cons_zero, List.set_cons_succ]
    refine wpAnyH_take (i := 7) (oi := { dst := some 9, op := Go.Op.assign (Go.Operand.tmp 38), type := 4, pos := "law.go:41", after := #[{ on := 6, ground := Go.Ground.data }, { on := 6, ground := Go.Ground.chain }, { on := 0, ground := Go.Ground.phase }, { on := 1, ground := Go.Ground.phase }, { on := 2, ground := Go.Ground.phase }, { on := 3, ground := Go.Ground.phase }, { on := 4, ground := Go.Ground.phase }, { on := 5, ground := Go.Ground.phase }, { on := 6, ground := Go.Ground.phase }], guard := none }) (v := ?vb7) rfl (by kernel_rfl) (by kernel_rfl) (by kernel_rfl) (fun _ _ _ h => h) (Or.inl ⟨by rfl, ?yb7⟩) (by assumption) ?rb7
    case yb7 => (intro wq hSw; (try dsimp only at hSw); go_simp; try with_reducible rfl)
    simp only [Act.put, List.setIfInBounds_toArray, List.set_cons_zero, List.set_cons_succ]
    refine wpAnyH_done (by kernel_rfl) ?_ _
    have O9 := Lib.hid (OB.out.kept k3)
    have Y9 := Lib.hid (YB.out.kept k3)
    clear k3 SA SB OB YB
    go_wp2_with fail
    refine (HRP.out _).mono ?_
    rintro e y4 ⟨rfl, rfl⟩
    have hc1 := O9.out.rd.conv
    have hc2 := Y9.out.rd.conv
    go_wp2_with fail
    refine (HP.out _ (HE.out.kept K3.out)).mono ?_
    rintro e y5 ⟨rfl, k5⟩
    go_wp2
    go_ret
    exact ⟨rfl, K3.out.trans k5⟩
end Go.Proofs.YtdhhlcgmkkpldaaDoor.Hd
