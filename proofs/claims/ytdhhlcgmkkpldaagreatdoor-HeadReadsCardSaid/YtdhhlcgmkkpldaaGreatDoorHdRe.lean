/- Package head: Read. -/
import Derived.Test.YtdhhlcgmkkpldaaGreatDoorHdHd
set_option linter.unusedSimpArgs false
set_option linter.unusedVariables false
namespace Go.Proofs.YtdhhlcgmkkpldaaGreatDoor.Hd
open Go.ChangeShapes Go.WideShapes Go.ChangeAt Go.RowKit Go.Shelf
theorem guess_le (s : B) : (guess s).1.length ≤ s.length ∧ (guess s).2.length ≤ 3 * s.length + 3 := by
  have h1 := unf_len _ s (Nat.le_refl _)
  have h2 := ts_le (unf s) [13, 10]
  have h3 := hdr_le1 (Lib.trimSuffix (unf s) [13, 10])
  have h4 := hdr_le2 (Lib.trimSuffix (unf s) [13, 10])
  unfold guess
  omega
set_option maxRecDepth 100000 in
set_option maxHeartbeats 4000000 in
theorem guess_any (s : B) (w : World) (hE : Env w) (hl : s.length ≤ 1000000) : Calls Tryz.prog 13 #[sV s] w fun e w' => e = .returned (hV (guess s)) ∧ Kept w w' := by
  have hb : (w.alloc (.cells z2H 25)).heap[w.heap.size]? = some (.cells z2H 25) := World.alloc_heap_new w _
  have kb := (Kept.refl w).alloc (.cells z2H 25)
  have h1 := unf_len _ s (Nat.le_refl _)
  have h2 := ts_le (unf s) [13, 10]
  have HU := Lib.hid (fun w hE => unf_any s w hE (by omega))
  have HT := Lib.hid (fun w => trimSuffix_any (unf s) [13, 10] w (by omega))
  have HH := Lib.hid (fun w hE => header_any (Lib.trimSuffix (unf s) [13, 10]) w hE (by omega))
  have hg : guess s = hdr (Lib.trimSuffix (unf s) [13, 10]) := rfl
  have hE1 := hE.kept kb
  rw [hg]
  generalize Lib.trimSuffix (unf s) [13, 10] = u2 at *
  generalize unf s = u1 at *
  generalize hdr u2 = res at *
  obtain ⟨n, d⟩ := res
  have HE := Lib.hid hE1
  have HB := Lib.hid hb
  have KB := Lib.hid kb
  clear hE hE1 hb kb hg
  go_enter Tryz.func13, Tryz.ntmps13
  go_upto_region 1 with (fail)
  generalize w.alloc (.cells z2H 25) = x at *
  go_wp2_with fail
  refine (HU.out _ HE.out).mono ?_
  rintro e x1 ⟨rfl, k1⟩
  go_wp2_with fail
  refine (HT.out _).mono ?_
  rintro e x2 ⟨rfl, rfl⟩
  go_wp2_with fail
  refine (HH.out _ (HE.out.kept k1)).mono ?_
  rintro e x3 ⟨rfl, k3⟩
  have k13 := k1.trans k3
  have hb3 : x3.heap[w.heap.size]? = some (.cells z2H 25) := (k13.block _ (Array.getElem?_eq_some_iff.1 HB.out).1).trans HB.out
  have K3 := Lib.hid (KB.out.trans k13)
  clear k1 k3 k13
  go_wp2_with (refine wpList_store_row rfl 25 _ _ rfl w.heap.size _ rfl rfl 25 _ hb3 (by kernel_rfl) rfl (by simp [Value.oneCell']) ?_)
  exact bodyPost_ret (v := hV (n, d)) (results_cell_row Tryz.results13 _ _ w.heap.size 25 _ (0, 0) _ rfl (setRow_heap _ _ _ _ _ _ hb3) Tryz.underlying25 rfl (by kernel_rfl)) rfl ⟨rfl, kept_setRow K3.out (Nat.le_refl _) _⟩
/-- Read's error -/
noncomputable def rE (s : B) : Int := if (red s).isSome = true then 0 else 2
noncomputable def rH (s : B) : Hdr := (red s).getD ([], [])
theorem red_no1 {s : B} (h : okH (guess s) = false) : red s = none := by
  unfold red
  rw [line_no h, if_neg (by simp)]
theorem red_yes {s : B} (h : okH (guess s) = true) (he : lnH (guess s) = s) : red s = some (guess s) := by
  unfold red
  rw [line_lnH h, he, if_pos rfl]
theorem red_no2 {s : B} (h : okH (guess s) = true) (he : lnH (guess s) ≠ s) : red s = none := by
  unfold red
  rw [line_lnH h, if_neg (fun e => he (Option.some.inj e))]
theorem rE_some {s : B} {h : Hdr} (e : red s = some h) : rE s = 0 ∧ rH s = h := by unfold rE rH; rw [e]; exact ⟨rfl, rfl⟩
theorem rE_none {s : B} (e : red s = none) : rE s = 2 ∧ rH s = ([], []) := by unfold rE rH; rw [e]; exact ⟨rfl, rfl⟩
/-- a struct in a block of its own, and a value, answered -/
theorem results_row_tmp {fn : Func} {p q : Tmp} {ty : TypeId} (h : fn.results = #[.cell p ty, .tmp q]) (tmps : Array Value) (w : World) (g : Nat) (a v : Value)
    (hp : tmps.getD p undef = .pointer (some ⟨g, 0, none⟩)) (hq : tmps.getD q undef = v) (hl : (loadVar ty ⟨g, 0, none⟩).run Tryz.prog w = .ok a w) :
    (results fn tmps).run Tryz.prog w = .ok (.tuple #[a, v]) w := by
  have hp' : tmps[p]?.getD undef = .pointer (some ⟨g, 0, none⟩) := by simpa using hp
  have hq' : tmps[q]?.getD undef = v := by simpa using hq
  simp [results, h, hp', hq', asAddr, hl]
abbrev fV (f : Nat) : Value := .func (.func f) #[] #[]
set_option maxRecDepth 100000 in
set_option maxHeartbeats 4000000 in
theorem readH_any (v : Value) (l : B) (w : World) (hR : BRd v l w) (hE : Env w) (hl : l.length ≤ 1000000) :
    Calls Tryz.prog 12 #[v, fV 13, fV 10] w fun e w' => e = .returned (.tuple #[hV (rH l), .int .i64 (rE l)]) ∧ Kept w w' := by
  have hcv := hR.conv
  have HR := Lib.hid hR
  have HE := Lib.hid hE
  obtain ⟨va, vc, hvv⟩ := hR.slice
  subst hvv
  have hgl := guess_le l
  have HG := Lib.hid (fun w hE => guess_any l w hE hl)
  have HL := Lib.hid (fun w hE => line_any (guess l) w hE (by omega) (by omega))
  have H1 := Lib.hid (fun h => @red_no1 l h)
  have H2 := Lib.hid (fun h he => @red_yes l h he)
  have H3 := Lib.hid (fun h he => @red_no2 l h he)
  clear hR hE
  generalize guess l = g at *
  have hb : (w.alloc (.cells z2H 25)).heap[w.heap.size]? = some (.cells z2H 25) := World.alloc_heap_new w _
  have kb := (Kept.refl w).alloc (.cells z2H 25)
  have s0 : (w.alloc (.cells z2H 25)).heap.size = w.heap.size + 1 := by simp
  have hcv0 := hcv
  go_enter Tryz.func12, Tryz.ntmps12
  go_upto_region 1 with (fail)
  have HR1 := Lib.hid (HR.out.kept kb)
  have HE1 := Lib.hid (HE.out.kept kb)
  have hcv1 := HR1.out.conv
  generalize w.alloc (.cells z2H 25) = x0 at *
  clear hcv hcv0 HR HE
  have eg : ∀ args w, (callFunc 13 args).run Tryz.prog w = .ok (.enter 13 args) w := enters_of Tryz.func13 (by kernel_rfl) rfl
  have el : ∀ args w, (callFunc 10 args).run Tryz.prog w = .ok (.enter 10 args) w := enters_of Tryz.func10 (by kernel_rfl) rfl
  go_wp2_with fail
  refine (HG.out _ HE1.out).mono ?_
  rintro e x1 ⟨rfl, k1⟩
  obtain ⟨gn, gt⟩ := g
  have k2 := (Kept.refl x1).alloc (.cells #[sV gn, sV gt] 25)
  have c0 := (Kept.refl (x1.alloc (.cells #[sV gn, sV gt] 25))).new 0 (v := sV gn) rfl
  have c1 := (Kept.refl (x1.alloc (.cells #[sV gn, sV gt] 25))).new 1 (v := sV gt) rfl
  clear hcv1 eg
  go_upto_region 2 with (fail)
  generalize x1.alloc (.cells #[sV gn, sV gt] 25) = x2 at *
  have z1 := k1.size
  have k02 := k1.trans k2
  have hb2 : x2.heap[w.heap.size]? = some (.cells z2H 25) := (k02.block _ (Array.getElem?_eq_some_iff.1 hb).1).trans hb
  have R2 := Lib.hid (HR1.out.kept k02)
  have E2 := Lib.hid (HE1.out.kept k02)
  have K2 := Lib.hid (kb.trans k02)
  clear hb kb k1 k2 k02 HR1 HE1
  go_wp2_with fail
  refine (HL.out _ E2.out).mono ?_
  rintro e x3 ⟨xv, rfl, hO, k3⟩
  have hb3 : x3.heap[w.heap.size]? = some (.cells z2H 25) := (k3.block _ (Array.getElem?_eq_some_iff.1 hb2).1).trans hb2
  have d0 := k3.yes c0
  have d1 := k3.yes c1
  have R3 := Lib.hid (R2.out.kept k3)
  have K3 := Lib.hid (K2.out.trans k3)
  clear hb2 c0 c1 k3 HL el R2 E2 K2
  obtain ⟨xa, xc, hxv⟩ := hO.slice
  subst hxv
  generalize hlen : ((line (gn, gt)).getD []).length = n1 at *
  cases hk : okH (gn, gt) with
  | false =>
    obtain ⟨q1, q2⟩ := rE_none (H1.out hk)
    rw [lE_no hk]
    have HQ := Lib.hid (And.intro q1 q2)
    clear hO hlen H1 H2 H3 hk q1 q2
    have k4 := (Kept.refl x3).alloc (.cells z2H 25)
    have hb4 : (x3.alloc (.cells z2H 25)).heap[w.heap.size]? = some (.cells z2H 25) := (k4.block _ (Array.getElem?_eq_some_iff.1 hb3).1).trans hb3
    have K4 := Lib.hid (K3.out.trans k4)
    go_wp2_with (refine wpList_store_row rfl 25 _ _ rfl w.heap.size _ rfl rfl 25 _ hb4 (by kernel_rfl) rfl (by simp [Value.oneCell']) ?_)
    exact bodyPost_ret (v := .tuple #[hV ([], []), .int .i64 2]) (results_row_tmp Tryz.results12 _ _ w.heap.size _ _ rfl rfl (run_loadVar_row _ w.heap.size 25 _ _ (0, 0) _ (setRow_heap _ _ _ _ _ _ hb4) Tryz.underlying25 rfl (by kernel_rfl))) rfl ⟨by rw [HQ.out.1, HQ.out.2], kept_setRow K4.out (Nat.le_refl _) _⟩
  | true =>
    have hW := hO
    rw [line_lnH hk, Option.getD_some] at hW
    have hn1 : n1 = (lnH (gn, gt)).length := by rw [← hlen, line_lnH hk, Option.getD_some]
    subst hn1
    have HW := Lib.hid (hW.rd)
    rw [lE_ok hk]
    have hEq := Lib.hid (equal_any _ _ (lnH (gn, gt)) l x3 HW.out R3.out)
    have H2' := Lib.hid (H2.out hk)
    have H3' := Lib.hid (H3.out hk)
    clear hO hlen H1 H2 H3 hk hW
    generalize lnH (gn, gt) = ln at *
    by_cases hz : ln = l
    · obtain ⟨q1, q2⟩ := rE_some (H2'.out hz)
      have HQ := Lib.hid (And.intro q1 q2)
      rw [show (ln == l) = true by rw [hz]; exact beq_self_eq_true l] at hEq
      clear hz H2' H3' q1 q2
      go_wp2_with fail
      refine hEq.out.mono ?_
      rintro e x4 ⟨rfl, rfl⟩
      go_wp2_with (refine wpList_store_row rfl 25 _ _ rfl w.heap.size _ rfl rfl 25 _ hb3 (by kernel_rfl) rfl (by simp [Value.oneCell']) ?_)
      exact bodyPost_ret (v := .tuple #[hV (gn, gt), .int .i64 0]) (results_row_tmp Tryz.results12 _ _ w.heap.size _ _ rfl rfl (run_loadVar_row _ w.heap.size 25 _ _ (0, 0) _ (setRow_heap _ _ _ _ _ _ hb3) Tryz.underlying25 rfl (by kernel_rfl))) rfl ⟨by rw [HQ.out.1, HQ.out.2], kept_setRow K3.out (Nat.le_refl _) _⟩
    · obtain ⟨q1, q2⟩ := rE_none (H3'.out hz)
      have HQ := Lib.hid (And.intro q1 q2)
      rw [show (ln == l) = false from beq_eq_false_iff_ne.2 hz] at hEq
      clear hz H2' H3' q1 q2
      go_wp2_with fail
      refine hEq.out.mono ?_
      rintro e x4 ⟨rfl, rfl⟩
      have k4 := (Kept.refl x4).alloc (.cells z2H 25)
      have hb4 : (x4.alloc (.cells z2H 25)).heap[w.heap.size]? = some (.cells z2H 25) := (k4.block _ (Array.getElem?_eq_some_iff.1 hb3).1).trans hb3
      have K4 := Lib.hid (K3.out.trans k4)
      go_wp2_with (refine wpList_store_row rfl 25 _ _ rfl w.heap.size _ rfl rfl 25 _ hb4 (by kernel_rfl) rfl (by simp [Value.oneCell']) ?_)
      exact bodyPost_ret (v := .tuple #[hV ([], []), .int .i64 2]) (results_row_tmp Tryz.results12 _ _ w.heap.size _ _ rfl rfl (run_loadVar_row _ w.heap.size 25 _ _ (0, 0) _ (setRow_heap _ _ _ _ _ _ hb4) Tryz.underlying25 rfl (by kernel_rfl))) rfl ⟨by rw [HQ.out.1, HQ.out.2], kept_setRow K4.out (Nat.le_refl _) _⟩
set_option maxRecDepth 100000 in
theorem read_any (v : Value) (l : B) (w : World) (hR : BRd v l w) (hE : Env w) (hl : l.length ≤ 1000000) :
    Calls Tryz.prog 5 #[v] w fun e w' => e = .returned (.tuple #[hV (rH l), .int .i64 (rE l)]) ∧ Kept w w' := by
  obtain ⟨va, vc, hvv⟩ := hR.slice
  have hb : (w.alloc (.cells z2H 25)).heap[w.heap.size]? = some (.cells z2H 25) := World.alloc_heap_new w _
  have kb := (Kept.refl w).alloc (.cells z2H 25)
  have HC := Lib.hid (readH_any v l _ (hR.kept kb) (hE.kept kb) hl)
  have HB := Lib.hid hb
  have KB := Lib.hid kb
  subst hvv
  clear hR hE hb kb
  generalize rH l = h at *
  generalize rE l = re at *
  obtain ⟨n, d⟩ := h
  go_enter Tryz.func5, Tryz.ntmps5
  go_upto_region 1 with (fail)
  generalize w.alloc (.cells z2H 25) = x at *
  go_wp2_with fail
  refine HC.out.mono ?_
  rintro e x1 ⟨rfl, k1⟩
  have hb1 : x1.heap[w.heap.size]? = some (.cells z2H 25) := (k1.block _ (Array.getElem?_eq_some_iff.1 HB.out).1).trans HB.out
  have K1 := Lib.hid (KB.out.trans k1)
  clear k1 HC
  go_wp2_with (refine wpList_store_row rfl 25 _ _ rfl w.heap.size _ rfl rfl 25 _ hb1 (by kernel_rfl) rfl (by simp [Value.oneCell']) ?_)
  exact bodyPost_ret (v := .tuple #[hV (n, d), .int .i64 re]) (results_row_tmp Tryz.results5 _ _ w.heap.size _ _ rfl rfl (run_loadVar_row _ w.heap.size 25 _ _ (0, 0) _ (setRow_heap _ _ _ _ _ _ hb1) Tryz.underlying25 rfl (by kernel_rfl))) rfl ⟨rfl, kept_setRow K1.out (Nat.le_refl _) _⟩
end Go.Proofs.YtdhhlcgmkkpldaaGreatDoor.Hd
