import Derived.Test.YtjlpkgipdkjfhaaGreatDoorHdGa
set_option linter.unusedSimpArgs false
set_option linter.unusedVariables false
namespace Go.Proofs.YtjlpkgipdkjfhaaGreatDoor.Bk.Hd
open Go.ChangeShapes Go.WideShapes Go.ChangeAt Go.RowKit Go.Shelf
noncomputable def grA (s : B) : Option (List Hdr) := if all (gueA s) = some s then some (gueA s) else none
noncomputable def gE (s : B) : Int := if (grA s).isSome = true then 0 else 2
theorem gE_some {s : B} {l : List Hdr} (h : grA s = some l) : gE s = 0 ∧ (grA s).getD [] = l := by unfold gE; rw [h]; exact ⟨rfl, rfl⟩
theorem gE_none {s : B} (h : grA s = none) : gE s = 2 ∧ (grA s).getD [] = [] := by unfold gE; rw [h]; exact ⟨rfl, rfl⟩
theorem grA_no {s : B} (h : okA (gueA s) = false) : grA s = none := by
  unfold grA all
  rw [h]; simp
theorem grA_yes {s : B} (h : okA (gueA s) = true) (he : lnA (gueA s) = s) : grA s = some (gueA s) := by
  unfold grA
  rw [all_lnA h, he, if_pos rfl]
theorem grA_no2 {s : B} (h : okA (gueA s) = true) (he : lnA (gueA s) ≠ s) : grA s = none := by
  unfold grA
  rw [all_lnA h, if_neg (fun e => he (Option.some.inj e))]
theorem aE_no {l : List Hdr} (h : okA l = false) : (aE l != 0) = true := by
  unfold aE
  unfold okA at h
  split
  · rfl
  · rename_i q
    rw [decide_eq_true (show l.length ≤ 50 by omega), Bool.and_true] at h
    rw [h]; rfl
theorem gueA_bd {s : B} (hl : s.length ≤ 1000000) : ∀ h ∈ gueA s, h.1.length ≤ 100000000 ∧ h.2.length ≤ 100000000 := by
  intro h hh
  unfold gueA at hh
  obtain ⟨t, ht, rfl⟩ := List.mem_map.1 hh
  have h1 := spl_mem _ _ t (List.mem_filter.1 ht).1
  have h2 := unf_len _ s (Nat.le_refl _)
  have h3 := hdr_le1 t
  have h4 := hdr_le2 t
  omega
set_option maxRecDepth 100000 in
set_option maxHeartbeats 4000000 in
theorem readA_any (v : Value) (l : B) (w : World) (hR : BRd v l w) (hE : Env w) (hl : l.length ≤ 1000000) :
    Calls Tryz.prog 45 #[v, fV 46, fV 27] w fun e w' => ∃ xv, e = .returned (.tuple #[xv, .int .i64 (gE l)]) ∧ OwnH w.heap.size xv ((grA l).getD []) w' ∧ Kept w w' := by
  have hcv := hR.conv
  have HR := Lib.hid hR
  have HE := Lib.hid hE
  obtain ⟨va, vc, hvv⟩ := hR.slice
  subst hvv
  have HG := Lib.hid (guessAll_any l w hE hl)
  have HBD := Lib.hid (gueA_bd hl)
  have H1 := Lib.hid (fun h => @grA_no l h)
  have H2 := Lib.hid (fun h he => @grA_yes l h he)
  have H3 := Lib.hid (fun h he => @grA_no2 l h he)
  clear hR hE
  generalize gueA l = g at *
  have eg : ∀ args w, (callFunc 46 args).run Tryz.prog w = .ok (.enter 46 args) w := enters_of Tryz.func46 (by kernel_rfl) rfl
  have el : ∀ args w, (callFunc 27 args).run Tryz.prog w = .ok (.enter 27 args) w := enters_of Tryz.func27 (by kernel_rfl) rfl
  go_enter Tryz.func45, Tryz.ntmps45
  go_wp2_with fail
  refine HG.out.mono ?_
  rintro e x1 ⟨gv, rfl, hg, k1⟩
  have G1 := Lib.hid hg
  have HL := Lib.hid (all_any gv g x1 hg.rd (HE.out.kept k1) HBD.out)
  obtain ⟨ga, gc, hgv⟩ := own_slice hg
  subst hgv
  have K1 := Lib.hid k1
  clear hcv eg hg k1 HG
  go_wp2_with fail
  refine HL.out.mono ?_
  rintro e x2 ⟨xv, rfl, hO, k2⟩
  have K2 := Lib.hid (K1.out.trans k2)
  have G2 := Lib.hid (OwnH.kept G1.out k2)
  have R2 := Lib.hid (HR.out.kept K2.out)
  clear k2 HL el K1 G1 HR
  cases hk : okA g with
  | false =>
    have HQ := Lib.hid (gE_none (H1.out hk))
    have ha := aE_no hk
    obtain ⟨xa, xc, hxv⟩ := hO.slice
    subst hxv
    generalize aE g = ea at *
    clear hO H1 H2 H3 hk
    go_wp2
    go_ret2
    exact ⟨_, by rw [HQ.out.1]; rfl, by rw [HQ.out.2]; exact OwnH.nil _ _, K2.out⟩
  | true =>
    rw [aE_ok hk]
    rw [all_lnA hk, Option.getD_some] at hO
    have HW := Lib.hid hO.rd
    have hEq := Lib.hid (equal_any _ _ (lnA g) l x2 HW.out R2.out)
    have H2' := Lib.hid (H2.out hk)
    have H3' := Lib.hid (H3.out hk)
    obtain ⟨xa, xc, hxv⟩ := hO.slice
    clear hO H1 H2 H3 hk
    generalize lnA g = ln at *
    subst hxv
    by_cases hz : ln = l
    · have HQ := Lib.hid (gE_some (H2'.out hz))
      rw [show (ln == l) = true by rw [hz]; exact beq_self_eq_true l] at hEq
      clear hz H2' H3'
      go_wp2_with fail
      refine hEq.out.mono ?_
      rintro e x4 ⟨rfl, rfl⟩
      go_wp2
      go_ret2
      exact ⟨_, by rw [HQ.out.1]; rfl, by rw [HQ.out.2]; exact G2.out, K2.out⟩
    · have HQ := Lib.hid (gE_none (H3'.out hz))
      rw [show (ln == l) = false from beq_eq_false_iff_ne.2 hz] at hEq
      clear hz H2' H3'
      go_wp2_with fail
      refine hEq.out.mono ?_
      rintro e x4 ⟨rfl, rfl⟩
      go_wp2
      go_ret2
      exact ⟨_, by rw [HQ.out.1]; rfl, by rw [HQ.out.2]; exact OwnH.nil _ _, K2.out⟩
noncomputable def cE (b : B) : Int := if (cutA b).isSome = true then 0 else 2
noncomputable def cL (b : B) : List Hdr := ((cutA b).map (·.1)).getD []
noncomputable def cR (b : B) : B := ((cutA b).map (·.2)).getD []
theorem cut_some {b : B} {l : List Hdr} {r : B} (h : cutA b = some (l, r)) : cE b = 0 ∧ cL b = l ∧ cR b = r := by unfold cE cL cR; rw [h]; exact ⟨rfl, rfl, rfl⟩
theorem cut_none {b : B} (h : cutA b = none) : cE b = 2 ∧ cL b = [] ∧ cR b = [] := by unfold cE cL cR; rw [h]; exact ⟨rfl, rfl, rfl⟩
theorem cutA_gr (b : B) : cutA b = (grA (b.take (siz b))).map fun l => (l, b.drop (siz b)) := by
  unfold cutA grA
  split <;> rfl
set_option maxRecDepth 100000 in
theorem clone2_any (g o c : Nat) (l : B) (w : World) (hc : ∀ i x, l[i]? = some x → w.cell? ⟨g, o + i, none⟩ = some (.int .u8 x.toNat)) (hl : l.length ≤ 100000000) :
    Calls Tryz.prog 47 #[.slice (some ⟨g, o, none⟩) l.length c] w fun e w' => ∃ xv, e = .returned xv ∧ OwnB w.heap.size xv l w' ∧ Kept w w' := by
  refine (Tryz.bytes_Clone_at ⟨g, o, none⟩ l.length c (l.map fun b => (b.toNat : Int)) w (by simp) (by omega) (fun i hi => ?_)).mono ?_
  · rw [Addr.add_lit, getD_nat l i hi]; exact hc i _ (List.getElem?_eq_getElem hi)
  · rintro e w' ⟨xv, rfl, hO, _, hb⟩
    refine ⟨xv, rfl, ?_, Kept.of_below hb⟩
    unfold OwnB byteCells
    rw [List.map_map] at hO
    exact hO
theorem siz_nil : siz [] = 0 := rfl
theorem cutA_nil : cutA [] = none := by
  cases h : cutA [] with
  | none => rfl
  | some x =>
    obtain ⟨l, r⟩ := x
    obtain ⟨_, e⟩ := cutA_iff.1 h
    simp [lnA] at e
set_option maxRecDepth 100000 in
set_option maxHeartbeats 4000000 in
theorem cut_any (v : Value) (l : B) (w : World) (hR : BRd v l w) (hE : Env w) (hl : l.length ≤ 1000000) :
    Calls Tryz.prog 21 #[v] w fun e w' => ∃ lv rv, e = .returned (.tuple #[lv, rv, .int .i64 (cE l)]) ∧ OwnH w.heap.size lv (cL l) w' ∧ OwnB w.heap.size rv (cR l) w' ∧ Kept w w' := by
  have HS := Lib.hid (size_any v l w hR hE (by omega))
  have HE := Lib.hid hE
  have HR := Lib.hid hR
  by_cases hne : l = []
  · subst hne
    have HQ := Lib.hid (cut_none cutA_nil)
    rw [siz_nil] at HS
    obtain ⟨va, vc, hvv⟩ := hR.slice
    have hvn : va = none → vc = 0 := by
      obtain ⟨a, c, h1, h2, _⟩ := hR
      rw [hvv] at h1
      injection h1 with e1 _ e3
      subst e1 e3
      exact h2
    have hg0 : grA [] = none := by
      have := cutA_gr []
      rw [cutA_nil, siz_nil] at this
      cases h : grA [] with
      | none => rfl
      | some x => simp [h] at this
    have HA := Lib.hid (fun v w hR hE => readA_any v [] w hR hE (by decide))
    have HG := Lib.hid (gE_none hg0)
    rw [HG.out.1, HG.out.2] at HA
    have hsl : ∀ W, (Instr.slice 25 (.slice va 0 vc) none (some (iV 0)) none).run Tryz.prog W = .ok (.slice va 0 vc) W := fun W => by
      cases va with
      | none => rw [hvn rfl]; kernel_rfl
      | some a => rw [run_slice_h W 25 a 0 vc (by kernel_rfl) .i64 0 (by omega) (by omega), show Tryz.prog.elem 25 = 5 by kernel_rfl]; simp [Result.andThen, sliced]; intro _; unfold Addr.add; split <;> simp_all
    rw [show ([] : B).length = 0 from rfl] at hvv
    subst hvv
    clear hR hE hvn hg0
    go_enter Tryz.func21, Tryz.ntmps21
    go_wp2_with fail
    refine HS.out.mono ?_
    rintro e x1 ⟨rfl, k1⟩
    go_wp2_with fail
    refine (HA.out _ x1 (HR.out.kept k1) (HE.out.kept k1)).mono ?_
    rintro e x2 ⟨xv, rfl, hO, k2⟩
    obtain ⟨xa, xc, hxv⟩ := own_slice hO
    subst hxv
    have K2 := Lib.hid (k1.trans k2)
    clear hO hsl
    go_wp2
    exact bodyPost_ret (v := .tuple #[.slice none 0 0, .slice none 0 0, .int .i64 2]) (by simp [results, Tryz.results21, go_sem]) rfl ⟨_, _, by rw [HQ.out.1], by rw [HQ.out.2.1]; exact OwnH.nil _ _, by rw [HQ.out.2.2]; exact OwnB.nil _ _, K2.out⟩
  · have hsl := siz_le l
    obtain ⟨va, vc, hvv⟩ := hR.slice
    obtain ⟨g, o, rfl⟩ : ∃ g o, va = some ⟨g, o, none⟩ := by
      obtain ⟨x, hx⟩ : ∃ x, l[0]? = some x := ⟨_, List.getElem?_eq_getElem (List.length_pos_iff.2 hne)⟩
      obtain ⟨g, o, c, h, _⟩ := hR.at hx
      rw [hvv] at h
      injection h with h
      exact ⟨g, o, h⟩
    subst hvv
    have hcl : l.length ≤ vc ∧ ∀ (i : Nat) (x : UInt8), l[i]? = some x → w.cell? ⟨g, o + i, none⟩ = some (.int .u8 x.toNat) := by
      obtain ⟨_, _, hw, _, hq⟩ := hR
      obtain ⟨_, _, ha, hc, hcell⟩ := hq hne
      cases hw; cases ha; exact ⟨hc, hcell⟩
    have HCell := Lib.hid hcl.2
    have hcl := hcl.1
    have HT := Lib.hid (hR.to (siz l) hsl)
    have htl : (l.take (siz l)).length = siz l := by simp; omega
    have HA := Lib.hid (fun w' (k : Kept w w') => readA_any _ (l.take (siz l)) w' (HT.out.kept k) (HE.out.kept k) (by omega))
    have HZ := Lib.hid (cutA_gr l)
    have hdl : (l.drop (siz l)).length = l.length - siz l := by simp
    have HDr := Lib.hid (show ∀ (i : Nat) (x : UInt8), (l.drop (siz l))[i]? = some x → w.cell? ⟨g, o + siz l + i, none⟩ = some (.int .u8 x.toNat) from fun i x hx => by
      rw [List.getElem?_drop] at hx
      rw [Nat.add_assoc]
      exact HCell.out _ _ hx)
    have hL := Lib.hid hne
    clear hR hE htl HCell hne HT
    generalize siz l = z at *
    generalize l.drop z = r at *
    generalize l.take z = tk at *
    have hzI : (0 : Int) ≤ z := by omega
    have hzl : (z : Int) ≤ l.length := by omega
    have hzc : (z : Int) ≤ vc := by omega
    go_enter Tryz.func21, Tryz.ntmps21
    go_wp2_with fail
    refine HS.out.mono ?_
    rintro e x1 ⟨rfl, k1⟩
    go_wp2_with fail
    refine (HA.out x1 k1).mono ?_
    rintro e x2 ⟨xv, rfl, hO, k2⟩
    have hO := own_mono hO k1.size
    have K2 := Lib.hid (k1.trans k2)
    clear k1 k2 HS HA
    cases hg : grA tk with
    | none =>
      rw [hg] at HZ
      have HQ := Lib.hid (cut_none HZ.out)
      rw [(gE_none hg).1]
      obtain ⟨xa, xc, hxv⟩ := own_slice hO
      generalize ((grA tk).getD []).length = n1 at *
      subst hxv
      clear hO hg HZ
      go_wp2
      exact bodyPost_ret (v := .tuple #[.slice none 0 0, .slice none 0 0, .int .i64 2]) (by simp [results, Tryz.results21, go_sem]) rfl ⟨_, _, by rw [HQ.out.1], by rw [HQ.out.2.1]; exact OwnH.nil _ _, by rw [HQ.out.2.2]; exact OwnB.nil _ _, K2.out⟩
    | some L =>
      rw [hg] at HZ hO
      have HQ := Lib.hid (cut_some HZ.out)
      have hO2 : OwnH w.heap.size xv L x2 := hO
      have HO := Lib.hid hO2
      rw [(gE_some hg).1]
      obtain ⟨xa, xc, hxv⟩ := own_slice hO2
      clear hO hO2 hg HZ
      subst hxv
      have hrl : r.length ≤ 100000000 := by omega
      have HDr2 := Lib.hid (fun (i : Nat) (x : UInt8) (hx : r[i]? = some x) => K2.out.yes (HDr.out i x hx))
      have hlI : ((l.length - z : Nat) : Int) = (l.length : Int) - z := by omega
      by_cases hcz : vc = z
      · have hr0 : r = [] := List.length_eq_zero_iff.1 (by omega)
        have HC := Lib.hid (clone2_any g o 0 [] x2 (fun i x hx => by simp at hx) (by decide))
        subst hr0
        subst hcz
        have hlz : l.length = vc := by omega
        rw [hlz]
        go_wp2_with fail
        refine HC.out.mono ?_
        rintro e x3 ⟨rv, rfl, hrv, k3⟩
        have R3 := Lib.hid (own_mono hrv (Nat.le_trans (Nat.le_refl _) K2.out.size))
        have O3 := Lib.hid (OwnH.kept HO.out k3)
        have K3 := Lib.hid (K2.out.trans k3)
        obtain ⟨ra, rc, hrv2⟩ := own_slice hrv
        subst hrv2
        clear hrv k3 HC
        go_wp2
        exact bodyPost_ret (v := .tuple #[.slice xa L.length xc, .slice ra 0 rc, .int .i64 0]) (by simp [results, Tryz.results21, go_sem]) rfl ⟨_, _, by rw [HQ.out.1], by rw [HQ.out.2.1]; exact O3.out, by rw [HQ.out.2.2]; exact R3.out, K3.out⟩
      · have HC := Lib.hid (clone2_any g (o + z) (vc - z) r x2 HDr2.out hrl)
        have hdl2 := hdl
        rw [hdl] at HC
        go_wp2_with fail
        refine HC.out.mono ?_
        rintro e x3 ⟨rv, rfl, hrv, k3⟩
        have R3 := Lib.hid (own_mono hrv (Nat.le_trans (Nat.le_refl _) K2.out.size))
        have O3 := Lib.hid (OwnH.kept HO.out k3)
        have K3 := Lib.hid (K2.out.trans k3)
        obtain ⟨ra, rc, hrv2⟩ := own_slice hrv
        rw [hdl] at hrv2
        subst hrv2
        clear hrv k3 HC
        go_wp2
        exact bodyPost_ret (v := .tuple #[.slice xa L.length xc, .slice ra (l.length - z) rc, .int .i64 0]) (by simp [results, Tryz.results21, go_sem]) rfl ⟨_, _, by rw [HQ.out.1], by rw [HQ.out.2.1]; exact O3.out, by rw [HQ.out.2.2]; exact R3.out, K3.out⟩
end Go.Proofs.YtjlpkgipdkjfhaaGreatDoor.Bk.Hd
