/- Package feed: the entries of a feed of the other kind. -/
import Derived.Test.YtflhmgnhjnaiiaaGreatDoorFdL
set_option linter.unusedSimpArgs false
set_option linter.unusedVariables false
namespace Go.Proofs.YtflhmgnhjnaiiaaGreatDoor.Fd
open Go.ChangeShapes Go.WideShapes Go.ChangeAt Go.RowKit Go.Shelf
open En Xm
attribute [local go_sem] Oper.semAt_some
set_option maxRecDepth 100000 in
set_option maxHeartbeats 8000000 in
theorem entriesA_any (v : Value) (l : List Tk) (w : World) (h : Sml v l w) (hE : Env w) :
    Calls Tryz.prog 24 #[.iface 87 (.agg #[]), v] w fun e w' => ∃ v', e = .returned v' ∧ EnO w.heap.size v' (((named [sEntry] (parts l)).take 200).map fun p => cut4 (entA Sm.rparse p)) w' ∧ Kept w w' := by
  obtain ⟨g, o, c, rfl⟩ := h.sl
  have HS := Lib.hid h; have HE := Lib.hid hE
  have HEQ := Lib.hid (show ((named [sEntry] (parts l)).take 200).map (fun p => cut4 (entA Sm.rparse p)) = (((prN [sEntry] l).take 200).map fun p => cut4 (entA Sm.rparse (cutP l p))) by rw [prN_named, ← List.map_take, List.map_map]; rfl)
  generalize ((named [sEntry] (parts l)).take 200).map (fun p => cut4 (entA Sm.rparse p)) = res at *
  clear h hE
  have b0 := Bv.new w (.iface 87 (.agg #[])) 60
  have k0 := (Kept.refl w).alloc (.cells #[.iface 87 (.agg #[])] 60)
  have hs0 : (w.alloc (.cells #[.iface 87 (.agg #[])] 60)).heap.size = w.heap.size + 1 := by simp
  refine (callsIn_wide (n := 9)).1 ?_
  refine callsIn_of_wp_marks Tryz.func24 rfl trivial ?_ rfl
  simp only [Tryz.ntmps24, List.size_toArray, List.length_cons, List.length_nil, Nat.reduceAdd, Nat.reduceSub, Array.replicate_succ, Array.replicate_zero, List.push_toArray, List.append_toArray, List.nil_append, List.cons_append]
  gi_upto_region 1 with (fail)
  generalize w.alloc (.cells #[.iface 87 (.agg #[])] 60) = x0 at *
  have b1 := Bv.new x0 (.slice none 0 0) 24
  have k1 := (Kept.refl x0).alloc (.cells #[.slice none 0 0] 24)
  rw [hs0] at b1
  have b0' := b0.kept k1
  have k01 := k0.trans k1
  have hs1 : (x0.alloc (.cells #[.slice none 0 0] 24)).heap.size = w.heap.size + 2 := by simp [hs0]
  gi_upto_region 2 with (fail)
  generalize x0.alloc (.cells #[.slice none 0 0] 24) = x1 at *
  have e0 := b0'.c
  have BX := Lib.hid (And.intro b0' b1); have KX := Lib.hid k01
  clear b0 b1 b0' k0 k1 k01 hs0 x0
  have hmn := mA_name
  gi_wp2_with (first
    | (refine ⟨trivial, ?_⟩; gi_at_call 144; refine (callsIn_wide.2 (nameA_any _)).mono ?_; rintro e x2 ⟨rfl, k2⟩)
    | (refine ⟨trivial, ?_⟩; gi_at_call 36; refine (callsIn_wide.2 (named_any g o l.length c x2.heap.size 0 1 [sEntry] _ (sr_new x2 [sEntry] (by simp) (0, 0)))).mono ?_; rintro e X2 ⟨f, h, rfl, C2, f1, h1⟩))
  have hn2 : x2.heap.size < (x2.alloc (.cells ([sEntry].map sV).toArray 9 (0, 0))).heap.size := by simp
  have kn : Kept x2 (x2.alloc (.cells ([sEntry].map sV).toArray 9 (0, 0))) := (Kept.refl x2).alloc _
  generalize x2.alloc (.cells ([sEntry].map sV).toArray 9 (0, 0)) = X1 at *
  have K12 := k2.trans (kn.trans C2.k)
  have B2 := Lib.hid (And.intro (BX.out.1.kept K12) (BX.out.2.kept K12))
  have K2 := Lib.hid (KX.out.trans K12)
  have hX2 := C2.k.size
  have hw2 : w.heap.size + 2 ≤ x2.heap.size := by have := k2.size; omega
  have CX := Lib.hid (show NCap w f h (.slice (some ⟨g, o, none⟩) l.length c) x2.heap.size 0 1 [sEntry] X2 from ⟨K2.out, C2.f, C2.h, C2.n⟩)
  have ltf := C2.f.lt; have lth := C2.h.lt
  have hz2 := K2.out.size
  clear C2 BX KX K12 k2 kn e0 hs1
  generalize hps : prN [sEntry] l = ps at *
  have HPS := Lib.hid hps
  clear hps
  refine range_itr (n := 9) (gf := 50) (lb := #[.pointer (some ⟨f, 0, none⟩), .pointer (some ⟨h, 0, none⟩)]) rfl (enters_of Tryz.func50 (by kernel_rfl) rfl) hz2
    (named_itr g o l.length c f h x2.heap.size 0 1 [sEntry] l w HS.out.rd HS.out.fw) (fun s arr s' hs => by obtain ⟨_, _, rfl, _⟩ := hs; rfl)
    (fun k ob => k = w.heap.size + 1 ∨ (w.heap.size ≤ k ∧ ∃ c fz, ob = .cells c 32 fz)) (fun k ob hk => by
      rcases hk with hk | ⟨hk, q⟩
      · exact ⟨by omega, Or.inl (by omega)⟩
      · exact ⟨hk, Or.inr q⟩) CX.out
    (fun A B v q => by
      refine ⟨⟨v.os.trans q.k.os, v.output.trans q.k.output, Nat.le_trans q.k.size v.size, fun k hk => ?_, v.tape.trans q.k.tape⟩, q.f.save v (fun r => ?_), q.h.save v (fun r => ?_), ?_⟩
      · obtain ⟨ob, hob⟩ := at_some (A := A) (k := k) (Nat.lt_of_lt_of_le hk q.k.size)
        rw [v.block k ob hob (fun r => by omega), ← hob, q.k.block k hk]
      · rcases r with (r | ⟨_, _, _, r⟩) | r
        · omega
        · cases r
        · omega
      · rcases r with (r | ⟨_, _, _, r⟩) | r
        · omega
        · cases r
        · omega
      · refine q.n.save v (fun _ _ r => ?_)
        rcases r with (r | ⟨_, _, _, r⟩) | r
        · omega
        · cases r
        · omega)
    (fun k V => k ≤ 200 ∧ ∃ v', Bv 24 (w.heap.size + 1) v' V ∧ EnO w.heap.size v' ((ps.take k).map fun p => cut4 (entA Sm.rparse (cutP l p))) V ∧ Bv 60 w.heap.size (.iface 87 (.agg #[])) V ∧ Kept w V)
    (fun q k V => q = .exit 0 ∧ ∃ v', Bv 24 (w.heap.size + 1) v' V ∧ EnO w.heap.size v' res V ∧ Kept w V)
    ?hI ?hIx ⟨by omega, .slice none 0 0, B2.out.2, EnO.nil _ _, B2.out.1, K2.out⟩ ?round ?done ?stop
  case hI =>
    rintro k A B ⟨h1, v', h2, h3, h4, h5⟩ kb
    exact ⟨h1, v', h2.fwd kb (by omega), h3.fwd kb, h4.fwd kb (by omega), kept_fwd h5 kb (by omega)⟩
  case hIx =>
    rintro q k A B ⟨h1, v', h2, h3, h5⟩ kb
    exact ⟨h1, v', h2.fwd kb (by omega), h3.fwd kb, kept_fwd h5 kb (by omega)⟩
  case done =>
    rintro k V hend ⟨hk2, v', hb, he, _, hk⟩ hv hK
    have HRS := Lib.hid (show EnO w.heap.size v' res V by
      rw [hend, HPS.out] at he
      rw [hend, HPS.out] at hk2
      rw [List.take_length] at he
      rw [HEQ.out, List.take_of_length_le hk2]; exact he)
    obtain ⟨a', c', rfl⟩ := HRS.out.slice
    have HKV := Lib.hid hk
    have HB := Lib.hid hb
    have e1 := hb.c
    clear hend hb he hk hv hk2
    gi_wp2
    refine ⟨by simp, .inl ⟨_, _, rfl, run_takeDeferred hK, ?_⟩⟩
    have vz : Save (fun k _ => k = X2.heap.size) V _ := Save.put (.deferred none) (fun _ _ => rfl)
    have KZ := kept_sub HKV.out (vz.below (n := w.heap.size) (by have := HKV.out.size; omega) (fun k _ _ h => by omega)) (Nat.le_refl _)
    exact ⟨_, by simp [results, Tryz.results24, go_sem], _, rfl, HRS.out.fwd (Fwd.put hK (Nat.le_refl _) (fun _ _ q => by cases q)), KZ⟩
  case stop =>
    rintro q k V ⟨rfl, v', hb, he, hk⟩ hv hK
    have HRS := Lib.hid he
    obtain ⟨a', c', rfl⟩ := HRS.out.slice
    have HKV := Lib.hid hk
    have e1 := hb.c
    clear hb he hk hv
    gi_wp2
    refine ⟨by simp, .inl ⟨_, _, rfl, run_takeDeferred hK, ?_⟩⟩
    have vz : Save (fun k _ => k = X2.heap.size) V _ := Save.put (.deferred none) (fun _ _ => rfl)
    have KZ := kept_sub HKV.out (vz.below (n := w.heap.size) (by have := HKV.out.size; omega) (fun k _ _ h => by omega)) (Nat.le_refl _)
    exact ⟨_, by simp [results, Tryz.results24, go_sem], _, rfl, HRS.out.fwd (Fwd.put hK (Nat.le_refl _) (fun _ _ q => by cases q)), KZ⟩
  case round =>
    rintro l2 k arr k' V ⟨pvv, hpv, rfl, rfl⟩ ⟨hk2, v', hb, he, hkb, hk⟩ hsz K hK
    rw [List.getElem?_map, Option.map_eq_some_iff, HPS.out] at hpv
    obtain ⟨p, hp, rfl⟩ := hpv
    have hpb := prs_bd (List.mem_filter.1 (show p ∈ prN [sEntry] l by rw [HPS.out]; exact List.mem_of_getElem? hp)).1
    have HAP := Lib.hid (show Sml (.slice (some ⟨g, o + p.1 * 4, none⟩) (p.2 - p.1) (c - p.1)) (cutP l p) w from
      ⟨rd_cut HS.out.rd p hpb, Fw.sub HS.out.fw (cutP_sub l p), Nat.le_trans (txs_sub (cutP_sub l p)) HS.out.tx, fun e => by have := cutP_len hpb; rw [e] at this; simp at this; omega⟩)
    have hkl := (List.getElem?_eq_some_iff.1 hp).1
    have HES := Lib.hid (show ((ps.take (k + 1)).map fun p => cut4 (entA Sm.rparse (cutP l p))) = ((ps.take k).map fun p => cut4 (entA Sm.rparse (cutP l p))) ++ [cut4 (entA Sm.rparse (cutP l p))] by
      rw [List.take_add_one, hp, List.map_append]; rfl)
    have hlen : ((ps.take k).map fun p => cut4 (entA Sm.rparse (cutP l p))).length = k := by rw [List.length_map, List.length_take]; omega
    have HR2 := Lib.hid (show k = 200 → ((ps.take k).map fun p => cut4 (entA Sm.rparse (cutP l p))) = res from fun q => by rw [HEQ.out, q])
    generalize ((ps.take k).map fun p => cut4 (entA Sm.rparse (cutP l p))) = es at *
    generalize hqq : entA Sm.rparse (cutP l p) = q at *
    have HQ := Lib.hid hqq
    have HB := Lib.hid hb; have HO := Lib.hid he; have HKB := Lib.hid hkb; have HKV := Lib.hid hk
    clear hp hqq hb he hkb hk
    unfold pv
    simp only [List.zip_toArray, List.zip_cons_cons, List.zip_nil_right, List.foldl_toArray, List.foldl_cons, List.foldl_nil, List.setIfInBounds_toArray, List.set_cons_zero, List.set_cons_succ]
    gi_wp2
    refine hK _ _ (Kept.refl V) (fun W2 v2 d2 => ?_)
    have B3 := Lib.hid (HB.out.fwd d2 (by omega)); have O3 := Lib.hid (HO.out.fwd d2); have BK3 := Lib.hid (HKB.out.fwd d2 (by omega)); have K3 := Lib.hid (kept_fwd HKV.out d2 (by omega))
    have hz3 := v2.size
    clear HB HO HKB HKV hK v2 d2
    obtain ⟨a', c', rfl⟩ := O3.out.slice
    subst hlen
    have HLT := Lib.hid (fun g hg => World.ownsRow.lt O3.out g hg)
    have e1 := B3.out.c
    have e0 := BK3.out.c
    by_cases h2 : es.length = 200
    · have h2b : ((es.length : Int) == 200) = true := by rw [h2]; rfl
      have Z := Lib.hid (HR2.out h2)
      have OO := Lib.hid (show EnO w.heap.size (.slice a' es.length c') res W2 by rw [← Z.out]; exact O3.out)
      clear HR2 HES HAP HQ
      gi_wp2
      exact ⟨Save.refl _ _, rfl, _, B3.out, OO.out, K3.out⟩
    · have h2b : ((es.length : Int) == 200) = false := by simp; omega
      have hme := mA_entry
      have HC := Lib.hid (fun x (hx : Kept W2 x) => entA_any _ (cutP l p) x (HAP.out.kept (K3.out.trans hx)) (HE.out.kept (K3.out.trans hx)))
      obtain ⟨q1, q2, q3, q4, q5⟩ := q
      clear HR2 HAP hmn
      gi_upto_region 6 with (refine ⟨trivial, ?_⟩; gi_at_call 143; refine (CallsIn.inRound l2 (callsIn_wide.2 (HC.out _ (Kept.refl W2)))).mono ?_; rintro e W3 ⟨rfl, k3⟩; rw [HQ.out])
      have D0 := Lib.hid (show Eb W3.heap.size (q1, q2, q3, q4, q5) (W3.alloc (.cells #[sV q1, sV q2, sV q3, sV q4, iV q5] 32)) from Eb.new W3 (q1, q2, q3, q4, q5))
      have kd := (Kept.refl W3).alloc (.cells #[sV q1, sV q2, sV q3, sV q4, iV q5] 32)
      have kd3 := k3.trans kd
      have V4 := Lib.hid (Save.of_kept (fun k ob => k = w.heap.size + 1 ∨ (w.heap.size ≤ k ∧ ∃ c fz, ob = .cells c 32 fz)) kd3)
      have B4 := Lib.hid (B3.out.kept kd3); have O4 := Lib.hid (O3.out.kept kd3); have BK4 := Lib.hid (BK3.out.kept kd3); have K4 := Lib.hid (K3.out.trans kd3)
      have hz4 : X2.heap.size + 1 < W3.heap.size := by have := k3.size; omega
      have hz5 : W2.heap.size ≤ W3.heap.size := k3.size
      generalize (W3.alloc (.cells #[sV q1, sV q2, sV q3, sV q4, iV q5] 32)) = W4 at *
      obtain ⟨d0, d1, d2, d3, d4⟩ := D0.out.cells
      have fr3 := D0.out.frz 3
      simp only at d0 d1 d2 d3 d4
      clear kd kd3 k3 B3 O3 BK3 K3 e0 e1 HC hme
      gi_upto_region 7 with (fail)
      rw [cut_4000]
      have D5 := Lib.hid (show Eb W3.heap.size (q1, q2, q3, q4.take 4000, q5) (W4.setCell ⟨W3.heap.size, 3, none⟩ (.string ⟨(q4.take 4000).toArray⟩)) by
        have := D0.out
        unfold Eb at this ⊢
        simp [World.setCell, Array.getElem?_modify, this, e5])
      have B5 := Lib.hid (B4.out.other (a := ⟨W3.heap.size, 3, none⟩) (by simp only; omega) (.string ⟨(q4.take 4000).toArray⟩))
      have BK5 := Lib.hid (BK4.out.other (a := ⟨W3.heap.size, 3, none⟩) (by simp only; omega) (.string ⟨(q4.take 4000).toArray⟩))
      have O5 := Lib.hid (O4.out.set (a := ⟨W3.heap.size, 3, none⟩) (x := .string ⟨(q4.take 4000).toArray⟩) (fun g hg => by have := HLT.out g hg; simp only; omega))
      have K5 := Lib.hid (K4.out.setCell (a := ⟨W3.heap.size, 3, none⟩) (by simp only; omega) (.string ⟨(q4.take 4000).toArray⟩))
      have V5 := Lib.hid (V4.out.trans (Save.set (p := ⟨W3.heap.size, 3, none⟩) (.string ⟨(q4.take 4000).toArray⟩) (fun ob hob => Or.inr ⟨by simp only; omega, by have := D0.out; unfold Eb at this; rw [this] at hob; cases hob; exact ⟨_, _, rfl⟩⟩)))
      generalize W4.setCell ⟨W3.heap.size, 3, none⟩ (.string ⟨(q4.take 4000).toArray⟩) = W5 at *
      clear d0 d1 d2 d3 d4 fr3 D0 B4 BK4 O4 K4 V4
      have HC4 := Lib.hid (show cut4 (q1, q2, q3, q4, q5) = (q1, q2, q3, q4.take 4000, q5) from rfl)
      generalize q4.take 4000 = q6 at *
      obtain ⟨d0, d1, d2, d3, d4⟩ := D5.out.cells
      have e1 := B5.out.c
      have fr1 := B5.out.frz 0
      simp only at d0 d1 d2 d3 d4
      obtain ⟨i0, hi, hy0, hy1, hy2⟩ := info_parts infoE
      have k6 := (Kept.refl W5).alloc (.cells #[sV q1, sV q2, sV q3, sV q6, iV q5] 32)
      have O6 := Lib.hid (O5.out.kept k6)
      have K6 := Lib.hid (K5.out.trans k6); have B6 := Lib.hid (B5.out.kept k6); have BK6 := Lib.hid (BK5.out.kept k6)
      have V6 := Lib.hid (V5.out.trans (Save.of_kept (fun k ob => k = w.heap.size + 1 ∨ (w.heap.size ≤ k ∧ ∃ c fz, ob = .cells c 32 fz)) k6))
      clear O5 K5 B5 BK5 V5 k6
      gi_wp2_with (gi_at_builtin; refine wpListIn_append_own _ rfl _ _ 24 rfl w.heap.size 32 i0 _ 5 72 Tryz.underlying24 hi hy0 hy1 hy2 rfl (by decide) _ _ _ rfl O6.out ⟨W5.heap.size, 0, none⟩ 1 1 [sV q1, sV q2, sV q3, sV q6, iV q5] rfl rfl ?n1 ?n2 ?n3 ?n4 ?n5 ?_)
      case n1 =>
        intro j u hj
        have hcc := fun (j : Nat) (u : Value) (q : #[sV q1, sV q2, sV q3, sV q6, iV q5][j]? = some u) => (Kept.refl (W5.alloc (.cells #[sV q1, sV q2, sV q3, sV q6, iV q5] 32))).new j q
        rw [Addr.add_lit, Nat.zero_add]
        exact hcc j u (by simpa using hj)
      case n2 => intro u hu; simp at hu; rcases hu with rfl | rfl | rfl | rfl | rfl <;> rfl
      case n3 => unfold maxLen; omega
      case n4 => omega
      case n5 => exact K6.out.size
      intro v7 w7 hown hgrow _
      have B7 := B6.out.grown O6.out hgrow (by decide)
      have BK7 := Lib.hid (BK6.out.grown O6.out hgrow (by decide))
      have K7 := Lib.hid (kept_row K6.out hgrow (fun g hg => (World.ownsRow.lt O6.out g hg).1))
      have V7 := Lib.hid (V6.out.trans (save_grown (M := fun k ob => k = w.heap.size + 1 ∨ (w.heap.size ≤ k ∧ ∃ c fz, ob = .cells c 32 fz)) O6.out hgrow (fun g c hg => Or.inr ⟨hg, c, _, rfl⟩)))
      have O7 := Lib.hid (show EnO w.heap.size v7 (es ++ [cut4 (q1, q2, q3, q4, q5)]) w7 by rw [HC4.out]; exact EnO.snoc hown)
      obtain ⟨a7, c7, rfl⟩ := O7.out.slice
      have e7 := B7.c
      have f7 := B7.frz 0
      have N7 := Lib.hid (B7.put (.slice a7 (es ++ [cut4 (q1, q2, q3, q4, q5)]).length c7))
      have BK8 := Lib.hid (BK7.out.other (a := ⟨w.heap.size + 1, 0, none⟩) (by simp) (.slice a7 (es ++ [cut4 (q1, q2, q3, q4, q5)]).length c7))
      have K8 := Lib.hid (K7.out.setCell (a := ⟨w.heap.size + 1, 0, none⟩) (by simp) (.slice a7 (es ++ [cut4 (q1, q2, q3, q4, q5)]).length c7))
      have O8 := Lib.hid (O7.out.set (a := ⟨w.heap.size + 1, 0, none⟩) (x := .slice a7 (es ++ [cut4 (q1, q2, q3, q4, q5)]).length c7) (fun g hg e => O7.out.ne B7 (by decide) (by rw [hg, e])))
      have V8 := Lib.hid (V7.out.trans (Save.set (p := ⟨w.heap.size + 1, 0, none⟩) (.slice a7 (es ++ [cut4 (q1, q2, q3, q4, q5)]).length c7) (fun ob hob => Or.inl rfl)))
      have hk8 : es.length + 1 ≤ 200 := by omega
      clear B7 hown hgrow d0 d1 d2 d3 d4 e1 fr1 D5 O6 K6 B6 BK6 V6
      generalize (es ++ [cut4 (q1, q2, q3, q4, q5)]).length = n8 at *
      gi_wp2
      refine ⟨V8.out, hk8, _, N7.out, ?_, BK8.out, K8.out⟩
      rw [HES.out]
      exact O8.out
end Go.Proofs.YtflhmgnhjnaiiaaGreatDoor.Fd
