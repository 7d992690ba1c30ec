/- Package plain: a line, filled. -/
import Derived.Test.YtpkbcomdkamglaaDoorPlFl
import Derived.Sort.CutIn
set_option linter.unusedSimpArgs false
set_option linter.unusedVariables false
namespace Go.Proofs.YtpkbcomdkamglaaDoor.Pl
open Go.ChangeShapes Go.WideShapes Go.ChangeAt Go.RowKit Go.Shelf
open En
attribute [local go_sem] Oper.semAt_some
set_option maxRecDepth 100000 in
set_option maxHeartbeats 4000000 in
theorem filled_any (l : B) (most : Int) (w : World) (hE : Env w) (hl : l.length ≤ 100000) :
    Calls Tryd.prog 16 #[.string ⟨l.toArray⟩, .int .i64 most] w fun e w' => ∃ v, e = .returned v ∧ OwnS w.heap.size v (fil most (wds l) []) w' ∧ Kept w w' := by
  have HT := Lib.hid (fun w hE => trim_any l w hE (by omega))
  have HR := Lib.hid (show fil most (wds l) [] = (fil most (splt 32 (tr l)) []) from (fil_wds most l).symm)
  have HE := Lib.hid hE
  have htl := tr_le l
  generalize fil most (wds l) [] = res at *
  generalize tr l = x at *
  clear hE
  have b0 := Bv.new w (iV most) 3
  have k0 := (Kept.refl w).alloc (.cells #[iV most] 3)
  have s0 : (w.alloc (.cells #[iV most] 3)).heap.size = w.heap.size + 1 := by simp
  refine (callsIn_wide (n := 9)).1 ?_
  refine callsIn_of_wp_marks Tryd.func16 rfl trivial ?_ rfl
  simp only [Tryd.ntmps16, List.size_toArray, List.length_cons, List.length_nil, Nat.reduceAdd, Nat.reduceSub, Array.replicate_succ, Array.replicate_zero, List.push_toArray, List.append_toArray, List.nil_append, List.cons_append]
  gi_upto_region 1 with (fail)
  generalize w.alloc (.cells #[iV most] 3) = x0 at *
  have b1 := Bv.new x0 (.slice none 0 0) 25
  have k1 := (Kept.refl x0).alloc (.cells #[.slice none 0 0] 25)
  have s1 : (x0.alloc (.cells #[.slice none 0 0] 25)).heap.size = x0.heap.size + 1 := by simp
  have b01 := b0.kept k1
  rw [s0] at b1 s1
  gi_upto_region 2 with (fail)
  generalize x0.alloc (.cells #[.slice none 0 0] 25) = x1 at *
  have b2 := Bv.new x1 (.slice none 0 0) 30
  have k2 := (Kept.refl x1).alloc (.cells #[.slice none 0 0] 30)
  have s2 : (x1.alloc (.cells #[.slice none 0 0] 30)).heap.size = x1.heap.size + 1 := by simp
  have b02 := b01.kept k2
  have b12 := b1.kept k2
  rw [s1] at b2 s2
  have K2 := (k0.trans k1).trans k2
  gi_upto_region 3 with (fail)
  generalize x1.alloc (.cells #[.slice none 0 0] 30) = x2 at *
  clear b0 b1 b01 k0 k1 k2 s0 s1
  gi_wp2_with fail
  refine ⟨trivial, ?_⟩
  refine (callsIn_wide.2 (HT.out _ (HE.out.kept K2))).mono ?_
  rintro e x3 ⟨rfl, k3⟩
  gi_wp2_with fail
  refine ⟨trivial, ?_⟩
  refine (callsIn_wide.2 (splitSeq_any 32 x _)).mono ?_
  rintro e W1 ⟨a, b, d, rfl, hC, k4, ⟨ha, hb, hd⟩, ⟨ha1, hb1, hd1⟩, hba, hbd⟩
  gi_wp2
  have hz3 := k3.size
  have hz4 := k4.size
  have cx : Cx w (SqT a b d) w.heap.size (w.heap.size + 1) (w.heap.size + 1 + 1) W1.heap.size :=
    ⟨Nat.le_refl _, by omega, by omega, by omega, fun k hk => by rcases hk with rfl | rfl | rfl <;> omega⟩
  have F0 : FlI w.heap.size (w.heap.size + 1) (w.heap.size + 1 + 1) W1.heap.size most (.slice none 0 0) (.slice none 0 0) [] [] w W1 :=
    ⟨(b02.kept k3).kept k4, (b12.kept k3).kept k4, (b2.kept k3).kept k4, World.ownsRow_nil _ _ _ _, OwnB.nil _ _, (K2.trans k3).trans k4, Nat.le_refl _⟩
  clear b02 b12 b2 K2 k3 k4
  have hwl : ∀ t ∈ splt 32 x, t.length ≤ 100000 := fun t ht => by have := (splt_mem x t ht).2; omega
  have hwn := splt_len 32 x
  have HIt := split_itr 32 x (by omega) a b d hba hbd
  generalize splt 32 x = ws at *
  refine range_itr (n := 9) (gf := 42) (lb := #[.pointer (some ⟨a, 0, none⟩), .pointer (some ⟨b, 0, none⟩), .pointer (some ⟨d, 0, none⟩)]) rfl (enters_of Tryd.func42 (by kernel_rfl) rfl) (T := SqT a b d) (fun k hk => (cx.t k hk).2)
    HIt (fun s arr s' hs => by obtain ⟨_, _, rfl, _⟩ := hs; rfl)
    (Mf (SqT a b d) (w.heap.size + 1) (w.heap.size + 1 + 1) W1.heap.size) (fun k o hk => ⟨hk.2.1, hk.1⟩) hC (fun A B k h => h.kept k)
    (fun k V => ∃ v u, FlI w.heap.size (w.heap.size + 1) (w.heap.size + 1 + 1) W1.heap.size most v u ((ws.take k).foldl (stp most) ([], [])).1 ((ws.take k).foldl (stp most) ([], [])).2 w V)
    (fun _ _ _ => False)
    ?hI ?hIx ⟨_, _, F0⟩ ?round ?done ?stop
  case hI =>
    rintro k A B ⟨v, u, h⟩ kb
    exact ⟨v, u, h.turn cx kb⟩
  case hIx =>
    rintro q k A B h kb
    exact h
  case stop =>
    rintro c s W h _ _
    exact h.elim
  case done =>
    rintro k V hend ⟨v, u, h⟩ hv hK
    subst hend
    rw [List.take_length] at h
    have hf := fil_fold most ws [] []
    rw [List.nil_append] at hf
    have hb := stp_bd most 100000 ws ([], []) hwl
    generalize ws.foldl (stp most) ([], []) = s at *
    obtain ⟨ls, md⟩ := s
    simp only at hf h hb
    have HF := Lib.hid (show res = ls ++ [md] by rw [HR.out]; exact hf)
    have H := Lib.hid h
    have hb4 : ls.length ≤ 200001 := by have := hb.1; simp at this; omega
    have hcv := h.mo.rd.conv
    have hal := (Kept.refl V).alloc (.cells #[sV md] 9)
    have H3 := Lib.hid (h.kept hal)
    have hc3 := (Kept.refl (V.alloc (.cells #[sV md] 9))).new 0 (v := sV md) rfl
    have hsz3 := H3.out.sz
    have hKa := Lib.hid ((hal.block _ (Array.getElem?_eq_some_iff.1 hK).1).trans hK)
    have e1 := h.lb.c
    have e2 := h.mb.c
    obtain ⟨va, vc, hvv⟩ := own_slice h.lo
    obtain ⟨ua, uc, huv⟩ := own_slice h.mo
    subst hvv huv
    clear hf hb h H hv hal hK
    gi_wp2_with (gi_at_builtin; refine wpListIn_pushS rfl _ _ rfl W1.heap.size _ ls md V.heap.size rfl H3.out.lo rfl hc3 (by omega) hsz3 ?_)
    intro v4 y hy hgy
    have hKy := def_row H3.out.lo hgy hKa.out
    have Ky := kept_row H3.out.k hgy (fun g hg' => by have := (World.ownsRow.lt H3.out.lo g hg').1; have := cx.a1; have := cx.a2; have := cx.a3; omega)
    obtain ⟨va4, vc4, hv4⟩ := own_slice hy
    rw [List.length_append, List.length_singleton] at hv4
    subst hv4
    have HO := Lib.hid (own_mono (own_deferred hy hKy (.deferred none)) (show w.heap.size ≤ W1.heap.size by have := cx.a1; have := cx.a2; have := cx.a3; omega))
    have HK := Lib.hid (kept_put Ky (show w.heap.size ≤ W1.heap.size by have := cx.a1; have := cx.a2; have := cx.a3; omega) (.deferred none))
    clear hy hgy Ky e1 e2 hcv hc3 hsz3 H3
    gi_wp2
    refine ⟨by simp, .inl ⟨_, _, rfl, run_takeDeferred hKy, ?_⟩⟩
    exact ⟨.slice va4 (ls.length + 1) vc4, by simp [results, Tryd.results16, go_sem], _, rfl, by rw [HF.out]; exact HO.out, HK.out⟩
  case round =>
    rintro lo k arr k' V ⟨t, ht, rfl, rfl⟩ ⟨v, u, h⟩ hsz K hK
    have hb := stp_bd most 100000 (ws.take k) ([], []) (fun z hz => hwl z (List.mem_of_mem_take hz))
    have HS := Lib.hid (stp_take (most := most) ht)
    have htl2 := hwl t (List.mem_of_getElem? ht)
    rw [List.length_take] at hb
    generalize (ws.take k).foldl (stp most) ([], []) = s at *
    obtain ⟨ls, md⟩ := s
    simp only at hb h
    have H := Lib.hid h
    clear h
    simp only [List.zip_toArray, List.zip_cons_cons, List.zip_nil_right, List.foldl_toArray, List.foldl_cons, List.foldl_nil, List.setIfInBounds_toArray, List.set_cons_zero, List.set_cons_succ]
    gi_wp2
    refine hK _ _ (Kept.refl V) (fun W2 v2 d2 => ?_)
    have H2 := Lib.hid (H.out.turn cx d2)
    clear H v2 d2 hK
    have hsz2 : W1.heap.size ≤ W2.heap.size := H2.out.sz
    obtain ⟨va, vc, hvv⟩ := own_slice H2.out.lo
    subst hvv
    have e0 := H2.out.m.c
    have a1 := cx.a1
    have a2 := cx.a2
    have a3 := cx.a3
    have hb1 := hb.1
    have hb2 := hb.2
    clear hb
    have hmn : min k ws.length ≤ 100001 := by omega
    have hb3 : md.length ≤ 10000200001 := by
      have q1 : min k ws.length * (100000 + 1) ≤ 100001 * (100000 + 1) := Nat.mul_le_mul_right _ hmn
      have q2 : md.length ≤ min k ws.length * (100000 + 1) := by rw [List.length_nil, Nat.zero_add] at hb2; exact hb2
      exact Nat.le_trans (Nat.le_trans q2 q1) (by decide)
    have hb4 : ls.length ≤ 100001 := by simp at hb1; omega
    clear hb1 hb2
    by_cases hm0 : md = []
    · subst hm0
      obtain ⟨ua, uc, huv⟩ := own_slice H2.out.mo
      subst huv
      have HQ := Lib.hid (show stp most (ls, []) t = (ls, [] ++ t) by unfold stp; rw [if_neg (fun h => h.1 rfl)]; rfl)
      have e2 := H2.out.mb.c
      have hsz10 := H2.out.sz
      gi_wp2_with (gi_at_builtin; refine wpListIn_strB rfl _ _ rfl W1.heap.size _ [] t rfl H2.out.mo rfl (by simp; omega) hsz10 ?_)
      intro u9 y9 hy9 hg9
      obtain ⟨F9, S9⟩ := H2.out.setM cx (Nat.lt_succ_self _) hy9 hg9
      have F9 := Lib.hid F9
      have S9 := Lib.hid (S9)
      have g9 := bv_grown H2.out.mb hg9 (ub_of H2.out.mo _ (by omega))
      have e9 := g9.c
      have f9 := bv_frz g9
      obtain ⟨ua9, uc9, hu9⟩ := own_slice hy9
      subst hu9
      clear hy9 hg9 g9 e2
      gi_wp2
      exact ⟨S9.out, _, _, by rw [HS.out, HQ.out]; exact F9.out⟩
    · have hpos := List.length_pos_iff.2 hm0
      obtain ⟨g, cap, hgv, hcap, hcm⟩ := own_some H2.out.mo (by omega)
      subst hgv
      by_cases hlong : most < (md.length : Int) + 1 + t.length
      · have HQ := Lib.hid (show stp most (ls, md) t = (ls ++ [md], [] ++ t) by unfold stp; rw [if_pos ⟨hm0, hlong⟩]; rfl)
        have hcv := H2.out.mo.rd.conv
        have hal := (Kept.refl W2).alloc (.cells #[sV md] 9)
        have H3 := Lib.hid (H2.out.kept hal)
        have S3 := Lib.hid (Save.of_kept (Mf (SqT a b d) (w.heap.size + 1) (w.heap.size + 1 + 1) W1.heap.size) hal)
        have hc3 := (Kept.refl (W2.alloc (.cells #[sV md] 9))).new 0 (v := sV md) rfl
        have hsz3 := H3.out.sz
        have e1 := H2.out.lb.c
        have e2 := H2.out.mb.c
        clear hal hm0
        gi_upto_region 6 with (fail)
        gi_wp2_with (gi_at_builtin; refine wpListIn_pushS rfl _ _ rfl W1.heap.size _ ls md W2.heap.size rfl H3.out.lo rfl hc3 (by omega) hsz3 ?_)
        intro v4 y hy hgy
        obtain ⟨F4, S4⟩ := H3.out.pushL cx (Nat.lt_succ_self _) hy hgy
        have H4 := Lib.hid F4
        have S4' := Lib.hid (S3.out.trans S4)
        have g4 := bv_grown H3.out.lb hgy (ub_of H3.out.lo _ (by omega))
        have e4 := g4.c
        have f4 := bv_frz g4
        obtain ⟨va4, vc4, hv4⟩ := own_slice hy
        rw [show (ls ++ [md]).length = ls.length + 1 by simp] at hv4
        subst hv4
        clear hy hgy g4 e1 e2 S3 S4 F4 H2 hc3 hsz3 hcv
        gi_upto_region 7 with (fail)
        generalize y.setCell ⟨w.heap.size + 1, 0, none⟩ (.slice va4 (ls.length + 1) vc4) = z at *
        have e5 := H4.out.mb.c
        have f5 := bv_frz H4.out.mb
        obtain ⟨F5, S5⟩ := H4.out.setM cx (Nat.lt_succ_self _) (own_empty H4.out.mo) (grown_refl _ _)
        have H5 := Lib.hid F5
        have S5 := Lib.hid (S4'.out.trans S5)
        clear F5 S4' H4 e4 f4
        gi_upto_region 8 with (fail)
        generalize z.setCell ⟨w.heap.size + 1 + 1, 0, none⟩ (.slice (some ⟨g, 0, none⟩) 0 cap) = z2 at *
        clear e5 f5
        have e2 := H5.out.mb.c
        have hsz10 := H5.out.sz
        gi_wp2_with (gi_at_builtin; refine wpListIn_strB rfl _ _ rfl W1.heap.size _ [] t rfl H5.out.mo rfl (by simp; omega) hsz10 ?_)
        intro u9 y9 hy9 hg9
        obtain ⟨F9, S9⟩ := H5.out.setM cx (Nat.lt_succ_self _) hy9 hg9
        have F9 := Lib.hid F9
        have S9 := Lib.hid (S5.out.trans S9)
        have g9 := bv_grown H5.out.mb hg9 (ub_of H5.out.mo _ (by omega))
        have e9 := g9.c
        have f9 := bv_frz g9
        obtain ⟨ua9, uc9, hu9⟩ := own_slice hy9
        subst hu9
        clear hy9 hg9 g9 e2
        gi_wp2
        exact ⟨S9.out, _, _, by rw [HS.out, HQ.out]; exact F9.out⟩
      · have HQ := Lib.hid (show stp most (ls, md) t = (ls, md ++ 32 :: t) by unfold stp; rw [if_neg (fun h => hlong h.2), if_neg hm0]; simp)
        have hal := (Kept.refl W2).alloc (.cells #[.int .u8 (32 : UInt8).toNat] 5)
        have H3 := Lib.hid (H2.out.kept hal)
        have S3 := Lib.hid (Save.of_kept (Mf (SqT a b d) (w.heap.size + 1) (w.heap.size + 1 + 1) W1.heap.size) hal)
        have hc3 := (Kept.refl (W2.alloc (.cells #[.int .u8 (32 : UInt8).toNat] 5))).new 0 (v := .int .u8 (32 : UInt8).toNat) rfl
        have hsz3 := H3.out.sz
        have e2 := H2.out.mb.c
        clear hal hm0
        gi_upto_region 9 with (fail)
        gi_wp2_with (gi_at_builtin; refine wpListIn_byteB rfl _ _ rfl W1.heap.size _ md 32 W2.heap.size rfl H3.out.mo rfl hc3 (by omega) hsz3 ?_)
        intro u4 y hy hgy
        obtain ⟨F5, S5⟩ := H3.out.setM cx (Nat.lt_succ_self _) hy hgy
        have H5 := Lib.hid F5
        have S5 := Lib.hid (S3.out.trans S5)
        have g4 := bv_grown H3.out.mb hgy (ub_of H3.out.mo _ (by omega))
        have e4 := g4.c
        have f4 := bv_frz g4
        obtain ⟨ua4, uc4, hu4⟩ := own_slice hy
        rw [List.length_append, List.length_singleton] at hu4
        subst hu4
        clear hy hgy g4 e2 S3 F5 H2 hc3 hsz3 H3
        gi_upto_region 10 with (fail)
        generalize y.setCell ⟨w.heap.size + 1 + 1, 0, none⟩ (.slice ua4 (md.length + 1) uc4) = z2 at *
        clear e4 f4
        have e2 := H5.out.mb.c
        have hsz10 := H5.out.sz
        gi_wp2_with (gi_at_builtin; refine wpListIn_strB rfl _ _ rfl W1.heap.size _ (md ++ [32]) t rfl H5.out.mo rfl (by simp; omega) hsz10 ?_)
        intro u9 y9 hy9 hg9
        obtain ⟨F9, S9⟩ := H5.out.setM cx (Nat.lt_succ_self _) hy9 hg9
        have F9 := Lib.hid F9
        have S9 := Lib.hid (S5.out.trans S9)
        have g9 := bv_grown H5.out.mb hg9 (ub_of H5.out.mo _ (by omega))
        have e9 := g9.c
        have f9 := bv_frz g9
        obtain ⟨ua9, uc9, hu9⟩ := own_slice hy9
        subst hu9
        generalize (md ++ 32 :: t).length = n9 at *
        clear hy9 hg9 g9 e2
        gi_wp2
        exact ⟨S9.out, _, _, by rw [HS.out, HQ.out]; exact F9.out⟩
end Go.Proofs.YtpkbcomdkamglaaDoor.Pl
