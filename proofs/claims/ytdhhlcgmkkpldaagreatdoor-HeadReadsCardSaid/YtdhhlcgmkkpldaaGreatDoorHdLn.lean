/- Package head: a header's lines. -/
import Derived.Test.YtdhhlcgmkkpldaaGreatDoorHdCo
set_option linter.unusedSimpArgs false
set_option linter.unusedVariables false
namespace Go.Proofs.YtdhhlcgmkkpldaaGreatDoor.Hd
open Go.ChangeShapes Go.WideShapes Go.ChangeAt Go.RowKit Go.Shelf
attribute [local go_sem] Oper.semAt_some
/-- where it all lies, while lines are made: the row that was first, the two boxes -/
structure LnI (r0 bm bw n1 : Nat) (v : Value) (s : B × Nat) (w V : World) : Prop where
  mb : Bv 22 bm v V
  wb : Bv 3 bw (iV s.2) V
  ow : OwnM w.heap.size v s.1 V
  rw : ∀ g, v.ownBlock = some g → g = r0 ∨ n1 ≤ g
  k : Kept w V
  sz : n1 ≤ V.heap.size
/-- what a round may turn -/
def LnM (T : Nat → Prop) (r0 bm bw n1 : Nat) (k : Nat) (o : Obj) : Prop := o.isCells = true ∧ ¬ T k ∧ (k = r0 ∨ k = bm ∨ k = bw ∨ n1 ≤ k)
/-- in which order -/
structure LnX (w : World) (T : Nat → Prop) (r0 bm bw n1 : Nat) : Prop where
  a0 : w.heap.size ≤ r0
  a1 : r0 < bm
  a2 : bm < bw
  a3 : bw < n1
  t : ∀ k, T k → bw < k ∧ k < n1
section
variable {r0 bm bw n1 : Nat} {v : Value} {s : B × Nat} {w V V' : World} {T : Nat → Prop}
theorem LnX.no (c : LnX w T r0 bm bw n1) {j : Nat} (h : j ≤ bw ∨ n1 ≤ j) : ¬ T j := fun q => by have := c.t j q; omega
theorem LnI.turn (c : LnX w T r0 bm bw n1) (h : LnI r0 bm bw n1 v s w V) (k : Save (Itn T n1) V V') : LnI r0 bm bw n1 v s w V' := by
  have a0 := c.a0; have a1 := c.a1; have a2 := c.a2; have a3 := c.a3
  have no : ∀ j o, j ≤ bw → ¬ Itn T n1 j o := fun j o hj q => by
    rcases q with q | q
    · exact c.no (Or.inl hj) q
    · omega
  refine ⟨h.mb.save k (no _ _ (by omega)), h.wb.save k (no _ _ (by omega)), h.ow.stay (fun g hg => ?_), h.rw, Save.kept_of h.k k (fun j o hj => no j o (by omega)), Nat.le_trans h.sz k.size⟩
  obtain ⟨cs, fz, hc⟩ := h.ow.kind g hg
  rw [hc]
  refine k.at hc (fun q => ?_)
  rcases q with q | q
  · rcases h.rw g hg with e | e
    · exact c.no (Or.inl (by omega)) q
    · exact c.no (Or.inr e) q
  · cases q.2
theorem LnI.ub (c : LnX w T r0 bm bw n1) (h : LnI r0 bm bw n1 v s w V) : v.ownBlock ≠ some bm ∧ v.ownBlock ≠ some bw := by
  have a1 := c.a1; have a2 := c.a2; have a3 := c.a3
  exact ⟨fun e => by rcases h.rw _ e with q | q <;> omega, fun e => by rcases h.rw _ e with q | q <;> omega⟩
theorem LnI.setM {y : World} {v' : Value} {l' : B} (c : LnX w T r0 bm bw n1) (h : LnI r0 bm bw n1 v s w V) (ho : OwnM w.heap.size v' l' y) (hg : V.grownBy y v.ownBlock) (hb : NewB V v v') :
    LnI r0 bm bw n1 v' (l', s.2) w (y.setCell ⟨bm, 0, none⟩ v') ∧ Save (LnM T r0 bm bw n1) V (y.setCell ⟨bm, 0, none⟩ v') := by
  have a0 := c.a0; have a1 := c.a1; have a2 := c.a2; have a3 := c.a3
  obtain ⟨u1, u2⟩ := h.ub c
  have hsz := h.sz
  have hrw : ∀ g, v'.ownBlock = some g → g = r0 ∨ n1 ≤ g := fun g hg' => by
    rcases hb g hg' with q | q
    · exact h.rw g q
    · exact Or.inr (by omega)
  refine ⟨⟨(h.mb.grown hg u1).set _, (h.wb.grown hg u2).other (by omega) _ _, ho.stay (fun g hg' => Below.heap_setCell _ _ _ _ (by rcases hrw g hg' with q | q <;> (show g ≠ bm; omega))), hrw, ?_, ?_⟩, save_row hg (fun g o hg' ho' => ?_) (fun o ho' => ?_)⟩
  · exact (kept_row h.k hg (fun g hg' => by rcases h.rw g hg' with q | q <;> omega)).setCell (by simp only; omega) _
  · have := hg.size; simp [World.setCell]; omega
  · obtain ⟨cs, fz, hc⟩ := h.ow.kind g hg'
    rw [hc] at ho'
    cases ho'
    rcases h.rw g hg' with q | q
    · exact ⟨rfl, c.no (Or.inl (by omega)), Or.inl q⟩
    · exact ⟨rfl, c.no (Or.inr q), Or.inr (Or.inr (Or.inr q))⟩
  · have := h.mb
    unfold Bv at this
    rw [this] at ho'
    cases ho'
    exact ⟨rfl, c.no (Or.inl (by omega)), Or.inr (Or.inl rfl)⟩
theorem LnI.setW (c : LnX w T r0 bm bw n1) (h : LnI r0 bm bw n1 v s w V) (x : Int) (k' : Nat) (hx : x = k') :
    LnI r0 bm bw n1 v (s.1, k') w (V.setCell ⟨bw, 0, none⟩ (iV x)) ∧ Save (LnM T r0 bm bw n1) V (V.setCell ⟨bw, 0, none⟩ (iV x)) := by
  have a0 := c.a0; have a1 := c.a1; have a2 := c.a2; have a3 := c.a3
  subst hx
  refine ⟨⟨h.mb.other (by omega) _ _, h.wb.set _, h.ow.stay (fun g hg' => Below.heap_setCell _ _ _ _ (by rcases h.rw g hg' with q | q <;> (show g ≠ bw; omega))), h.rw, h.k.setCell (by simp only; omega) _, by have := h.sz; simpa [World.setCell] using this⟩, Save.set _ (fun o ho' => ?_)⟩
  have := h.wb
  unfold Bv at this
  rw [this] at ho'
  cases ho'
  exact ⟨rfl, c.no (Or.inl (Nat.le_refl _)), Or.inr (Or.inr (Or.inl rfl))⟩
end
/-- Line's error -/
def lE (h : Hdr) : Int := if okH h = true then 0 else 1
theorem lE_ok {h : Hdr} (hk : okH h = true) : lE h = 0 := if_pos hk
theorem lE_no {h : Hdr} (hk : okH h = false) : lE h = 1 := if_neg (by rw [hk]; decide)
theorem line_no {h : Hdr} (hk : okH h = false) : line h = none := if_neg (by rw [hk]; decide)
set_option maxRecDepth 100000 in
set_option maxHeartbeats 4000000 in
theorem line_any0 (h : Hdr) (w : World) (hE : Env w) (hn : h.1.length ≤ maxLen) (ht : h.2.length ≤ maxLen) :
    Calls Tryz.prog 10 #[hV h] w fun e w' => ∃ xv, e = .returned (.tuple #[xv, .int .i64 (lE h)]) ∧ OwnM w.heap.size xv ((line h).getD []) w' ∧ Kept w w' := by
  unfold maxLen at hn ht
  obtain ⟨n, t⟩ := h
  simp only at hn ht
  have hts : (ByteArray.mk t.toArray).size = t.length := List.size_toArray
  have k0 := (Kept.refl w).alloc (.cells #[sV n, sV t] 25)
  have c0 := (Kept.refl (w.alloc (.cells #[sV n, sV t] 25))).new 0 (v := sV n) rfl
  have c1 := (Kept.refl (w.alloc (.cells #[sV n, sV t] 25))).new 1 (v := sV t) rfl
  have s0 : (w.alloc (.cells #[sV n, sV t] 25)).heap.size = w.heap.size + 1 := by simp
  have HE := Lib.hid hE
  clear hE
  refine (callsIn_wide (n := 9)).1 ?_
  refine callsIn_of_wp_marks Tryz.func10 rfl trivial ?_ rfl
  simp only [Tryz.ntmps10, List.size_toArray, List.length_cons, List.length_nil, Nat.reduceAdd, Nat.reduceSub, Array.replicate_succ, Array.replicate_zero, List.push_toArray, List.append_toArray, List.nil_append, List.cons_append]
  gi_upto_region 1 with (fail)
  generalize w.alloc (.cells #[sV n, sV t] 25) = x0 at *
  gi_wp2_with fail
  refine ⟨trivial, ?_⟩
  refine (callsIn_wide.2 (name_any n _ (by unfold maxLen; omega))).mono ?_
  rintro e x1 ⟨rfl, k1⟩
  have d0 := k1.yes c0
  have d1 := k1.yes c1
  have K1 := Lib.hid (k0.trans k1)
  have z1 := k1.size
  clear c0 c1 k0 k1
  cases hnm : nam n with
  | false =>
    have HK := Lib.hid (show okH (n, t) = false by unfold okH; rw [hnm]; rfl)
    clear hnm
    gi_wp2
    exact ⟨.tuple #[.slice none 0 0, .int .i64 1], by simp [results, Tryz.results10, go_sem], _, by rw [lE_no HK.out], by rw [line_no HK.out]; exact OwnM.nil _ _, K1.out⟩
  | true =>
    by_cases hlen : 4000 < (t.length : Int)
    · have HK := Lib.hid (show okH (n, t) = false by unfold okH; rw [hnm, decide_eq_false (show ¬ t.length ≤ 4000 by omega)]; rfl)
      clear hnm
      gi_wp2
      exact ⟨.tuple #[.slice none 0 0, .int .i64 1], by simp [results, Tryz.results10, go_sem], _, by rw [lE_no HK.out], by rw [line_no HK.out]; exact OwnM.nil _ _, K1.out⟩
    · have HK := Lib.hid (show okH (n, t) = true by unfold okH; rw [hnm, decide_eq_true (show t.length ≤ 4000 by omega)]; rfl)
      have HL := Lib.hid (show lnH (n, t) = ((wds t).foldl stL (n ++ [58], (n ++ [58]).length)).1 ++ [13, 10] by
        rw [← fil_fold, lnH_parts]; unfold bdy; simp)
      have hnl := (nam_all hnm).2.2
      have happ : (⟨n.toArray⟩ ++ ⟨#[58]⟩ : ByteArray) = ⟨(n ++ [58]).toArray⟩ := app_mk n [58]
      have hPl : (n ++ [58]).length ≤ 41 := by simp; omega
      obtain ⟨cp, x2, hcv, hk2, hO2⟩ := to_own (n ++ [58]) x1 (by omega)
      have e1 := hk2.yes d1
      have K2 := Lib.hid (K1.out.trans hk2)
      have z2 := hk2.size
      have z2' : x1.heap.size < x2.heap.size := (hO2.lt x1.heap.size rfl).2
      clear hnm
      generalize n ++ [58] = P at *
      clear hk2
      gi_upto_region 4 with (fail)
      have b3 := Bv.new x2 (.slice (some ⟨x1.heap.size, 0, none⟩) P.length cp) 22
      have k3 : Kept x2 (x2.alloc (.cells #[.slice (some ⟨x1.heap.size, 0, none⟩) P.length cp] 22)) := (Kept.refl x2).alloc _
      have s3 : (x2.alloc (.cells #[.slice (some ⟨x1.heap.size, 0, none⟩) P.length cp] 22)).heap.size = x2.heap.size + 1 := by simp
      generalize x2.alloc (.cells #[.slice (some ⟨x1.heap.size, 0, none⟩) P.length cp] 22) = x3 at *
      have e3 := b3.c
      have O3 := hO2.kept k3
      have f1 := k3.yes e1
      clear hcv d0 d1 e1
      gi_upto_region 5 with (fail)
      have b4 := Bv.new x3 (iV P.length) 3
      have k4 : Kept x3 (x3.alloc (.cells #[iV P.length] 3)) := (Kept.refl x3).alloc _
      have s4 : (x3.alloc (.cells #[iV P.length] 3)).heap.size = x3.heap.size + 1 := by simp
      rw [s3] at b4 s4
      generalize x3.alloc (.cells #[iV P.length] 3) = x4 at *
      have g1 := k4.yes f1
      have b34 := b3.kept k4
      have O4 := O3.kept k4
      have K4 := Lib.hid ((K2.out.trans k3).trans k4)
      clear e3 f1 b3 O3 k3 k4 hO2
      gi_wp2_with fail
      refine ⟨trivial, ?_⟩
      refine (callsIn_wide.2 (words_any t _ (HE.out.kept K4.out) (by omega))).mono ?_
      rintro e W1 ⟨vs, rfl, ⟨gf, lb, T, cap, rfl, h2, h3, h4, h5, h6⟩, k5⟩
      have z5 := k5.size
      have K5 := Lib.hid (K4.out.trans k5)
      have cx : LnX w T x1.heap.size x2.heap.size (x2.heap.size + 1) W1.heap.size := ⟨by omega, by omega, by omega, by omega, fun k hk => by have := h6 k hk; omega⟩
      have F0 : LnI x1.heap.size x2.heap.size (x2.heap.size + 1) W1.heap.size (.slice (some ⟨x1.heap.size, 0, none⟩) P.length cp) (P, P.length) w W1 :=
        ⟨b34.kept k5, b4.kept k5, (O4.kept k5).mono (by omega), fun g hg => by simp [Value.ownBlock] at hg; omega, K5.out, Nat.le_refl _⟩
      have hg := env_lt HE.out
      have hsum := sumW_wds t
      have hwl := (sumW_len (wds t)).2
      have hwn := (sumW_len (wds t)).1
      clear b34 b4 O4 k5 g1 K4 K2 K1
      have hwm : ∀ x ∈ wds t, x.length ≤ 76003 := fun x hx => by have := hwl x hx; omega
      have hwc : (wds t).length ≤ 76003 := by omega
      clear hwl hwn hsum
      generalize wds t = ws at *
      gi_wp2
      refine range_itr (n := 9) (gf := gf) (lb := lb) rfl h2 (T := T) (R := RdE) (fun k hk => (h6 k hk).2) (fun k hk => by obtain rfl : k = 0 := hk; omega)
        h3 (fun s arr s' hs => by obtain ⟨_, _, rfl, _⟩ := hs; rfl)
        (LnM T x1.heap.size x2.heap.size (x2.heap.size + 1) W1.heap.size) (fun k o hk => ⟨⟨hk.2.1, fun q => by obtain rfl : k = 0 := q; rcases hk.2.2 with q | q | q | q <;> omega⟩, hk.1⟩) h4 h5
        (fun k V => ∃ u, LnI x1.heap.size x2.heap.size (x2.heap.size + 1) W1.heap.size u ((ws.take k).foldl stL (P, P.length)) w V)
        (fun _ _ _ => False)
        ?hI ?hIx ⟨_, F0⟩ ?round ?done ?stop
      case hI =>
        rintro k A B ⟨u, h⟩ kb
        exact ⟨u, h.turn cx kb⟩
      case hIx =>
        rintro q k A B h kb
        exact h
      case stop =>
        rintro c s W h _ _
        exact h.elim
      case round =>
        rintro lo k arr k' V ⟨tw, htw, rfl, rfl⟩ ⟨u, h⟩ hsz K hK
        have H := Lib.hid h
        have HS := Lib.hid (stL_take (P, P.length) htw)
        have hb := stL_len 76003 (ws.take k) (P, P.length) (fun x hx => hwm x (List.mem_of_mem_take hx))
        have htl := hwm tw (List.mem_of_getElem? htw)
        have hkl : (ws.take k).length ≤ 76003 := by simp; omega
        have hb1 : ((ws.take k).foldl stL (P, P.length)).1.length ≤ 41 + 76003 * 76006 := Nat.le_trans hb.1 (Nat.add_le_add hPl (Nat.mul_le_mul_right _ hkl))
        have hb2 : ((ws.take k).foldl stL (P, P.length)).2 ≤ 76200 := by have := hb.2; simp only at this; omega
        clear h htw hb hkl
        generalize (ws.take k).foldl stL (P, P.length) = s at *
        obtain ⟨l, kk⟩ := s
        simp only at hb1 hb2
        have hws : (ByteArray.mk tw.toArray).size = tw.length := List.size_toArray
        simp only [List.zip_toArray, List.zip_cons_cons, List.zip_nil_right, List.foldl_toArray, List.foldl_cons, List.foldl_nil, List.setIfInBounds_toArray, List.set_cons_zero, List.set_cons_succ]
        gi_wp2
        refine hK _ _ (Kept.refl V) (fun W2 v2 d2 => ?_)
        have H2 := Lib.hid (H.out.turn cx d2)
        clear H v2 d2 hK
        have e0 := H2.out.wb.c
        simp only at e0
        have happw : (⟨#[32]⟩ ++ ⟨tw.toArray⟩ : ByteArray) = ⟨([32] ++ tw).toArray⟩ := app_mk [32] tw
        have hwl1 : ([32] ++ tw).length = 1 + tw.length := by simp; omega
        by_cases hlong : 76 < kk + 1 + tw.length
        · have hlI : (76 : Int) < (kk : Int) + 1 + tw.length := by omega
          have HQ := Lib.hid (show stL (l, kk) tw = ((l ++ [13, 10]) ++ ([32] ++ tw), 1 + tw.length) from stL_yes hlong)
          clear hlong
          generalize [32] ++ tw = sw at *
          gi_upto_region 8 with (fail)
          have e1 := H2.out.mb.c
          have hsz2 := H2.out.sz
          have hK2 := H2.out.k.size
          obtain ⟨va, vc, hvv⟩ := H2.out.ow.slice
          simp only at hvv
          subst hvv
          gi_wp2_with (gi_at_builtin; refine wpListIn_strM rfl _ _ rfl w.heap.size _ l [13, 10] rfl H2.out.ow rfl (by simp; omega) hK2 ?_)
          intro v4 y hy hgy hnb
          obtain ⟨F4, S4⟩ := H2.out.setM cx hy hgy hnb
          have H4 := Lib.hid F4
          have S4' := Lib.hid S4
          have g4 := H2.out.mb.grown hgy (H2.out.ub cx).1
          have q4 := g4.c
          have f4 := g4.frz
          have hl4 : (l ++ [13, 10]).length ≤ 43 + 76003 * 76006 := by simp; omega
          clear F4 S4 hy hgy hnb g4 e0 e1 H2 hK2 hsz2
          obtain ⟨va4, vc4, hv4⟩ := H4.out.ow.slice
          simp only at hv4
          subst hv4
          generalize l ++ [13, 10] = l4 at *
          gi_upto_region 9 with (fail)
          generalize y.setCell ⟨x2.heap.size, 0, none⟩ (.slice va4 l4.length vc4) = z at *
          have e5 := H4.out.wb.c
          have f5 := H4.out.wb.frz
          simp only at e5
          obtain ⟨F5, S5⟩ := H4.out.setW cx 0 0 rfl
          have H5 := Lib.hid F5
          have S5' := Lib.hid (S4'.out.trans S5)
          clear F5 S5 S4' q4 f4 H4
          gi_upto_region 10 with (fail)
          simp only at H5
          generalize z.setCell ⟨x2.heap.size + 1, 0, none⟩ (iV 0) = z5 at *
          clear e5 f5
          have e1 := H5.out.mb.c
          have hK5 := H5.out.k.size
          gi_wp2_with (gi_at_builtin; refine wpListIn_strM rfl _ _ rfl w.heap.size _ l4 sw rfl H5.out.ow rfl (by omega) hK5 ?_)
          intro v6 y6 hy hgy hnb
          obtain ⟨F6, S6⟩ := H5.out.setM cx hy hgy hnb
          have H6 := Lib.hid F6
          have S6' := Lib.hid (S5'.out.trans S6)
          have g6 := H5.out.mb.grown hgy (H5.out.ub cx).1
          have q6 := g6.c
          have f6 := g6.frz
          clear F6 S6 hy hgy hnb g6 e1 H5 hK5 S5'
          obtain ⟨va6, vc6, hv6⟩ := H6.out.ow.slice
          simp only at hv6
          subst hv6
          generalize l4 ++ sw = l6 at *
          gi_upto_region 11 with (fail)
          generalize y6.setCell ⟨x2.heap.size, 0, none⟩ (.slice va6 l6.length vc6) = z6 at *
          have e7 := H6.out.wb.c
          have f7 := H6.out.wb.frz
          simp only at e7
          clear q6 f6
          gi_wp2
          exact ⟨S6'.out.trans (H6.out.setW cx _ (1 + tw.length) (by omega)).2, _, by rw [HS.out, HQ.out]; exact (H6.out.setW cx _ (1 + tw.length) (by omega)).1⟩
        · have hlI : ¬ (76 : Int) < (kk : Int) + 1 + tw.length := by omega
          have HQ := Lib.hid (show stL (l, kk) tw = (l ++ ([32] ++ tw), kk + 1 + tw.length) from stL_no hlong)
          clear hlong
          generalize [32] ++ tw = sw at *
          gi_upto_region 10 with (fail)
          have e1 := H2.out.mb.c
          have hK2 := H2.out.k.size
          obtain ⟨va, vc, hvv⟩ := H2.out.ow.slice
          simp only at hvv
          subst hvv
          gi_wp2_with (gi_at_builtin; refine wpListIn_strM rfl _ _ rfl w.heap.size _ l sw rfl H2.out.ow rfl (by omega) hK2 ?_)
          intro v6 y6 hy hgy hnb
          obtain ⟨F6, S6⟩ := H2.out.setM cx hy hgy hnb
          have H6 := Lib.hid F6
          have S6' := Lib.hid S6
          have g6 := H2.out.mb.grown hgy (H2.out.ub cx).1
          have q6 := g6.c
          have f6 := g6.frz
          clear F6 S6 hy hgy hnb g6 e1 e0 H2 hK2
          obtain ⟨va6, vc6, hv6⟩ := H6.out.ow.slice
          simp only at hv6
          subst hv6
          generalize l ++ sw = l6 at *
          gi_upto_region 11 with (fail)
          generalize y6.setCell ⟨x2.heap.size, 0, none⟩ (.slice va6 l6.length vc6) = z6 at *
          have e7 := H6.out.wb.c
          have f7 := H6.out.wb.frz
          simp only at e7
          clear q6 f6
          gi_wp2
          exact ⟨S6'.out.trans (H6.out.setW cx _ (kk + 1 + tw.length) (by omega)).2, _, by rw [HS.out, HQ.out]; exact (H6.out.setW cx _ (kk + 1 + tw.length) (by omega)).1⟩
      case done =>
        rintro k V hend ⟨u, h⟩ hv hKd
        subst hend
        rw [List.take_length] at h
        have hb := stL_len 76003 ws (P, P.length) hwm
        have hb1 : (ws.foldl stL (P, P.length)).1.length ≤ 41 + 76003 * 76006 := Nat.le_trans hb.1 (Nat.add_le_add hPl (Nat.mul_le_mul_right _ hwc))
        clear hb
        generalize ws.foldl stL (P, P.length) = s at *
        obtain ⟨l, kk⟩ := s
        simp only at hb1 HL
        have H := Lib.hid h
        have e0 := h.mb.c
        obtain ⟨va, vc, hvv⟩ := h.ow.slice
        simp only at hvv
        subst hvv
        have hK2 := h.k.size
        have HKd := Lib.hid hKd
        clear h hv hKd
        gi_wp2_with (gi_at_builtin; refine wpListIn_strM rfl _ _ rfl w.heap.size _ l [13, 10] rfl H.out.ow rfl (by simp; omega) hK2 ?_)
        intro v4 y hy hgy hnb
        have hKy : y.heap[W1.heap.size]? = some (.deferred (some [])) := (hgy.block _ (Array.getElem?_eq_some_iff.1 HKd.out).1 (fun e => by
          obtain ⟨cs, fz, hc⟩ := H.out.ow.kind _ e.symm
          rw [HKd.out] at hc; cases hc)).trans HKd.out
        have Ky := kept_row H.out.k hgy (fun g hg' => by have := cx.a0; have := cx.a1; have := cx.a2; have := cx.a3; rcases H.out.rw g hg' with q | q <;> omega)
        obtain ⟨va4, vc4, hv4⟩ := hy.slice
        have HO := Lib.hid (show OwnM w.heap.size v4 (l ++ [13, 10]) (y.putObj W1.heap.size (.deferred none)) from hy.stay (fun g hg' => World.putObj_heap_other (fun e => by
          obtain ⟨cs, fz, hc⟩ := hy.kind g hg'
          rw [e, hKy] at hc; cases hc)))
        have HKk := Lib.hid (kept_put Ky (show w.heap.size ≤ W1.heap.size by have := cx.a0; have := cx.a1; have := cx.a2; have := cx.a3; omega) (.deferred none))
        clear hy hgy hnb Ky e0
        generalize l ++ [13, 10] = l4 at *
        subst hv4
        gi_wp2
        refine ⟨by simp, .inl ⟨_, _, rfl, run_takeDeferred hKy, ?_⟩⟩
        exact ⟨.tuple #[.slice va4 l4.length vc4, .int .i64 0], by simp [results, Tryz.results10, go_sem], _, by rw [lE_ok HK.out], by rw [line_lnH HK.out, Option.getD_some, HL.out]; exact HO.out, HKk.out⟩
theorem line_any (h : Hdr) (w : World) (hE : Env w) (hn : h.1.length ≤ 100000000) (ht : h.2.length ≤ 100000000) :
    Calls Tryz.prog 10 #[hV h] w fun e w' => ∃ xv, e = .returned (.tuple #[xv, .int .i64 (lE h)]) ∧ OwnM w.heap.size xv ((line h).getD []) w' ∧ Kept w w' := line_any0 h w hE (by unfold maxLen; omega) (by unfold maxLen; omega)
end Go.Proofs.YtdhhlcgmkkpldaaGreatDoor.Hd
