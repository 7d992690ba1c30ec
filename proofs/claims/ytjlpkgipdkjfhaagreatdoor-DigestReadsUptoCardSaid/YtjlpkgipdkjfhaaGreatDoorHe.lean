import Derived.Test.YtjlpkgipdkjfhaaGreatDoorHc
import Derived.Test.YtjlpkgipdkjfhaaGreatDoorHy
import Derived.Deep.RegionHeld3
set_option linter.unusedVariables false
set_option linter.unusedSimpArgs false
namespace Go.Proofs.YtjlpkgipdkjfhaaGreatDoor.Bk.Hd
open Go.ChangeShapes Go.WideShapes Go.ChangeAt Go.RowKit Go.Shelf
open Bx (byt)
attribute [local go_sem] Oper.semAt_some
theorem cutPrefix_any (s t : B) (w : World) : Calls Tryz.prog 190 #[sV s, sV t] w fun e w' => e = .returned (.tuple #[sV (Lib.trimPrefix s t), .bool (Lib.hasPrefix s t)]) ∧ w' = w := Tryz.strings_CutPrefix ⟨s.toArray⟩ ⟨t.toArray⟩ w
theorem cutSuffix_any (s t : B) (w : World) (hs : s.length ≤ 1000000000) : Calls Tryz.prog 191 #[sV s, sV t] w fun e w' => e = .returned (.tuple #[sV (Lib.trimSuffix s t), .bool (Lib.hasSuffix s t)]) ∧ w' = w := Tryz.strings_CutSuffix ⟨s.toArray⟩ ⟨t.toArray⟩ w (by rw [str_lit]; omega)
theorem trimPrefix_any (s t : B) (w : World) : Calls Tryz.prog 82 #[sV s, sV t] w fun e w' => e = .returned (sV (Lib.trimPrefix s t)) ∧ w' = w := Tryz.strings_TrimPrefix ⟨s.toArray⟩ ⟨t.toArray⟩ w
theorem trimSuffix_any (s t : B) (w : World) (hs : s.length ≤ 1000000000) : Calls Tryz.prog 84 #[sV s, sV t] w fun e w' => e = .returned (sV (Lib.trimSuffix s t)) ∧ w' = w := Tryz.strings_TrimSuffix ⟨s.toArray⟩ ⟨t.toArray⟩ w (by rw [str_lit]; omega)
theorem cutAt_any (s t : B) (w : World) (hE : Env w) (hs : s.length ≤ 4000000000) : Calls Tryz.prog 51 #[sV s, sV t] w fun e w' => e = .returned (.tuple #[sV (Lib.cut s t).1, sV (Lib.cut s t).2.1, .bool (Lib.cut s t).2.2]) ∧ Kept w w' := by
  obtain ⟨m, hm⟩ := hE
  have hsz : (ByteArray.mk s.toArray).size = s.length := List.size_toArray
  refine (Tryz.strings_Cut ⟨s.toArray⟩ ⟨t.toArray⟩ m w (by omega) hm).mono ?_
  rintro e w' ⟨rfl, n, rfl⟩
  exact ⟨rfl, (Kept.refl w).drewN n⟩
theorem unf_any (s : B) (w : World) (hE : Env w) (hs : s.length ≤ 4000000000) : Calls Tryz.prog 88 #[sV s] w fun e w' => e = .returned (sV (unf s)) ∧ Kept w w' := by
  have HR : Calls Tryz.prog 132 #[sV s, .string ⟨#[13, 10, 32]⟩, .string ⟨#[32]⟩] w fun e w' => e = .returned (sV (unf s)) ∧ Kept w w' := by
    obtain ⟨m, hm⟩ := hE
    have hsz : (ByteArray.mk s.toArray).size = s.length := List.size_toArray
    have hcn := Lib.countB_mul_le ⟨#[13, 10, 32]⟩ (by decide) s.length ⟨s.toArray⟩ (by omega)
    refine (Tryz.strings_ReplaceAll ⟨s.toArray⟩ ⟨#[13, 10, 32]⟩ ⟨#[32]⟩ m w (by omega) hm (by decide) (by
      rw [show (ByteArray.mk #[32]).size = 1 from rfl, hsz]
      rw [show (ByteArray.mk #[13, 10, 32]).size = 3 from rfl, hsz] at hcn
      omega)).mono ?_
    rintro e y ⟨rfl, hb⟩
    refine ⟨?_, Kept.of_below hb⟩
    rw [← rpl_unf]
  have HX := Lib.hid HR
  clear HR hE
  go_enter Tryz.func88, Tryz.ntmps88
  go_wp2_with fail
  refine HX.out.mono ?_
  rintro e y ⟨rfl, k⟩
  go_wp2
  go_ret
  exact ⟨rfl, k⟩
theorem decW_steps (t : B) : decW t = if Lib.hasPrefix t opn = true ∧ Lib.hasSuffix (Lib.trimPrefix t opn) cls = true then byt (Lib.trimSuffix (Lib.trimPrefix t opn) cls) else none := by
  unfold decW Lib.trimPrefix Lib.trimSuffix
  have e : Lib.hasPrefix t opn = opn.isPrefixOf t := rfl
  by_cases h : opn.isPrefixOf t = true
  · rw [e, if_pos h, show opn.length = 10 from rfl]
    have e2 : Lib.hasSuffix (t.drop 10) cls = cls.isSuffixOf (t.drop 10) := rfl
    by_cases h2 : cls.isSuffixOf (t.drop 10) = true
    · rw [if_pos ⟨h, h2⟩, if_pos ⟨h, h2⟩, e2, if_pos h2]; rfl
    · rw [if_neg (fun q => h2 q.2), if_neg (fun q => h2 q.2)]
  · rw [if_neg (fun q => h q.1), if_neg (fun q => h (e ▸ q.1))]
theorem parts_app : ∀ (a : List B) (t : B), parts (a ++ [t]) = match parts a with | none => none | some D => (decW t).map (D ++ ·)
  | [], t => by
    simp only [List.nil_append, parts]
    cases decW t <;> simp
  | w :: a, t => by
    rw [List.cons_append, parts, parts, parts_app a t]
    cases hw : decW w with
    | none => rfl
    | some p =>
      simp only
      cases parts a with
      | none => rfl
      | some D =>
        simp only [Option.map_some]
        cases decW t <;> simp
theorem parts_take {ws : List B} {k : Nat} {t D : B} (h : ws[k]? = some t) (hD : parts (ws.take k) = some D) : parts (ws.take (k + 1)) = (decW t).map (D ++ ·) := by
  rw [List.take_add_one, h]
  show parts (ws.take k ++ [t]) = _
  rw [parts_app, hD]
theorem parts_none : ∀ {ws : List B} {k : Nat} {t : B}, ws[k]? = some t → decW t = none → parts ws = none
  | [], k, t, h, _ => by simp at h
  | w :: ws, 0, t, h, hd => by
    simp at h; subst h
    rw [parts, hd]
  | w :: ws, k + 1, t, h, hd => by
    have := parts_none (ws := ws) (k := k) (by simpa using h) hd
    rw [parts, this]
    cases decW w <;> rfl
theorem decW_len {w p : B} (h : decW w = some p) : p.length ≤ w.length := by
  unfold decW at h
  split at h
  · have := Bx.byt_len h
    simp at this; omega
  · cases h
theorem parts_len (M : Nat) : ∀ (ws : List B) (D : B), parts ws = some D → (∀ w ∈ ws, w.length ≤ M) → D.length ≤ ws.length * M
  | [], D, h, _ => by cases h; simp
  | w :: ws, D, h, hw => by
    rw [parts] at h
    cases hd : decW w with
    | none => rw [hd] at h; cases h
    | some p =>
      rw [hd] at h
      simp only [Option.map_eq_some_iff] at h
      obtain ⟨D', h1, rfl⟩ := h
      have := parts_len M ws D' h1 (fun x hx => hw x (by simp [hx]))
      have := decW_len hd
      have := hw w (by simp)
      rw [List.length_append, List.length_cons, Nat.add_mul, Nat.one_mul]; omega
theorem dcd_some {s D : B} (h : parts (splt 32 s) = some D) : dcd s = D := by unfold dcd; rw [h]; rfl
theorem dcd_none {s : B} (h : parts (splt 32 s) = none) : dcd s = s := by unfold dcd; rw [h]; rfl
theorem tp_le (s t : B) : (Lib.trimPrefix s t).length ≤ s.length := by unfold Lib.trimPrefix; split <;> simp
theorem ts_le (s t : B) : (Lib.trimSuffix s t).length ≤ s.length := by unfold Lib.trimSuffix; split <;> simp
structure DcI (b0 n1 : Nat) (v : Value) (D s : B) (w V : World) : Prop where
  sb : Bv 9 b0 (sV s) V
  rb : Bv 9 (b0 + 1) (sV []) V
  mb : Bv 25 (b0 + 2) v V
  ow : OwnM n1 v D V
  k : Kept w V
  sz : n1 ≤ V.heap.size
structure DcX (b0 n1 : Nat) (w V : World) (s r : B) : Prop where
  rb : Bv 9 (b0 + 1) (sV r) V
  k : Kept w V
def DcM (T : Nat → Prop) (b0 n1 : Nat) (k : Nat) (o : Obj) : Prop := o.isCells = true ∧ ¬ T k ∧ (k = b0 + 1 ∨ k = b0 + 2 ∨ n1 ≤ k)
section
variable {b0 n1 : Nat} {v : Value} {D s : B} {w V V' : World} {T : Nat → Prop}
theorem DcI.turn (hT : ∀ k, T k → b0 + 2 < k ∧ k < n1) (h0 : w.heap.size ≤ b0) (h1 : b0 + 2 < n1) (h : DcI b0 n1 v D s w V) (k : Save (Itn T n1) V V') : DcI b0 n1 v D s w V' := by
  have no : ∀ j o, j ≤ b0 + 2 → ¬ Itn T n1 j o := fun j o hj q => by
    rcases q with q | q
    · have := hT j q; omega
    · omega
  refine ⟨h.sb.save k (no _ _ (by omega)), h.rb.save k (no _ _ (by omega)), h.mb.save k (no _ _ (by omega)), h.ow.turn k (fun g c fz hg q => ?_), Save.kept_of h.k k (fun j o hj => no j o (by omega)), Nat.le_trans h.sz k.size⟩
  rcases q with q | q
  · have := hT _ q; omega
  · cases q.2
theorem DcI.kept (h : DcI b0 n1 v D s w V) (k : Kept V V') : DcI b0 n1 v D s w V' :=
  ⟨h.sb.kept k, h.rb.kept k, h.mb.kept k, h.ow.kept k, h.k.trans k, Nat.le_trans h.sz k.size⟩
end
set_option maxRecDepth 100000 in
set_option maxHeartbeats 4000000 in
theorem decoded_any (s : B) (w : World) (hE : Env w) (hl : s.length ≤ 1000000) :
    Calls Tryz.prog 133 #[sV s] w fun e w' => e = .returned (sV (dcd s)) ∧ Kept w w' := by
  have HE := Lib.hid hE
  have hgl := env_lt hE
  have k0 := (Kept.refl w).alloc (.cells #[sV s] 9)
  have b0 := Bv.new w (sV s) 9
  have s0 : (w.alloc (.cells #[sV s] 9)).heap.size = w.heap.size + 1 := by simp
  clear hE
  refine (callsIn_wide (n := 9)).1 ?_
  refine callsIn_of_wp_marks Tryz.func133 rfl trivial ?_ rfl
  simp only [Tryz.ntmps133, List.size_toArray, List.length_cons, List.length_nil, Nat.reduceAdd, Nat.reduceSub, Array.replicate_succ, Array.replicate_zero, List.push_toArray, List.append_toArray, List.nil_append, List.cons_append]
  have k1 := (Kept.refl (w.alloc (.cells #[sV s] 9))).alloc (.cells #[sV []] 9)
  have b1 := Bv.new (w.alloc (.cells #[sV s] 9)) (sV []) 9
  have s1 : ((w.alloc (.cells #[sV s] 9)).alloc (.cells #[sV []] 9)).heap.size = w.heap.size + 1 + 1 := by simp
  have b01 := b0.kept k1
  rw [s0] at b1
  gi_upto_region 1 with (fail)
  generalize (w.alloc (.cells #[sV s] 9)).alloc (.cells #[sV []] 9) = x1 at *
  have K1 := k0.trans k1
  clear k0 k1 b0 s0
  have k2 := (Kept.refl x1).alloc (.cells #[.slice none 0 0] 25)
  have b2 := Bv.new x1 (.slice none 0 0) 25
  have s2 : (x1.alloc (.cells #[.slice none 0 0] 25)).heap.size = x1.heap.size + 1 := by simp
  have b02 := b01.kept k2
  have b12 := b1.kept k2
  rw [s1] at b2 s2
  gi_upto_region 2 with (fail)
  generalize x1.alloc (.cells #[.slice none 0 0] 25) = x2 at *
  have K2 := Lib.hid (K1.trans k2)
  have e0 := b02.c
  clear K1 k2 b01 b1 s1
  gi_wp2_with fail
  refine ⟨trivial, ?_⟩
  refine (callsIn_wide.2 (splits_any s _ (HE.out.kept K2.out) hl)).mono ?_
  rintro e W1 ⟨vs, rfl, ⟨gf, lb, T, cap, rfl, h2, h3, h4, h5, h6⟩, k5⟩
  have z5 := k5.size
  have hT : ∀ k, T k → w.heap.size + 2 < k ∧ k < W1.heap.size := fun k hk => by have := h6 k hk; omega
  have F0 : DcI w.heap.size W1.heap.size (.slice none 0 0) [] s w W1 := ⟨b02.kept k5, b12.kept k5, b2.kept k5, OwnM.nil _ _, K2.out.trans k5, Nat.le_refl _⟩
  clear b02 b12 b2 k5 e0 K2
  have hwm : ∀ x ∈ splt 32 s, x.length ≤ 1000000 := fun x hx => by have := (splt_mem s x hx).2; omega
  have hwc := splt_len 32 s
  have HS1 := Lib.hid (fun D => @dcd_some s D)
  have HS2 := Lib.hid (@dcd_none s)
  generalize splt 32 s = ws at *
  gi_wp2
  refine range_itr (n := 9) (gf := gf) (lb := lb) rfl h2 (T := T) (R := RdE) (fun k hk => (h6 k hk).2) (fun k hk => by obtain rfl : k = 0 := hk; omega)
    h3 (fun s arr s' hs => by obtain ⟨_, _, rfl, _⟩ := hs; rfl)
    (DcM T w.heap.size W1.heap.size) (fun k o hk => ⟨⟨hk.2.1, fun q => by obtain rfl : k = 0 := q; rcases hk.2.2 with q | q | q <;> omega⟩, hk.1⟩) h4 h5
    (fun k V => ∃ u D, parts (ws.take k) = some D ∧ DcI w.heap.size W1.heap.size u D s w V)
    (fun c _ V => c = .ret ∧ parts ws = none ∧ DcX w.heap.size W1.heap.size w V s s)
    ?hI ?hIx ⟨_, [], rfl, F0⟩ ?round ?done ?stop
  case hI =>
    rintro k A B ⟨u, D, hD, h⟩ kb
    exact ⟨u, D, hD, h.turn hT (Nat.le_refl _) (by omega) kb⟩
  case hIx =>
    rintro q k A B ⟨h1, h2, h3⟩ kb
    have no : ∀ j o, j ≤ w.heap.size + 2 → ¬ Itn T W1.heap.size j o := fun j o hj q => by
      rcases q with q | q
      · have := hT j q; omega
      · omega
    exact ⟨h1, h2, h3.rb.save kb (no _ _ (by omega)), Save.kept_of h3.k kb (fun j o hj => no j o (by omega))⟩
  case round =>
    rintro lo k arr k' V ⟨t, htw, rfl, rfl⟩ ⟨u, D, hD, h⟩ hsz K hK
    have H := Lib.hid h
    have HT := Lib.hid htw
    have htl := hwm t (List.mem_of_getElem? htw)
    have hkl : (ws.take k).length ≤ 1000001 := by simp; omega
    have hDl : D.length ≤ 1000001 * 1000000 := Nat.le_trans (parts_len 1000000 _ D hD (fun x hx => hwm x (List.mem_of_mem_take hx))) (Nat.mul_le_mul_right _ hkl)
    have HPT := Lib.hid (parts_take htw hD)
    have HST := Lib.hid (decW_steps t)
    have h1l := tp_le t opn
    have h2l := ts_le (Lib.trimPrefix t opn) cls
    have HC1 := Lib.hid (fun w => cutPrefix_any t opn w)
    have HC2 := Lib.hid (fun w => cutSuffix_any (Lib.trimPrefix t opn) cls w (by omega))
    clear h htw hkl hD
    generalize Lib.hasPrefix t opn = q1 at *
    generalize Lib.trimPrefix t opn = r1 at *
    generalize Lib.hasSuffix r1 cls = q2 at *
    generalize Lib.trimSuffix r1 cls = r2 at *
    simp only [List.zip_toArray, List.zip_cons_cons, List.zip_nil_right, List.foldl_toArray, List.foldl_cons, List.foldl_nil, List.setIfInBounds_toArray, List.set_cons_zero, List.set_cons_succ]
    gi_wp2
    refine hK _ _ (Kept.refl V) (fun W2 v2 d2 => ?_)
    have H2 := Lib.hid (H.out.turn hT (Nat.le_refl _) (by omega) d2)
    clear H v2 d2 hK
    gi_wp2_with fail
    refine ⟨trivial, ?_⟩
    refine (callsIn_wide.2 (HC1.out _)).mono ?_
    rintro e W3 ⟨rfl, rfl⟩
    gi_wp2_with fail
    refine ⟨trivial, ?_⟩
    refine (callsIn_wide.2 (HC2.out _)).mono ?_
    rintro e W3 ⟨rfl, rfl⟩
    gi_wp2_with fail
    refine ⟨trivial, ?_⟩
    refine (callsIn_wide.2 (bytes_any r2 _ (by omega))).mono ?_
    rintro e W4 ⟨xv, rfl, ⟨av, hO, rfl⟩, k4⟩
    have H4 := Lib.hid (H2.out.kept k4)
    have S4 := Lib.hid (Save.of_kept (DcM T w.heap.size W1.heap.size) k4)
    have hbE : Bx.B := []
    cases hy : byt r2 with
    | none =>
      have HN := Lib.hid (show parts ws = none from parts_none HT.out (by rw [HST.out, hy]; split <;> rfl))
      rw [bE_none hy]
      obtain ⟨va, vc, hvv⟩ := own_slice hO
      subst hvv
      clear hO hy k4
      have e0 := H4.out.sb.c
      have f1 := H4.out.rb.frz
      have e1 := H4.out.rb.c
      have N3 := Lib.hid (show DcX w.heap.size W1.heap.size w (W4.setCell ⟨w.heap.size + 1, 0, none⟩ (sV s)) s s from ⟨H4.out.rb.set _, H4.out.k.setCell (a := ⟨w.heap.size + 1, 0, none⟩) (by simp) _⟩)
      have SV := Lib.hid (S4.out.trans (Save.set (A := W4) (p := ⟨w.heap.size + 1, 0, none⟩) (sV s) (M := DcM T w.heap.size W1.heap.size) (fun o ho => by have := H4.out.rb; unfold Bv at this; rw [this] at ho; cases ho; exact ⟨rfl, fun q => by have := hT _ q; simp only at this; omega, Or.inl rfl⟩)))
      cases q1 <;> cases q2 <;> (gi_wp2; exact ⟨SV.out, rfl, HN.out, N3.out⟩)
    | some z =>
      rw [bE_some hy]
      have hzl := Bx.byt_len hy
      have hO : OwnB W3.heap.size av z W4 := by rw [hy] at hO; exact hO
      by_cases hq : q1 = true ∧ q2 = true
      · obtain ⟨rfl, rfl⟩ := hq
        have HP2 := Lib.hid (show parts (ws.take (k + 1)) = some (D ++ z) by rw [HPT.out, HST.out, if_pos ⟨rfl, rfl⟩, hy]; rfl)
        have HZ := Lib.hid hO.rd
        obtain ⟨va, vc, hvv⟩ := own_slice hO
        subst hvv
        clear hO hy k4 HPT HST
        have e0 := H4.out.mb.c
        obtain ⟨ua, uc, huv⟩ := H4.out.ow.slice
        subst huv
        have hsz4 := H4.out.sz
        gi_wp2_with (gi_at_builtin; refine wpListIn_sliceM rfl _ _ rfl W1.heap.size _ _ D z rfl H4.out.ow rfl HZ.out (by omega) hsz4 ?_)
        intro v6 y hy hgy hnb
        have ub : ∀ j, j < W1.heap.size → (Value.slice ua D.length uc).ownBlock ≠ some j := fun j hj e' => by
          have := (H4.out.ow.lt j e').1
          omega
        have g6 := H4.out.mb.grown hgy (ub _ (by omega))
        have q6 := g6.c
        have f6 := g6.frz
        have N6 := Lib.hid (show DcI w.heap.size W1.heap.size v6 (D ++ z) s w (y.setCell ⟨w.heap.size + 2, 0, none⟩ v6) from ⟨(H4.out.sb.grown hgy (ub _ (by omega))).other (by omega) _ _, (H4.out.rb.grown hgy (ub _ (by omega))).other (by omega) _ _, g6.set _, hy.set _ _ _ (by omega), (kept_row H4.out.k hgy (fun g hg' => by have := (H4.out.ow.lt g hg').1; omega)).setCell (by simp) _, by have := hgy.size; simp [World.setCell]; omega⟩)
        have S6 := Lib.hid (S4.out.trans (save_row (V := W4) (j := w.heap.size + 2) (i := 0) (x := v6) (M := DcM T w.heap.size W1.heap.size) hgy (fun g o hg ho => by
          obtain ⟨cs, fz, hc⟩ := H4.out.ow.kind g hg
          rw [hc] at ho
          cases ho
          have hgl2 := (H4.out.ow.lt g hg).1
          exact ⟨rfl, fun q => by have := hT _ q; omega, Or.inr (Or.inr hgl2)⟩) (fun o ho => by
          have := H4.out.mb
          unfold Bv at this
          rw [this] at ho
          cases ho
          exact ⟨rfl, fun q => by have := hT _ q; omega, Or.inr (Or.inl rfl)⟩)))
        obtain ⟨va6, vc6, hv6⟩ := hy.slice
        clear hy hgy hnb g6 e0 H4 S4 HZ ub
        generalize D ++ z = D2 at *
        subst hv6
        gi_wp2
        exact ⟨S6.out, _, D2, HP2.out, N6.out⟩
      · have HN := Lib.hid (show parts ws = none from parts_none HT.out (by rw [HST.out, if_neg hq]))
        obtain ⟨va, vc, hvv⟩ := own_slice hO
        subst hvv
        clear hO hy k4 HPT HST
        have e0 := H4.out.sb.c
        have f1 := H4.out.rb.frz
        have e1 := H4.out.rb.c
        have N3 := Lib.hid (show DcX w.heap.size W1.heap.size w (W4.setCell ⟨w.heap.size + 1, 0, none⟩ (sV s)) s s from ⟨H4.out.rb.set _, H4.out.k.setCell (a := ⟨w.heap.size + 1, 0, none⟩) (by simp) _⟩)
        have SV := Lib.hid (S4.out.trans (Save.set (A := W4) (p := ⟨w.heap.size + 1, 0, none⟩) (sV s) (M := DcM T w.heap.size W1.heap.size) (fun o ho => by have := H4.out.rb; unfold Bv at this; rw [this] at ho; cases ho; exact ⟨rfl, fun q => by have := hT _ q; simp only at this; omega, Or.inl rfl⟩)))
        cases q1 with
        | false => gi_wp2; exact ⟨SV.out, rfl, HN.out, N3.out⟩
        | true =>
          cases q2 with
          | false => gi_wp2; exact ⟨SV.out, rfl, HN.out, N3.out⟩
          | true => exact absurd ⟨rfl, rfl⟩ hq
  case done =>
    rintro k V hend ⟨u, D, hD, h⟩ hv hKd
    subst hend
    rw [List.take_length] at hD
    have HQ := Lib.hid (HS1.out D hD)
    have e0 := h.mb.c
    have hcv := h.ow.rd.conv
    have f1 := h.rb.frz
    have e1 := h.rb.c
    have n0 := Lib.hid (h.rb.set (sV D))
    have K9 := Lib.hid (h.k.setCell (a := ⟨w.heap.size + 1, 0, none⟩) (by simp) (sV D))
    obtain ⟨ua, uc, huv⟩ := h.ow.slice
    subst huv
    clear h hv hD
    gi_wp2
    refine ⟨by simp, .inl ⟨_, _, rfl, run_takeDeferred (set_other hKd (by simp only; omega)), ?_⟩⟩
    have vz : Save (fun k _ => k = W1.heap.size) (V.setCell ⟨w.heap.size + 1, 0, none⟩ (sV D)) _ := Save.put (.deferred none) (fun _ _ => rfl)
    have cz0 := (n0.out.save vz (by omega)).c
    exact ⟨sV D, by simp [results, Tryz.results133, go_sem, cz0], by rw [HQ.out], kept_put K9.out (by omega) _⟩
  case stop =>
    rintro q k V ⟨rfl, hq, h2⟩ hv hKd
    have HQ := Lib.hid (HS2.out hq)
    have n0 := Lib.hid h2.rb
    have K9 := Lib.hid h2.k
    clear h2 hv hq
    gi_wp2
    refine ⟨by simp, .inl ⟨_, _, rfl, run_takeDeferred hKd, ?_⟩⟩
    have vz : Save (fun k _ => k = W1.heap.size) V _ := Save.put (.deferred none) (fun _ _ => rfl)
    have cz0 := (n0.out.save vz (by omega)).c
    exact ⟨sV s, by simp [results, Tryz.results133, go_sem, cz0], by rw [HQ.out], kept_put K9.out (by omega) _⟩
end Go.Proofs.YtjlpkgipdkjfhaaGreatDoor.Bk.Hd
namespace Go.Proofs.YtjlpkgipdkjfhaaGreatDoor.Bk.Hd
open Go.ChangeShapes Go.WideShapes Go.ChangeAt Go.RowKit Go.Shelf
theorem cut_le (l t : B) : (Lib.cut l t).1.length ≤ l.length ∧ (Lib.cut l t).2.1.length ≤ l.length := by
  unfold Lib.cut
  split
  · simp; omega
  · simp
theorem hdr_le1 (l : B) : (hdr l).1.length ≤ l.length := (cut_le l [58]).1
theorem parts_sum : ∀ (ws : List B) (D : B), parts ws = some D → D.length ≤ sumW ws
  | [], D, h => by cases h; simp [sumW]
  | w :: ws, D, h => by
    rw [parts] at h
    cases hd : decW w with
    | none => rw [hd] at h; cases h
    | some p =>
      rw [hd] at h
      simp only [Option.map_eq_some_iff] at h
      obtain ⟨D', h1, rfl⟩ := h
      have := parts_sum ws D' h1
      have := decW_len hd
      rw [sumW, List.length_append]; omega
theorem dcd_le (s : B) : (dcd s).length ≤ 3 * s.length + 3 := by
  unfold dcd
  cases h : parts (splt 32 s) with
  | none => simp; omega
  | some D =>
    have h1 := parts_sum _ D h
    have h2 := sumW_splt _ s (Nat.le_refl _)
    simp; omega
theorem hdr_le2 (l : B) : (hdr l).2.length ≤ 3 * l.length + 3 := by
  have h1 := dcd_le (Lib.trimPrefix (Lib.cut l [58]).2.1 [32])
  have h2 := tp_le (Lib.cut l [58]).2.1 [32]
  have h3 := (cut_le l [58]).2
  unfold hdr
  simp only
  omega
theorem kept_setRow {w x : World} (h : Kept w x) {g : Nat} (hg : w.heap.size ≤ g) (cs : Array Value) : Kept w (x.setRow g cs) :=
  ⟨h.os, h.output, by simpa using h.size, fun k hk => (setRow_other _ _ _ _ (by omega)).trans (h.block k hk), h.tape⟩
abbrev z2H : Array Value := #[sV [], sV []]
set_option maxRecDepth 100000 in
set_option maxHeartbeats 4000000 in
theorem header_any (l : B) (w : World) (hE : Env w) (hl : l.length ≤ 1000000) : Calls Tryz.prog 89 #[sV l] w fun e w' => e = .returned (hV (hdr l)) ∧ Kept w w' := by
  have hb : (w.alloc (.cells z2H 41)).heap[w.heap.size]? = some (.cells z2H 41) := World.alloc_heap_new w _
  have kb := (Kept.refl w).alloc (.cells z2H 41)
  have hcl := cut_le l [58]
  have HC := Lib.hid (fun w hE => cutAt_any l [58] w hE (by omega))
  have HH := Lib.hid (show hdr l = ((Lib.cut l [58]).1, dcd (Lib.trimPrefix (Lib.cut l [58]).2.1 [32])) from rfl)
  have hE1 := hE.kept kb
  generalize hdr l = res at *
  generalize (Lib.cut l [58]).1 = n at *
  generalize (Lib.cut l [58]).2.1 = t at *
  generalize (Lib.cut l [58]).2.2 = q at *
  have htp := tp_le t [32]
  have HT := Lib.hid (fun w => trimPrefix_any t [32] w)
  have HD := Lib.hid (fun w hE => decoded_any (Lib.trimPrefix t [32]) w hE (by omega))
  generalize Lib.trimPrefix t [32] = t2 at *
  generalize dcd t2 = d at *
  obtain rfl := HH.out
  have HE := Lib.hid hE1
  have HB := Lib.hid hb
  have KB := Lib.hid kb
  clear hE hE1 hb kb HH
  go_enter Tryz.func89, Tryz.ntmps89
  go_upto_region 1 with (fail)
  generalize w.alloc (.cells z2H 41) = x at *
  go_wp2_with fail
  refine (HC.out _ HE.out).mono ?_
  rintro e x1 ⟨rfl, k1⟩
  go_wp2_with fail
  refine (HT.out _).mono ?_
  rintro e x2 ⟨rfl, rfl⟩
  go_wp2_with fail
  refine (HD.out _ (HE.out.kept k1)).mono ?_
  rintro e x3 ⟨rfl, k3⟩
  have k13 := k1.trans k3
  have hb3 : x3.heap[w.heap.size]? = some (.cells z2H 41) := (k13.block _ (Array.getElem?_eq_some_iff.1 HB.out).1).trans HB.out
  have K3 := Lib.hid (KB.out.trans k13)
  clear k1 k3 k13
  go_wp2_with (refine wpList_store_row rfl 41 _ _ rfl w.heap.size _ rfl rfl 41 _ hb3 (by kernel_rfl) rfl (by simp [Value.oneCell']) ?_)
  exact bodyPost_ret (v := hV (n, d)) (results_cell_row Tryz.results89 _ _ w.heap.size 41 _ (0, 0) _ rfl (setRow_heap _ _ _ _ _ _ hb3) Tryz.underlying41 rfl (by kernel_rfl)) rfl ⟨rfl, kept_setRow K3.out (Nat.le_refl _) _⟩
end Go.Proofs.YtjlpkgipdkjfhaaGreatDoor.Bk.Hd
namespace Go.Proofs.YtjlpkgipdkjfhaaGreatDoor.Bk.Hd
open Go.ChangeShapes Go.WideShapes Go.ChangeAt Go.RowKit Go.Shelf
abbrev fV (f : Nat) : Value := .func (.func f) #[] #[]
end Go.Proofs.YtjlpkgipdkjfhaaGreatDoor.Bk.Hd
