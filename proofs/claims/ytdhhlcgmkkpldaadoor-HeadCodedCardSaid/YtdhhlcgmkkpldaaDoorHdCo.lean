/- Package head: all words of a text. -/
import Derived.Test.YtdhhlcgmkkpldaaDoorHdCw
set_option linter.unusedSimpArgs false
set_option linter.unusedVariables false
namespace Go.Proofs.YtdhhlcgmkkpldaaDoor.Hd
open Go.ChangeShapes Go.WideShapes Go.ChangeAt Go.RowKit Go.Shelf
attribute [local go_sem] Oper.semAt_some
theorem kept_below {w x y : World} (h : Kept w x) {n : Nat} (k : Below n x y) (hn : w.heap.size ≤ n) : Kept w y :=
  ⟨k.os.trans h.os, k.output.trans h.output, Nat.le_trans h.size k.size, fun j hj => (k.block j (by omega)).trans (h.block j hj), k.tape.trans h.tape⟩
theorem below_save {n : Nat} {w A B : World} {M : Nat → Obj → Prop} (h : Below n w A) (k : Save M A B) (hn : n ≤ A.heap.size) (hm : ∀ j o, j < n → ¬ M j o) : Below n w B :=
  ⟨k.os.trans h.os, k.tape.trans h.tape, k.output.trans h.output, Nat.le_trans h.size k.size, fun j hj => by
    obtain ⟨ob, hob⟩ := at_some (A := A) (k := j) (by omega)
    rw [k.block j ob hob (hm j ob hj), ← hob, h.block j hj]⟩
/-- where the list lies that is made -/
structure AsI (B0 b n1 : Nat) (v : Value) (ls : List B) (w V : World) : Prop where
  bx : Bv 32 b v V
  ow : OwnS n1 v ls V
  k : Below B0 w V
  sz : n1 ≤ V.heap.size
theorem AsI.turn {B0 b n1 : Nat} {v : Value} {ls : List B} {w V V' : World} {T : Nat → Prop} (h : AsI B0 b n1 v ls w V) (k : Save (Itn T n1) V V') (hT : ∀ k, T k → B0 ≤ k ∧ k < b) (hb : b < n1) (hB : B0 ≤ b) : AsI B0 b n1 v ls w V' := by
  have hsz := h.sz
  refine ⟨h.bx.save k (fun q => ?_), own_turn h.ow k (fun g c hg q => ?_), below_save h.k k (by omega) (fun j o hj q => ?_), Nat.le_trans h.sz k.size⟩
  · rcases q with q | q
    · have := hT _ q; omega
    · omega
  · rcases q with q | q
    · have := hT _ q; omega
    · cases q.2
  · rcases q with q | q
    · have := hT _ q; omega
    · omega
theorem AsI.kept {B0 b n1 : Nat} {v : Value} {ls : List B} {w V V' : World} (h : AsI B0 b n1 v ls w V) (k : Kept V V') (hB : B0 ≤ n1) : AsI B0 b n1 v ls w V' :=
  ⟨h.bx.kept k, OwnS.kept h.ow k, h.k.trans (k.below (by have := h.sz; omega)), Nat.le_trans h.sz k.size⟩
set_option maxRecDepth 100000 in
set_option maxHeartbeats 4000000 in
theorem appendSeq_any (B0 : Nat) (v : Value) (ws : List B) (w : World) (hE : Env w) (hv : SeqV B0 v ws w) (hB : B0 ≤ w.heap.size) (hl : ws.length ≤ 5000000) :
    Calls Tryd.prog 42 #[.slice none 0 0, v] w fun e w' => ∃ v', e = .returned v' ∧ OwnS w.heap.size v' ws w' ∧ Below B0 w w' := by
  obtain ⟨gf, lb, T, cap, rfl, h2, h3, h4, h5, h6⟩ := hv
  have b0 := Bv.new w (.slice none 0 0) 32
  have k0 := (Kept.refl w).alloc (.cells #[.slice none 0 0] 32)
  have s0 : (w.alloc (.cells #[.slice none 0 0] 32)).heap.size = w.heap.size + 1 := by simp
  have hg := env_lt hE
  clear hE
  refine (callsIn_wide (n := 9)).1 ?_
  refine callsIn_of_wp_marks Tryd.func42 rfl trivial ?_ rfl
  simp only [Tryd.ntmps42, List.size_toArray, List.length_cons, List.length_nil, Nat.reduceAdd, Nat.reduceSub, Array.replicate_succ, Array.replicate_zero, List.push_toArray, List.append_toArray, List.nil_append, List.cons_append]
  gi_upto_region 1 with (fail)
  generalize w.alloc (.cells #[.slice none 0 0] 32) = X at *
  have F0 : AsI B0 w.heap.size (w.heap.size + 1) (.slice none 0 0) [] w X := ⟨b0, OwnS.nil _ _, k0.below hB, by omega⟩
  clear b0
  gi_wp2
  refine range_itr (n := 9) (gf := gf) (lb := lb) rfl h2 (T := T) (R := RdE) (fun k hk => by have := h6 k hk; omega) (fun k hk => by obtain rfl : k = 0 := hk; omega)
    h3 (fun s arr s' hs => by obtain ⟨_, _, rfl, _⟩ := hs; rfl)
    (fun k o => o.isCells = true ∧ (k = w.heap.size ∨ (w.heap.size + 1) ≤ k)) (fun k o hk => ⟨⟨fun q => by have := h6 k q; omega, fun q => by obtain rfl : k = 0 := q; omega⟩, hk.1⟩) (h5 _ _ k0 h4) h5
    (fun k V => ∃ u, AsI B0 w.heap.size (w.heap.size + 1) u (ws.take k) w V)
    (fun _ _ _ => False)
    ?hI ?hIx ⟨_, F0⟩ ?round ?done ?stop
  case hI =>
    rintro k A B ⟨u, h⟩ kb
    rw [s0] at kb
    exact ⟨u, h.turn kb h6 (by omega) hB⟩
  case hIx =>
    rintro q k A B h kb
    exact h
  case stop =>
    rintro c s W h _ _
    exact h.elim
  case round =>
    rintro lo k arr k' V ⟨t, ht, rfl, rfl⟩ ⟨u, h⟩ hsz K hK
    have H := Lib.hid h
    have HT := Lib.hid (show ws.take (k + 1) = ws.take k ++ [t] by rw [List.take_add_one, ht]; rfl)
    have hkl : (ws.take k).length ≤ 5000000 := by simp; omega
    clear h ht
    generalize ws.take k = ls at *
    simp only [List.zip_toArray, List.zip_cons_cons, List.zip_nil_right, List.foldl_toArray, List.foldl_cons, List.foldl_nil, List.setIfInBounds_toArray, List.set_cons_zero, List.set_cons_succ]
    gi_wp2
    refine hK _ _ (Kept.refl V) (fun W2 v2 d2 => ?_)
    rw [s0] at d2
    have H2 := Lib.hid (H.out.turn d2 h6 (by omega) hB)
    clear H v2 d2 hK
    obtain ⟨va, vc, hvv⟩ := own_slice H2.out.ow
    subst hvv
    have e0 := H2.out.bx.c
    have hal := (Kept.refl W2).alloc (.cells #[sV t] 9)
    have H3 := Lib.hid (H2.out.kept hal (by omega))
    have S3 := Lib.hid (Save.of_kept (fun k o => o.isCells = true ∧ (k = w.heap.size ∨ (w.heap.size + 1) ≤ k)) hal)
    have hc3 := (Kept.refl (W2.alloc (.cells #[sV t] 9))).new 0 (v := sV t) rfl
    have hsz3 := H3.out.sz
    clear hal
    gi_wp2_with (gi_at_builtin; refine wpListIn_pushS rfl _ _ rfl (w.heap.size + 1) _ ls t W2.heap.size rfl H3.out.ow rfl hc3 (by omega) hsz3 ?_)
    intro v4 y hy hgy
    have ub : ∀ j, j < (w.heap.size + 1) → (Value.slice va ls.length vc).ownBlock ≠ some j := fun j hj e' => by
      have := (World.ownsRow.lt H3.out.ow j e').1
      omega
    have g4 := H3.out.bx.grown hgy (ub _ (by omega))
    have e4 := g4.c
    have f4 := g4.frz
    have N4 := Lib.hid (show AsI B0 w.heap.size (w.heap.size + 1) v4 (ls ++ [t]) w (y.setCell ⟨w.heap.size, 0, none⟩ v4) from ⟨g4.set _, own_set hy _ _ _ (by omega), ?_, ?_⟩)
    · have S4 := Lib.hid (S3.out.trans (save_row (V := W2.alloc (.cells #[sV t] 9)) (j := w.heap.size) (i := 0) (x := v4) (M := fun k o => o.isCells = true ∧ (k = w.heap.size ∨ (w.heap.size + 1) ≤ k)) hgy (fun g o hg ho => by
        obtain ⟨cs, hc⟩ := own_kind H3.out.ow g hg
        rw [hc] at ho
        cases ho
        exact ⟨rfl, Or.inr (World.ownsRow.lt H3.out.ow g hg).1⟩) (fun o ho => by
        have := H3.out.bx
        unfold Bv at this
        rw [this] at ho
        cases ho
        exact ⟨rfl, Or.inl rfl⟩)))
      obtain ⟨va4, vc4, hv4⟩ := own_slice hy
      rw [show (ls ++ [t]).length = ls.length + 1 by simp] at hv4
      subst hv4
      clear hy hgy g4 e0 hc3 hsz3 H3 S3
      gi_wp2
      exact ⟨S4.out, _, by rw [HT.out]; exact N4.out⟩
    · exact ⟨hgy.os.trans H3.out.k.os, hgy.tape.trans H3.out.k.tape, hgy.output.trans H3.out.k.output, by have := hgy.size; have := H3.out.k.size; simp [World.setCell] at *; omega, fun j hj => by
        rw [Below.heap_setCell _ _ _ _ (show j ≠ w.heap.size by omega), hgy.block j (by omega) (fun e => ub j (by omega) e.symm), H3.out.k.block j hj]⟩
    · have := hgy.size; simp [World.setCell]; omega
  case done =>
    rintro k V hend ⟨u, h⟩ hv hK
    subst hend
    rw [List.take_length] at h
    have H := Lib.hid h
    have e0 := h.bx.c
    obtain ⟨va, vc, hvv⟩ := own_slice h.ow
    subst hvv
    have HK := Lib.hid hK
    clear h hv hK
    gi_wp2
    refine ⟨by simp, .inl ⟨_, _, rfl, run_takeDeferred HK.out, ?_⟩⟩
    refine ⟨.slice va ws.length vc, by simp [results, Tryd.results42, go_sem], _, rfl, ?_, ?_⟩
    · refine own_mono (own_turn H.out.ow (Save.put (M := fun k o => k = X.heap.size ∧ o.isCells = false) _ (fun o' ho => by rw [HK.out] at ho; cases ho; exact ⟨rfl, rfl⟩)) (fun g c _ q => by cases q.2)) (by omega)
    · exact below_save H.out.k (Save.put (M := fun k o => k = X.heap.size) _ (fun _ _ => rfl)) (by have := H.out.sz; omega) (fun j o hj q => by omega)
theorem collect_any (B0 : Nat) (v : Value) (ws : List B) (w : World) (hE : Env w) (hv : SeqV B0 v ws w) (hB : B0 ≤ w.heap.size) (hl : ws.length ≤ 5000000) :
    Calls Tryd.prog 26 #[v] w fun e w' => ∃ v', e = .returned v' ∧ OwnS w.heap.size v' ws w' ∧ Below B0 w w' := by
  have HC := Lib.hid (appendSeq_any B0 v ws w hE hv hB hl)
  obtain ⟨gf, lb, T, cap, rfl, h2, h3, h4, h5, h6⟩ := hv
  clear h2 h3 h4 h5 h6 hE
  go_enter Tryd.func26, Tryd.ntmps26
  go_wp2_with fail
  refine HC.out.mono ?_
  rintro e w1 ⟨u, rfl, hu, kb⟩
  obtain ⟨va, vc, hvv⟩ := own_slice hu
  subst hvv
  have HU := Lib.hid hu
  clear hu
  go_wp2
  go_ret
  exact ⟨_, rfl, HU.out, kb⟩
theorem allWords_any (s : B) (w : World) (hE : Env w) (hl : s.length ≤ 200000) : Calls Tryd.prog 13 #[sV s] w fun e w' => ∃ v, e = .returned v ∧ OwnS w.heap.size v (wds s) w' ∧ Kept w w' := by
  have HW := Lib.hid (words_any s w hE (by omega))
  have HE := Lib.hid hE
  have h1 := sumW_wds s
  have h2 := (sumW_len (wds s)).1
  have h3 : (wds s).length ≤ 5000000 := by omega
  clear hE h1 h2
  generalize wds s = ws at *
  go_enter Tryd.func13, Tryd.ntmps13
  go_wp2_with fail
  refine HW.out.mono ?_
  rintro e w1 ⟨v, rfl, hv, k1⟩
  have HC := Lib.hid (collect_any w.heap.size v ws w1 (HE.out.kept k1) hv k1.size h3)
  obtain ⟨gf, lb, T, cap, rfl, _⟩ := hv
  go_wp2_with fail
  refine HC.out.mono ?_
  rintro e w2 ⟨u, rfl, hu, kb⟩
  have hu2 := own_mono hu k1.size
  obtain ⟨va, vc, hvv⟩ := own_slice hu
  subst hvv
  have HU := Lib.hid hu2
  have KK := Lib.hid (kept_below k1 kb (Nat.le_refl _))
  clear hu hu2 HC
  go_wp2
  go_ret
  exact ⟨_, rfl, HU.out, KK.out⟩
end Go.Proofs.YtdhhlcgmkkpldaaDoor.Hd
