/- Package plain: lines, wrapped. -/
import Derived.Test.YtpkbcomdkamglaaDoorPlQr
set_option linter.unusedSimpArgs false
set_option linter.unusedVariables false
namespace Go.Proofs.YtpkbcomdkamglaaDoor.Pl
open Go.ChangeShapes Go.WideShapes Go.ChangeAt Go.RowKit Go.Shelf
open En
attribute [local go_sem] Oper.semAt_some
structure WrI (h0 h1 n1 : Nat) (most : Int) (v : Value) (ls : List B) (w V : World) : Prop where
  m : Bv 3 h0 (iV most) V
  lb : Bv 25 h1 v V
  lo : OwnS n1 v ls V
  k : Kept w V
  sz : n1 ≤ V.heap.size
section
variable {h0 h1 n1 : Nat} {most : Int} {v : Value} {ls : List B} {w V : World} {T : Nat → Prop}
theorem WrI.kept {V' : World} (h : WrI h0 h1 n1 most v ls w V) (k : Kept V V') : WrI h0 h1 n1 most v ls w V' :=
  ⟨h.m.kept k, h.lb.kept k, OwnS.kept h.lo k, h.k.trans k, Nat.le_trans h.sz k.size⟩
theorem WrI.turn {h2 : Nat} {V' : World} (c : Cx w T h0 h1 h2 n1) (h : WrI h0 h1 n1 most v ls w V) (k : Save (Itn T n1) V V') : WrI h0 h1 n1 most v ls w V' := by
  have a1 := c.a1; have a2 := c.a2; have a3 := c.a3; have a0 := c.a0
  have no : ∀ j o, j ≤ h2 → ¬ Itn T n1 j o := fun j o hj q => by
    rcases q with q | q
    · exact c.no (Or.inl hj) q
    · omega
  refine ⟨bv_save h.m k (no _ _ (by omega)), bv_save h.lb k (no _ _ (by omega)), own_turn h.lo k (fun g cs hg q => ?_), ?_, Nat.le_trans h.sz k.size⟩
  · rcases q with q | q
    · exact c.no (Or.inr hg) q
    · cases q.2
  · refine ⟨k.os.trans h.k.os, k.output.trans h.k.output, Nat.le_trans h.k.size k.size, fun j hj => ?_, k.tape.trans h.k.tape⟩
    obtain ⟨ob, hob⟩ := at_some (A := V) (k := j) (Nat.lt_of_lt_of_le hj h.k.size)
    rw [k.block j ob hob (no j ob (by omega)), ← hob, h.k.block j hj]
theorem WrI.pushL {h2 : Nat} {y : World} {v' : Value} {rs : List B} (c : Cx w T h0 h1 h2 n1) (h : WrI h0 h1 n1 most v ls w V) (ho : OwnS n1 v' (ls ++ rs) y) (hg : V.grownBy y v.ownBlock) :
    WrI h0 h1 n1 most v' (ls ++ rs) w (y.setCell ⟨h1, 0, none⟩ v') ∧ Save (Mf T h1 h2 n1) V (y.setCell ⟨h1, 0, none⟩ v') := by
  have a1 := c.a1; have a2 := c.a2; have a3 := c.a3; have a0 := c.a0
  have ub := ub_of h.lo
  refine ⟨⟨bv_other (bv_grown h.m hg (ub _ (by omega))) (by omega) _ _, bv_set (bv_grown h.lb hg (ub _ (by omega))) _, own_set ho _ _ _ (by omega), ?_, ?_⟩, save_row hg (mf_row c h.lo) (mf_box c h.lb (Or.inl rfl))⟩
  · exact (kept_row h.k hg (fun g hg' => by have := (World.ownsRow.lt h.lo g hg').1; omega)).setCell (by simp only; omega) _
  · have := hg.size; have := h.sz; simp [World.setCell]; omega
end
theorem wrp_take {ts : List B} {k : Nat} {t : B} (f : B → List B) (h : ts[k]? = some t) : (ts.take (k + 1)).flatMap f = (ts.take k).flatMap f ++ f t := by
  rw [List.take_add_one, h, List.flatMap_append]; simp
theorem flat_bd (f : B → List B) (M : Nat) : ∀ (ts : List B), (∀ t ∈ ts, (f t).length ≤ M) → (ts.flatMap f).length ≤ ts.length * M
  | [], _ => by simp
  | t :: ts, h => by
    have h1 := h t (by simp)
    have h2 := flat_bd f M ts (fun x hx => h x (by simp [hx]))
    rw [List.flatMap_cons, List.length_append, List.length_cons, Nat.add_mul]; omega
theorem wds_len (l : B) : (wds l).length ≤ l.length + 1 := by
  have h1 := splt_len 32 (tr l)
  have h2 := tr_le l
  unfold wds; split
  · simp
  · omega
set_option maxRecDepth 100000 in
set_option maxHeartbeats 4000000 in
theorem wrap_any (l : B) (most : Int) (w : World) (hE : Env w) (hl : l.length ≤ 100000) :
    Calls Tryd.prog 9 #[.string ⟨l.toArray⟩, .int .i64 most] w fun e w' => ∃ v, e = .returned v ∧ OwnS w.heap.size v (wrp most l) w' ∧ Kept w w' := by
  by_cases hm : most < 1
  · have HR := Lib.hid (show wrp most l = [] by unfold wrp; rw [if_pos hm])
    have b0 := Bv.new w (iV most) 3
    have k0 := (Kept.refl w).alloc (.cells #[iV most] 3)
    go_enter Tryd.func9, Tryd.ntmps9
    go_upto_region 1 with (fail)
    generalize w.alloc (.cells #[iV most] 3) = x0 at *
    have c0 := b0.c
    have K0 := Lib.hid k0
    clear k0 b0
    go_wp2
    go_ret
    exact ⟨_, rfl, by rw [HR.out]; exact World.ownsRow_nil _ _ _ _, K0.out⟩
  have HR := Lib.hid (show wrp most l = (splt 10 l).flatMap fun x => fil most (wds x) [] by unfold wrp; rw [if_neg hm])
  have HE := Lib.hid hE
  generalize wrp most l = res at *
  clear hE
  have b0 := Bv.new w (iV most) 3
  have k0 := (Kept.refl w).alloc (.cells #[iV most] 3)
  have s0 : (w.alloc (.cells #[iV most] 3)).heap.size = w.heap.size + 1 := by simp
  refine (callsIn_wide (n := 9)).1 ?_
  refine callsIn_of_wp_marks Tryd.func9 rfl trivial ?_ rfl
  simp only [Tryd.ntmps9, List.size_toArray, List.length_cons, List.length_nil, Nat.reduceAdd, Nat.reduceSub, Array.replicate_succ, Array.replicate_zero, List.push_toArray, List.append_toArray, List.nil_append, List.cons_append]
  gi_upto_region 1 with (fail)
  generalize w.alloc (.cells #[iV most] 3) = x0 at *
  have c0 := b0.c
  have b1 := Bv.new x0 (.slice none 0 0) 25
  have k1 := (Kept.refl x0).alloc (.cells #[.slice none 0 0] 25)
  have s1 : (x0.alloc (.cells #[.slice none 0 0] 25)).heap.size = x0.heap.size + 1 := by simp
  have b01 := b0.kept k1
  rw [s0] at b1 s1
  have K1 := k0.trans k1
  gi_upto_region 4 with (fail)
  generalize x0.alloc (.cells #[.slice none 0 0] 25) = x1 at *
  clear b0 k0 k1 s0 c0
  gi_wp2_with fail
  refine ⟨trivial, ?_⟩
  refine (callsIn_wide.2 (splitSeq_any 10 l _)).mono ?_
  rintro e W1 ⟨a, b, d, rfl, hC, k4, ⟨ha, hb, hd⟩, ⟨ha1, hb1, hd1⟩, hba, hbd⟩
  gi_wp2
  have hz4 := k4.size
  have cx : Cx w (SqT a b d) w.heap.size (w.heap.size + 1) (w.heap.size + 1) W1.heap.size :=
    ⟨Nat.le_refl _, by omega, by omega, by omega, fun k hk => by rcases hk with rfl | rfl | rfl <;> omega⟩
  have F0 : WrI w.heap.size (w.heap.size + 1) W1.heap.size most (.slice none 0 0) [] w W1 := ⟨b01.kept k4, b1.kept k4, World.ownsRow_nil _ _ _ _, K1.trans k4, Nat.le_refl _⟩
  clear b01 b1 K1 k4
  have hwl : ∀ t ∈ splt 10 l, t.length ≤ 100000 := fun t ht => by have := (splt_mem l t ht).2; omega
  have hwn := splt_len 10 l
  have HIt := split_itr 10 l (by omega) a b d hba hbd
  have hfb : ∀ t ∈ splt 10 l, (fil most (wds t) []).length ≤ 100002 := fun t ht => by
    have := hwl t ht
    have := wds_len t
    have := fil_len most (wds t) []
    omega
  generalize splt 10 l = ts at *
  refine range_itr (n := 9) (gf := 42) (lb := #[.pointer (some ⟨a, 0, none⟩), .pointer (some ⟨b, 0, none⟩), .pointer (some ⟨d, 0, none⟩)]) rfl (enters_of Tryd.func42 (by kernel_rfl) rfl) (T := SqT a b d) (fun k hk => (cx.t k hk).2)
    HIt (fun s arr s' hs => by obtain ⟨_, _, rfl, _⟩ := hs; rfl)
    (Mf (SqT a b d) (w.heap.size + 1) (w.heap.size + 1) W1.heap.size) (fun k o hk => ⟨hk.2.1, hk.1⟩) hC (fun A B k h => h.kept k)
    (fun k V => ∃ v, WrI w.heap.size (w.heap.size + 1) W1.heap.size most v ((ts.take k).flatMap fun x => fil most (wds x) []) w V)
    (fun _ _ _ => False)
    ?hI ?hIx ⟨_, F0⟩ ?round ?done ?stop
  case hI =>
    rintro k A B ⟨v, h⟩ kb
    exact ⟨v, h.turn cx kb⟩
  case hIx =>
    rintro q k A B h kb
    exact h
  case stop =>
    rintro c s W h _ _
    exact h.elim
  case done =>
    rintro k V hend ⟨v, h⟩ hv hK
    subst hend
    rw [List.take_length, ← HR.out] at h
    have e1 := h.lb.c
    obtain ⟨va, vc, hvv⟩ := own_slice h.lo
    have HO := Lib.hid (own_mono (own_deferred h.lo hK (.deferred none)) (show w.heap.size ≤ W1.heap.size by have := cx.a1; have := cx.a2; have := cx.a3; omega))
    have HK := Lib.hid (kept_put h.k (show w.heap.size ≤ W1.heap.size by have := cx.a1; have := cx.a2; have := cx.a3; omega) (.deferred none))
    subst hvv
    clear h hv
    gi_wp2
    refine ⟨by simp, .inl ⟨_, _, rfl, run_takeDeferred hK, ?_⟩⟩
    exact ⟨.slice va res.length vc, by simp [results, Tryd.results9, go_sem], _, rfl, HO.out, HK.out⟩
  case round =>
    rintro lo k arr k' V ⟨t, ht, rfl, rfl⟩ ⟨v, h⟩ hsz K hK
    have HS := Lib.hid (wrp_take (fun x => fil most (wds x) []) ht)
    have htm := List.mem_of_getElem? ht
    have htl := hwl t htm
    have htf := hfb t htm
    have hlb := flat_bd (fun x => fil most (wds x) []) 100002 (ts.take k) (fun x hx => hfb x (List.mem_of_mem_take hx))
    have hne := fil_ne most t
    have HFl := Lib.hid (fun w hE => filled_any t most w hE htl)
    rw [List.length_take] at hlb
    generalize (ts.take k).flatMap (fun x => fil most (wds x) []) = ls at *
    generalize fil most (wds t) [] = rs at *
    have H := Lib.hid h
    have hlb2 : ls.length + rs.length ≤ 1000000000000 := by
      have q1 : min k ts.length * 100002 ≤ 100001 * 100002 := Nat.mul_le_mul_right _ (by omega)
      have q2 : ls.length ≤ 100001 * 100002 := Nat.le_trans hlb q1
      have q3 : 100001 * 100002 ≤ 900000000000 := by decide
      omega
    clear h hlb ht htm
    simp only [List.zip_toArray, List.zip_cons_cons, List.zip_nil_right, List.foldl_toArray, List.foldl_cons, List.foldl_nil, List.setIfInBounds_toArray, List.set_cons_zero, List.set_cons_succ]
    gi_wp2
    refine hK _ _ (Kept.refl V) (fun W2 v2 d2 => ?_)
    have H2 := Lib.hid (H.out.turn cx d2)
    clear H hK v2 d2
    obtain ⟨va, vc, hvv⟩ := own_slice H2.out.lo
    subst hvv
    gi_upto_region 6 with (fail)
    have e0 := H2.out.m.c
    have e1 := H2.out.lb.c
    have KD := (Kept.refl W2).drew
    have HD := Lib.hid (H2.out.kept KD)
    have SD := Lib.hid (Save.of_kept (Mf (SqT a b d) (w.heap.size + 1) (w.heap.size + 1) W1.heap.size) KD)
    have ED := Lib.hid (HE.out.kept HD.out.k)
    refine region_round (fun y => y.cell? ⟨w.heap.size, 0, none⟩ = some (iV most)) (by kernel_rfl) (by rfl) (fun ⟨_, _, h⟩ => h) e0 (fun hS0 => ?_)
    have e1' : W2.drew.cell? ⟨w.heap.size + 1, 0, none⟩ = some (.slice va ls.length vc) := e1
    clear e0 e1 KD H2
    generalize W2.drew = W3 at *
    refine wpAnyH_take (i := 1) (oi := { dst := some 13, op := Go.Op.move (Go.Operand.tmp 6), type := 9, pos := "plain.go:28", after := #[], guard := none }) (v := ?vb1) rfl (by kernel_rfl) (by kernel_rfl) (by kernel_rfl) (fun _ _ _ h => h) (Or.inl ⟨by rfl, ?yb1⟩) (by assumption) ?rb1
    case yb1 => (intro wq hSw; (try dsimp only at hSw); go_simp; try with_reducible rfl)
    simp only [Act.put, List.setIfInBounds_toArray, List.set_cons_zero, List.set_cons_succ]
    refine wpAnyH_take (i := 2) (oi := { dst := some 14, op := Go.Op.load 3 (Go.Operand.tmp 3), type := 3, pos := "plain.go:28", after := #[], guard := none }) (v := ?vb2) rfl (by kernel_rfl) (by kernel_rfl) (by kernel_rfl) (fun _ _ _ h => h) (Or.inl ⟨by rfl, ?yb2⟩) (by assumption) ?rb2
    case yb2 => (intro wq hSw; (try dsimp only at hSw); go_simp; try with_reducible rfl)
    simp only [Act.put, List.setIfInBounds_toArray, List.set_cons_zero, List.set_cons_succ]
    refine wpAnyH_ready (rs := [0, 3]) (by kernel_rfl) (by simp) (AllReadyH.cons (o := { dst := some 12, op := Go.Op.load 25 (Go.Operand.tmp 5), type := 25, pos := "plain.go:28", after := #[], guard := none }) rfl (fun K hK => ?_) (AllReadyH.cons (o := { dst := some 15, op := Go.Op.call { callee := Go.Callee.value (Go.Operand.func 16), args := #[Go.Operand.tmp 13, Go.Operand.tmp 14], argTypes := #[9, 3] }, type := 25, pos := "plain.go:28", after := #[{ on := 1, ground := Go.Ground.data }, { on := 2, ground := Go.Ground.data }], guard := none }) rfl (fun K hK => ?_) AllReadyH.nil))
    · have ld := e1'
      go_simp
      refine Shut.out hK _ _ hS0 (fun hSb => ?_)
      clear hK K
      try simp only [Act.put, List.setIfInBounds_toArray, List.set_cons_zero, List.set_cons_succ]
      clear ld
      refine wpAnyH_ready (rs := [3]) (by kernel_rfl) (by simp) (AllReadyH.cons (o := { dst := some 15, op := Go.Op.call { callee := Go.Callee.value (Go.Operand.func 16), args := #[Go.Operand.tmp 13, Go.Operand.tmp 14], argTypes := #[9, 3] }, type := 25, pos := "plain.go:28", after := #[{ on := 1, ground := Go.Ground.data }, { on := 2, ground := Go.Ground.data }], guard := none }) rfl (fun K hK => ?_) AllReadyH.nil)
      go_simp
      refine (HFl.out _ ED.out).mono ?_
      rintro e W4 ⟨vx, rfl, hvx, k4⟩
      have H4 := Lib.hid (HD.out.kept k4)
      have S4 := Lib.hid (SD.out.trans (Save.of_kept _ k4))
      refine Shut.out hK _ _ H4.out.m.c (fun hSb => ?_)
      clear hK K
      try simp only [Act.put, List.setIfInBounds_toArray, List.set_cons_zero, List.set_cons_succ]
      have e4 : W4.cell? ⟨w.heap.size + 1, 0, none⟩ = some (.slice va ls.length vc) := H4.out.lb.c
      clear k4
      refine wpAnyH_ready (rs := [4]) (by kernel_rfl) (by simp) (AllReadyH.cons (o := { dst := some 16, op := Go.Op.call { callee := Go.Callee.builtin Go.Builtin.append, args := #[Go.Operand.tmp 12, Go.Operand.tmp 15], argTypes := #[25, 25] }, type := 25, pos := "plain.go:28", after := #[{ on := 0, ground := Go.Ground.data }, { on := 3, ground := Go.Ground.data }, { on := 3, ground := Go.Ground.chain }], guard := none }) rfl (fun K hK => ?_) AllReadyH.nil)
      rw [if_pos (by rfl)]
      refine wp_pushM (.tmp 12) (.tmp 15) rfl W1.heap.size W3.heap.size (.slice va ls.length vc) vx ls rs (by rfl) H4.out.lo (by rfl) hvx hne hlb2 H4.out.sz ?_
      intro v5 y hy hgy
      obtain ⟨F5, S5⟩ := H4.out.pushL cx hy hgy
      have H5 := Lib.hid F5
      have S5 := Lib.hid (S4.out.trans S5)
      have m5 := (bv_grown H4.out.m hgy (ub_of H4.out.lo _ (by have := cx.a1; have := cx.a2; have := cx.a3; omega))).c
      have g5 := bv_grown H4.out.lb hgy (ub_of H4.out.lo _ (by have := cx.a1; have := cx.a2; have := cx.a3; omega))
      have l5 := g5.c
      have f5 := bv_frz g5
      refine Shut.out hK _ _ m5 (fun hSb => ?_)
      clear hK K
      try simp only [Act.put, List.setIfInBounds_toArray, List.set_cons_zero, List.set_cons_succ]
      obtain ⟨va5, vc5, hv5⟩ := own_slice hy
      subst hv5
      clear hy hgy g5 F5
      generalize (ls ++ rs).length = n5 at *
      refine wpAnyH_ready (rs := [5]) (by kernel_rfl) (by simp) (AllReadyH.cons (o := { dst := none, op := Go.Op.store 25 (Go.Operand.tmp 5) (Go.Operand.tmp 16), type := 0, pos := "plain.go:28", after := #[{ on := 4, ground := Go.Ground.data }, { on := 4, ground := Go.Ground.chain }, { on := 0, ground := Go.Ground.phase }, { on := 1, ground := Go.Ground.phase }, { on := 2, ground := Go.Ground.phase }, { on := 3, ground := Go.Ground.phase }, { on := 4, ground := Go.Ground.phase }], guard := none }) rfl (fun K hK => ?_) AllReadyH.nil)
      go_simp
      refine Shut.out hK _ _ H5.out.m.c (fun hSb => ?_)
      clear hK K
      try simp only [Act.put, List.setIfInBounds_toArray, List.set_cons_zero, List.set_cons_succ]
      refine wpAnyH_done (by kernel_rfl) ?_ _
      exact ⟨S5.out, _, by rw [HS.out]; exact H5.out⟩
    · go_simp
      refine (HFl.out _ ED.out).mono ?_
      rintro e W4 ⟨vx, rfl, hvx, k4⟩
      have H4 := Lib.hid (HD.out.kept k4)
      have S4 := Lib.hid (SD.out.trans (Save.of_kept _ k4))
      refine Shut.out hK _ _ H4.out.m.c (fun hSb => ?_)
      clear hK K
      try simp only [Act.put, List.setIfInBounds_toArray, List.set_cons_zero, List.set_cons_succ]
      have e4 : W4.cell? ⟨w.heap.size + 1, 0, none⟩ = some (.slice va ls.length vc) := H4.out.lb.c
      clear k4
      have ld := e4
      refine wpAnyH_ready (rs := [0]) (by kernel_rfl) (by simp) (AllReadyH.cons (o := { dst := some 12, op := Go.Op.load 25 (Go.Operand.tmp 5), type := 25, pos := "plain.go:28", after := #[], guard := none }) rfl (fun K hK => ?_) AllReadyH.nil)
      go_simp
      refine Shut.out hK _ _ H4.out.m.c (fun hSb => ?_)
      clear hK K
      try simp only [Act.put, List.setIfInBounds_toArray, List.set_cons_zero, List.set_cons_succ]
      clear ld
      refine wpAnyH_ready (rs := [4]) (by kernel_rfl) (by simp) (AllReadyH.cons (o := { dst := some 16, op := Go.Op.call { callee := Go.Callee.builtin Go.Builtin.append, args := #[Go.Operand.tmp 12, Go.Operand.tmp 15], argTypes := #[25, 25] }, type := 25, pos := "plain.go:28", after := #[{ on := 0, ground := Go.Ground.data }, { on := 3, ground := Go.Ground.data }, { on := 3, ground := Go.Ground.chain }], guard := none }) rfl (fun K hK => ?_) AllReadyH.nil)
      rw [if_pos (by rfl)]
      refine wp_pushM (.tmp 12) (.tmp 15) rfl W1.heap.size W3.heap.size (.slice va ls.length vc) vx ls rs (by rfl) H4.out.lo (by rfl) hvx hne hlb2 H4.out.sz ?_
      intro v5 y hy hgy
      obtain ⟨F5, S5⟩ := H4.out.pushL cx hy hgy
      have H5 := Lib.hid F5
      have S5 := Lib.hid (S4.out.trans S5)
      have m5 := (bv_grown H4.out.m hgy (ub_of H4.out.lo _ (by have := cx.a1; have := cx.a2; have := cx.a3; omega))).c
      have g5 := bv_grown H4.out.lb hgy (ub_of H4.out.lo _ (by have := cx.a1; have := cx.a2; have := cx.a3; omega))
      have l5 := g5.c
      have f5 := bv_frz g5
      refine Shut.out hK _ _ m5 (fun hSb => ?_)
      clear hK K
      try simp only [Act.put, List.setIfInBounds_toArray, List.set_cons_zero, List.set_cons_succ]
      obtain ⟨va5, vc5, hv5⟩ := own_slice hy
      subst hv5
      clear hy hgy g5 F5
      generalize (ls ++ rs).length = n5 at *
      refine wpAnyH_ready (rs := [5]) (by kernel_rfl) (by simp) (AllReadyH.cons (o := { dst := none, op := Go.Op.store 25 (Go.Operand.tmp 5) (Go.Operand.tmp 16), type := 0, pos := "plain.go:28", after := #[{ on := 4, ground := Go.Ground.data }, { on := 4, ground := Go.Ground.chain }, { on := 0, ground := Go.Ground.phase }, { on := 1, ground := Go.Ground.phase }, { on := 2, ground := Go.Ground.phase }, { on := 3, ground := Go.Ground.phase }, { on := 4, ground := Go.Ground.phase }], guard := none }) rfl (fun K hK => ?_) AllReadyH.nil)
      go_simp
      refine Shut.out hK _ _ H5.out.m.c (fun hSb => ?_)
      clear hK K
      try simp only [Act.put, List.setIfInBounds_toArray, List.set_cons_zero, List.set_cons_succ]
      refine wpAnyH_done (by kernel_rfl) ?_ _
      exact ⟨S5.out, _, by rw [HS.out]; exact H5.out⟩
end Go.Proofs.YtpkbcomdkamglaaDoor.Pl
