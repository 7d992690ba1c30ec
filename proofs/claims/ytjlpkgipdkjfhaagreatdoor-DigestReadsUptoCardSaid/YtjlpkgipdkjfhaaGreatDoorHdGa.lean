import Derived.Test.YtjlpkgipdkjfhaaGreatDoorHd
import Derived.Deep.RegionHeld3
set_option linter.unusedSimpArgs false
set_option linter.unusedVariables false
namespace Go.Proofs.YtjlpkgipdkjfhaaGreatDoor.Bk.Hd
open Go.ChangeShapes Go.WideShapes Go.ChangeAt Go.RowKit Go.Shelf
attribute [local go_sem] Oper.semAt_some
theorem opIn_of {n : Nat} {P : Program} {ops : Array Oper} {Q : Exit → Act → World → Prop} {l i : Nat} {K : Act → World → Prop} {a : Act} {w : World} (hL : ¬ LetsOut Q)
    (hd : ∀ (i : Nat) (o : Oper), ops[i]? = some o → ∀ c, o.op ≠ .defer c) (h : wpOp P ops Q i K a w) : wpOpIn (Fence.wide.inRound l) n P ops Q i K a w := by
  unfold wpOp at h
  unfold wpOpIn
  cases ho : ops[i]? with
  | none => simp only [ho] at h ⊢; exact h
  | some o =>
    simp only [ho] at h ⊢
    split
    · rename_i hw
      simp only [hw, if_true] at h
      have h := h.resolve_right (fun q => hL q.2)
      unfold Oper.wpIn
      unfold Oper.wp at h
      refine ⟨fun _ _ => trivial, ?_⟩
      rw [Oper.semAt_plain _ _ _ (hd i o ho)]
      generalize (execOp a.eval o).run P w = r at h ⊢
      cases r with
      | ok x w' =>
        cases x with
        | enter f args => exact ⟨(fun q => by cases q), CallsIn.inRound l (callsIn_wide.2 h)⟩
        | row r args => 
          refine ⟨(fun q => by cases q), fun c cs _ => ?_⟩
          obtain ⟨v, w2, hr, hs⟩ := h c cs
          exact ⟨v, w2, hr, stepsIn_wide.2 hs⟩
        | value v => exact h
        | skip => exact h
        | defer d => exact h
        | _ => exact h.elim
      | halt x w' => cases x <;> exact h
    · rename_i hw
      simp only [hw] at h
      exact ⟨fun _ _ => trivial, h⟩
theorem anyIn_of {n : Nat} {P : Program} {md : Region.Mode} {ops : Array Oper} {Q : Exit → Act → World → Prop} {l : Nat} (hL : ¬ LetsOut Q)
    (hd : ∀ (i : Nat) (o : Oper), ops[i]? = some o → ∀ c, o.op ≠ .defer c) : ∀ (fuel : Nat) (listed : Array Bool) (a : Act) (w : World), wpAny P md ops Q fuel listed a w → wpAnyIn (Fence.wide.inRound l) n P md ops Q fuel listed a w
  | 0, _, _, _, h => h
  | fuel + 1, _, _, _, h => ⟨h.1, fun i hi => wpOpIn_mono (fun a' w' q => anyIn_of hL hd fuel _ a' w' q) (opIn_of hL hd (h.2 i hi))⟩
def noDefer (l : List Oper) : Bool := l.all fun o => match o.op with | .defer _ => false | _ => true
theorem noDefer_of {l : List Oper} (h : noDefer l = true) : ∀ (i : Nat) (o : Oper), l.toArray[i]? = some o → ∀ c, o.op ≠ .defer c := fun i o ho c e => by
  have hm : o ∈ l := by
    simp only [List.getElem?_toArray] at ho
    exact List.mem_of_getElem? ho
  have := List.all_eq_true.1 h o hm
  rw [e] at this; cases this
theorem region_round {n id l₀ : Nat} {P : Program} {Q : Exit → Act → World → Prop} {a : Act} {w : World} {l : List Oper} (S : World → Prop) (hm : P.follows .mixedOrders = true) (hd : noDefer l = true) (hL : ¬ LetsOut Q) (hS : S w.drew)
    (h : S w.drew → wpAnyH P .any l.toArray Q S l.toArray.size (Array.replicate l.toArray.size false) a w.drew) : (Code.region id l.toArray true).wpIn (Fence.wide.inRound l₀) n P Q a w :=
  wpIn_region_any hm (anyIn_of hL (noDefer_of hd) _ _ _ _ (wpAny_of_held _ _ _ _ (h hS)))
theorem wp_pushH {op : Oper} {a : Act} {w : World} {K : Act → World → Prop} {Q : Exit → Act → World → Prop} (sx x : Operand) (ho : op.op = .call { callee := .builtin .append, args := #[sx, x], argTypes := #[37, 37] })
    (B0 : Nat) (v : Value) (l : List Hdr) (h : Hdr) (k : Nat) (hs : a.eval sx = v) (hO : OwnH B0 v l w) (hx : a.eval x = .slice (some ⟨k, 0, none⟩) 1 1) (hc0 : w.cell? ⟨k, 0, none⟩ = some (sV h.1)) (hc1 : w.cell? ⟨k, 1, none⟩ = some (sV h.2)) (hl : l.length ≤ 10000000) (hB : B0 ≤ w.heap.size)
    (hh : ∀ v' w', OwnH B0 v' (l ++ [h]) w' → w.grownBy w' v.ownBlock → K (a.put op.dst v') w') : op.wp Tryz.prog a w K Q := by
  obtain ⟨v', w', hr, h2, h3⟩ := run_pushH w B0 op.type v l h k hO hc0 hc1 hl hB
  exact wp_ok sx x _ _ ho (by rw [hs, hx]; exact hr) (hh v' w' h2 h3)
theorem splF_len (sep : B) : ∀ (f : Nat) (l : B), (splF sep f l).length ≤ f + 1
  | 0, l => Nat.le_refl _
  | f + 1, l => by
    rw [splF]
    split
    · simp
    · have := splF_len sep f (l.drop ((Lib.index l sep).toNat + sep.length))
      simp; omega
theorem spl_len (sep l : B) : (spl sep l).length ≤ l.length + 1 := splF_len sep _ l
theorem splF_mem (sep : B) : ∀ (f : Nat) (l t : B), t ∈ splF sep f l → t.length ≤ l.length
  | 0, l, t, h => by simp [splF] at h; subst h; exact Nat.le_refl _
  | f + 1, l, t, h => by
    rw [splF] at h
    split at h
    · simp at h; subst h; exact Nat.le_refl _
    · rcases List.mem_cons.1 h with rfl | h
      · simp; omega
      · have := splF_mem sep f _ t h
        simp at this; omega
theorem spl_mem (sep l t : B) (h : t ∈ spl sep l) : t.length ≤ l.length := splF_mem sep _ l t h
noncomputable def gaA (ts : List B) (k : Nat) : List Hdr := ((ts.take k).filter (fun l => !l.isEmpty)).map hdr
theorem gaA_skip {ts : List B} {k : Nat} {t : B} (h : ts[k]? = some t) (ht : t = []) : gaA ts (k + 1) = gaA ts k := by
  subst ht
  unfold gaA
  rw [List.take_add_one, h]
  simp
theorem gaA_more {ts : List B} {k : Nat} {t : B} (h : ts[k]? = some t) (ht : t.isEmpty = false) : gaA ts (k + 1) = gaA ts k ++ [hdr t] := by
  unfold gaA
  rw [List.take_add_one, h]
  simp [ht]
theorem gaA_len (ts : List B) (k : Nat) : (gaA ts k).length ≤ ts.length := by
  unfold gaA
  rw [List.length_map]
  exact Nat.le_trans (List.length_filter_le _ _) (by simp; omega)
structure GaI (b n1 : Nat) (v : Value) (ls : List Hdr) (w V : World) : Prop where
  bx : Bv 37 b v V
  ow : OwnH n1 v ls V
  k : Kept w V
  e : Env V
  sz : n1 ≤ V.heap.size
def GaM (T : Nat → Prop) (b n1 : Nat) (k : Nat) (o : Obj) : Prop := o.isCells = true ∧ ¬ T k ∧ (k = b ∨ n1 ≤ k)
section
variable {b n1 : Nat} {v : Value} {ls : List Hdr} {w V V' : World} {T : Nat → Prop}
theorem GaI.kept (h : GaI b n1 v ls w V) (k : Kept V V') : GaI b n1 v ls w V' := ⟨h.bx.kept k, OwnH.kept h.ow k, h.k.trans k, h.e.kept k, Nat.le_trans h.sz k.size⟩
theorem GaI.turn (hT : ∀ k, T k → b < k ∧ k < n1) (h0 : w.heap.size ≤ b) (h1 : b < n1) (hE : 0 < w.heap.size) (h : GaI b n1 v ls w V) (k : Save (Itn T n1) V V') : GaI b n1 v ls w V' := by
  have no : ∀ j o, j ≤ b → ¬ Itn T n1 j o := fun j o hj q => by
    rcases q with q | q
    · have := hT j q; omega
    · omega
  refine ⟨h.bx.save k (no _ _ (Nat.le_refl _)), own_turn h.ow k (fun g c hg q => ?_), Save.kept_of h.k k (fun j o hj => no j o (by omega)), env_save h.e k (fun o => no _ o (by omega)), Nat.le_trans h.sz k.size⟩
  rcases q with q | q
  · have := hT _ q; omega
  · cases q.2
theorem GaI.push (hT : ∀ k, T k → b < k ∧ k < n1) (h0 : w.heap.size ≤ b) (h1 : b < n1) (hE : 0 < w.heap.size) {y : World} {v' : Value} {x : Hdr} (h : GaI b n1 v ls w V) (ho : OwnH n1 v' (ls ++ [x]) y) (hg : V.grownBy y v.ownBlock) :
    GaI b n1 v' (ls ++ [x]) w (y.setCell ⟨b, 0, none⟩ v') ∧ Save (GaM T b n1) V (y.setCell ⟨b, 0, none⟩ v') := by
  have ub : ∀ j, j < n1 → v.ownBlock ≠ some j := fun j hj e' => by
    have := (World.ownsRow.lt h.ow j e').1
    omega
  have hsz := h.sz
  have K9 : Kept w (y.setCell ⟨b, 0, none⟩ v') := (kept_row h.k hg (fun g hg' => by have := (World.ownsRow.lt h.ow g hg').1; omega)).setCell (by simp only; omega) _
  have S9 : Save (GaM T b n1) V (y.setCell ⟨b, 0, none⟩ v') := save_row hg (fun g o hg' ho' => by
    obtain ⟨cs, hc⟩ := own_kind h.ow g hg'
    rw [hc] at ho'
    cases ho'
    have hgl := (World.ownsRow.lt h.ow g hg').1
    exact ⟨rfl, fun q => by have := hT _ q; omega, Or.inr hgl⟩) (fun o ho' => by
    have := h.bx
    unfold Bv at this
    rw [this] at ho'
    cases ho'
    exact ⟨rfl, fun q => by have := hT _ q; omega, Or.inl rfl⟩)
  exact ⟨⟨(h.bx.grown hg (ub _ h1)).set _, own_set ho _ _ _ h1, K9, env_save h.e S9 (fun o q => by rcases q.2.2 with e | e <;> omega), by have := hg.size; simp [World.setCell]; omega⟩, S9⟩
end
set_option maxRecDepth 100000 in
set_option maxHeartbeats 4000000 in
theorem guessAll_any (s : B) (w : World) (hE : Env w) (hl : s.length ≤ 1000000) :
    Calls Tryz.prog 46 #[sV s] w fun e w' => ∃ xv, e = .returned xv ∧ OwnH w.heap.size xv (gueA s) w' ∧ Kept w w' := by
  have hgl := env_lt hE
  have hul := unf_len _ s (Nat.le_refl _)
  have HU := Lib.hid (fun w hE => unf_any s w hE (by omega))
  have HR := Lib.hid (show gueA s = ((spl [13, 10] (unf s)).filter (fun l => !l.isEmpty)).map hdr from rfl)
  have HE := Lib.hid hE
  generalize gueA s = res at *
  generalize unf s = u at *
  have k0 := (Kept.refl w).alloc (.cells #[.slice none 0 0] 37)
  have b0 := Bv.new w (.slice none 0 0) 37
  have s0 : (w.alloc (.cells #[.slice none 0 0] 37)).heap.size = w.heap.size + 1 := by simp
  clear hE
  refine (callsIn_wide (n := 9)).1 ?_
  refine callsIn_of_wp_marks Tryz.func46 rfl trivial ?_ rfl
  simp only [Tryz.ntmps46, List.size_toArray, List.length_cons, List.length_nil, Nat.reduceAdd, Nat.reduceSub, Array.replicate_succ, Array.replicate_zero, List.push_toArray, List.append_toArray, List.nil_append, List.cons_append]
  gi_upto_region 2 with (fail)
  generalize w.alloc (.cells #[.slice none 0 0] 37) = x0 at *
  gi_wp2_with fail
  refine ⟨trivial, ?_⟩
  refine (callsIn_wide.2 (HU.out _ (HE.out.kept k0))).mono ?_
  rintro e x1 ⟨rfl, k1⟩
  gi_wp2_with fail
  refine ⟨trivial, ?_⟩
  refine (callsIn_wide.2 (splitSeq_any [13, 10] u _ (HE.out.kept (k0.trans k1)) (by decide) (by decide))).mono ?_
  rintro e W1 ⟨a, b, d, rfl, hC, k4, ⟨ha, hb, hd⟩, ⟨ha1, hb1, hd1⟩, hba, hbd⟩
  gi_wp2
  have z1 := k1.size
  have z4 := k4.size
  have K4 := (k0.trans k1).trans k4
  have hT : ∀ k, SqT a b d k → w.heap.size < k ∧ k < W1.heap.size := fun k hk => by rcases hk with rfl | rfl | rfl <;> omega
  have F0 : GaI w.heap.size W1.heap.size (.slice none 0 0) [] w W1 := ⟨(b0.kept k1).kept k4, OwnH.nil _ _, K4, HE.out.kept K4, Nat.le_refl _⟩
  clear b0 k0 k1 k4 K4 HU
  have HIt := split_itr [13, 10] u (by decide) (by decide) (by omega) a b d hba hbd
  have hwm : ∀ x ∈ spl [13, 10] u, x.length ≤ 1000000 := fun x hx => by have := spl_mem _ _ x hx; omega
  have hwc := spl_len [13, 10] u
  generalize spl [13, 10] u = ts at *
  refine range_itr (n := 9) (gf := 186) (lb := #[.pointer (some ⟨a, 0, none⟩), .pointer (some ⟨b, 0, none⟩), .pointer (some ⟨d, 0, none⟩)]) rfl (enters_of Tryz.func186 (by kernel_rfl) rfl) (T := SqT a b d) (R := RdE) (fun k hk => (hT k hk).2) (fun k hk => by obtain rfl : k = 0 := hk; omega)
    HIt (fun s arr s' hs => by obtain ⟨_, _, rfl, _⟩ := hs; rfl)
    (GaM (SqT a b d) w.heap.size W1.heap.size) (fun k o hk => ⟨⟨hk.2.1, fun q => by obtain rfl : k = 0 := q; rcases hk.2.2 with q | q <;> omega⟩, hk.1⟩) hC (fun A B k h => h.kept k)
    (fun k V => ∃ v, GaI w.heap.size W1.heap.size v (gaA ts k) w V)
    (fun _ _ _ => False)
    ?hI ?hIx ⟨_, F0⟩ ?round ?done ?stop
  case hI =>
    rintro k A B ⟨v, h⟩ kb
    exact ⟨v, h.turn hT (Nat.le_refl _) (by omega) hgl kb⟩
  case hIx =>
    rintro q k A B h kb
    exact h
  case stop =>
    rintro c s W h _ _
    exact h.elim
  case done =>
    rintro k V hend ⟨v, h⟩ hv hK
    subst hend
    have hz : gaA ts ts.length = res := by unfold gaA; rw [List.take_length, ← HR.out]
    rw [hz] at h
    have e1 := h.bx.c
    obtain ⟨va, vc, hvv⟩ := own_slice h.ow
    have HO := Lib.hid (own_mono (own_turn h.ow (Save.put (M := fun k o => k = W1.heap.size ∧ o.isCells = false) (.deferred none) (fun o' ho => by rw [hK] at ho; cases ho; exact ⟨rfl, rfl⟩)) (fun g c _ q => by cases q.2)) (show w.heap.size ≤ W1.heap.size by omega))
    have HK := Lib.hid (kept_put h.k (show w.heap.size ≤ W1.heap.size by omega) (.deferred none))
    subst hvv
    clear h hv
    gi_wp2
    refine ⟨by simp, .inl ⟨_, _, rfl, run_takeDeferred hK, ?_⟩⟩
    exact ⟨.slice va res.length vc, by simp [results, Tryz.results46, go_sem], _, rfl, HO.out, HK.out⟩
  case round =>
    rintro lo k arr k' V ⟨t, ht, rfl, rfl⟩ ⟨v, h⟩ hsz K hK
    have htl := hwm t (List.mem_of_getElem? ht)
    have HS1 := Lib.hid (fun q => gaA_skip ht q)
    have HS2 := Lib.hid (fun q => gaA_more ht q)
    have hlb := gaA_len ts k
    have H := Lib.hid h
    have HH := Lib.hid (fun w hE => header_any t w hE htl)
    clear h ht
    generalize gaA ts k = ls at *
    simp only [List.zip_toArray, List.zip_cons_cons, List.zip_nil_right, List.foldl_toArray, List.foldl_cons, List.foldl_nil, List.setIfInBounds_toArray, List.set_cons_zero, List.set_cons_succ]
    gi_wp2
    refine hK _ _ (Kept.refl V) (fun W2 v2 d2 => ?_)
    have H2 := Lib.hid (H.out.turn hT (Nat.le_refl _) (by omega) hgl d2)
    clear H hK v2 d2
    by_cases he : t = []
    · have HQ := Lib.hid (HS1.out he)
      subst he
      clear HS1 HS2
      gi_wp2
      exact ⟨Save.refl _ _, _, by rw [HQ.out]; exact H2.out⟩
    have hte : t.isEmpty = false := by cases t with
      | nil => exact absurd rfl he
      | cons a r => rfl
    have HS := Lib.hid (HS2.out hte)
    clear HS1 HS2
    obtain ⟨va, vc, hvv⟩ := own_slice H2.out.ow
    subst hvv
    gi_upto_region 5 with (fail)
    have e1 := H2.out.bx.c
    have KD := (Kept.refl W2).drew
    have HD := Lib.hid (H2.out.kept KD)
    have SD := Lib.hid (Save.of_kept (GaM (SqT a b d) w.heap.size W1.heap.size) KD)
    generalize hdr t = hx at *
    obtain ⟨xn, xd⟩ := hx
    refine region_round (fun _ => True) (by kernel_rfl) (by rfl) (fun ⟨_, _, h⟩ => h) trivial (fun hS0 => ?_)
    have e1' : W2.drew.cell? ⟨w.heap.size, 0, none⟩ = some (.slice va ls.length vc) := e1
    clear e1 KD H2
    generalize W2.drew = W3 at *
    refine wpAnyH_take (i := 1) (oi := { dst := some 12, op := Go.Op.move (Go.Operand.tmp 4), type := 9, pos := "reader.go:31", after := #[], guard := none }) (v := ?vb1) rfl (by kernel_rfl) (by kernel_rfl) (by kernel_rfl) (fun _ _ _ h => h) (Or.inl ⟨by rfl, ?yb1⟩) (by assumption) ?rb1
    case yb1 => (intro wq hSw; (try dsimp only at hSw); go_simp; try with_reducible rfl)
    simp only [Act.put, List.setIfInBounds_toArray, List.set_cons_zero, List.set_cons_succ]
    refine wpAnyH_ready (rs := [0, 2]) (by kernel_rfl) (by simp) (AllReadyH.cons (o := { dst := some 11, op := Go.Op.load 37 (Go.Operand.tmp 3), type := 37, pos := "reader.go:31", after := #[], guard := none }) rfl (fun K hK => ?_) (AllReadyH.cons (o := { dst := some 13, op := Go.Op.call { callee := Go.Callee.value (Go.Operand.func 89), args := #[Go.Operand.tmp 12], argTypes := #[9] }, type := 41, pos := "reader.go:31", after := #[{ on := 1, ground := Go.Ground.data }], guard := none }) rfl (fun K hK => ?_) AllReadyH.nil))
    · have ld := e1'
      go_simp
      refine Shut.out hK _ _ trivial (fun hSb => ?_)
      clear hK K
      try simp only [Act.put, List.setIfInBounds_toArray, List.set_cons_zero, List.set_cons_succ]
      clear ld
      refine wpAnyH_ready (rs := [2]) (by kernel_rfl) (by simp) (AllReadyH.cons (o := { dst := some 13, op := Go.Op.call { callee := Go.Callee.value (Go.Operand.func 89), args := #[Go.Operand.tmp 12], argTypes := #[9] }, type := 41, pos := "reader.go:31", after := #[{ on := 1, ground := Go.Ground.data }], guard := none }) rfl (fun K hK => ?_) AllReadyH.nil)
      go_simp
      refine (HH.out _ HD.out.e).mono ?_
      rintro e W4 ⟨rfl, k4⟩
      have H4 := Lib.hid (HD.out.kept k4)
      have S4 := Lib.hid (SD.out.trans (Save.of_kept _ k4))
      refine Shut.out hK _ _ trivial (fun hSb => ?_)
      clear hK K
      try simp only [Act.put, List.setIfInBounds_toArray, List.set_cons_zero, List.set_cons_succ]
      have e4 : W4.cell? ⟨w.heap.size, 0, none⟩ = some (.slice va ls.length vc) := H4.out.bx.c
      clear k4
      refine wpAnyH_ready (rs := [3]) (by kernel_rfl) (by simp) (AllReadyH.cons (o := { dst := some 14, op := Go.Op.buildSlice 37 1 #[(0, Go.Operand.tmp 13)], type := 37, pos := "reader.go:31", after := #[{ on := 2, ground := Go.Ground.data }], guard := none }) rfl (fun K hK => ?_) AllReadyH.nil)
      go_simp
      have k5 := (Kept.refl W4).alloc (.cells #[sV xn, sV xd] 41)
      have c0 := (Kept.refl (W4.alloc (.cells #[sV xn, sV xd] 41))).new 0 (v := sV xn) rfl
      have c1 := (Kept.refl (W4.alloc (.cells #[sV xn, sV xd] 41))).new 1 (v := sV xd) rfl
      have H5 := Lib.hid (H4.out.kept k5)
      have S5 := Lib.hid (S4.out.trans (Save.of_kept _ k5))
      have e5 := H5.out.bx.c
      clear k5 H4 S4
      try clear e4
      generalize W4.alloc (.cells #[sV xn, sV xd] 41) = W5 at *
      refine Shut.out hK _ _ trivial (fun hSb => ?_)
      clear hK K
      try simp only [Act.put, List.setIfInBounds_toArray, List.set_cons_zero, List.set_cons_succ]
      refine wpAnyH_ready (rs := [4]) (by kernel_rfl) (by simp) (AllReadyH.cons (o := { dst := some 15, op := Go.Op.call { callee := Go.Callee.builtin Go.Builtin.append, args := #[Go.Operand.tmp 11, Go.Operand.tmp 14], argTypes := #[37, 37] }, type := 37, pos := "reader.go:31", after := #[{ on := 0, ground := Go.Ground.data }, { on := 3, ground := Go.Ground.data }, { on := 2, ground := Go.Ground.chain }], guard := none }) rfl (fun K hK => ?_) AllReadyH.nil)
      rw [if_pos (by rfl)]
      refine wp_pushH (.tmp 11) (.tmp 14) rfl W1.heap.size (.slice va ls.length vc) ls (xn, xd) W4.heap.size (by rfl) H5.out.ow (by rfl) c0 c1 (by omega) H5.out.sz ?_
      intro v6 y hy hgy
      obtain ⟨F6, S6⟩ := H5.out.push hT (Nat.le_refl _) (by omega) hgl hy hgy
      have H6 := Lib.hid F6
      have S6' := Lib.hid (S5.out.trans S6)
      have g6 := H5.out.bx.grown hgy (fun e => by have := (World.ownsRow.lt H5.out.ow _ e).1; omega)
      have l6 := g6.c
      have f6 := g6.frz
      refine Shut.out hK _ _ trivial (fun hSb => ?_)
      clear hK K
      try simp only [Act.put, List.setIfInBounds_toArray, List.set_cons_zero, List.set_cons_succ]
      obtain ⟨va6, vc6, hv6⟩ := own_slice hy
      subst hv6
      clear hy hgy g6 F6 S6
      generalize (ls ++ [(xn, xd)]).length = n6 at *
      refine wpAnyH_ready (rs := [5]) (by kernel_rfl) (by simp) (AllReadyH.cons (o := { dst := none, op := Go.Op.store 37 (Go.Operand.tmp 3) (Go.Operand.tmp 15), type := 0, pos := "reader.go:31", after := #[{ on := 4, ground := Go.Ground.data }, { on := 4, ground := Go.Ground.chain }, { on := 0, ground := Go.Ground.phase }, { on := 1, ground := Go.Ground.phase }, { on := 2, ground := Go.Ground.phase }, { on := 3, ground := Go.Ground.phase }, { on := 4, ground := Go.Ground.phase }], guard := none }) rfl (fun K hK => ?_) AllReadyH.nil)
      go_simp
      refine Shut.out hK _ _ trivial (fun hSb => ?_)
      clear hK K
      try simp only [Act.put, List.setIfInBounds_toArray, List.set_cons_zero, List.set_cons_succ]
      refine wpAnyH_done (by kernel_rfl) ?_ _
      exact ⟨S6'.out, _, by rw [HS.out]; exact H6.out⟩
    · go_simp
      refine (HH.out _ HD.out.e).mono ?_
      rintro e W4 ⟨rfl, k4⟩
      have H4 := Lib.hid (HD.out.kept k4)
      have S4 := Lib.hid (SD.out.trans (Save.of_kept _ k4))
      refine Shut.out hK _ _ trivial (fun hSb => ?_)
      clear hK K
      try simp only [Act.put, List.setIfInBounds_toArray, List.set_cons_zero, List.set_cons_succ]
      have e4 : W4.cell? ⟨w.heap.size, 0, none⟩ = some (.slice va ls.length vc) := H4.out.bx.c
      clear k4
      refine wpAnyH_ready (rs := [0, 3]) (by kernel_rfl) (by simp) (AllReadyH.cons (o := { dst := some 11, op := Go.Op.load 37 (Go.Operand.tmp 3), type := 37, pos := "reader.go:31", after := #[], guard := none }) rfl (fun K hK => ?_) (AllReadyH.cons (o := { dst := some 14, op := Go.Op.buildSlice 37 1 #[(0, Go.Operand.tmp 13)], type := 37, pos := "reader.go:31", after := #[{ on := 2, ground := Go.Ground.data }], guard := none }) rfl (fun K hK => ?_) AllReadyH.nil))
      · have ld := e4
        go_simp
        refine Shut.out hK _ _ trivial (fun hSb => ?_)
        clear hK K
        try simp only [Act.put, List.setIfInBounds_toArray, List.set_cons_zero, List.set_cons_succ]
        clear ld
        refine wpAnyH_ready (rs := [3]) (by kernel_rfl) (by simp) (AllReadyH.cons (o := { dst := some 14, op := Go.Op.buildSlice 37 1 #[(0, Go.Operand.tmp 13)], type := 37, pos := "reader.go:31", after := #[{ on := 2, ground := Go.Ground.data }], guard := none }) rfl (fun K hK => ?_) AllReadyH.nil)
        go_simp
        have k5 := (Kept.refl W4).alloc (.cells #[sV xn, sV xd] 41)
        have c0 := (Kept.refl (W4.alloc (.cells #[sV xn, sV xd] 41))).new 0 (v := sV xn) rfl
        have c1 := (Kept.refl (W4.alloc (.cells #[sV xn, sV xd] 41))).new 1 (v := sV xd) rfl
        have H5 := Lib.hid (H4.out.kept k5)
        have S5 := Lib.hid (S4.out.trans (Save.of_kept _ k5))
        have e5 := H5.out.bx.c
        clear k5 H4 S4
        try clear e4
        generalize W4.alloc (.cells #[sV xn, sV xd] 41) = W5 at *
        refine Shut.out hK _ _ trivial (fun hSb => ?_)
        clear hK K
        try simp only [Act.put, List.setIfInBounds_toArray, List.set_cons_zero, List.set_cons_succ]
        refine wpAnyH_ready (rs := [4]) (by kernel_rfl) (by simp) (AllReadyH.cons (o := { dst := some 15, op := Go.Op.call { callee := Go.Callee.builtin Go.Builtin.append, args := #[Go.Operand.tmp 11, Go.Operand.tmp 14], argTypes := #[37, 37] }, type := 37, pos := "reader.go:31", after := #[{ on := 0, ground := Go.Ground.data }, { on := 3, ground := Go.Ground.data }, { on := 2, ground := Go.Ground.chain }], guard := none }) rfl (fun K hK => ?_) AllReadyH.nil)
        rw [if_pos (by rfl)]
        refine wp_pushH (.tmp 11) (.tmp 14) rfl W1.heap.size (.slice va ls.length vc) ls (xn, xd) W4.heap.size (by rfl) H5.out.ow (by rfl) c0 c1 (by omega) H5.out.sz ?_
        intro v6 y hy hgy
        obtain ⟨F6, S6⟩ := H5.out.push hT (Nat.le_refl _) (by omega) hgl hy hgy
        have H6 := Lib.hid F6
        have S6' := Lib.hid (S5.out.trans S6)
        have g6 := H5.out.bx.grown hgy (fun e => by have := (World.ownsRow.lt H5.out.ow _ e).1; omega)
        have l6 := g6.c
        have f6 := g6.frz
        refine Shut.out hK _ _ trivial (fun hSb => ?_)
        clear hK K
        try simp only [Act.put, List.setIfInBounds_toArray, List.set_cons_zero, List.set_cons_succ]
        obtain ⟨va6, vc6, hv6⟩ := own_slice hy
        subst hv6
        clear hy hgy g6 F6 S6
        generalize (ls ++ [(xn, xd)]).length = n6 at *
        refine wpAnyH_ready (rs := [5]) (by kernel_rfl) (by simp) (AllReadyH.cons (o := { dst := none, op := Go.Op.store 37 (Go.Operand.tmp 3) (Go.Operand.tmp 15), type := 0, pos := "reader.go:31", after := #[{ on := 4, ground := Go.Ground.data }, { on := 4, ground := Go.Ground.chain }, { on := 0, ground := Go.Ground.phase }, { on := 1, ground := Go.Ground.phase }, { on := 2, ground := Go.Ground.phase }, { on := 3, ground := Go.Ground.phase }, { on := 4, ground := Go.Ground.phase }], guard := none }) rfl (fun K hK => ?_) AllReadyH.nil)
        go_simp
        refine Shut.out hK _ _ trivial (fun hSb => ?_)
        clear hK K
        try simp only [Act.put, List.setIfInBounds_toArray, List.set_cons_zero, List.set_cons_succ]
        refine wpAnyH_done (by kernel_rfl) ?_ _
        exact ⟨S6'.out, _, by rw [HS.out]; exact H6.out⟩
      · go_simp
        have k5 := (Kept.refl W4).alloc (.cells #[sV xn, sV xd] 41)
        have c0 := (Kept.refl (W4.alloc (.cells #[sV xn, sV xd] 41))).new 0 (v := sV xn) rfl
        have c1 := (Kept.refl (W4.alloc (.cells #[sV xn, sV xd] 41))).new 1 (v := sV xd) rfl
        have H5 := Lib.hid (H4.out.kept k5)
        have S5 := Lib.hid (S4.out.trans (Save.of_kept _ k5))
        have e5 := H5.out.bx.c
        clear k5 H4 S4
        try clear e4
        generalize W4.alloc (.cells #[sV xn, sV xd] 41) = W5 at *
        refine Shut.out hK _ _ trivial (fun hSb => ?_)
        clear hK K
        try simp only [Act.put, List.setIfInBounds_toArray, List.set_cons_zero, List.set_cons_succ]
        have ld := e5
        refine wpAnyH_ready (rs := [0]) (by kernel_rfl) (by simp) (AllReadyH.cons (o := { dst := some 11, op := Go.Op.load 37 (Go.Operand.tmp 3), type := 37, pos := "reader.go:31", after := #[], guard := none }) rfl (fun K hK => ?_) AllReadyH.nil)
        go_simp
        refine Shut.out hK _ _ trivial (fun hSb => ?_)
        clear hK K
        try simp only [Act.put, List.setIfInBounds_toArray, List.set_cons_zero, List.set_cons_succ]
        clear ld
        refine wpAnyH_ready (rs := [4]) (by kernel_rfl) (by simp) (AllReadyH.cons (o := { dst := some 15, op := Go.Op.call { callee := Go.Callee.builtin Go.Builtin.append, args := #[Go.Operand.tmp 11, Go.Operand.tmp 14], argTypes := #[37, 37] }, type := 37, pos := "reader.go:31", after := #[{ on := 0, ground := Go.Ground.data }, { on := 3, ground := Go.Ground.data }, { on := 2, ground := Go.Ground.chain }], guard := none }) rfl (fun K hK => ?_) AllReadyH.nil)
        rw [if_pos (by rfl)]
        refine wp_pushH (.tmp 11) (.tmp 14) rfl W1.heap.size (.slice va ls.length vc) ls (xn, xd) W4.heap.size (by rfl) H5.out.ow (by rfl) c0 c1 (by omega) H5.out.sz ?_
        intro v6 y hy hgy
        obtain ⟨F6, S6⟩ := H5.out.push hT (Nat.le_refl _) (by omega) hgl hy hgy
        have H6 := Lib.hid F6
        have S6' := Lib.hid (S5.out.trans S6)
        have g6 := H5.out.bx.grown hgy (fun e => by have := (World.ownsRow.lt H5.out.ow _ e).1; omega)
        have l6 := g6.c
        have f6 := g6.frz
        refine Shut.out hK _ _ trivial (fun hSb => ?_)
        clear hK K
        try simp only [Act.put, List.setIfInBounds_toArray, List.set_cons_zero, List.set_cons_succ]
        obtain ⟨va6, vc6, hv6⟩ := own_slice hy
        subst hv6
        clear hy hgy g6 F6 S6
        generalize (ls ++ [(xn, xd)]).length = n6 at *
        refine wpAnyH_ready (rs := [5]) (by kernel_rfl) (by simp) (AllReadyH.cons (o := { dst := none, op := Go.Op.store 37 (Go.Operand.tmp 3) (Go.Operand.tmp 15), type := 0, pos := "reader.go:31", after := #[{ on := 4, ground := Go.Ground.data }, { on := 4, ground := Go.Ground.chain }, { on := 0, ground := Go.Ground.phase }, { on := 1, ground := Go.Ground.phase }, { on := 2, ground := Go.Ground.phase }, { on := 3, ground := Go.Ground.phase }, { on := 4, ground := Go.Ground.phase }], guard := none }) rfl (fun K hK => ?_) AllReadyH.nil)
        go_simp
        refine Shut.out hK _ _ trivial (fun hSb => ?_)
        clear hK K
        try simp only [Act.put, List.setIfInBounds_toArray, List.set_cons_zero, List.set_cons_succ]
        refine wpAnyH_done (by kernel_rfl) ?_ _
        exact ⟨S6'.out, _, by rw [HS.out]; exact H6.out⟩
end Go.Proofs.YtjlpkgipdkjfhaaGreatDoor.Bk.Hd
