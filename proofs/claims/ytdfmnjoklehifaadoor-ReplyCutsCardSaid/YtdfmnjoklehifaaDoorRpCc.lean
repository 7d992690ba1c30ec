/- Answers behind answers; the law ReplyCuts, walked. -/
import Derived.Test.YtdfmnjoklehifaaDoorRpCt
import Derived.Test.YtdfmnjoklehifaaDoorRpSm
import Derived.Laws.OwnMore
set_option linter.unusedSimpArgs false
set_option linter.unusedVariables false
namespace Go.Proofs.YtdfmnjoklehifaaDoor.Bk.Rp
open Go.ChangeShapes Go.WideShapes Go.ChangeAt Go.RowKit Go.Shelf
theorem rpCells_one {l : List Rep} {vs : List Value} (h : ∀ v ∈ vs, v.oneCell' = true) : ∀ u ∈ rpCells l vs, u.oneCell' = true := by
  intro u hu
  unfold rpCells at hu
  obtain ⟨⟨x, v⟩, hp, hu⟩ := List.mem_flatMap.1 hu
  have hv := h v (List.of_mem_zip hp).2
  simp only [r5, List.mem_cons, List.not_mem_nil, or_false] at hu
  rcases hu with rfl | rfl | rfl | rfl | rfl <;> first | rfl | exact hv
theorem AllU.one {B0 D : Nat} {vs : List Value} {l : List Rep} {w : World} (h : AllU B0 D vs l w) (hl : vs.length = l.length) : ∀ v ∈ vs, v.oneCell' = true := by
  intro v hv
  obtain ⟨i, hi⟩ := List.getElem?_of_mem hv
  have hlt := (List.getElem?_eq_some_iff.1 hi).1
  obtain ⟨x, hx⟩ : ∃ x, l[i]? = some x := ⟨_, List.getElem?_eq_getElem (by omega)⟩
  obtain ⟨a, c, rfl⟩ := own_slice (h i x v hx hi).1
  rfl
theorem AllU.app {B0 D : Nat} {vs us : List Value} {l m : List Rep} {w : World} (h : AllU B0 D vs l w) (k : AllU B0 D us m w) (hl : vs.length = l.length) : AllU B0 D (vs ++ us) (l ++ m) w := by
  intro i x v h1 h2
  by_cases q : i < l.length
  · rw [List.getElem?_append_left q] at h1
    rw [List.getElem?_append_left (by omega)] at h2
    exact h i x v h1 h2
  · rw [List.getElem?_append_right (by omega)] at h1
    rw [List.getElem?_append_right (by omega), hl] at h2
    exact k _ x v h1 h2
/-- answers behind answers -/
theorem run_catR (w : World) (B0 D : Nat) (ty : TypeId) (v v2 : Value) (l l2 : List Rep) (hO : RpU B0 D v l w) (h2 : RpU B0 D v2 l2 w) (hl : l.length + l2.length ≤ 10000000) (hB : B0 ≤ w.heap.size) :
    ∃ v' w', (Builtin.append_ #[32, 32] ty #[v, v2]).run Tryd.prog w = .ok v' w' ∧ RpU B0 D v' (l ++ l2) w' ∧ w.grownBy w' v.ownBlock := by
  obtain ⟨i0, hi, hz0, hz1, hz2⟩ := info_parts infoR
  obtain ⟨vs, hv, hR, hA⟩ := hO
  obtain ⟨us, hu, hR2, hA2⟩ := h2
  by_cases hne : l2.length = 0
  · have e2 : l2 = [] := List.length_eq_zero_iff.1 hne
    subst e2
    rcases hR2.2 with ⟨e1, _⟩ | ⟨g, cap, cur, e1, hbg, hg, hnc, hcm, hcs, htk⟩
    · subst e1
      refine ⟨v, w, run_append_owned_none (P := Tryd.prog) (w := w) B0 32 ty 25 i0 5 Tryd.underlying32 hi v l.length (rpCells l vs) hR, ⟨vs, by simpa using hv, by simpa using hR, by simpa using hA⟩, (Kept.refl w).grownBy _⟩
    · subst e1
      obtain ⟨v', w', hr, q2, q3, _, q5⟩ := run_append_own_at (P := Tryd.prog) (w := w) B0 32 ty 25 i0 _ 5 56 Tryd.underlying32 hi hz0 hz1 hz2 rfl (by decide) v l.length (rpCells l vs) hR ⟨g, 0, none⟩ 0 cap [] rfl (fun j u hj => by simp at hj) (fun u hu => by simp at hu) (by unfold maxLen; omega) (by omega) hB
      refine ⟨v', w', hr, ⟨vs, by simpa using hv, by simpa using q2, ?_⟩, q3⟩
      simpa using hA.keep q3 (Far.own hR (by decide))
  · obtain ⟨g, cap, rfl, hc, _⟩ := own_some hR2 hne
    obtain ⟨v', w', hr, q2, q3, _, q5⟩ := run_append_own_at (P := Tryd.prog) (w := w) B0 32 ty 25 i0 _ 5 56 Tryd.underlying32 hi hz0 hz1 hz2 rfl (by decide) v l.length (rpCells l vs) hR ⟨g, 0, none⟩ l2.length cap (rpCells l2 us) (by rw [rpCells_len l2 us hu]; omega) (World.ownsRow.cells hR2 rfl) (rpCells_one (hA2.one hu)) (by unfold maxLen; omega) (by omega) hB
    refine ⟨v', w', hr, ⟨vs ++ us, by simp [hv, hu], ?_, (hA.keep q3 (Far.own hR (by decide))).app (hA2.keep q3 (Far.own hR (by decide))) hv⟩, q3⟩
    rw [List.length_append, rpCells_app hv]
    exact q2
theorem wpList_catR {ops : Array Oper} {rest : List Oper} {op : Oper} {a : Act} {w : World} {Q : Exit → Act → World → Prop} (hg : op.guard = none) (sx x : Operand) (ho : op.op = .call { callee := .builtin .append, args := #[sx, x], argTypes := #[32, 32] })
    (B0 D : Nat) (v v2 : Value) (l l2 : List Rep) (hs : a.eval sx = v) (hO : RpU B0 D v l w) (hx : a.eval x = v2) (h2 : RpU B0 D v2 l2 w) (hl : l.length + l2.length ≤ 10000000) (hB : B0 ≤ w.heap.size)
    (h : ∀ v' w', RpU B0 D v' (l ++ l2) w' → w.grownBy w' v.ownBlock → wpList Tryd.prog ops Q rest (a.put op.dst v') w') : wpList Tryd.prog ops Q (op :: rest) a w := by
  obtain ⟨v', w', hr, h3, h4⟩ := run_catR w B0 D op.type v v2 l l2 hO h2 hl hB
  exact wpList_plain hg fun K hK => wp_ok sx x _ _ ho (by rw [hs, hx]; exact hr) (hK _ _ (h v' w' h3 h4))
/-- answers stay where a reader takes bytes -/
theorem RpU.put {B0 D b : Nat} {v : Value} {l : List Rep} {w w' : World} {o : Option St} (h : RpU B0 D v l w) (hS : RS D b o w) (k : Bo D b w w') (hk : ∀ (k : Nat) (cs : Array Value), w.heap[k]? = some (.cells cs 25 (0, 0)) → w'.heap[k]? = some (.cells cs 25 (0, 0))) : RpU B0 D v l w' := by
  obtain ⟨vs, h1, h2, h3⟩ := h
  obtain ⟨cb, hcb⟩ : ∃ cs, w.heap[b]? = some (.cells cs 59 (0, 0)) := by
    obtain ⟨_, _, h⟩ := hS
    cases o with
    | none => exact ⟨_, h⟩
    | some s =>
      obtain ⟨lv, h, _⟩ := h
      exact ⟨_, h⟩
  refine ⟨vs, h1, ⟨h2.1, h2.2.imp id fun ⟨g, cap, cur, e1, e2, e3, e4⟩ => ⟨g, cap, cur, e1, e2, hk _ _ e3, e4⟩⟩, fun i x u hx hu => ?_⟩
  obtain ⟨q1, q2⟩ := h3 i x u hx hu
  refine ⟨⟨q1.1, ?_⟩, q2⟩
  rcases q1.2 with q | ⟨g, cap, cur, e1, e2, e3, e4⟩
  · exact Or.inl q
  · refine Or.inr ⟨g, cap, cur, e1, e2, ?_, e4⟩
    have hgD : g < D := q2 g (by rw [e1]; rfl)
    refine (k.block g hgD (fun q => ?_)).trans e3
    subst q
    rw [hcb] at e3
    simp at e3
theorem run_join {s : Option St} : ∀ (ls : List B) (x : B), put s (ls.flatten ++ x) = ((put (put s ls.flatten).1 x).1, (put s ls.flatten).2 ++ (put (put s ls.flatten).1 x).2) := fun ls x => put_cut s ls.flatten x
theorem flat_take {ls : List B} {i : Nat} {x : B} (h : ls[i]? = some x) : (ls.take (i + 1)).flatten = (ls.take i).flatten ++ x := by
  rw [List.take_add_one, h]; simp
theorem stepL_n {c : Int} {ls : List B} {x : Int × Bool × B} {o : List Rep × Int × List B} (h : stepL c ls x = some o) : o.1.length ≤ 1 := by
  unfold stepL at h
  split at h
  · cases h
    split <;> simp
  · cases h
theorem run_n : ∀ (k : Nat) (t : B), t.length ≤ k → ∀ (c : Int) (ls : List B), (run c ls t).2.length ≤ t.length := by
  intro k
  induction k with
  | zero =>
    intro t ht c ls
    obtain rfl : t = [] := List.length_eq_zero_iff.1 (by omega)
    rw [run_none (by simp), if_pos (by simp)]; simp
  | succ k ih =>
    intro t ht c ls
    rcases cut_cases 10 t with h | ⟨p, r, rfl, h⟩
    · rw [run_none h]
      split <;> simp
    · rw [run_hit h]
      cases hr : rdL p with
      | none => simp
      | some x =>
        simp only []
        cases hs : stepL c ls x with
        | none => simp
        | some o =>
          simp only []
          have := ih r (by simp at ht; omega) o.2.1 o.2.2
          have := stepL_n hs
          simp only [List.length_append, List.length_cons]
          omega
theorem RS.blk {D b : Nat} {o : Option St} {w : World} (hS : RS D b o w) : ∃ bad c a n m r, RdB b bad c (.slice a n m) r w := by
  obtain ⟨_, _, h⟩ := hS
  cases o with
  | none => exact ⟨_, _, _, _, _, _, h⟩
  | some s =>
    obtain ⟨lv, h, ho⟩ := h
    obtain ⟨a, c, rfl⟩ := own_slice ho
    exact ⟨_, _, _, _, _, _, h⟩
theorem brd_ex {b : Nat} {bad : Bool} {c : Int} {la : Option Addr} {n m : Nat} {v : Value} {r l : B} {w w' : World} (h : BRd v l w) (k : Ex (fun k => k = b) w w') (hr : RdB b bad c (.slice la n m) r w) : BRd v l w' := by
  obtain ⟨a, cc, hv, hz, h⟩ := h
  refine ⟨a, cc, hv, hz, fun hn => ?_⟩
  obtain ⟨g, o, ha, hc, h⟩ := h hn
  refine ⟨g, o, ha, hc, fun i x hx => ?_⟩
  have hx1 := h i x hx
  have hgb : g ≠ b := fun q => by
    subst q
    obtain ⟨c0, c1, c2, c3, c4, c5, c6⟩ := hr.cs
    have hs : ∀ j u, w.cell? ⟨g, j, none⟩ = some u → j < 7 := fun j u hj => by
      unfold World.cell? at hj
      unfold RdB at hr
      rw [hr] at hj
      refine Decidable.byContradiction fun hlt => ?_
      simp only at hj
      rw [Array.getElem?_eq_none (by simp; omega)] at hj
      cases hj
    have h7 := hs _ _ hx1
    generalize o + i = j at hx1 h7
    have : j = 0 ∨ j = 1 ∨ j = 2 ∨ j = 3 ∨ j = 4 ∨ j = 5 ∨ j = 6 := by omega
    rcases this with rfl | rfl | rfl | rfl | rfl | rfl | rfl
    · rw [c0] at hx1; cases hx1
    · rw [c1] at hx1; cases hx1
    · rw [c2] at hx1; cases hx1
    · rw [c3] at hx1; cases hx1
    · rw [c4] at hx1; cases hx1
    · rw [c5] at hx1; cases hx1
    · rw [c6] at hx1; cases hx1
  unfold World.cell? at hx1 ⊢
  rw [k.block g (cell_lt (h i x hx)) hgb]
  exact hx1
theorem LRd.ex {b : Nat} {bad : Bool} {c : Int} {la : Option Addr} {n m : Nat} {v : Value} {r : B} {ls : List B} {w w' : World} (h : LRd v ls w) (k : Ex (fun k => k = b) w w') (hr : RdB b bad c (.slice la n m) r w) (hv : v.ownBlock ≠ some b) : LRd v ls w' := by
  obtain ⟨a, cc, hvv, hz, h⟩ := h
  refine ⟨a, cc, hvv, hz, fun hn => ?_⟩
  obtain ⟨g, o, ha, hc, h⟩ := h hn
  refine ⟨g, o, ha, hc, fun i x hx => ?_⟩
  obtain ⟨y, h1, h2⟩ := h i x hx
  refine ⟨y, ?_, brd_ex h2 k hr⟩
  have hgb : g ≠ b := fun q => hv (by rw [hvv, ha, q]; rfl)
  have h1' := h1
  unfold World.cell? at h1 ⊢
  rw [k.block g (cell_lt h1') hgb]
  exact h1
theorem _root_.Go.Proofs.YtdfmnjoklehifaaDoor.Kept.ex {w x y : World} {b : Nat} (k : Kept w x) (e : Ex (fun k => k = b) x y) (hb : w.heap.size ≤ b) : Kept w y :=
  ⟨e.os.trans k.os, e.output.trans k.output, Nat.le_trans k.size e.size, fun j hj => (e.block j (Nat.lt_of_lt_of_le hj k.size) (by omega)).trans (k.block j hj), e.tape.trans k.tape⟩
theorem Bo.exb {D b : Nat} {w w' : World} (h : Bo D b w w') {n : Nat} (hn : n ≤ D) : ∀ k, k < n → k ≠ b → w'.heap[k]? = w.heap[k]? := fun k hk hb => h.block k (by omega) hb
theorem Ex.bo2 {b D : Nat} {w x y : World} (e : Ex (fun k => k = b) w x) (h : Bo D b x y) (hD : w.heap.size ≤ D) : Ex (fun k => k = b) w y :=
  ⟨h.os.trans e.os, h.tape.trans e.tape, h.output.trans e.output, Nat.le_trans e.size h.size, fun k hk hb => (h.block k (by omega) hb).trans (e.block k hk hb)⟩
theorem RS.grow {D b : Nat} {o : Option St} {w w' : World} {row : Option Nat} (h : RS D b o w) (hg : w.grownBy w' row) (h1 : NoRow 59 w row) (h2 : NoRow 9 w row) : RS D b o w' := by
  obtain ⟨g1, g2, g3⟩ := h
  refine ⟨g1, Nat.le_trans g2 hg.size, ?_⟩
  cases o with
  | none => exact RdB.grow g3 hg h1
  | some s =>
    obtain ⟨lv, q1, q2⟩ := g3
    exact ⟨lv, q1.grow hg h1, own_keep q2 hg h2⟩
theorem RpU.norow {B0 D : Nat} {v : Value} {l : List Rep} {w : World} (h : RpU B0 D v l w) {e : TypeId} (hne : 25 ≠ e) : NoRow e w v.ownBlock := by
  obtain ⟨vs, _, h, _⟩ := h
  exact NoRow.own h hne
theorem RpU.lt {B0 D : Nat} {v : Value} {l : List Rep} {w : World} (h : RpU B0 D v l w) : ∀ r, v.ownBlock = some r → B0 ≤ r := by
  obtain ⟨vs, _, h, _⟩ := h
  exact fun r hr => (World.ownsRow.lt h r hr).1
theorem flat_part {ls : List B} {i : Nat} : (ls.take i).flatten.length ≤ ls.flatten.length := by
  have := congrArg (fun l : List B => l.flatten.length) (List.take_append_drop i ls)
  simp only [List.flatten_append, List.length_append] at this
  omega
set_option maxRecDepth 100000 in
set_option maxHeartbeats 8000000 in
theorem cuts17_walk (v0 : Value) (b : B) (v1 : Value) (sz : List Int) (w : World) (hE : EX w) (hA : BRd v0 b w) (hZ : IRd v1 sz w) : Calls Tryd.prog 4 #[v0, v1] w fun e w' => e = .returned (.bool true) ∧ Kept w w' := by
  have HE := Lib.hid hE
  have HW := Lib.hid (awake_any w hE)
  obtain ⟨aa, ac, rfl⟩ := hA.slice
  obtain ⟨za, zc, rfl⟩ := hZ.slice
  have HA := Lib.hid hA
  have HZ := Lib.hid hZ
  clear hE hA hZ
  by_cases hl : 3000 < b.length
  · have hlI : (3000 : Int) < b.length := by omega
    go_enter Tryd.func4, Tryd.ntmps4
    go_wp2_with fail
    refine HW.out.mono ?_
    rintro e y ⟨rfl, k⟩
    have K := Lib.hid k
    clear k
    go_wp2
    go_ret
    exact ⟨rfl, K.out⟩
  · have hlI : ¬ (3000 : Int) < b.length := by omega
    by_cases hm : 40 < sz.length
    · have hmI : (40 : Int) < sz.length := by omega
      go_enter Tryd.func4, Tryd.ntmps4
      go_wp2_with fail
      refine HW.out.mono ?_
      rintro e y ⟨rfl, k⟩
      have K := Lib.hid k
      clear k
      go_wp2
      go_ret
      exact ⟨rfl, K.out⟩
    · have hmI : ¬ (40 : Int) < sz.length := by omega
      have hsz : 8 ≤ w.heap.size := HE.out.b0
      have HOK := Lib.hid (okO_put okO_new b)
      have HPA := Lib.hid (fun D rb w hS hR hE h8 => put_o D rb (some (0, [], [])) b (.slice aa b.length ac) w hS hR hE h8 okO_new (by omega))
      rw [show put (some (0, [], [])) b = run 0 [] b from rfl] at HOK HPA
      have HN := Lib.hid (run_n _ b (Nat.le_refl _) 0 [])
      have HX := Lib.hid (run_back _ b (Nat.le_refl _) 0 [] (okS_nil _)).1
      obtain ⟨O, hO⟩ : ∃ O, O = run 0 [] b := ⟨_, rfl⟩
      have HQ := Lib.hid hO
      rw [← hO] at HOK HPA HN HX
      clear hO
      go_enter Tryd.func4, Tryd.ntmps4
      go_wp2_with fail
      refine HW.out.mono ?_
      rintro e w1 ⟨rfl, k1⟩
      have K1 := Lib.hid k1
      clear k1 HW
      go_wp2_with fail
      refine (new_any w1).mono ?_
      rintro e w3 ⟨rfl, hr, k3, hz3⟩
      have S3 := Lib.hid (RS.new hr hz3)
      have K3 := Lib.hid (K1.out.trans k3)
      have h8 : 8 ≤ w1.heap.size := Nat.le_trans hsz K1.out.size
      have hle2 : w.heap.size ≤ w1.heap.size := K1.out.size
      generalize w1.heap.size = rb at *
      clear hr k3 hz3 K1
      go_wp2_with fail
      refine (HPA.out _ _ w3 S3.out (HA.out.kept K3.out) (HE.out.kept K3.out) h8).mono ?_
      rintro e w4 ⟨v, D', rfl, hD, hU, hS4, hBo, _⟩
      have K4 := Lib.hid (K3.out.bo hBo (by omega) hle2)
      have S4 := Lib.hid hS4
      have V4 := Lib.hid hU.rd
      obtain ⟨wa, wc, rfl⟩ := hU.rd.slice
      clear hU hS4 hBo S3 K3 HPA
      go_wp2_with fail
      refine (new_any w4).mono ?_
      rintro e w5 ⟨rfl, hr, k5, hz5⟩
      have R5 := Lib.hid hr
      have K45 := Lib.hid k5
      have h84 : 8 ≤ w4.heap.size := Nat.le_trans hsz K4.out.size
      have HZ4 := Lib.hid (show w4.heap.size < w5.heap.size by omega)
      clear hr k5 hz5
      go_wp2_with fail
      refine (cut_pieces b (.slice aa b.length ac) sz (.slice za sz.length zc) w5 (HA.out.kept (K4.out.trans K45.out)) (HZ.out.kept (K4.out.trans K45.out)) (by omega) (by omega)).mono ?_
      rintro e w6 ⟨lv, ls, rfl, hlv, hrow, hfl, hln, k6⟩
      have K46 := Lib.hid (K45.out.trans k6)
      have S6 := Lib.hid (show RS w6.heap.size w4.heap.size (some (0, [], [])) w6 from ⟨by have := k6.size; have := HZ4.out; omega, Nat.le_refl _, _, R5.out.kept k6, OwnS.nil _ _⟩)
      have LV := Lib.hid hlv
      have HROW := Lib.hid (show Value.ownBlock lv ≠ some w4.heap.size from fun q => by have := hrow _ q; have := HZ4.out; omega)
      have HFL := Lib.hid hfl
      obtain ⟨la, lc, rfl⟩ := hlv.slice
      have hln2 : ls.length ≤ 41 := by omega
      clear R5 hlv hfl hln k6 hrow
      obtain ⟨fo, hfo⟩ : ∃ fo : Nat → Option St × List Rep, fo = fun i => run 0 [] (ls.take i).flatten := ⟨_, rfl⟩
      have HF0 := Lib.hid (show fo 0 = (some (0, [], []), []) by rw [hfo]; exact run_none (by simp))
      have HFN := Lib.hid (show fo ls.length = O by rw [hfo]; show run 0 [] (ls.take ls.length).flatten = O; rw [List.take_length, HFL.out, HQ.out])
      have HFS := Lib.hid (show ∀ (i : Nat) (x : B), ls[i]? = some x → fo (i + 1) = ((put (fo i).1 x).1, (fo i).2 ++ (put (fo i).1 x).2) from fun i x h => by rw [hfo]; show run 0 [] (ls.take (i + 1)).flatten = _; rw [flat_take h]; exact run_cut _ _ (Nat.le_refl _) 0 [] x)
      have HFO := Lib.hid (show ∀ i, okO (fo i).1 from fun i => by rw [hfo]; exact okO_put okO_new (ls.take i).flatten)
      have HFB := Lib.hid (show ∀ i, (fo i).2.length ≤ 3000 from fun i => by
        rw [hfo]
        have h1 := run_n _ (ls.take i).flatten (Nat.le_refl _) 0 []
        have h2 := flat_part (ls := ls) (i := i)
        rw [HFL.out] at h2
        exact Nat.le_trans h1 (by omega))
      have HXL := Lib.hid (show ∀ (i : Nat) (x : B), ls[i]? = some x → x.length ≤ 3000 from fun i x h => by
        have h1 := flat_take h
        have h2 := flat_part (ls := ls) (i := i + 1)
        rw [h1, HFL.out, List.length_append] at h2
        omega)
      clear hfo
      obtain ⟨sb, hsb⟩ : ∃ sb, sb = w4.heap.size := ⟨_, rfl⟩
      have HSB := Lib.hid hsb
      rw [← hsb] at S6 h84 HZ4 HROW ⊢
      clear hsb
      go_wp2_with fail
      go_loopw [9, 11] (fun vo vi wr' => ∃ (i D : Nat), i ≤ ls.length ∧ vi = .int .i64 i ∧ Hid (RpU w6.heap.size D vo (fo i).2 wr') ∧ Hid (RS D sb (fo i).1 wr') ∧ Hid (Ex (fun k => k = sb) w6 wr') ∧ Hid (w6.heap.size ≤ D)) (fun _ vi _ => ls.length - (intOf vi).toNat)
      case atStart => exact ⟨0, w6.heap.size, Nat.zero_le _, rfl, Lib.hid (by rw [HF0.out]; exact RpU.nil _ _ _), Lib.hid (by rw [HF0.out]; exact S6.out), Lib.hid (Ex.refl _ _), Lib.hid (Nat.le_refl _)⟩
      case round =>
        obtain ⟨i, D, hi, rfl, hU, hS, hX, hD⟩ := hrel
        obtain ⟨va, vc, hv⟩ := hU.out.slice
        subst hv
        have KW := Lib.hid (K46.out.ex hX.out (by rw [← HSB.out]; exact Nat.le_refl _))
        by_cases hlt : i < ls.length
        · have hltI : (i : Int) < ls.length := by omega
          obtain ⟨x, hx⟩ : ∃ x, ls[i]? = some x := ⟨_, List.getElem?_eq_getElem hlt⟩
          obtain ⟨rb1, rb2, rb3, rb4, rb5, rb6, hrb⟩ := S6.out.blk
          obtain ⟨gl, ol, cl, xv, hvl, hcl, p0, hxb⟩ := (LV.out.ex hX.out hrb HROW.out).at hx
          injection hvl with e1 _ e3
          subst e1 e3
          have hxl := HXL.out i x hx
          have HPx := Lib.hid (put_o D sb (fo i).1 x xv wr hS.out hxb (HE.out.kept (K4.out.trans KW.out)) h84 (HFO.out i) (by omega))
          have HS2 := Lib.hid (HFS.out i x hx)
          have HB2 := Lib.hid (show (fo i).2.length + (put (fo i).1 x).2.length ≤ 10000000 by
            have h1 := HFB.out (i + 1)
            rw [HS2.out, List.length_append] at h1
            omega)
          obtain ⟨xa, xc, rfl⟩ := hxb.slice
          clear hx hrb hxb
          go_wp2_with fail
          refine HPx.out.mono ?_
          rintro e w7 ⟨v', D7, rfl, hD7, hU7, hS7, hBo, hkp⟩
          have U7 := Lib.hid ((hU.out.put hS.out hBo hkp).mono (Nat.le_refl _) hD7)
          have V7 := Lib.hid (hU7.mono hD.out (Nat.le_refl _))
          have S7 := Lib.hid hS7
          have X7 := Lib.hid (hX.out.bo2 hBo hD.out)
          have hB7 := X7.out.size
          have HB3 := HB2.out
          obtain ⟨ya, yc, rfl⟩ := hU7.slice
          clear p0 hU7 hS7 hBo hkp HPx
          go_wp2_with (at_builtin; refine wpList_catR rfl _ _ rfl w6.heap.size D7 _ _ (fo i).2 (put (fo i).1 x).2 rfl U7.out rfl V7.out HB3 hB7 ?_)
          intro v8 w8 hz hg
          have X8 := Lib.hid (X7.out.grown hg (fun k hk => Or.inr (U7.out.lt k hk)))
          have S8 := Lib.hid (show RS D7 sb (fo (i + 1)).1 w8 by rw [HS2.out]; exact S7.out.grow hg (U7.out.norow (by decide)) (U7.out.norow (by decide)))
          have U8 := Lib.hid (show RpU w6.heap.size D7 v8 (fo (i + 1)).2 w8 by rw [HS2.out]; exact hz)
          have D8 := Lib.hid (Nat.le_trans hD.out hD7)
          clear hz hg HB3
          go_wp2
          go_roundw
          case rel => exact ⟨i + 1, D7, hlt, by go_num, U8, S8, X8, D8⟩
          case measure => simp [intOf]; omega
        · have hii : i = ls.length := by omega
          have hltI : ¬ (i : Int) < ls.length := by omega
          have hob : fo i = O := by rw [hii]; exact HFN.out
          rw [hob] at hU hS ⊢
          have SR := Lib.hid (S4.out.kept KW.out)
          have KF := Lib.hid (K4.out.trans KW.out)
          have hn3 : O.2.length ≤ 10000000 := by have := HN.out; omega
          have HLs := Lib.hid (listT_any O.2 (.slice wa O.2.length wc) (.slice va O.2.length vc) wr (V4.out.kept KW.out) hU.out.rd hn3 (fun x hx => by have := (okR_iff.1 (HX.out x hx)).2.2.1; omega))
          have hSS := hS
          have hbb : (O.1.isNone == O.1.isNone) = true := by simp
          have hll : (((left O.1 : Nat) : Int) == ((left O.1 : Nat) : Int)) = true := by simp
          clear hii hob hX hU
          go_wp2_with fail
          refine HLs.out.mono ?_
          rintro e w7 ⟨rfl, k7⟩
          have K7 := Lib.hid (KF.out.trans k7)
          have SR7 := Lib.hid (SR.out.kept k7)
          have SS7 := Lib.hid (hSS.out.kept k7)
          clear k7
          go_wp2_with fail
          refine (bad_o _ _ _ w7 SR7.out).mono ?_
          rintro e w8 ⟨rfl, rfl⟩
          go_wp2_with fail
          refine (bad_o _ _ _ w7 SS7.out).mono ?_
          rintro e w8 ⟨rfl, rfl⟩
          go_wp2_with fail
          refine (left_o _ _ _ w7 SR7.out HOK.out).mono ?_
          rintro e w8 ⟨rfl, rfl⟩
          go_wp2_with fail
          refine (left_o _ _ _ w7 SS7.out HOK.out).mono ?_
          rintro e w8 ⟨rfl, rfl⟩
          go_wp2_with fail
          go_ret
          exact ⟨rfl, K7.out⟩
end Go.Proofs.YtdfmnjoklehifaaDoor.Bk.Rp
