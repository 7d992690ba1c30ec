/- Package reply: what is enhanced. -/
import Derived.Test.YtdfmnjoklehifaaDoorRpA
set_option linter.unusedSimpArgs false
set_option linter.unusedVariables false
namespace Go.Proofs.YtdfmnjoklehifaaDoor.Bk.Rp
open Go.ChangeShapes Go.WideShapes Go.ChangeAt Go.RowKit Go.Shelf
abbrev m3V (m : M3) : Value := .agg #[iV m.1, iV m.2.1, iV m.2.2]
/-- three numbers in a block -/
def A3 (b : Nat) (x y z : Int) (w : World) : Prop := w.heap[b]? = some (.cells #[iV x, iV y, iV z] 23 (0, 0))
theorem A3.lt {b : Nat} {x y z : Int} {w : World} (h : A3 b x y z w) : b < w.heap.size := (Array.getElem?_eq_some_iff.1 h).1
theorem A3.kept {b : Nat} {x y z : Int} {w w' : World} (h : A3 b x y z w) (k : Kept w w') : A3 b x y z w' := (k.block _ h.lt).trans h
theorem A3.cs {b : Nat} {x y z : Int} {w : World} (h : A3 b x y z w) : w.cell? ⟨b, 0, none⟩ = some (iV x) ∧ w.cell? ⟨b, 1, none⟩ = some (iV y) ∧ w.cell? ⟨b, 2, none⟩ = some (iV z) := ⟨cell_at h rfl, cell_at h rfl, cell_at h rfl⟩
theorem A3.frz {b : Nat} {x y z : Int} {w : World} (h : A3 b x y z w) (j : Nat) : w.frozen? ⟨b, j, none⟩ = false := by unfold A3 at h; simp [World.frozen?, h]
theorem A3.set0 {b : Nat} {x y z : Int} {w : World} (h : A3 b x y z w) (v : Int) : A3 b v y z (w.setCell ⟨b, 0, none⟩ (iV v)) := by
  unfold A3 at h ⊢; simp [World.setCell, Array.getElem?_modify, h]
theorem A3.set1 {b : Nat} {x y z : Int} {w : World} (h : A3 b x y z w) (v : Int) : A3 b x v z (w.setCell ⟨b, 1, none⟩ (iV v)) := by
  unfold A3 at h ⊢; simp [World.setCell, Array.getElem?_modify, h]
theorem A3.set2 {b : Nat} {x y z : Int} {w : World} (h : A3 b x y z w) (v : Int) : A3 b x y v (w.setCell ⟨b, 2, none⟩ (iV v)) := by
  unfold A3 at h ⊢; simp [World.setCell, Array.getElem?_modify, h]
theorem A3.other {b b' : Nat} {x y z : Int} {w : World} (h : A3 b x y z w) (hne : b ≠ b') (j : Nat) (v : Value) : A3 b x y z (w.setCell ⟨b', j, none⟩ v) := (Below.heap_setCell _ _ _ _ hne).trans h
/-- an answer in a block -/
def R5 (b : Nat) (x : Rep) (lv : Value) (w : World) : Prop := w.heap[b]? = some (.cells #[iV x.1, lv, iV x.2.2.1, iV x.2.2.2.1, iV x.2.2.2.2] 25 (0, 0))
theorem R5.lt {b : Nat} {x : Rep} {lv : Value} {w : World} (h : R5 b x lv w) : b < w.heap.size := (Array.getElem?_eq_some_iff.1 h).1
theorem R5.kept {b : Nat} {x : Rep} {lv : Value} {w w' : World} (h : R5 b x lv w) (k : Kept w w') : R5 b x lv w' := (k.block _ h.lt).trans h
theorem R5.cs {b : Nat} {x : Rep} {lv : Value} {w : World} (h : R5 b x lv w) : w.cell? ⟨b, 0, none⟩ = some (iV x.1) ∧ w.cell? ⟨b, 1, none⟩ = some lv ∧ w.cell? ⟨b, 2, none⟩ = some (iV x.2.2.1) ∧ w.cell? ⟨b, 3, none⟩ = some (iV x.2.2.2.1) ∧ w.cell? ⟨b, 4, none⟩ = some (iV x.2.2.2.2) := ⟨cell_at h rfl, cell_at h rfl, cell_at h rfl, cell_at h rfl, cell_at h rfl⟩
theorem R5.frz {b : Nat} {x : Rep} {lv : Value} {w : World} (h : R5 b x lv w) (j : Nat) : w.frozen? ⟨b, j, none⟩ = false := by unfold R5 at h; simp [World.frozen?, h]
theorem R5.other {b b' : Nat} {x : Rep} {lv : Value} {w : World} (h : R5 b x lv w) (hne : b ≠ b') (j : Nat) (v : Value) : R5 b x lv (w.setCell ⟨b', j, none⟩ v) := (Below.heap_setCell _ _ _ _ hne).trans h
theorem R5.new (w : World) (x : Rep) (lv : Value) : R5 w.heap.size x lv (w.alloc (.cells #[iV x.1, lv, iV x.2.2.1, iV x.2.2.2.1, iV x.2.2.2.2] 25)) := World.alloc_heap_new w _
theorem A3.new (w : World) (x y z : Int) : A3 w.heap.size x y z (w.alloc (.cells #[iV x, iV y, iV z] 23)) := World.alloc_heap_new w _
theorem cell_other {w : World} {a : Addr} {v u : Value} {b j : Nat} (h : w.cell? a = some v) (hne : a.block ≠ b) : (w.setCell ⟨b, j, none⟩ u).cell? a = some v := by
  unfold World.cell? at h ⊢; rw [Below.heap_setCell _ _ _ _ hne]; exact h
set_option maxRecDepth 100000 in
theorem en_res (tmps : Array Value) (W : World) (b : Nat) {x y z : Int} (h : A3 b x y z W) (hp : tmps.getD 2 undef = pV b) : (results Tryd.f30 tmps).run Tryd.prog W = .ok (.agg #[iV x, iV y, iV z]) W :=
  results_cell_row Tryd.results30 tmps W b 23 _ (0, 0) _ hp h Tryd.underlying23 rfl (by kernel_rfl)
def EnP (m : M3) (w : World) (e : Ending) (w' : World) : Prop := e = .returned (m3V m) ∧ Kept w w'
set_option maxRecDepth 100000 in
set_option maxHeartbeats 8000000 in
theorem enhanced_any (x : Rep) (lv : Value) (t : B) (k : Nat) (w : World) (hE : EX w) (hL : SRd lv x.2.1 w) (hk : x.2.1.length = k + 1) (hk2 : k ≤ 1000) (hc : okC x.1 = true) (ht : x.2.1[k]? = some t) (hl : t.length ≤ 1000000) :
    Calls Tryd.prog 30 #[repV x lv] w (EnP (enh x.1 t) w) := by
  obtain ⟨g, o, cp, rfl, hcp, p0⟩ := hL.at ht
  rw [hk] at hcp ⊢
  clear hL hk ht
  have K0 := ((Kept.refl w).alloc (.cells #[iV x.1, .slice (some ⟨g, o, none⟩) (k + 1) cp, iV x.2.2.1, iV x.2.2.2.1, iV x.2.2.2.2] 25)).alloc (.cells #[iV 0, iV 0, iV 0] 23)
  have X0 := (R5.new w x (.slice (some ⟨g, o, none⟩) (k + 1) cp)).kept ((Kept.refl _).alloc (.cells #[iV 0, iV 0, iV 0] 23))
  have R0 := A3.new (w.alloc (.cells #[iV x.1, .slice (some ⟨g, o, none⟩) (k + 1) cp, iV x.2.2.1, iV x.2.2.2.1, iV x.2.2.2.2] 25)) 0 0 0
  simp only [World.size_alloc] at R0
  have hz : ((w.alloc (.cells #[iV x.1, .slice (some ⟨g, o, none⟩) (k + 1) cp, iV x.2.2.1, iV x.2.2.2.1, iV x.2.2.2.2] 25)).alloc (.cells #[iV 0, iV 0, iV 0] 23)).heap.size = w.heap.size + 2 := by simp
  have HE0 := Lib.hid hE
  have hcc := okC_iff.1 hc
  have E0 := Lib.hid (hE.kept K0)
  have p1 := K0.yes p0
  have HC := Lib.hid (fun w hE => cutAt_any t [32] w hE (by omega))
  have HB := Lib.hid (cut_bef t)
  have hbl : (bef t).length ≤ t.length := by
    rw [← cut_bef]; unfold Lib.cut; split <;> simp <;> omega
  have HS := Lib.hid (fun w hE => split_any 46 (bef t) w hE (by omega))
  have HX := Lib.hid (show enh x.1 t = en3 x.1 (splt 46 (bef t)) from rfl)
  have HL := Lib.hid (show ∀ p ∈ splt 46 (bef t), p.length ≤ 1000000 from fun p hp => by
    have h1 := (splt_mem _ p hp).2
    omega)
  generalize enh x.1 t = M at *
  generalize splt 46 (bef t) = ps at *
  clear p0 hE hc hbl
  go_enter Tryd.func30, Tryd.ntmps30
  go_upto_region 1 with (fail)
  generalize (w.alloc (.cells #[iV x.1, .slice (some ⟨g, o, none⟩) (k + 1) cp, iV x.2.2.1, iV x.2.2.2.1, iV x.2.2.2.2] 25)).alloc (.cells #[iV 0, iV 0, iV 0] 23) = W0 at *
  have K := Lib.hid K0
  clear K0
  obtain ⟨c0, c1, c2, c3, c4⟩ := X0.cs
  go_wp2_with fail
  refine (HC.out _ E0.out).mono ?_
  rintro e w1 ⟨rfl, k1⟩
  rw [HB.out]
  generalize (Lib.cut t [32]).2.1 = u1
  generalize (Lib.cut t [32]).2.2 = u2
  have E1 := Lib.hid (E0.out.kept k1)
  have X1 := Lib.hid (X0.kept k1)
  have R1 := Lib.hid (R0.kept k1)
  have K1 := Lib.hid (K.out.trans k1)
  have hz1 : w.heap.size + 2 ≤ w1.heap.size := by rw [← hz]; exact k1.size
  clear k1 X0 R0 c0 c1 c2 c3 c4 p1 HC HB K E0 hz
  have Ra := Lib.hid ((A3.new w1 0 0 0).kept ((Kept.refl _).alloc (.cells #[iV 0, iV 0, iV 0] 23)))
  have Rb := A3.new (w1.alloc (.cells #[iV 0, iV 0, iV 0] 23)) 0 0 0
  simp only [World.size_alloc] at Rb
  replace Rb := Lib.hid Rb
  have kx := ((Kept.refl w1).alloc (.cells #[iV 0, iV 0, iV 0] 23)).alloc (.cells #[iV 0, iV 0, iV 0] 23)
  have hz2 : ((w1.alloc (.cells #[iV 0, iV 0, iV 0] 23)).alloc (.cells #[iV 0, iV 0, iV 0] 23)).heap.size = w1.heap.size + 2 := by simp
  have X2 := Lib.hid (X1.out.kept kx)
  have R2 := Lib.hid (R1.out.kept kx)
  have E2 := Lib.hid (E1.out.kept kx)
  have K2 := Lib.hid (K1.out.trans kx)
  clear kx X1 R1 E1 K1
  go_upto_region 3 with (fail)
  generalize (w1.alloc (.cells #[iV 0, iV 0, iV 0] 23)).alloc (.cells #[iV 0, iV 0, iV 0] 23) = W2 at *
  replace hz2 := Lib.hid hz2
  go_wp2_with fail
  refine (HS.out _ E2.out).mono ?_
  rintro e w3 ⟨v, rfl, hv, k3, rfl⟩
  obtain ⟨n, hn⟩ : ∃ n, n = w.heap.size := ⟨_, rfl⟩
  obtain ⟨m, hm⟩ : ∃ m, m = w1.heap.size := ⟨_, rfl⟩
  obtain ⟨g2, hg2⟩ : ∃ g2, g2 = W2.heap.size := ⟨_, rfl⟩
  have hgm : m + 2 ≤ g2 := by rw [hg2, hz2.out, hm]; exact Nat.le_refl _
  rw [← hn] at X2 R2 hz1 ⊢
  rw [← hm] at Ra Rb hz1 ⊢
  rw [← hg2] at hv ⊢
  have X3 := Lib.hid (X2.out.kept k3)
  have R3 := Lib.hid (R2.out.kept k3)
  have K3 := Lib.hid (K2.out.trans k3)
  have A3' := Lib.hid (Ra.out.kept k3)
  have N3 := Lib.hid (Rb.out.kept k3)
  have HV := Lib.hid hv
  have HN := Lib.hid hn
  clear X2 R2 E2 K2 Ra Rb k3 hv hm hn HS hg2 hz2
  obtain ⟨x0, x1, x2, x3, x4⟩ := X3.out.cs
  obtain ⟨n0, n1, n2⟩ := N3.out.cs
  by_cases h3 : ps.length = 3
  · obtain ⟨p, q, r, rfl⟩ : ∃ p q r, ps = [p, q, r] := by
      match ps, h3 with
      | [p, q, r], _ => exact ⟨p, q, r, rfl⟩
    have hat : ∀ (i : Nat) (t : B), ([p, q, r] : List B)[i]? = some t → w3.cell? ⟨g2, 0 + i, none⟩ = some (sV t) := fun i t hi => by
      obtain ⟨g3, o3, c3, hpb, _, s1⟩ := HV.out.at hi
      injection hpb with e1
      injection e1 with e1
      injection e1 with e1 e2
      subst e1 e2
      exact s1
    have s0 : w3.cell? ⟨g2, 0, none⟩ = some (sV p) := hat 0 p rfl
    have S1 := Lib.hid (show w3.cell? ⟨g2, 1, none⟩ = some (sV q) from hat 1 q rfl)
    have S2 := Lib.hid (show w3.cell? ⟨g2, 2, none⟩ = some (sV r) from hat 2 r rfl)
    have HP := Lib.hid (fun w hE => number_any p w hE (by have := HL.out p (by simp); omega))
    have HQ := Lib.hid (fun w hE => number_any q w hE (by have := HL.out q (by simp); omega))
    have HR := Lib.hid (fun w hE => number_any r w hE (by have := HL.out r (by simp); omega))
    have HX' := Lib.hid (show M = match nm p, nm q, nm r with
      | some a, some b, some d => if (a : Int) = x.1.tdiv 100 ∧ a ≠ 3 then ((a : Int), (b : Int), (d : Int)) else (0, 0, 0)
      | _, _, _ => (0, 0, 0) from HX.out)
    clear h3 HL HV hat HX
    rw [show ([p, q, r] : List B).length = 3 from rfl]
    go_wp2_with fail
    refine wp_loop_rounds 4 ?_
    rw [rounds_succ]
    go_wp2_with fail
    refine (HP.out _ (HE0.out.kept K3.out)).mono ?_
    rintro e w4 ⟨rfl, k4⟩
    have Kw4 := Lib.hid (K3.out.trans k4)
    have Xw4 := Lib.hid (X3.out.kept k4)
    have Rw4 := Lib.hid (R3.out.kept k4)
    have Nw4 := Lib.hid (N3.out.kept k4)
    have Aw4 := Lib.hid (A3'.out.kept k4)
    have T1 := Lib.hid (k4.yes S1.out)
    have T2 := Lib.hid (k4.yes S2.out)
    clear k4 s0 x0 x1 x2 x3 x4 n0 n1 n2 S1 S2
    obtain ⟨n0, n1, n2⟩ := Nw4.out.cs
    cases hp : nm p with
    | none =>
      have HZ := Lib.hid (show M = (0, 0, 0) by rw [HX'.out, hp])
      clear hp HX'
      obtain ⟨r0, r1, r2⟩ := Rw4.out.cs
      have fr := Rw4.out.frz
      have RZ := Lib.hid (((Rw4.out.set0 0).set1 0).set2 0)
      have KZ := Lib.hid (((Kw4.out.setCell (a := ⟨n + 1, 0, none⟩) (by show w.heap.size ≤ n + 1; rw [← HN.out]; omega) (iV 0)).setCell (a := ⟨n + 1, 1, none⟩) (by show w.heap.size ≤ n + 1; rw [← HN.out]; omega) (iV 0)).setCell (a := ⟨n + 1, 2, none⟩) (by show w.heap.size ≤ n + 1; rw [← HN.out]; omega) (iV 0))
      go_wp2
      exact bodyPost_ret (en_res _ _ (n + 1) RZ.out rfl) rfl ⟨by rw [HZ.out], KZ.out⟩
    | some vp =>
      have Hp := Lib.hid hp
      have hv : nmV p = (vp : Int) := by unfold nmV; rw [hp]
      rw [hv]
      have gp := (nm_some hp).1
      clear hp hv
      obtain ⟨a0, a1, a2⟩ := Aw4.out.cs
      have fa := Aw4.out.frz
      have Kw5 := Lib.hid (Kw4.out.setCell (a := ⟨m, 0, none⟩) (by show w.heap.size ≤ m; rw [← HN.out]; omega) (iV vp))
      have Xw5 := Lib.hid (Xw4.out.other (show n ≠ m by omega) 0 (iV vp))
      have Rw5 := Lib.hid (Rw4.out.other (show n + 1 ≠ m by omega) 0 (iV vp))
      have Nw5 := Lib.hid (Nw4.out.other (show m + 1 ≠ m by omega) 0 (iV vp))
      have Aw5 := Lib.hid (Aw4.out.set0 vp)
      have S1 := Lib.hid (show (w4.setCell ⟨m, 0, none⟩ (iV vp)).cell? ⟨g2, 1, none⟩ = some (sV q) from cell_other T1.out (show g2 ≠ m by omega))
      have S2 := Lib.hid (show (w4.setCell ⟨m, 0, none⟩ (iV vp)).cell? ⟨g2, 2, none⟩ = some (sV r) from cell_other T2.out (show g2 ≠ m by omega))
      clear Kw4 Xw4 Rw4 Nw4 Aw4 T1 T2 n0 n1 n2
      go_wp2_with fail
      generalize w4.setCell ⟨m, 0, none⟩ (iV vp) = w5 at *
      clear a0 a1 a2 fa
      have s1 := S1.out
      obtain ⟨x0, x1, x2, x3, x4⟩ := Xw5.out.cs
      obtain ⟨n0, n1, n2⟩ := Nw5.out.cs
      rw [rounds_succ]
      go_wp2_with fail
      refine (HQ.out _ (HE0.out.kept Kw5.out)).mono ?_
      rintro e w6 ⟨rfl, k4⟩
      have Kw6 := Lib.hid (Kw5.out.trans k4)
      have Xw6 := Lib.hid (Xw5.out.kept k4)
      have Rw6 := Lib.hid (Rw5.out.kept k4)
      have Nw6 := Lib.hid (Nw5.out.kept k4)
      have Aw6 := Lib.hid (Aw5.out.kept k4)
      have T2 := Lib.hid (k4.yes S2.out)
      clear k4 s1 x0 x1 x2 x3 x4 n0 n1 n2 S2
      obtain ⟨n0, n1, n2⟩ := Nw6.out.cs
      cases hq : nm q with
      | none =>
        have HZ := Lib.hid (show M = (0, 0, 0) by rw [HX'.out, Hp.out, hq])
        clear hq HX'
        obtain ⟨r0, r1, r2⟩ := Rw6.out.cs
        have fr := Rw6.out.frz
        have RZ := Lib.hid (((Rw6.out.set0 0).set1 0).set2 0)
        have KZ := Lib.hid (((Kw6.out.setCell (a := ⟨n + 1, 0, none⟩) (by show w.heap.size ≤ n + 1; rw [← HN.out]; omega) (iV 0)).setCell (a := ⟨n + 1, 1, none⟩) (by show w.heap.size ≤ n + 1; rw [← HN.out]; omega) (iV 0)).setCell (a := ⟨n + 1, 2, none⟩) (by show w.heap.size ≤ n + 1; rw [← HN.out]; omega) (iV 0))
        go_wp2
        exact bodyPost_ret (en_res _ _ (n + 1) RZ.out rfl) rfl ⟨by rw [HZ.out], KZ.out⟩
      | some vq =>
        have Hq := Lib.hid hq
        have hv : nmV q = (vq : Int) := by unfold nmV; rw [hq]
        rw [hv]
        have gq := (nm_some hq).1
        clear hq hv
        obtain ⟨a0, a1, a2⟩ := Aw6.out.cs
        have fa := Aw6.out.frz
        have Kw7 := Lib.hid (Kw6.out.setCell (a := ⟨m, 1, none⟩) (by show w.heap.size ≤ m; rw [← HN.out]; omega) (iV vq))
        have Xw7 := Lib.hid (Xw6.out.other (show n ≠ m by omega) 1 (iV vq))
        have Rw7 := Lib.hid (Rw6.out.other (show n + 1 ≠ m by omega) 1 (iV vq))
        have Nw7 := Lib.hid (Nw6.out.other (show m + 1 ≠ m by omega) 1 (iV vq))
        have Aw7 := Lib.hid (Aw6.out.set1 vq)
        have S2 := Lib.hid (show (w6.setCell ⟨m, 1, none⟩ (iV vq)).cell? ⟨g2, 2, none⟩ = some (sV r) from cell_other T2.out (show g2 ≠ m by omega))
        clear Kw6 Xw6 Rw6 Nw6 Aw6 T2 n0 n1 n2
        go_wp2_with fail
        generalize w6.setCell ⟨m, 1, none⟩ (iV vq) = w7 at *
        clear a0 a1 a2 fa
        have s2 := S2.out
        obtain ⟨x0, x1, x2, x3, x4⟩ := Xw7.out.cs
        obtain ⟨n0, n1, n2⟩ := Nw7.out.cs
        rw [rounds_succ]
        go_wp2_with fail
        refine (HR.out _ (HE0.out.kept Kw7.out)).mono ?_
        rintro e w8 ⟨rfl, k4⟩
        have Kw8 := Lib.hid (Kw7.out.trans k4)
        have Xw8 := Lib.hid (Xw7.out.kept k4)
        have Rw8 := Lib.hid (Rw7.out.kept k4)
        have Nw8 := Lib.hid (Nw7.out.kept k4)
        have Aw8 := Lib.hid (Aw7.out.kept k4)
        clear k4 s2 x0 x1 x2 x3 x4 n0 n1 n2 
        obtain ⟨n0, n1, n2⟩ := Nw8.out.cs
        cases hr : nm r with
        | none =>
          have HZ := Lib.hid (show M = (0, 0, 0) by rw [HX'.out, Hp.out, Hq.out, hr])
          clear hr HX'
          obtain ⟨r0, r1, r2⟩ := Rw8.out.cs
          have fr := Rw8.out.frz
          have RZ := Lib.hid (((Rw8.out.set0 0).set1 0).set2 0)
          have KZ := Lib.hid (((Kw8.out.setCell (a := ⟨n + 1, 0, none⟩) (by show w.heap.size ≤ n + 1; rw [← HN.out]; omega) (iV 0)).setCell (a := ⟨n + 1, 1, none⟩) (by show w.heap.size ≤ n + 1; rw [← HN.out]; omega) (iV 0)).setCell (a := ⟨n + 1, 2, none⟩) (by show w.heap.size ≤ n + 1; rw [← HN.out]; omega) (iV 0))
          go_wp2
          exact bodyPost_ret (en_res _ _ (n + 1) RZ.out rfl) rfl ⟨by rw [HZ.out], KZ.out⟩
        | some vr =>
          have Hr := Lib.hid hr
          have hv : nmV r = (vr : Int) := by unfold nmV; rw [hr]
          rw [hv]
          have gr := (nm_some hr).1
          clear hr hv
          obtain ⟨a0, a1, a2⟩ := Aw8.out.cs
          have fa := Aw8.out.frz
          have Kw9 := Lib.hid (Kw8.out.setCell (a := ⟨m, 2, none⟩) (by show w.heap.size ≤ m; rw [← HN.out]; omega) (iV vr))
          have Xw9 := Lib.hid (Xw8.out.other (show n ≠ m by omega) 2 (iV vr))
          have Rw9 := Lib.hid (Rw8.out.other (show n + 1 ≠ m by omega) 2 (iV vr))
          have Nw9 := Lib.hid (Nw8.out.other (show m + 1 ≠ m by omega) 2 (iV vr))
          have Aw9 := Lib.hid (Aw8.out.set2 vr)
          clear Kw8 Xw8 Rw8 Nw8 Aw8  n0 n1 n2
          go_wp2_with fail
          generalize w8.setCell ⟨m, 2, none⟩ (iV vr) = w9 at *
          clear a0 a1 a2 fa
          rw [rounds_succ]
          obtain ⟨a0, a1, a2⟩ := Aw9.out.cs
          obtain ⟨n0, n1, n2⟩ := Nw9.out.cs
          obtain ⟨x0, x1, x2, x3, x4⟩ := Xw9.out.cs
          have HM := Lib.hid (show M = if (vp : Int) = x.1.tdiv 100 ∧ vp ≠ 3 then ((vp : Int), (vq : Int), (vr : Int)) else (0, 0, 0) by rw [HX'.out, Hp.out, Hq.out, Hr.out])
          clear HX'
          have hd1 : x.1.tdiv 100 = x.1 / 100 := Int.tdiv_eq_ediv_of_nonneg (by omega)
          by_cases e1 : (vp : Int) = x.1.tdiv 100
          · have f1 : ((vp : Int) != x.1.tdiv 100) = false := by rw [bne_eq_false_iff_eq]; exact e1
            have f2 : ((vp : Int) != x.1 / 100) = false := by rw [← hd1]; exact f1
            by_cases e2 : vp = 3
            · have f3 : ((vp : Int) == 3) = true := by rw [beq_iff_eq]; omega
              have HZ := Lib.hid (show M = (0, 0, 0) by rw [HM.out, if_neg (fun e => e.2 e2)])
              clear HM e1 e2 hd1
              obtain ⟨r0, r1, r2⟩ := Rw9.out.cs
              have fr := Rw9.out.frz
              have RZ := Lib.hid (((Rw9.out.set0 0).set1 0).set2 0)
              have KZ := Lib.hid (((Kw9.out.setCell (a := ⟨n + 1, 0, none⟩) (by show w.heap.size ≤ n + 1; rw [← HN.out]; omega) (iV 0)).setCell (a := ⟨n + 1, 1, none⟩) (by show w.heap.size ≤ n + 1; rw [← HN.out]; omega) (iV 0)).setCell (a := ⟨n + 1, 2, none⟩) (by show w.heap.size ≤ n + 1; rw [← HN.out]; omega) (iV 0))
              go_wp2
              exact bodyPost_ret (en_res _ _ (n + 1) RZ.out rfl) rfl ⟨by rw [HZ.out], KZ.out⟩
            · have f3 : ((vp : Int) == 3) = false := by rw [beq_eq_false_iff_ne]; omega
              have HZ := Lib.hid (show M = ((vp : Int), (vq : Int), (vr : Int)) by rw [HM.out, if_pos ⟨e1, e2⟩])
              clear HM e1 e2 hd1
              obtain ⟨r0, r1, r2⟩ := Rw9.out.cs
              have fr := Rw9.out.frz
              have RZ := Lib.hid (((Rw9.out.set0 vp).set1 vq).set2 vr)
              have KZ := Lib.hid (((Kw9.out.setCell (a := ⟨n + 1, 0, none⟩) (by show w.heap.size ≤ n + 1; rw [← HN.out]; omega) (iV vp)).setCell (a := ⟨n + 1, 1, none⟩) (by show w.heap.size ≤ n + 1; rw [← HN.out]; omega) (iV vq)).setCell (a := ⟨n + 1, 2, none⟩) (by show w.heap.size ≤ n + 1; rw [← HN.out]; omega) (iV vr))
              go_wp2
              exact bodyPost_ret (en_res _ _ (n + 1) RZ.out rfl) rfl ⟨by rw [HZ.out], KZ.out⟩
          · have f1 : ((vp : Int) != x.1.tdiv 100) = true := by rw [bne_iff_ne]; exact e1
            have f2 : ((vp : Int) != x.1 / 100) = true := by rw [← hd1]; exact f1
            have HZ := Lib.hid (show M = (0, 0, 0) by rw [HM.out, if_neg (fun e => e1 e.1)])
            clear HM e1 hd1
            obtain ⟨r0, r1, r2⟩ := Rw9.out.cs
            have fr := Rw9.out.frz
            have RZ := Lib.hid (((Rw9.out.set0 0).set1 0).set2 0)
            have KZ := Lib.hid (((Kw9.out.setCell (a := ⟨n + 1, 0, none⟩) (by show w.heap.size ≤ n + 1; rw [← HN.out]; omega) (iV 0)).setCell (a := ⟨n + 1, 1, none⟩) (by show w.heap.size ≤ n + 1; rw [← HN.out]; omega) (iV 0)).setCell (a := ⟨n + 1, 2, none⟩) (by show w.heap.size ≤ n + 1; rw [← HN.out]; omega) (iV 0))
            go_wp2
            exact bodyPost_ret (en_res _ _ (n + 1) RZ.out rfl) rfl ⟨by rw [HZ.out], KZ.out⟩
  · have hb : ((ps.length : Int) != 3) = true := by simp; omega
    have HZ := Lib.hid (show M = (0, 0, 0) by
      rw [HX.out]
      match ps, h3 with
      | [], _ => rfl
      | [_], _ => rfl
      | [_, _], _ => rfl
      | [_, _, _], h => exact absurd rfl h
      | _ :: _ :: _ :: _ :: _, _ => rfl)
    obtain ⟨r0, r1, r2⟩ := R3.out.cs
    have fr := R3.out.frz
    have RZ := Lib.hid (((R3.out.set0 0).set1 0).set2 0)
    have KZ := Lib.hid (((K3.out.setCell (a := ⟨n + 1, 0, none⟩) (by show w.heap.size ≤ n + 1; rw [← HN.out]; omega) (iV 0)).setCell (a := ⟨n + 1, 1, none⟩) (by show w.heap.size ≤ n + 1; rw [← HN.out]; omega) (iV 0)).setCell (a := ⟨n + 1, 2, none⟩) (by show w.heap.size ≤ n + 1; rw [← HN.out]; omega) (iV 0))
    clear h3
    go_wp2
    exact bodyPost_ret (en_res _ _ (n + 1) RZ.out rfl) rfl ⟨by rw [HZ.out], KZ.out⟩
end Go.Proofs.YtdfmnjoklehifaaDoor.Bk.Rp
