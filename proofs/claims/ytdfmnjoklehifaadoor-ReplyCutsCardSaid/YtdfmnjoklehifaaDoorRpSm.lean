/- The document's Same and List, of what is the same. -/
import Derived.Test.YtdfmnjoklehifaaDoorRpAw
import Derived.BigQuiet
set_option linter.unusedSimpArgs false
set_option linter.unusedVariables false
namespace Go.Proofs.YtdfmnjoklehifaaDoor.Bk.Rp
open Go.ChangeShapes Go.WideShapes Go.ChangeAt Go.RowKit Go.Shelf
set_option maxRecDepth 100000 in
set_option maxHeartbeats 4000000 in
theorem rsameT_any (l : List B) (v v' : Value) (w : World) (h : SRd v l w) (h' : SRd v' l w) (hl : l.length ≤ 10000000) :
    Calls Tryd.prog 37 #[v, v'] w fun e w' => e = .returned (.bool true) ∧ Kept w w' := by
  obtain ⟨a, c, hv⟩ := h.slice
  obtain ⟨a', c', hv'⟩ := h'.slice
  subst hv hv'
  have HA := Lib.hid h; have HB := Lib.hid h'
  clear h h'
  have bl2 : ((l.length : Int) != l.length) = false := by simp
  go_enter Tryd.func37, Tryd.ntmps37
  go_wp2_with fail
  go_loopw [5] (fun vi wr => ∃ i : Nat, i ≤ l.length ∧ vi = .int .i64 i ∧ Hid (Kept w wr)) (fun vi _ => l.length - (intOf vi).toNat)
  case atStart => exact ⟨0, Nat.zero_le _, rfl, Lib.hid (Kept.refl w)⟩
  case round =>
    obtain ⟨i, hi, rfl, hK⟩ := hrel
    by_cases hlt : i < l.length
    · have hltI : (i : Int) < l.length := by omega
      obtain ⟨u, hu⟩ : ∃ u, l[i]? = some u := ⟨_, List.getElem?_eq_getElem hlt⟩
      obtain ⟨ga, oa, ca, hpa, hca, p0⟩ := (HA.out.kept hK.out).at hu
      obtain ⟨gb, ob, cb, hpb, hcb, q0⟩ := (HB.out.kept hK.out).at hu
      injection hpa with ea _ ec
      subst ea ec
      injection hpb with ea _ ec
      subst ea ec
      clear hu
      go_upto_region 6 with (fail)
      go_quiet (fail)
      have K2 := Lib.hid (hK.out.drewN nq)
      clear hK p0 q0
      go_wp2
      go_roundw
      case rel => exact ⟨i + 1, hlt, by go_num, K2⟩
      case measure => simp [intOf]; omega
    · have hltI : ¬ (i : Int) < l.length := by omega
      go_wp2
      go_ret
      exact ⟨rfl, hK.out⟩
set_option maxRecDepth 100000 in
set_option maxHeartbeats 4000000 in
theorem sameT_any (x : Rep) (v v' : Value) (w : World) (h : SRd v x.2.1 w) (h' : SRd v' x.2.1 w) (hl : x.2.1.length ≤ 10000000) :
    Calls Tryd.prog 25 #[repV x v, repV x v'] w fun e w' => e = .returned (.bool true) ∧ Kept w w' := by
  have K0 := Lib.hid ((Kept.refl w).alloc (.cells #[iV x.1, v, iV x.2.2.1, iV x.2.2.2.1, iV x.2.2.2.2] 25))
  have X0 := R5.new w x v
  have X1 := R5.new (w.alloc (.cells #[iV x.1, v, iV x.2.2.1, iV x.2.2.2.1, iV x.2.2.2.2] 25)) x v'
  simp only [World.size_alloc] at X1
  replace X1 := Lib.hid X1
  replace X0 := Lib.hid (X0.kept ((Kept.refl _).alloc (.cells #[iV x.1, v', iV x.2.2.1, iV x.2.2.2.1, iV x.2.2.2.2] 25)))
  have K1 := Lib.hid (K0.out.alloc (.cells #[iV x.1, v', iV x.2.2.1, iV x.2.2.2.1, iV x.2.2.2.2] 25))
  obtain ⟨a, c, hv⟩ := h.slice
  obtain ⟨a', c', hv'⟩ := h'.slice
  subst hv hv'
  have HS := Lib.hid (fun W k => rsameT_any x.2.1 (.slice a x.2.1.length c) (.slice a' x.2.1.length c') W (h.kept k) (h'.kept k) hl)
  clear h h'
  have hq := fun y => eql_m3 x.2.2 x.2.2 y
  have hdd : decide (x.2.2 = x.2.2) = true := by simp
  rw [hdd] at hq
  have hcc : (x.1 == x.1) = true := by simp
  go_enter Tryd.func25, Tryd.ntmps25
  go_upto_region 1 with (fail)
  generalize (w.alloc (.cells #[iV x.1, .slice a x.2.1.length c, iV x.2.2.1, iV x.2.2.2.1, iV x.2.2.2.2] 25)).alloc (.cells #[iV x.1, .slice a' x.2.1.length c', iV x.2.2.1, iV x.2.2.2.1, iV x.2.2.2.2] 25) = W0 at *
  generalize w.heap.size = n at *
  obtain ⟨x0, x1, x2, x3, x4⟩ := X0.out.cs
  obtain ⟨y0, y1, y2, y3, y4⟩ := X1.out.cs
  go_wp2_with fail
  refine (HS.out W0 K1.out).mono ?_
  rintro e w1 ⟨rfl, k1⟩
  clear x0 x1 x2 x3 x4 y0 y1 y2 y3 y4
  obtain ⟨x0, x1, x2, x3, x4⟩ := (X0.out.kept k1).cs
  obtain ⟨y0, y1, y2, y3, y4⟩ := (X1.out.kept k1).cs
  have K2 := Lib.hid (K1.out.trans k1)
  clear k1
  go_wp2_with fail
  go_ret
  exact ⟨rfl, K2.out⟩
set_option maxRecDepth 100000 in
set_option maxHeartbeats 4000000 in
theorem listT_any (l : List Rep) (v v' : Value) (w : World) (h : RpRd v l w) (h' : RpRd v' l w) (hl : l.length ≤ 10000000) (hx : ∀ x ∈ l, x.2.1.length ≤ 10000000) :
    Calls Tryd.prog 14 #[v, v'] w fun e w' => e = .returned (.bool true) ∧ Kept w w' := by
  obtain ⟨a, c, hv⟩ := h.slice
  obtain ⟨a', c', hv'⟩ := h'.slice
  subst hv hv'
  have HA := Lib.hid h; have HB := Lib.hid h'
  have HX := Lib.hid hx
  clear h h' hx
  have bl2 : ((l.length : Int) != l.length) = false := by simp
  go_enter Tryd.func14, Tryd.ntmps14
  go_wp2_with fail
  go_loopw [5] (fun vi wr => ∃ i : Nat, i ≤ l.length ∧ vi = .int .i64 i ∧ Hid (Kept w wr)) (fun vi _ => l.length - (intOf vi).toNat)
  case atStart => exact ⟨0, Nat.zero_le _, rfl, Lib.hid (Kept.refl w)⟩
  case round =>
    obtain ⟨i, hi, rfl, hK⟩ := hrel
    by_cases hlt : i < l.length
    · have hltI : (i : Int) < l.length := by omega
      obtain ⟨x, hu⟩ : ∃ u, l[i]? = some u := ⟨_, List.getElem?_eq_getElem hlt⟩
      have hxl := HX.out x (List.mem_of_getElem? hu)
      obtain ⟨ga, oa, ca, hpa, hca, lv, p0, p1, p2, p3, p4, pL⟩ := (HA.out.kept hK.out).at hu
      obtain ⟨gb, ob, cb, hpb, hcb, lw, q0, q1, q2, q3, q4, qL⟩ := (HB.out.kept hK.out).at hu
      injection hpa with ea _ ec
      subst ea ec
      injection hpb with ea _ ec
      subst ea ec
      have HS := Lib.hid (fun W k => sameT_any x lv lw W (pL.kept k) (qL.kept k) hxl)
      obtain ⟨la, lc, rfl⟩ := pL.slice
      obtain ⟨ma, mc, rfl⟩ := qL.slice
      have HP := Lib.hid (And.intro p0 (And.intro p1 (And.intro p2 (And.intro p3 (And.intro p4 (And.intro q0 (And.intro q1 (And.intro q2 (And.intro q3 q4)))))))))
      clear hu pL qL p0 p1 p2 p3 p4 q0 q1 q2 q3 q4
      go_upto_region 6 with (fail)
      have kd := (Kept.refl wr).drew
      have K2 := Lib.hid (hK.out.drew)
      have hS := And.intro (kd.yes HP.out.1) (And.intro (kd.yes HP.out.2.1) (And.intro (kd.yes HP.out.2.2.1) (And.intro (kd.yes HP.out.2.2.2.1) (And.intro (kd.yes HP.out.2.2.2.2.1) (And.intro (kd.yes HP.out.2.2.2.2.2.1) (And.intro (kd.yes HP.out.2.2.2.2.2.2.1) (And.intro (kd.yes HP.out.2.2.2.2.2.2.2.1) (And.intro (kd.yes HP.out.2.2.2.2.2.2.2.2.1) (kd.yes HP.out.2.2.2.2.2.2.2.2.2)))))))))
      have HD := Lib.hid kd
      clear kd
      refine wp_region_held_drew (S := fun y => y.cell? ⟨ga, oa + i * 5, none⟩ = some (iV x.1) ∧ y.cell? ⟨ga, oa + i * 5 + 1, none⟩ = some (.slice la x.2.1.length lc) ∧ y.cell? ⟨ga, oa + i * 5 + 2, none⟩ = some (iV x.2.2.1) ∧ y.cell? ⟨ga, oa + i * 5 + 3, none⟩ = some (iV x.2.2.2.1) ∧ y.cell? ⟨ga, oa + i * 5 + 4, none⟩ = some (iV x.2.2.2.2) ∧ y.cell? ⟨gb, ob + i * 5, none⟩ = some (iV x.1) ∧ y.cell? ⟨gb, ob + i * 5 + 1, none⟩ = some (.slice ma x.2.1.length mc) ∧ y.cell? ⟨gb, ob + i * 5 + 2, none⟩ = some (iV x.2.2.1) ∧ y.cell? ⟨gb, ob + i * 5 + 3, none⟩ = some (iV x.2.2.2.1) ∧ y.cell? ⟨gb, ob + i * 5 + 4, none⟩ = some (iV x.2.2.2.2)) (by kernel_rfl) hS (fun hS0 => ?_)
      refine wpAnyH_take (i := 0) (oi := { dst := some 18, op := Go.Op.move (Go.Operand.tmp 0), type := 32, pos := "ref.go:187", after := #[], guard := none }) (v := ?vs0) rfl (by kernel_rfl) (by kernel_rfl) (by kernel_rfl) (fun _ _ _ h => h) (Or.inl ⟨by rfl, ?ys0⟩) (by assumption) ?rs0
      case ys0 => (intro wq hSw; (try dsimp only at hSw); go_simp; try with_reducible rfl)
      simp only [Act.put, List.setIfInBounds_toArray, List.set_cons_zero, List.set_cons_succ]
      refine wpAnyH_take (i := 1) (oi := { dst := some 19, op := Go.Op.move (Go.Operand.tmp 5), type := 3, pos := "ref.go:187", after := #[], guard := none }) (v := ?vs1) rfl (by kernel_rfl) (by kernel_rfl) (by kernel_rfl) (fun _ _ _ h => h) (Or.inl ⟨by rfl, ?ys1⟩) (by assumption) ?rs1
      case ys1 => (intro wq hSw; (try dsimp only at hSw); go_simp; try with_reducible rfl)
      simp only [Act.put, List.setIfInBounds_toArray, List.set_cons_zero, List.set_cons_succ]
      refine wpAnyH_take (i := 2) (oi := { dst := some 20, op := Go.Op.indexAddr 32 (Go.Operand.tmp 18) (Go.Operand.tmp 19), type := 0, pos := "ref.go:187", after := #[{ on := 0, ground := Go.Ground.data }, { on := 1, ground := Go.Ground.data }], guard := none }) (v := ?vs2) rfl (by kernel_rfl) (by kernel_rfl) (by kernel_rfl) (fun _ _ _ h => h) (Or.inl ⟨by rfl, ?ys2⟩) (by assumption) ?rs2
      case ys2 => (intro wq hSw; (try dsimp only at hSw); go_simp; try with_reducible rfl)
      simp only [Act.put, List.setIfInBounds_toArray, List.set_cons_zero, List.set_cons_succ]
      refine wpAnyH_take (i := 3) (oi := { dst := some 21, op := Go.Op.load 25 (Go.Operand.tmp 20), type := 25, pos := "ref.go:187", after := #[{ on := 2, ground := Go.Ground.data }], guard := none }) (v := ?vs3) rfl (by kernel_rfl) (by kernel_rfl) (by kernel_rfl) (fun _ _ _ h => h) (Or.inl ⟨by rfl, ?ys3⟩) (by assumption) ?rs3
      case ys3 => (intro wq hSw; (try dsimp only at hSw); go_simp; try with_reducible rfl)
      simp only [Act.put, List.setIfInBounds_toArray, List.set_cons_zero, List.set_cons_succ]
      refine wpAnyH_take (i := 4) (oi := { dst := some 22, op := Go.Op.move (Go.Operand.tmp 1), type := 32, pos := "ref.go:187", after := #[], guard := none }) (v := ?vs4) rfl (by kernel_rfl) (by kernel_rfl) (by kernel_rfl) (fun _ _ _ h => h) (Or.inl ⟨by rfl, ?ys4⟩) (by assumption) ?rs4
      case ys4 => (intro wq hSw; (try dsimp only at hSw); go_simp; try with_reducible rfl)
      simp only [Act.put, List.setIfInBounds_toArray, List.set_cons_zero, List.set_cons_succ]
      refine wpAnyH_take (i := 5) (oi := { dst := some 23, op := Go.Op.move (Go.Operand.tmp 5), type := 3, pos := "ref.go:187", after := #[], guard := none }) (v := ?vs5) rfl (by kernel_rfl) (by kernel_rfl) (by kernel_rfl) (fun _ _ _ h => h) (Or.inl ⟨by rfl, ?ys5⟩) (by assumption) ?rs5
      case ys5 => (intro wq hSw; (try dsimp only at hSw); go_simp; try with_reducible rfl)
      simp only [Act.put, List.setIfInBounds_toArray, List.set_cons_zero, List.set_cons_succ]
      refine wpAnyH_take (i := 6) (oi := { dst := some 24, op := Go.Op.indexAddr 32 (Go.Operand.tmp 22) (Go.Operand.tmp 23), type := 0, pos := "ref.go:187", after := #[{ on := 4, ground := Go.Ground.data }, { on := 5, ground := Go.Ground.data }], guard := none }) (v := ?vs6) rfl (by kernel_rfl) (by kernel_rfl) (by kernel_rfl) (fun _ _ _ h => h) (Or.inl ⟨by rfl, ?ys6⟩) (by assumption) ?rs6
      case ys6 => (intro wq hSw; (try dsimp only at hSw); go_simp; try with_reducible rfl)
      simp only [Act.put, List.setIfInBounds_toArray, List.set_cons_zero, List.set_cons_succ]
      refine wpAnyH_take (i := 7) (oi := { dst := some 25, op := Go.Op.load 25 (Go.Operand.tmp 24), type := 25, pos := "ref.go:187", after := #[{ on := 6, ground := Go.Ground.data }], guard := none }) (v := ?vs7) rfl (by kernel_rfl) (by kernel_rfl) (by kernel_rfl) (fun _ _ _ h => h) (Or.inl ⟨by rfl, ?ys7⟩) (by assumption) ?rs7
      case ys7 => (intro wq hSw; (try dsimp only at hSw); go_simp; try with_reducible rfl)
      simp only [Act.put, List.setIfInBounds_toArray, List.set_cons_zero, List.set_cons_succ]
      refine wpAnyH_ready (rs := [8]) (by kernel_rfl) (by simp) (AllReadyH.cons (o := { dst := some 26, op := Go.Op.call { callee := Go.Callee.value (Go.Operand.func 25), args := #[Go.Operand.tmp 21, Go.Operand.tmp 25], argTypes := #[25, 25] }, type := 4, pos := "ref.go:187", after := #[{ on := 3, ground := Go.Ground.data }, { on := 7, ground := Go.Ground.data }], guard := none }) rfl (fun K hK => ?_) AllReadyH.nil)
      go_simp
      refine (HS.out _ HD.out).mono ?_
      rintro e w3 ⟨rfl, k3⟩
      have K3 := Lib.hid (K2.out.trans k3)
      refine Shut.out hK _ _ ⟨k3.yes hS.1, k3.yes hS.2.1, k3.yes hS.2.2.1, k3.yes hS.2.2.2.1, k3.yes hS.2.2.2.2.1, k3.yes hS.2.2.2.2.2.1, k3.yes hS.2.2.2.2.2.2.1, k3.yes hS.2.2.2.2.2.2.2.1, k3.yes hS.2.2.2.2.2.2.2.2.1, k3.yes hS.2.2.2.2.2.2.2.2.2⟩ (fun hSb => ?_)
      clear hK K
      try simp only [Act.put, List.setIfInBounds_toArray, List.set_cons_zero, List.set_cons_succ]
      refine wpAnyH_take (i := 9) (oi := { dst := some 6, op := Go.Op.assign (Go.Operand.tmp 26), type := 4, pos := "ref.go:187", after := #[{ on := 8, ground := Go.Ground.data }, { on := 8, ground := Go.Ground.chain }, { on := 0, ground := Go.Ground.phase }, { on := 1, ground := Go.Ground.phase }, { on := 2, ground := Go.Ground.phase }, { on := 3, ground := Go.Ground.phase }, { on := 4, ground := Go.Ground.phase }, { on := 5, ground := Go.Ground.phase }, { on := 6, ground := Go.Ground.phase }, { on := 7, ground := Go.Ground.phase }, { on := 8, ground := Go.Ground.phase }], guard := none }) (v := ?vs9) rfl (by kernel_rfl) (by kernel_rfl) (by kernel_rfl) (fun _ _ _ h => h) (Or.inl ⟨by rfl, ?ys9⟩) (by assumption) ?rs9
      case ys9 => (intro wq hSw; (try dsimp only at hSw); go_simp; try with_reducible rfl)
      simp only [Act.put, List.setIfInBounds_toArray, List.set_cons_zero, List.set_cons_succ]
      refine wpAnyH_done (by kernel_rfl) ?_ _
      clear hS hS0 hSb k3
      go_wp2
      go_roundw
      case rel => exact ⟨i + 1, hlt, by go_num, K3⟩
      case measure => simp [intOf]; omega
    · have hltI : ¬ (i : Int) < l.length := by omega
      go_wp2
      go_ret
      exact ⟨rfl, hK.out⟩
end Go.Proofs.YtdfmnjoklehifaaDoor.Bk.Rp
