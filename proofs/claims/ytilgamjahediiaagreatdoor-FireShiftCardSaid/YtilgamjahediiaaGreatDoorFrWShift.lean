/- The law FireShift, walked (given the contracts of package fire). -/
import Derived.Test.YtilgamjahediiaaGreatDoorFrA
import Derived.Test.YtilgamjahediiaaGreatDoorFrP
set_option linter.unusedVariables false
namespace Go.Proofs.YtilgamjahediiaaGreatDoor
open Go.ChangeShapes Go.WideShapes Go.ChangeAt Go.RowKit
open Civ Zn Lc Crn
theorem both_cells {b b2 : Nat} {z : Zo} {c : CR} {sl : Nat → Value} {y : World} (h : Bz b z y) (k : Cb b2 sl c.st y) : y.cell? ⟨b, 0, none⟩ = some (.string ⟨z.std.toArray⟩) ∧ y.cell? ⟨b, 1, none⟩ = some (.int .i64 z.off) ∧ y.cell? ⟨b, 2, none⟩ = some (.bool z.has) ∧ y.cell? ⟨b, 3, none⟩ = some (.string ⟨z.dst.toArray⟩) ∧ y.cell? ⟨b, 4, none⟩ = some (.int .i64 z.ahead) ∧ y.cell? ⟨b, 5, none⟩ = some (.int .i64 z.fr.k) ∧ y.cell? ⟨b, 6, none⟩ = some (.int .i64 z.fr.m) ∧ y.cell? ⟨b, 7, none⟩ = some (.int .i64 z.fr.w) ∧ y.cell? ⟨b, 8, none⟩ = some (.int .i64 z.fr.d) ∧ y.cell? ⟨b, 9, none⟩ = some (.int .i64 z.fr.a) ∧ y.cell? ⟨b, 10, none⟩ = some (.int .i64 z.to.k) ∧ y.cell? ⟨b, 11, none⟩ = some (.int .i64 z.to.m) ∧ y.cell? ⟨b, 12, none⟩ = some (.int .i64 z.to.w) ∧ y.cell? ⟨b, 13, none⟩ = some (.int .i64 z.to.d) ∧ y.cell? ⟨b, 14, none⟩ = some (.int .i64 z.to.a) ∧ y.cell? ⟨b2, 0, none⟩ = some (sl 0) ∧ y.cell? ⟨b2, 1, none⟩ = some (sl 1) ∧ y.cell? ⟨b2, 2, none⟩ = some (sl 2) ∧ y.cell? ⟨b2, 3, none⟩ = some (sl 3) ∧ y.cell? ⟨b2, 4, none⟩ = some (sl 4) ∧ y.cell? ⟨b2, 5, none⟩ = some (.bool (c.st 0)) ∧ y.cell? ⟨b2, 6, none⟩ = some (.bool (c.st 1)) ∧ y.cell? ⟨b2, 7, none⟩ = some (.bool (c.st 2)) ∧ y.cell? ⟨b2, 8, none⟩ = some (.bool (c.st 3)) ∧ y.cell? ⟨b2, 9, none⟩ = some (.bool (c.st 4)) := by
  obtain ⟨e0, e1, e2, e3, e4, e5, e6, e7, e8, e9⟩ := cells10 k
  exact ⟨h.cs.c0, h.cs.c1, h.cs.c2, h.cs.c3, h.cs.c4, h.cs.c5, h.cs.c6, h.cs.c7, h.cs.c8, h.cs.c9, h.cs.c10, h.cs.c11, h.cs.c12, h.cs.c13, h.cs.c14, e0, e1, e2, e3, e4, e5, e6, e7, e8, e9⟩
set_option maxRecDepth 100000 in
set_option maxHeartbeats 4000000 in
theorem shift6_walk (hG : GapC) (hF : FiresC) (hN : NextC) (z : Zo) (c : CR) (sl : Nat → Value) (t : Int) (w : World) (h1 : z.std.length ≤ maxLen) (h2 : z.dst.length ≤ maxLen) (hc : Cr w sl c.L) (t1 : -9223372036854775808 ≤ t) (t2 : t ≤ 9223372036854775807) (htab : Tab w) : Calls Tryz.prog 9 #[zoV z, crV sl c.st, .int .i64 t] w fun e w' => e = .returned (.bool true) ∧ Kept w w' := by
  have k0 := (Kept.refl w).alloc (.cells (zo15 z.std z.off z.has z.dst z.ahead z.fr.k z.fr.m z.fr.w z.fr.d z.fr.a z.to.k z.to.m z.to.w z.to.d z.to.a) 25)
  have b0 := bz_new w z
  have T0 := Tb.start htab
  have HG := Lib.hid hG; have HF := Lib.hid hF; have HN := Lib.hid hN
  clear hG hF hN htab
  go_enter Tryz.func9, Tryz.ntmps9
  go_upto_region 1 with (fail)
  generalize hx : w.alloc (.cells (zo15 z.std z.off z.has z.dst z.ahead z.fr.k z.fr.m z.fr.w z.fr.d z.fr.a z.to.k z.to.m z.to.w z.to.d z.to.a) 25) = x at *
  have s1 : x.heap.size = w.heap.size + 1 := by rw [← hx]; simp
  clear hx
  have c1 : Cb (w.heap.size + 1) sl c.st (x.alloc (.cells (cr10 sl c.st) 30)) := by rw [← s1]; exact Cb.new sl c.st x
  have k1 := (Kept.refl x).alloc (.cells (cr10 sl c.st) 30)
  generalize x.alloc (.cells (cr10 sl c.st) 30) = x1 at *
  have Z1 := Lib.hid (b0.kept k1); have B1 := Lib.hid c1; have K1 := Lib.hid (k0.trans k1); have C1 := Lib.hid (hc.kept (k0.trans k1)); have T1 := Lib.hid (T0.kept (k0.trans k1))
  clear b0 k0 k1 c1 s1 hc T0
  go_wp2_with fail
  refine (awake6_any HG.out HF.out HN.out _ T1.out.tab).mono ?_
  rintro e x2 ⟨rfl, k2⟩
  have Z2 := Lib.hid (Z1.out.kept k2); have B2 := Lib.hid (B1.out.kept k2); have C2 := Lib.hid (C1.out.kept k2); have K2 := Lib.hid (K1.out.trans k2)
  clear k2 Z1 B1 C1 K1
  clear T1
  go_wp2_with (first | refine wpList_load_row rfl 25 _ rfl w.heap.size rfl 25 _ (0, 0) _ Z2.out Tryz.underlying25 rfl (by kernel_rfl) ?_ | refine wpList_load_row rfl 30 _ rfl (w.heap.size + 1) rfl 30 _ (0, 0) _ B2.out Tryz.underlying30 rfl (by kernel_rfl) ?_)
  refine (few6_any z c sl _ C2.out h1 h2).mono ?_
  rintro e x3 ⟨rfl, k3⟩
  have Z3 := Lib.hid (Z2.out.kept k3); have B3 := Lib.hid (B2.out.kept k3); have C3 := Lib.hid (C2.out.kept k3); have K3 := Lib.hid (K2.out.trans k3)
  clear k3 Z2 B2 C2 K2
  cases hs : shB z && decide (FewP c) with
  | false =>
    clear hs
    go_wp2
    go_ret
    exact ⟨rfl, K3.out⟩
  | true =>
    clear hs
    have a0 := Z3.out.cs.c0
    have a1 := Z3.out.cs.c1
    have a2 := Z3.out.cs.c2
    have a3 := Z3.out.cs.c3
    have a4 := Z3.out.cs.c4
    have a5 := Z3.out.cs.c5
    have a6 := Z3.out.cs.c6
    have a7 := Z3.out.cs.c7
    have a8 := Z3.out.cs.c8
    have a9 := Z3.out.cs.c9
    have a10 := Z3.out.cs.c10
    have a11 := Z3.out.cs.c11
    have a12 := Z3.out.cs.c12
    have a13 := Z3.out.cs.c13
    have a14 := Z3.out.cs.c14
    go_wp2_with fail
    refine (zMay_any z _).mono ?_
    rintro e x4 ⟨rfl, k4⟩
    clear a0 a1 a2 a3 a4 a5 a6 a7 a8 a9 a10 a11 a12 a13 a14
    have Z4 := Lib.hid (Z3.out.kept k4); have B4 := Lib.hid (B3.out.kept k4); have C4 := Lib.hid (C3.out.kept k4); have K4 := Lib.hid (K3.out.trans k4)
    clear k4 Z3 B3 C3 K3
    have a2 := Z4.out.cs.c2
    cases hz : mayZ z with
    | false =>
      clear hz
      go_wp2
      go_ret
      exact ⟨rfl, K4.out⟩
    | true =>
      cases hh : z.has with
      | true =>
        rw [hh] at a2
        go_wp2
        go_ret
        exact ⟨rfl, K4.out⟩
      | false =>
        rw [hh] at a2
        by_cases g1 : t < 31629600
        · go_wp2
          go_ret
          exact ⟨rfl, K4.out⟩
        by_cases g2 : 253370671200 < t
        · go_wp2
          go_ret
          exact ⟨rfl, K4.out⟩
        obtain ⟨o1, o2⟩ := may_off hz
        have HS := Lib.hid (fire_shift (c := c) w hz hh (by omega) (by omega) : frP z c t = frP zU c (t + z.off))
        have hw1 : IntKind.i64.wrap (t + z.off) = t + z.off := by simp only [IntKind.wrap_i64]; omega
        have HF1 := Lib.hid (fun x hx => HF.out z c sl t x t1 t2 hx)
        have HF2 := Lib.hid (show ∀ x, Cr x sl c.L → Calls Tryz.prog 15 #[.agg #[.string ⟨#[85, 84, 67]⟩, .int .i64 0, .bool false, .string ⟨#[]⟩, .int .i64 0, .int .i64 0, .int .i64 0, .int .i64 0, .int .i64 0, .int .i64 0, .int .i64 0, .int .i64 0, .int .i64 0, .int .i64 0, .int .i64 0], crV sl c.st, .int .i64 (t + z.off)] x fun e x' => e = .returned (.bool (frP zU c (t + z.off))) ∧ Kept x x' from fun x hx => HF.out zU c sl (t + z.off) x (by omega) (by omega) hx)
        rw [HS.out] at HF1
        generalize frP zU c (t + z.off) = fr at *
        clear hz hh
        go_upto_region 5 with (fail)
        clear a2
        have KD := Lib.hid ((Kept.refl x4).drew)
        refine wp_region_held_drew (S := (fun y => y.cell? ⟨w.heap.size, 0, none⟩ = some (.string ⟨z.std.toArray⟩) ∧ y.cell? ⟨w.heap.size, 1, none⟩ = some (.int .i64 z.off) ∧ y.cell? ⟨w.heap.size, 2, none⟩ = some (.bool z.has) ∧ y.cell? ⟨w.heap.size, 3, none⟩ = some (.string ⟨z.dst.toArray⟩) ∧ y.cell? ⟨w.heap.size, 4, none⟩ = some (.int .i64 z.ahead) ∧ y.cell? ⟨w.heap.size, 5, none⟩ = some (.int .i64 z.fr.k) ∧ y.cell? ⟨w.heap.size, 6, none⟩ = some (.int .i64 z.fr.m) ∧ y.cell? ⟨w.heap.size, 7, none⟩ = some (.int .i64 z.fr.w) ∧ y.cell? ⟨w.heap.size, 8, none⟩ = some (.int .i64 z.fr.d) ∧ y.cell? ⟨w.heap.size, 9, none⟩ = some (.int .i64 z.fr.a) ∧ y.cell? ⟨w.heap.size, 10, none⟩ = some (.int .i64 z.to.k) ∧ y.cell? ⟨w.heap.size, 11, none⟩ = some (.int .i64 z.to.m) ∧ y.cell? ⟨w.heap.size, 12, none⟩ = some (.int .i64 z.to.w) ∧ y.cell? ⟨w.heap.size, 13, none⟩ = some (.int .i64 z.to.d) ∧ y.cell? ⟨w.heap.size, 14, none⟩ = some (.int .i64 z.to.a) ∧ y.cell? ⟨w.heap.size + 1, 0, none⟩ = some (sl 0) ∧ y.cell? ⟨w.heap.size + 1, 1, none⟩ = some (sl 1) ∧ y.cell? ⟨w.heap.size + 1, 2, none⟩ = some (sl 2) ∧ y.cell? ⟨w.heap.size + 1, 3, none⟩ = some (sl 3) ∧ y.cell? ⟨w.heap.size + 1, 4, none⟩ = some (sl 4) ∧ y.cell? ⟨w.heap.size + 1, 5, none⟩ = some (.bool (c.st 0)) ∧ y.cell? ⟨w.heap.size + 1, 6, none⟩ = some (.bool (c.st 1)) ∧ y.cell? ⟨w.heap.size + 1, 7, none⟩ = some (.bool (c.st 2)) ∧ y.cell? ⟨w.heap.size + 1, 8, none⟩ = some (.bool (c.st 3)) ∧ y.cell? ⟨w.heap.size + 1, 9, none⟩ = some (.bool (c.st 4)))) (by kernel_rfl) (both_cells (Z4.out.kept KD.out) (B4.out.kept KD.out)) (fun hS0 => ?_)
        refine wpAnyH_take (i := 0) (oi := { dst := some 37, op := Go.Op.load 25 (Go.Operand.tmp 3), type := 25, pos := "more.go:16", after := #[], guard := none }) (v := ?vs0) rfl (by kernel_rfl) (by kernel_rfl) (by kernel_rfl) (fun _ _ _ h => h) (Or.inl ⟨by rfl, ?ys0⟩) (by assumption) ?rs0
        case ys0 => (intro wq hSw; (try dsimp only at hSw); go_simp; try with_reducible rfl)
        simp only [Act.put, List.setIfInBounds_toArray, List.set_cons_zero, List.set_cons_succ]
        refine wpAnyH_take (i := 1) (oi := { dst := some 38, op := Go.Op.load 30 (Go.Operand.tmp 4), type := 30, pos := "more.go:16", after := #[], guard := none }) (v := ?vs1) rfl (by kernel_rfl) (by kernel_rfl) (by kernel_rfl) (fun _ _ _ h => h) (Or.inl ⟨by rfl, ?ys1⟩) (by assumption) ?rs1
        case ys1 => (intro wq hSw; (try dsimp only at hSw); go_simp; try with_reducible rfl)
        simp only [Act.put, List.setIfInBounds_toArray, List.set_cons_zero, List.set_cons_succ]
        refine wpAnyH_take (i := 2) (oi := { dst := some 39, op := Go.Op.move (Go.Operand.tmp 2), type := 3, pos := "more.go:16", after := #[], guard := none }) (v := ?vs2) rfl (by kernel_rfl) (by kernel_rfl) (by kernel_rfl) (fun _ _ _ h => h) (Or.inl ⟨by rfl, ?ys2⟩) (by assumption) ?rs2
        case ys2 => (intro wq hSw; (try dsimp only at hSw); go_simp; try with_reducible rfl)
        simp only [Act.put, List.setIfInBounds_toArray, List.set_cons_zero, List.set_cons_succ]
        refine wpAnyH_take (i := 4) (oi := { dst := some 41, op := Go.Op.build 25 #[(0, Go.Operand.const (Go.Value.string { data := #[85, 84, 67] }))], type := 25, pos := "more.go:16", after := #[], guard := none }) (v := ?vs4) rfl (by kernel_rfl) (by kernel_rfl) (by kernel_rfl) (fun _ _ _ h => h) (Or.inl ⟨by rfl, ?ys4⟩) (by assumption) ?rs4
        case ys4 => (intro wq hSw; (try dsimp only at hSw); go_simp; try with_reducible rfl)
        simp only [Act.put, List.setIfInBounds_toArray, List.set_cons_zero, List.set_cons_succ]
        refine wpAnyH_take (i := 5) (oi := { dst := some 42, op := Go.Op.load 30 (Go.Operand.tmp 4), type := 30, pos := "more.go:16", after := #[], guard := none }) (v := ?vs5) rfl (by kernel_rfl) (by kernel_rfl) (by kernel_rfl) (fun _ _ _ h => h) (Or.inl ⟨by rfl, ?ys5⟩) (by assumption) ?rs5
        case ys5 => (intro wq hSw; (try dsimp only at hSw); go_simp; try with_reducible rfl)
        simp only [Act.put, List.setIfInBounds_toArray, List.set_cons_zero, List.set_cons_succ]
        refine wpAnyH_take (i := 6) (oi := { dst := some 43, op := Go.Op.move (Go.Operand.tmp 2), type := 3, pos := "more.go:16", after := #[], guard := none }) (v := ?vs6) rfl (by kernel_rfl) (by kernel_rfl) (by kernel_rfl) (fun _ _ _ h => h) (Or.inl ⟨by rfl, ?ys6⟩) (by assumption) ?rs6
        case ys6 => (intro wq hSw; (try dsimp only at hSw); go_simp; try with_reducible rfl)
        simp only [Act.put, List.setIfInBounds_toArray, List.set_cons_zero, List.set_cons_succ]
        refine wpAnyH_take (i := 7) (oi := { dst := some 44, op := Go.Op.fieldAddr 25 (Go.Operand.tmp 3) 1, type := 0, pos := "more.go:16", after := #[], guard := none }) (v := ?vs7) rfl (by kernel_rfl) (by kernel_rfl) (by kernel_rfl) (fun _ _ _ h => h) (Or.inl ⟨by rfl, ?ys7⟩) (by assumption) ?rs7
        case ys7 => (intro wq hSw; (try dsimp only at hSw); go_simp; try with_reducible rfl)
        simp only [Act.put, List.setIfInBounds_toArray, List.set_cons_zero, List.set_cons_succ]
        refine wpAnyH_take (i := 8) (oi := { dst := some 45, op := Go.Op.load 3 (Go.Operand.tmp 44), type := 3, pos := "more.go:16", after := #[{ on := 7, ground := Go.Ground.data }], guard := none }) (v := ?vs8) rfl (by kernel_rfl) (by kernel_rfl) (by kernel_rfl) (fun _ _ _ h => h) (Or.inl ⟨by rfl, ?ys8⟩) (by assumption) ?rs8
        case ys8 => (intro wq hSw; (try dsimp only at hSw); go_simp; try with_reducible rfl)
        simp only [Act.put, List.setIfInBounds_toArray, List.set_cons_zero, List.set_cons_succ]
        refine wpAnyH_take (i := 9) (oi := { dst := some 46, op := Go.Op.binOp Go.BinOp.add 3 (Go.Operand.tmp 43) (Go.Operand.tmp 45) 3, type := 3, pos := "more.go:16", after := #[{ on := 6, ground := Go.Ground.data }, { on := 8, ground := Go.Ground.data }], guard := none }) (v := ?vs9) rfl (by kernel_rfl) (by kernel_rfl) (by kernel_rfl) (fun _ _ _ h => h) (Or.inl ⟨by rfl, ?ys9⟩) (by assumption) ?rs9
        case ys9 => (intro wq hSw; (try dsimp only at hSw); go_simp; try with_reducible rfl)
        simp only [Act.put, List.setIfInBounds_toArray, List.set_cons_zero, List.set_cons_succ]
        refine wpAnyH_ready (rs := [3]) (by kernel_rfl) (by simp) (AllReadyH.cons (o := { dst := some 40, op := Go.Op.call { callee := Go.Callee.value (Go.Operand.func 15), args := #[Go.Operand.tmp 37, Go.Operand.tmp 38, Go.Operand.tmp 39], argTypes := #[25, 30, 3] }, type := 4, pos := "more.go:16", after := #[{ on := 0, ground := Go.Ground.data }, { on := 1, ground := Go.Ground.data }, { on := 2, ground := Go.Ground.data }], guard := none }) rfl (fun K hK => ?_) AllReadyH.nil)
        go_simp
        go_at_call 15; refine (HF1.out _ (C4.out.kept KD.out)).mono ?_
        rintro e y1 ⟨rfl, q1⟩
        have Q1 := Lib.hid (KD.out.trans q1)
        clear q1
        refine Shut.out hK _ _ (both_cells (Z4.out.kept Q1.out) (B4.out.kept Q1.out)) (fun hSb => ?_)
        clear hK K
        try simp only [Act.put, List.setIfInBounds_toArray, List.set_cons_zero, List.set_cons_succ]
        refine wpAnyH_ready (rs := [10]) (by kernel_rfl) (by simp) (AllReadyH.cons (o := { dst := some 47, op := Go.Op.call { callee := Go.Callee.value (Go.Operand.func 15), args := #[Go.Operand.tmp 41, Go.Operand.tmp 42, Go.Operand.tmp 46], argTypes := #[25, 30, 3] }, type := 4, pos := "more.go:16", after := #[{ on := 4, ground := Go.Ground.data }, { on := 5, ground := Go.Ground.data }, { on := 9, ground := Go.Ground.data }, { on := 3, ground := Go.Ground.chain }], guard := none }) rfl (fun K hK => ?_) AllReadyH.nil)
        go_simp
        go_at_call 15; refine (HF2.out _ (C4.out.kept Q1.out)).mono ?_
        rintro e y2 ⟨rfl, q2⟩
        have Q2 := Lib.hid (Q1.out.trans q2)
        clear q2
        refine Shut.out hK _ _ (both_cells (Z4.out.kept Q2.out) (B4.out.kept Q2.out)) (fun hSb => ?_)
        clear hK K
        try simp only [Act.put, List.setIfInBounds_toArray, List.set_cons_zero, List.set_cons_succ]
        refine wpAnyH_take (i := 11) (oi := { dst := some 48, op := Go.Op.binOp Go.BinOp.eql 4 (Go.Operand.tmp 40) (Go.Operand.tmp 47) 4, type := 4, pos := "more.go:16", after := #[{ on := 3, ground := Go.Ground.data }, { on := 10, ground := Go.Ground.data }], guard := none }) (v := ?vs11) rfl (by kernel_rfl) (by kernel_rfl) (by kernel_rfl) (fun _ _ _ h => h) (Or.inl ⟨by rfl, ?ys11⟩) (by assumption) ?rs11
        case ys11 => (intro wq hSw; (try dsimp only at hSw); go_simp; try with_reducible rfl)
        simp only [Act.put, List.setIfInBounds_toArray, List.set_cons_zero, List.set_cons_succ]
        refine wpAnyH_take (i := 12) (oi := { dst := some 6, op := Go.Op.assign (Go.Operand.tmp 48), type := 4, pos := "more.go:16", after := #[{ on := 11, ground := Go.Ground.data }, { on := 10, ground := Go.Ground.chain }, { on := 0, ground := Go.Ground.phase }, { on := 1, ground := Go.Ground.phase }, { on := 2, ground := Go.Ground.phase }, { on := 3, ground := Go.Ground.phase }, { on := 4, ground := Go.Ground.phase }, { on := 5, ground := Go.Ground.phase }, { on := 6, ground := Go.Ground.phase }, { on := 7, ground := Go.Ground.phase }, { on := 8, ground := Go.Ground.phase }, { on := 9, ground := Go.Ground.phase }, { on := 10, ground := Go.Ground.phase }, { on := 11, ground := Go.Ground.phase }], guard := none }) (v := ?vs12) rfl (by kernel_rfl) (by kernel_rfl) (by kernel_rfl) (fun _ _ _ h => h) (Or.inl ⟨by rfl, ?ys12⟩) (by assumption) ?rs12
        case ys12 => (intro wq hSw; (try dsimp only at hSw); go_simp; try with_reducible rfl)
        simp only [Act.put, List.setIfInBounds_toArray, List.set_cons_zero, List.set_cons_succ]
        refine wpAnyH_done (by kernel_rfl) ?_ _
        clear hSb hS0
        go_wp2
        go_ret
        exact ⟨ret_bool (by simp), K4.out.trans Q2.out⟩
end Go.Proofs.YtilgamjahediiaaGreatDoor
