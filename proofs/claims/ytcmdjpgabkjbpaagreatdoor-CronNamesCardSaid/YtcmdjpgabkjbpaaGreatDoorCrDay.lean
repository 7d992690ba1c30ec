/- Contracts of package cron: whether a day, or a day and time, is one of a schedule. -/
import Derived.Test.YtcmdjpgabkjbpaaGreatDoorCrMay
set_option linter.unusedVariables false
namespace Go.Proofs.YtcmdjpgabkjbpaaGreatDoor
open Go.ChangeShapes Go.WideShapes Go.ChangeAt Go.RowKit
open Crn Civ
noncomputable def dayC (c : CR) (y m d : Int) : Bool := okB y m d && mayC c && hasB (c.L 3) m && (if (c.st 2 || c.st 4) = true then hasB (c.L 2) d && hasB (c.L 4) (wd (ord y m d)) else hasB (c.L 2) d || hasB (c.L 4) (wd (ord y m d)))
theorem cells10 {b : Nat} {sl : Nat → Value} {st : Nat → Bool} {x : World} (h : Cb b sl st x) : x.cell? ⟨b, 0, none⟩ = some (sl 0) ∧ x.cell? ⟨b, 1, none⟩ = some (sl 1) ∧ x.cell? ⟨b, 2, none⟩ = some (sl 2) ∧ x.cell? ⟨b, 3, none⟩ = some (sl 3) ∧ x.cell? ⟨b, 4, none⟩ = some (sl 4) ∧ x.cell? ⟨b, 5, none⟩ = some (.bool (st 0)) ∧ x.cell? ⟨b, 6, none⟩ = some (.bool (st 1)) ∧ x.cell? ⟨b, 7, none⟩ = some (.bool (st 2)) ∧ x.cell? ⟨b, 8, none⟩ = some (.bool (st 3)) ∧ x.cell? ⟨b, 9, none⟩ = some (.bool (st 4)) :=
  ⟨cell_of h rfl, cell_of h rfl, cell_of h rfl, cell_of h rfl, cell_of h rfl, cell_of h rfl, cell_of h rfl, cell_of h rfl, cell_of h rfl, cell_of h rfl⟩
set_option maxRecDepth 100000 in
set_option maxHeartbeats 2000000 in
theorem day_any (c : CR) (sl : Nat → Value) (y m d : Int) (w : World) (hc : Cr w sl c.L) : Calls Tryz.prog 23 #[crV sl c.st, .int .i64 y, .int .i64 m, .int .i64 d] w fun e w' => e = .returned (.bool (dayC c y m d)) ∧ Kept w w' := by
  have k0 := (Kept.refl w).alloc (.cells (cr10 sl c.st) 27)
  have B0 := Lib.hid (Cb.new sl c.st w)
  have C0 := Lib.hid (hc.kept k0)
  clear hc
  by_cases ko : okP y m d
  · have KO := Lib.hid ko; clear ko
    have HD := Lib.hid (show dayC c y m d = (mayC c && hasB (c.L 3) m && (if (c.st 2 || c.st 4) = true then hasB (c.L 2) d && hasB (c.L 4) (wd (ord y m d)) else hasB (c.L 2) d || hasB (c.L 4) (wd (ord y m d)))) by unfold dayC; rw [(okB_iff y m d).2 KO.out]; rfl)
    go_enter Tryz.func23, Tryz.ntmps23
    go_upto_region 1 with (fail)
    generalize w.alloc (.cells (cr10 sl c.st) 27) = x at *
    go_wp2_with fail
    refine (ord_yes y m d _ KO.out).mono ?_
    rintro e x1 ⟨rfl, k1⟩
    have B1 := Lib.hid (B0.out.kept k1); have C1 := Lib.hid (C0.out.kept k1); have K1 := Lib.hid (k0.trans k1)
    clear k0 k1 B0 C0
    generalize ord y m d = n at *
    obtain ⟨e0, e1, e2, e3, e4, e5, e6, e7, e8, e9⟩ := cells10 B1.out
    go_wp2_with fail
    refine (cmay_any c sl _ C1.out).mono ?_
    rintro e x2 ⟨rfl, k2⟩
    have B2 := Lib.hid (B1.out.kept k2); have C2 := Lib.hid (C1.out.kept k2); have K2 := Lib.hid (K1.out.trans k2)
    clear k2 B1 C1 K1
    clear e0 e1 e2 e3 e4 e5 e6 e7 e8 e9
    cases hm : mayC c with
    | false =>
      have HR := Lib.hid (show dayC c y m d = false by rw [HD.out, hm]; rfl)
      clear hm
      go_wp2
      go_ret
      exact ⟨ret_bool HR.out.symm, K2.out⟩
    | true =>
      have HM := Lib.hid hm; clear hm
      obtain ⟨e0, e1, e2, e3, e4, e5, e6, e7, e8, e9⟩ := cells10 B2.out
      go_wp2_with fail
      refine (chas_any sl c.st c.L 3 (by omega) m _ C2.out).mono ?_
      rintro e x3 ⟨rfl, k3⟩
      have B3 := Lib.hid (B2.out.kept k3); have C3 := Lib.hid (C2.out.kept k3); have K3 := Lib.hid (K2.out.trans k3)
      clear k3 B2 C2 K2
      clear e0 e1 e2 e3 e4 e5 e6 e7 e8 e9
      cases h3 : hasB (c.L 3) m with
      | false =>
        have HR := Lib.hid (show dayC c y m d = false by rw [HD.out, h3]; simp)
        clear h3
        go_wp2
        go_ret
        exact ⟨ret_bool HR.out.symm, K3.out⟩
      | true =>
        have HX := Lib.hid (show dayC c y m d = (if (c.st 2 || c.st 4) = true then hasB (c.L 2) d && hasB (c.L 4) (wd n) else hasB (c.L 2) d || hasB (c.L 4) (wd n)) by rw [HD.out, HM.out, h3]; rfl)
        clear h3 HD
        obtain ⟨e0, e1, e2, e3, e4, e5, e6, e7, e8, e9⟩ := cells10 B3.out
        go_wp2_with fail
        refine (chas_any sl c.st c.L 2 (by omega) d _ C3.out).mono ?_
        rintro e x4 ⟨rfl, k4⟩
        have B4 := Lib.hid (B3.out.kept k4); have C4 := Lib.hid (C3.out.kept k4); have K4 := Lib.hid (K3.out.trans k4)
        clear k4 B3 C3 K3
        clear e0 e1 e2 e3 e4 e5 e6 e7 e8 e9
        generalize hasB (c.L 2) d = b2 at *
        go_upto_region 5 with (fail)
        have K4b := Lib.hid ((Kept.refl x4).drew)
        obtain ⟨e0, e1, e2, e3, e4, e5, e6, e7, e8, e9⟩ := cells10 B4.out
        refine wp_region_held_drew (S := fun y => Kept x4 y ∧ y.cell? ⟨w.heap.size, 0, none⟩ = some (sl 0) ∧ y.cell? ⟨w.heap.size, 1, none⟩ = some (sl 1) ∧ y.cell? ⟨w.heap.size, 2, none⟩ = some (sl 2) ∧ y.cell? ⟨w.heap.size, 3, none⟩ = some (sl 3) ∧ y.cell? ⟨w.heap.size, 4, none⟩ = some (sl 4) ∧ y.cell? ⟨w.heap.size, 5, none⟩ = some (.bool (c.st 0)) ∧ y.cell? ⟨w.heap.size, 6, none⟩ = some (.bool (c.st 1)) ∧ y.cell? ⟨w.heap.size, 7, none⟩ = some (.bool (c.st 2)) ∧ y.cell? ⟨w.heap.size, 8, none⟩ = some (.bool (c.st 3)) ∧ y.cell? ⟨w.heap.size, 9, none⟩ = some (.bool (c.st 4))) (by kernel_rfl) ⟨K4b.out, e0, e1, e2, e3, e4, e5, e6, e7, e8, e9⟩ (fun hS0 => ?_)
        refine wpAnyH_take (i := 0) (oi := { dst := some 36, op := Go.Op.load 27 (Go.Operand.tmp 4), type := 27, pos := "cron.go:70", after := #[], guard := none }) (v := ?va0) rfl (by kernel_rfl) (by kernel_rfl) (by kernel_rfl) (fun _ _ _ h => h) (Or.inl ⟨by rfl, ?ya0⟩) (by assumption) ?ra0
        case ya0 => (intro wq hSw; (try dsimp only at hSw); go_simp; try with_reducible rfl)
        simp only [Act.put, List.setIfInBounds_toArray, List.set_cons_zero, List.set_cons_succ]
        refine wpAnyH_take (i := 1) (oi := { dst := some 37, op := Go.Op.move (Go.Operand.tmp 9), type := 3, pos := "cron.go:70", after := #[], guard := none }) (v := ?va1) rfl (by kernel_rfl) (by kernel_rfl) (by kernel_rfl) (fun _ _ _ h => h) (Or.inl ⟨by rfl, ?ya1⟩) (by assumption) ?ra1
        case ya1 => (intro wq hSw; (try dsimp only at hSw); go_simp; try with_reducible rfl)
        simp only [Act.put, List.setIfInBounds_toArray, List.set_cons_zero, List.set_cons_succ]
        refine wpAnyH_ready (rs := [2]) (by kernel_rfl) (by simp) (AllReadyH.cons (o := { dst := some 38, op := Go.Op.call { callee := Go.Callee.value (Go.Operand.func 26), args := #[Go.Operand.tmp 37], argTypes := #[3] }, type := 3, pos := "cron.go:70", after := #[{ on := 1, ground := Go.Ground.data }], guard := none }) rfl (fun K hK => ?_) AllReadyH.nil)
        go_simp
        go_at_call 26; refine (wday_any n _).mono ?_
        rintro e x5 ⟨rfl, rfl⟩
        refine Shut.out hK _ _ ‹Kept x4 _ ∧ _› (fun hSb => ?_)
        clear hK K
        try simp only [Act.put, List.setIfInBounds_toArray, List.set_cons_zero, List.set_cons_succ]
        refine wpAnyH_ready (rs := [3]) (by kernel_rfl) (by simp) (AllReadyH.cons (o := { dst := some 39, op := Go.Op.call { callee := Go.Callee.value (Go.Operand.func 43), args := #[Go.Operand.tmp 36, Go.Operand.const (Go.Value.int Go.IntKind.i64 4), Go.Operand.tmp 38], argTypes := #[27, 3, 3] }, type := 4, pos := "cron.go:70", after := #[{ on := 0, ground := Go.Ground.data }, { on := 2, ground := Go.Ground.data }, { on := 2, ground := Go.Ground.chain }], guard := none }) rfl (fun K hK => ?_) AllReadyH.nil)
        go_simp
        go_at_call 43; refine (chas_any sl c.st c.L 4 (by omega) (wd n) x4.drew (C4.out.kept K4b.out)).mono ?_
        rintro e x5 ⟨rfl, k5⟩
        have k5' : Kept x4 x5 := K4b.out.trans k5
        have B5 := Lib.hid (B4.out.kept k5'); have K5 := Lib.hid (K4.out.trans k5')
        clear e0 e1 e2 e3 e4 e5 e6 e7 e8 e9
        obtain ⟨e0, e1, e2, e3, e4, e5, e6, e7, e8, e9⟩ := cells10 B5.out
        generalize hasB (c.L 4) (wd n) = b4 at *
        refine Shut.out hK _ _ ⟨k5', e0, e1, e2, e3, e4, e5, e6, e7, e8, e9⟩ (fun hSb => ?_)
        clear hK K
        try simp only [Act.put, List.setIfInBounds_toArray, List.set_cons_zero, List.set_cons_succ]
        refine wpAnyH_take (i := 4) (oi := { dst := some 12, op := Go.Op.assign (Go.Operand.tmp 39), type := 4, pos := "cron.go:70", after := #[{ on := 3, ground := Go.Ground.data }, { on := 3, ground := Go.Ground.chain }, { on := 0, ground := Go.Ground.phase }, { on := 1, ground := Go.Ground.phase }, { on := 2, ground := Go.Ground.phase }, { on := 3, ground := Go.Ground.phase }], guard := none }) (v := ?va4) rfl (by kernel_rfl) (by kernel_rfl) (by kernel_rfl) (fun _ _ _ h => h) (Or.inl ⟨by rfl, ?ya4⟩) (by assumption) ?ra4
        case ya4 => (intro wq hSw; (try dsimp only at hSw); go_simp; try with_reducible rfl)
        simp only [Act.put, List.setIfInBounds_toArray, List.set_cons_zero, List.set_cons_succ]
        refine wpAnyH_done (by kernel_rfl) ?_ _
        clear hSb hS0
        generalize c.st 2 = s2 at *
        generalize c.st 4 = s4 at *
        cases s2 <;> cases s4 <;> cases b2 <;> cases b4
        all_goals (go_wp2; go_ret; exact ⟨ret_bool (by rw [HX.out]; rfl), K5.out⟩)
  · have HD := Lib.hid (show dayC c y m d = false by unfold dayC; rw [(okB_no y m d).2 ko]; rfl)
    have KO := Lib.hid ko; clear ko
    go_enter Tryz.func23, Tryz.ntmps23
    go_upto_region 1 with (fail)
    generalize w.alloc (.cells (cr10 sl c.st) 27) = x at *
    go_wp2_with fail
    refine (ord_not y m d _ KO.out).mono ?_
    rintro e x1 ⟨rfl, k1⟩
    go_wp2
    go_ret
    exact ⟨ret_bool HD.out.symm, k0.trans k1⟩
end Go.Proofs.YtcmdjpgabkjbpaaGreatDoor
