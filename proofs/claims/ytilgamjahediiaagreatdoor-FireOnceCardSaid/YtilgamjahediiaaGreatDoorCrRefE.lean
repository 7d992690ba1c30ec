/- The document's own answers of package cron: whether a day is one of a schedule (given whether the schedule may be). -/
import Derived.Test.YtilgamjahediiaaGreatDoorCrD
import Derived.Test.YtilgamjahediiaaGreatDoorCrB
import Derived.Test.YtilgamjahediiaaGreatDoorCivA
set_option linter.unusedVariables false
namespace Go.Proofs.YtilgamjahediiaaGreatDoor
open Go.ChangeShapes Go.WideShapes Go.ChangeAt Go.RowKit
open Crn Civ
theorem ehas_any (v : Value) (l : List Int) (n : Int) (w : World) (hv : Rs w v l) : Calls Tryz.prog 67 #[v, .int .i64 n] w fun e w' => e = .returned (.bool (hasB l n)) ∧ w = w' := rhas_any v l n w hv
set_option maxRecDepth 100000 in
set_option maxHeartbeats 4000000 in
theorem rday_any (c : CR) (sl : Nat → Value) (y m d : Int) (w : World) (hc : Cr w sl c.L) (hM : ∀ x, Cr x sl c.L → Calls Tryz.prog 32 #[crV sl c.st] x fun e x' => e = .returned (.bool (mayC c)) ∧ Kept x x') : Calls Tryz.prog 68 #[crV sl c.st, .int .i64 y, .int .i64 m, .int .i64 d] w fun e w' => e = .returned (.bool (dayC c y m d)) ∧ Kept w w' := by
  have k0 := (Kept.refl w).alloc (.cells (cr10 sl c.st) 30)
  have B0 := Lib.hid (Cb.new sl c.st w)
  have C0 := Lib.hid (hc.kept k0)
  have K0 := Lib.hid k0
  have MM := Lib.hid hM
  clear hc k0 hM
  go_enter Tryz.func68, Tryz.ntmps68
  go_upto_region 1 with (fail)
  generalize w.alloc (.cells (cr10 sl c.st) 30) = x at *
  obtain ⟨e0, e1, e2, e3, e4, e5, e6, e7, e8, e9⟩ := cells10 B0.out
  go_wp2_with fail
  refine (MM.out _ C0.out).mono ?_
  rintro e x1 ⟨rfl, k1⟩
  have B1 := Lib.hid (B0.out.kept k1); have C1 := Lib.hid (C0.out.kept k1); have K1 := Lib.hid (K0.out.trans k1)
  clear k1 B0 C0 K0
  clear e0 e1 e2 e3 e4 e5 e6 e7 e8 e9
  clear MM
  by_cases ko : okP y m d
  · have KO := Lib.hid ko; clear ko
    have HD := Lib.hid (show dayC c y m d = (mayC c && hasB (c.L 3) m && (if (c.st 2 || c.st 4) = true then hasB (c.L 2) d && hasB (c.L 4) (wd (ord y m d)) else hasB (c.L 2) d || hasB (c.L 4) (wd (ord y m d)))) by unfold dayC; rw [(okB_iff y m d).2 KO.out]; rfl)
    go_wp2_with fail
    refine (rord_yes y m d _ KO.out).mono ?_
    rintro e x2 ⟨rfl, rfl⟩
    generalize ord y m d = n at *
    cases hm : mayC c with
    | false =>
      have HR := Lib.hid (show dayC c y m d = false by rw [HD.out, hm]; rfl)
      clear hm
      go_wp2
      go_ret
      exact ⟨ret_bool HR.out.symm, K1.out⟩
    | true =>
      have HX := Lib.hid (show dayC c y m d = (hasB (c.L 3) m && (if (c.st 2 || c.st 4) = true then hasB (c.L 2) d && hasB (c.L 4) (wd n) else hasB (c.L 2) d || hasB (c.L 4) (wd n))) by rw [HD.out, hm]; rfl)
      clear hm HD
      obtain ⟨e0, e1, e2, e3, e4, e5, e6, e7, e8, e9⟩ := cells10 B1.out
      have r2 := Lib.hid (C1.out 2 (by omega)); have r3 := Lib.hid (C1.out 3 (by omega)); have r4 := Lib.hid (C1.out 4 (by omega))
      generalize c.st 2 = s2 at *
      generalize c.st 4 = s4 at *
      generalize hv2 : sl 2 = v2 at *
      generalize hv3 : sl 3 = v3 at *
      generalize hv4 : sl 4 = v4 at *
      clear hv2 hv3 hv4
      go_wp2_with fail
      refine (ehas_any v3 (c.L 3) m _ r3.out).mono ?_
      rintro e y1 ⟨rfl, rfl⟩
      generalize hasB (c.L 3) m = b3 at *
      go_wp2_with fail
      refine (ehas_any v2 (c.L 2) d _ r2.out).mono ?_
      rintro e y1 ⟨rfl, rfl⟩
      generalize hasB (c.L 2) d = b2 at *
      go_upto_region 7 with (fail)
      have K2b := Lib.hid ((Kept.refl x1).drew)
      refine wp_region_held_drew (S := fun y => Kept x1 y ∧ y.cell? ⟨w.heap.size, 4, none⟩ = some v4 ∧ y.cell? ⟨w.heap.size, 7, none⟩ = some (.bool s2) ∧ y.cell? ⟨w.heap.size, 9, none⟩ = some (.bool s4)) (by kernel_rfl) ⟨K2b.out, e4, e7, e9⟩ (fun hS0 => ?_)
      refine wpAnyH_take (i := 0) (oi := { dst := some 40, op := Go.Op.fieldAddr 30 (Go.Operand.tmp 4) 0, type := 0, pos := "ref.go:250", after := #[], guard := none }) (v := ?vq0) rfl (by kernel_rfl) (by kernel_rfl) (by kernel_rfl) (fun _ _ _ h => h) (Or.inl ⟨by rfl, ?yq0⟩) (by assumption) ?rq0
      case yq0 => (intro wq hSw; (try dsimp only at hSw); go_simp; try with_reducible rfl)
      simp only [Act.put, List.setIfInBounds_toArray, List.set_cons_zero, List.set_cons_succ]
      refine wpAnyH_take (i := 1) (oi := { dst := some 41, op := Go.Op.indexAddr 27 (Go.Operand.tmp 40) (Go.Operand.const (Go.Value.int Go.IntKind.i64 4)), type := 0, pos := "ref.go:250", after := #[{ on := 0, ground := Go.Ground.data }], guard := none }) (v := ?vq1) rfl (by kernel_rfl) (by kernel_rfl) (by kernel_rfl) (fun _ _ _ h => h) (Or.inl ⟨by rfl, ?yq1⟩) (by assumption) ?rq1
      case yq1 => (intro wq hSw; (try dsimp only at hSw); go_simp; try with_reducible rfl)
      simp only [Act.put, List.setIfInBounds_toArray, List.set_cons_zero, List.set_cons_succ]
      refine wpAnyH_take (i := 2) (oi := { dst := some 42, op := Go.Op.load 26 (Go.Operand.tmp 41), type := 26, pos := "ref.go:250", after := #[{ on := 1, ground := Go.Ground.data }], guard := none }) (v := ?vq2) rfl (by kernel_rfl) (by kernel_rfl) (by kernel_rfl) (fun _ _ _ h => h) (Or.inl ⟨by rfl, ?yq2⟩) (by assumption) ?rq2
      case yq2 => (intro wq hSw; (try dsimp only at hSw); go_simp; try with_reducible rfl)
      simp only [Act.put, List.setIfInBounds_toArray, List.set_cons_zero, List.set_cons_succ]
      refine wpAnyH_take (i := 3) (oi := { dst := some 43, op := Go.Op.move (Go.Operand.tmp 10), type := 3, pos := "ref.go:250", after := #[], guard := none }) (v := ?vq3) rfl (by kernel_rfl) (by kernel_rfl) (by kernel_rfl) (fun _ _ _ h => h) (Or.inl ⟨by rfl, ?yq3⟩) (by assumption) ?rq3
      case yq3 => (intro wq hSw; (try dsimp only at hSw); go_simp; try with_reducible rfl)
      simp only [Act.put, List.setIfInBounds_toArray, List.set_cons_zero, List.set_cons_succ]
      refine wpAnyH_ready (rs := [4]) (by kernel_rfl) (by simp) (AllReadyH.cons (o := { dst := some 44, op := Go.Op.call { callee := Go.Callee.value (Go.Operand.func 92), args := #[Go.Operand.tmp 43], argTypes := #[3] }, type := 3, pos := "ref.go:250", after := #[{ on := 3, ground := Go.Ground.data }], guard := none }) rfl (fun K hK => ?_) AllReadyH.nil)
      go_simp
      go_at_call 92; refine (rwday_any n _).mono ?_
      rintro e y1 ⟨rfl, rfl⟩
      refine Shut.out hK _ _ ‹Kept x1 _ ∧ _› (fun hSb => ?_)
      clear hK K
      try simp only [Act.put, List.setIfInBounds_toArray, List.set_cons_zero, List.set_cons_succ]
      have HK4 := Lib.hid K2b.out
      have HS4 := Lib.hid (show Kept x1 x1.drew ∧ x1.drew.cell? ⟨w.heap.size, 4, none⟩ = some v4 ∧ x1.drew.cell? ⟨w.heap.size, 7, none⟩ = some (.bool s2) ∧ x1.drew.cell? ⟨w.heap.size, 9, none⟩ = some (.bool s4) from ⟨K2b.out, e4, e7, e9⟩)
      refine wpAnyH_ready (rs := [5]) (by kernel_rfl) (by simp) (AllReadyH.cons (o := { dst := some 45, op := Go.Op.call { callee := Go.Callee.value (Go.Operand.func 67), args := #[Go.Operand.tmp 42, Go.Operand.tmp 44], argTypes := #[26, 3] }, type := 4, pos := "ref.go:250", after := #[{ on := 2, ground := Go.Ground.data }, { on := 4, ground := Go.Ground.data }, { on := 4, ground := Go.Ground.chain }], guard := none }) rfl (fun K hK => ?_) AllReadyH.nil)
      go_simp
      go_at_call 67; refine (ehas_any v4 (c.L 4) (wd n) _ (r4.out.kept HK4.out)).mono ?_
      rintro e y1 ⟨rfl, rfl⟩
      refine Shut.out hK _ _ HS4.out (fun hSb => ?_)
      clear hK K
      try simp only [Act.put, List.setIfInBounds_toArray, List.set_cons_zero, List.set_cons_succ]
      refine wpAnyH_take (i := 6) (oi := { dst := some 14, op := Go.Op.assign (Go.Operand.tmp 45), type := 4, pos := "ref.go:250", after := #[{ on := 5, ground := Go.Ground.data }, { on := 5, ground := Go.Ground.chain }, { on := 0, ground := Go.Ground.phase }, { on := 1, ground := Go.Ground.phase }, { on := 2, ground := Go.Ground.phase }, { on := 3, ground := Go.Ground.phase }, { on := 4, ground := Go.Ground.phase }, { on := 5, ground := Go.Ground.phase }], guard := none }) (v := ?vq6) rfl (by kernel_rfl) (by kernel_rfl) (by kernel_rfl) (fun _ _ _ h => h) (Or.inl ⟨by rfl, ?yq6⟩) (by assumption) ?rq6
      case yq6 => (intro wq hSw; (try dsimp only at hSw); go_simp; try with_reducible rfl)
      simp only [Act.put, List.setIfInBounds_toArray, List.set_cons_zero, List.set_cons_succ]
      refine wpAnyH_done (by kernel_rfl) ?_ _
      clear hSb hS0
      generalize hasB (c.L 4) (wd n) = b4 at *
      obtain ⟨-, q4, q7, q9⟩ := HS4.out
      have KF := Lib.hid (K1.out.trans HK4.out)
      clear e0 e1 e2 e3 e4 e5 e6 e7 e8 e9 HS4 HK4 K2b r2 r3 r4 K1 B1 C1
      cases s2 <;> cases s4 <;> cases b3 <;> cases b2 <;> cases b4
      all_goals (go_wp2; go_ret; exact ⟨ret_bool (by rw [HX.out]; rfl), KF.out⟩)
  · have HD := Lib.hid (show dayC c y m d = false by unfold dayC; rw [(okB_no y m d).2 ko]; rfl)
    have KO := Lib.hid ko; clear ko
    go_wp2_with fail
    refine (rord_not y m d _ KO.out).mono ?_
    rintro e x2 ⟨rfl, rfl⟩
    cases mayC c
    all_goals
      go_wp2
      go_ret
      exact ⟨ret_bool HD.out.symm, K1.out⟩
end Go.Proofs.YtilgamjahediiaaGreatDoor
