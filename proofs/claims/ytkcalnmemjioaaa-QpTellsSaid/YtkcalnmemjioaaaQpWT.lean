/- Any bytes, coded, and decoded, are what the document says. -/
import Derived.Test.YtkcalnmemjioaaaQpAw
import Derived.Test.YtkcalnmemjioaaaQpRc
import Derived.Test.YtkcalnmemjioaaaQpRd
import Derived.Deep.RegionHeld3
set_option linter.unusedSimpArgs false
set_option linter.unusedVariables false
namespace Go.Proofs.Ytkcalnmemjioaaa
open Go.ChangeShapes Go.WideShapes Go.ChangeAt Go.RowKit
open Qp
/-- more may be held of the worlds from here on -/
theorem wpAnyH_more {P : Program} {md : Region.Mode} {ops : Array Oper} {Q : Exit → Act → World → Prop} {S S' : World → Prop} (h : ∀ w, S' w → S w) : ∀ (fuel : Nat) (listed : Array Bool) (a : Act) (w : World), wpAnyH P md ops Q S' fuel listed a w → wpAnyH P md ops Q S fuel listed a w
  | 0, _, _, _, q => q
  | fuel + 1, _, _, _, q => ⟨q.1, fun i hi => wpOp_mono (fun a' w' h' => ⟨h w' h'.1, wpAnyH_more h fuel _ a' w' h'.2⟩) (q.2 i hi)⟩
set_option maxRecDepth 100000 in
set_option maxHeartbeats 8000000 in
theorem tells12_walk (v : Value) (l : B) (w : World) (hB : BRd v l w) (hd : l.length ≤ maxLen) : Calls Try.prog 3 #[v] w fun e w' => e = .returned (.bool true) ∧ Kept w w' := by
  unfold maxLen at hd
  obtain ⟨g, c, hv⟩ := hB.slice
  subst hv
  have HB := Lib.hid hB
  clear hB
  go_enter Try.func3, Try.ntmps3
  go_wp2_with fail
  refine (awake12_any w).mono ?_
  rintro e x1 ⟨rfl, k1⟩
  have K1 := Lib.hid k1
  clear k1
  by_cases hs : 1000 < (l.length : Int)
  · go_wp2
    go_ret
    exact ⟨rfl, K1.out⟩
  have hl : l.length ≤ 1000 := by omega
  go_wp2_with fail
  refine (decode_any _ l x1 (HB.out.kept K1.out) (by omega)).mono ?_
  rintro e x2 ⟨xv, rfl, ⟨av, hO, rfl⟩, k2⟩
  have K2 := Lib.hid (K1.out.trans k2)
  have R2 := Lib.hid hO.rd
  obtain ⟨a2, c2, hv2⟩ := own_slice hO
  subst hv2
  clear hO k2 K1
  go_wp2_with fail
  refine (rdecode_any _ l x2 (HB.out.kept K2.out) (by omega)).mono ?_
  rintro e x3 ⟨xv, rfl, ⟨bv, hO, rfl⟩, k3⟩
  have K3 := Lib.hid (K2.out.trans k3)
  have R3 := Lib.hid (R2.out.kept k3)
  have S3 := Lib.hid hO.rd
  obtain ⟨a3, c3, hv3⟩ := own_slice hO
  subst hv3
  have B3d := Lib.hid ((HB.out.kept K3.out).kept (Kept.refl x3).drew)
  have HRE := Lib.hid (fun (w : World) (h : BRd (.slice g l.length c) l w) => rencode_any _ l w h (by omega))
  clear hO k3 K2 R2 HB
  generalize (dec l).getD [] = D at *
  generalize dE l = ev at *
  have R3d := Lib.hid (R3.out.kept (Kept.refl x3).drew)
  have S3d := Lib.hid (S3.out.kept (Kept.refl x3).drew)
  clear R3 S3
  go_upto_region 6 with (fail)
  refine wp_region_held_drew (S := (fun y => (convert 22 9 (.slice a2 D.length c2)).run Try.prog y = .ok (sV D) y ∧ (convert 22 9 (.slice a3 D.length c3)).run Try.prog y = .ok (sV D) y)) (by kernel_rfl) ⟨R3d.out.conv, S3d.out.conv⟩ (fun hS0 => ?_)
  refine wpAnyH_take (i := 0) (oi := { dst := some 27, op := Go.Op.move (Go.Operand.tmp 0), type := 22, pos := "law.go:25", after := #[], guard := none }) (v := ?vt0) rfl (by kernel_rfl) (by kernel_rfl) (by kernel_rfl) (fun _ _ _ h => h) (Or.inl ⟨by rfl, ?yt0⟩) (by assumption) ?rt0
  case yt0 => (intro wq hSw; (try dsimp only at hSw); go_simp; try with_reducible rfl)
  simp only [Act.put, List.setIfInBounds_toArray, List.set_cons_zero, List.set_cons_succ]
  refine wpAnyH_take (i := 3) (oi := { dst := some 30, op := Go.Op.move (Go.Operand.tmp 0), type := 22, pos := "law.go:25", after := #[], guard := none }) (v := ?vt3) rfl (by kernel_rfl) (by kernel_rfl) (by kernel_rfl) (fun _ _ _ h => h) (Or.inl ⟨by rfl, ?yt3⟩) (by assumption) ?rt3
  case yt3 => (intro wq hSw; (try dsimp only at hSw); go_simp; try with_reducible rfl)
  simp only [Act.put, List.setIfInBounds_toArray, List.set_cons_zero, List.set_cons_succ]
  refine wpAnyH_ready (rs := [1]) (by kernel_rfl) (by simp) (AllReadyH.cons (o := { dst := some 28, op := Go.Op.call { callee := Go.Callee.value (Go.Operand.func 12), args := #[Go.Operand.tmp 27], argTypes := #[22] }, type := 22, pos := "law.go:25", after := #[{ on := 0, ground := Go.Ground.data }], guard := none }) rfl (fun K hK => ?_) AllReadyH.nil)
  go_simp
  go_at_call 12
  refine (encode_any _ l _ B3d.out (by omega)).mono ?_
  rintro e y ⟨xv, rfl, hO, k4⟩
  have K4 := Lib.hid (K3.out.drew.trans k4)
  have B4 := Lib.hid (B3d.out.kept k4)
  have R4 := Lib.hid (R3d.out.kept k4)
  have S4 := Lib.hid (S3d.out.kept k4)
  have E4 := Lib.hid hO.rd
  obtain ⟨a4, c4, hv4⟩ := own_slice hO
  subst hv4
  have HLE := Lib.hid (show (enc 0 l).length ≤ 6000 by have := enc_len l 0; omega)
  generalize enc 0 l = E at *
  clear hO k4 K3 B3d R3d S3d
  refine Shut.out hK _ _ ⟨R4.out.conv, S4.out.conv⟩ (fun hSb => ?_)
  clear hK K
  try simp only [Act.put, List.setIfInBounds_toArray, List.set_cons_zero, List.set_cons_succ]
  have hS4 : (fun y => ((convert 22 9 (.slice a2 D.length c2)).run Try.prog y = .ok (sV D) y ∧ (convert 22 9 (.slice a3 D.length c3)).run Try.prog y = .ok (sV D) y) ∧ (convert 22 9 (.slice a4 E.length c4)).run Try.prog y = .ok (sV E) y) y := ⟨⟨R4.out.conv, S4.out.conv⟩, E4.out.conv⟩
  refine wpAnyH_more (S' := (fun y => ((convert 22 9 (.slice a2 D.length c2)).run Try.prog y = .ok (sV D) y ∧ (convert 22 9 (.slice a3 D.length c3)).run Try.prog y = .ok (sV D) y) ∧ (convert 22 9 (.slice a4 E.length c4)).run Try.prog y = .ok (sV E) y)) (fun y h => h.1) _ _ _ _ ?_
  refine wpAnyH_take (i := 2) (oi := { dst := some 29, op := Go.Op.convert 22 9 (Go.Operand.tmp 28), type := 9, pos := "law.go:25", after := #[{ on := 1, ground := Go.Ground.data }], guard := none }) (v := ?vt2) rfl (by kernel_rfl) (by kernel_rfl) (by kernel_rfl) (fun _ _ _ h => h) (Or.inl ⟨by rfl, ?yt2⟩) (by assumption) ?rt2
  case yt2 => (intro wq hSw; (try dsimp only at hSw); go_simp; try with_reducible rfl)
  simp only [Act.put, List.setIfInBounds_toArray, List.set_cons_zero, List.set_cons_succ]
  refine wpAnyH_ready (rs := [4]) (by kernel_rfl) (by simp) (AllReadyH.cons (o := { dst := some 31, op := Go.Op.call { callee := Go.Callee.value (Go.Operand.func 13), args := #[Go.Operand.tmp 30], argTypes := #[22] }, type := 22, pos := "law.go:25", after := #[{ on := 3, ground := Go.Ground.data }, { on := 1, ground := Go.Ground.chain }], guard := none }) rfl (fun K hK => ?_) AllReadyH.nil)
  go_simp
  go_at_call 13
  refine (HRE.out _ B4.out).mono ?_
  rintro e z ⟨xv, rfl, hO, k5⟩
  have K5 := Lib.hid (K4.out.trans k5)
  have R5 := Lib.hid (R4.out.kept k5)
  have S5 := Lib.hid (S4.out.kept k5)
  have E5 := Lib.hid (E4.out.kept k5)
  have F5 := Lib.hid hO.rd
  obtain ⟨a5, c5, hv5⟩ := own_slice hO
  subst hv5
  clear hO k5 K4 B4 R4 S4 E4 hS4
  refine Shut.out hK _ _ ⟨⟨R5.out.conv, S5.out.conv⟩, E5.out.conv⟩ (fun hSb => ?_)
  clear hK K
  try simp only [Act.put, List.setIfInBounds_toArray, List.set_cons_zero, List.set_cons_succ]
  have hS5 : (fun y => (((convert 22 9 (.slice a2 D.length c2)).run Try.prog y = .ok (sV D) y ∧ (convert 22 9 (.slice a3 D.length c3)).run Try.prog y = .ok (sV D) y) ∧ (convert 22 9 (.slice a4 E.length c4)).run Try.prog y = .ok (sV E) y) ∧ (convert 22 9 (.slice a5 E.length c5)).run Try.prog y = .ok (sV E) y) z := ⟨⟨⟨R5.out.conv, S5.out.conv⟩, E5.out.conv⟩, F5.out.conv⟩
  refine wpAnyH_more (S' := (fun y => (((convert 22 9 (.slice a2 D.length c2)).run Try.prog y = .ok (sV D) y ∧ (convert 22 9 (.slice a3 D.length c3)).run Try.prog y = .ok (sV D) y) ∧ (convert 22 9 (.slice a4 E.length c4)).run Try.prog y = .ok (sV E) y) ∧ (convert 22 9 (.slice a5 E.length c5)).run Try.prog y = .ok (sV E) y)) (fun y h => h.1) _ _ _ _ ?_
  refine wpAnyH_take (i := 5) (oi := { dst := some 32, op := Go.Op.convert 22 9 (Go.Operand.tmp 31), type := 9, pos := "law.go:25", after := #[{ on := 4, ground := Go.Ground.data }], guard := none }) (v := ?vt5) rfl (by kernel_rfl) (by kernel_rfl) (by kernel_rfl) (fun _ _ _ h => h) (Or.inl ⟨by rfl, ?yt5⟩) (by assumption) ?rt5
  case yt5 => (intro wq hSw; (try dsimp only at hSw); go_simp; try with_reducible rfl)
  simp only [Act.put, List.setIfInBounds_toArray, List.set_cons_zero, List.set_cons_succ]
  refine wpAnyH_take (i := 6) (oi := { dst := some 33, op := Go.Op.binOp Go.BinOp.eql 9 (Go.Operand.tmp 29) (Go.Operand.tmp 32) 9, type := 4, pos := "law.go:25", after := #[{ on := 2, ground := Go.Ground.data }, { on := 5, ground := Go.Ground.data }], guard := none }) (v := ?vt6) rfl (by kernel_rfl) (by kernel_rfl) (by kernel_rfl) (fun _ _ _ h => h) (Or.inl ⟨by rfl, ?yt6⟩) (by assumption) ?rt6
  case yt6 => (intro wq hSw; (try dsimp only at hSw); go_simp; try with_reducible rfl)
  simp only [Act.put, List.setIfInBounds_toArray, List.set_cons_zero, List.set_cons_succ]
  refine wpAnyH_take (i := 7) (oi := { dst := some 34, op := Go.Op.move (Go.Operand.tmp 33), type := 4, pos := "law.go:25", after := #[{ on := 6, ground := Go.Ground.data }, { on := 4, ground := Go.Ground.chain }], guard := none }) (v := ?vt7) rfl (by kernel_rfl) (by kernel_rfl) (by kernel_rfl) (fun _ _ _ h => h) (Or.inl ⟨by rfl, ?yt7⟩) (by assumption) ?rt7
  case yt7 => (intro wq hSw; (try dsimp only at hSw); go_simp; try with_reducible rfl)
  simp only [Act.put, List.setIfInBounds_toArray, List.set_cons_zero, List.set_cons_succ]
  refine wpAnyH_take (i := 8) (oi := { dst := some 35, op := Go.Op.move (Go.Operand.tmp 4), type := 22, pos := "law.go:25", after := #[{ on := 7, ground := Go.Ground.guard }], guard := some (7, true) }) (v := ?vt8) rfl (by kernel_rfl) (by kernel_rfl) (by kernel_rfl) (fun _ _ _ h => h) (Or.inl ⟨by rfl, ?yt8⟩) (by assumption) ?rt8
  case yt8 => (intro wq hSw; (try dsimp only at hSw); go_simp; try with_reducible rfl)
  simp only [Act.put, List.setIfInBounds_toArray, List.set_cons_zero, List.set_cons_succ]
  refine wpAnyH_take (i := 9) (oi := { dst := some 36, op := Go.Op.convert 22 9 (Go.Operand.tmp 35), type := 9, pos := "law.go:25", after := #[{ on := 8, ground := Go.Ground.data }, { on := 7, ground := Go.Ground.guard }], guard := some (7, true) }) (v := ?vt9) rfl (by kernel_rfl) (by kernel_rfl) (by kernel_rfl) (fun _ _ _ h => h) (Or.inl ⟨by rfl, ?yt9⟩) (by assumption) ?rt9
  case yt9 => (intro wq hSw; (try dsimp only at hSw); go_simp; try with_reducible rfl)
  simp only [Act.put, List.setIfInBounds_toArray, List.set_cons_zero, List.set_cons_succ]
  refine wpAnyH_take (i := 10) (oi := { dst := some 37, op := Go.Op.move (Go.Operand.tmp 6), type := 22, pos := "law.go:25", after := #[{ on := 7, ground := Go.Ground.guard }], guard := some (7, true) }) (v := ?vt10) rfl (by kernel_rfl) (by kernel_rfl) (by kernel_rfl) (fun _ _ _ h => h) (Or.inl ⟨by rfl, ?yt10⟩) (by assumption) ?rt10
  case yt10 => (intro wq hSw; (try dsimp only at hSw); go_simp; try with_reducible rfl)
  simp only [Act.put, List.setIfInBounds_toArray, List.set_cons_zero, List.set_cons_succ]
  refine wpAnyH_take (i := 11) (oi := { dst := some 38, op := Go.Op.convert 22 9 (Go.Operand.tmp 37), type := 9, pos := "law.go:25", after := #[{ on := 10, ground := Go.Ground.data }, { on := 7, ground := Go.Ground.guard }], guard := some (7, true) }) (v := ?vt11) rfl (by kernel_rfl) (by kernel_rfl) (by kernel_rfl) (fun _ _ _ h => h) (Or.inl ⟨by rfl, ?yt11⟩) (by assumption) ?rt11
  case yt11 => (intro wq hSw; (try dsimp only at hSw); go_simp; try with_reducible rfl)
  simp only [Act.put, List.setIfInBounds_toArray, List.set_cons_zero, List.set_cons_succ]
  refine wpAnyH_take (i := 12) (oi := { dst := some 39, op := Go.Op.binOp Go.BinOp.eql 9 (Go.Operand.tmp 36) (Go.Operand.tmp 38) 9, type := 4, pos := "law.go:25", after := #[{ on := 9, ground := Go.Ground.data }, { on := 11, ground := Go.Ground.data }, { on := 7, ground := Go.Ground.guard }], guard := some (7, true) }) (v := ?vt12) rfl (by kernel_rfl) (by kernel_rfl) (by kernel_rfl) (fun _ _ _ h => h) (Or.inl ⟨by rfl, ?yt12⟩) (by assumption) ?rt12
  case yt12 => (intro wq hSw; (try dsimp only at hSw); go_simp; try with_reducible rfl)
  simp only [Act.put, List.setIfInBounds_toArray, List.set_cons_zero, List.set_cons_succ]
  refine wpAnyH_take (i := 13) (oi := { dst := some 40, op := Go.Op.pick (Go.Operand.tmp 34) (Go.Operand.tmp 39) (Go.Operand.const (Go.Value.bool false)), type := 4, pos := "law.go:25", after := #[{ on := 7, ground := Go.Ground.data }, { on := 12, ground := Go.Ground.data }], guard := none }) (v := ?vt13) rfl (by kernel_rfl) (by kernel_rfl) (by kernel_rfl) (fun _ _ _ h => h) (Or.inl ⟨by rfl, ?yt13⟩) (by assumption) ?rt13
  case yt13 => (intro wq hSw; (try dsimp only at hSw); go_simp; try with_reducible rfl)
  simp only [Act.put, List.setIfInBounds_toArray, List.set_cons_zero, List.set_cons_succ]
  refine wpAnyH_take (i := 14) (oi := { dst := some 41, op := Go.Op.move (Go.Operand.tmp 40), type := 4, pos := "law.go:25", after := #[{ on := 13, ground := Go.Ground.data }, { on := 7, ground := Go.Ground.chain }], guard := none }) (v := ?vt14) rfl (by kernel_rfl) (by kernel_rfl) (by kernel_rfl) (fun _ _ _ h => h) (Or.inl ⟨by rfl, ?yt14⟩) (by assumption) ?rt14
  case yt14 => (intro wq hSw; (try dsimp only at hSw); go_simp; try with_reducible rfl)
  simp only [Act.put, List.setIfInBounds_toArray, List.set_cons_zero, List.set_cons_succ]
  refine wpAnyH_take (i := 15) (oi := { dst := some 42, op := Go.Op.move (Go.Operand.tmp 5), type := 24, pos := "law.go:25", after := #[{ on := 14, ground := Go.Ground.guard }], guard := some (14, true) }) (v := ?vt15) rfl (by kernel_rfl) (by kernel_rfl) (by kernel_rfl) (fun _ _ _ h => h) (Or.inl ⟨by rfl, ?yt15⟩) (by assumption) ?rt15
  case yt15 => (intro wq hSw; (try dsimp only at hSw); go_simp; try with_reducible rfl)
  simp only [Act.put, List.setIfInBounds_toArray, List.set_cons_zero, List.set_cons_succ]
  refine wpAnyH_take (i := 16) (oi := { dst := some 43, op := Go.Op.move (Go.Operand.tmp 7), type := 24, pos := "law.go:25", after := #[{ on := 14, ground := Go.Ground.guard }], guard := some (14, true) }) (v := ?vt16) rfl (by kernel_rfl) (by kernel_rfl) (by kernel_rfl) (fun _ _ _ h => h) (Or.inl ⟨by rfl, ?yt16⟩) (by assumption) ?rt16
  case yt16 => (intro wq hSw; (try dsimp only at hSw); go_simp; try with_reducible rfl)
  simp only [Act.put, List.setIfInBounds_toArray, List.set_cons_zero, List.set_cons_succ]
  refine wpAnyH_take (i := 17) (oi := { dst := some 44, op := Go.Op.binOp Go.BinOp.eql 24 (Go.Operand.tmp 42) (Go.Operand.tmp 43) 24, type := 4, pos := "law.go:25", after := #[{ on := 15, ground := Go.Ground.data }, { on := 16, ground := Go.Ground.data }, { on := 14, ground := Go.Ground.guard }], guard := some (14, true) }) (v := ?vt17) rfl (by kernel_rfl) (by kernel_rfl) (by kernel_rfl) (fun _ _ _ h => h) (Or.inl ⟨by rfl, ?yt17⟩) (by assumption) ?rt17
  case yt17 => (intro wq hSw; (try dsimp only at hSw); go_simp; try with_reducible rfl)
  simp only [Act.put, List.setIfInBounds_toArray, List.set_cons_zero, List.set_cons_succ]
  refine wpAnyH_take (i := 18) (oi := { dst := some 45, op := Go.Op.pick (Go.Operand.tmp 41) (Go.Operand.tmp 44) (Go.Operand.const (Go.Value.bool false)), type := 4, pos := "law.go:25", after := #[{ on := 14, ground := Go.Ground.data }, { on := 17, ground := Go.Ground.data }], guard := none }) (v := ?vt18) rfl (by kernel_rfl) (by kernel_rfl) (by kernel_rfl) (fun _ _ _ h => h) (Or.inl ⟨by rfl, ?yt18⟩) (by assumption) ?rt18
  case yt18 => (intro wq hSw; (try dsimp only at hSw); go_simp; try with_reducible rfl)
  simp only [Act.put, List.setIfInBounds_toArray, List.set_cons_zero, List.set_cons_succ]
  refine wpAnyH_take (i := 19) (oi := { dst := some 2, op := Go.Op.assign (Go.Operand.tmp 45), type := 4, pos := "law.go:25", after := #[{ on := 18, ground := Go.Ground.data }, { on := 14, ground := Go.Ground.chain }, { on := 0, ground := Go.Ground.phase }, { on := 1, ground := Go.Ground.phase }, { on := 2, ground := Go.Ground.phase }, { on := 3, ground := Go.Ground.phase }, { on := 4, ground := Go.Ground.phase }, { on := 5, ground := Go.Ground.phase }, { on := 6, ground := Go.Ground.phase }, { on := 7, ground := Go.Ground.phase }, { on := 8, ground := Go.Ground.phase }, { on := 9, ground := Go.Ground.phase }, { on := 10, ground := Go.Ground.phase }, { on := 11, ground := Go.Ground.phase }, { on := 12, ground := Go.Ground.phase }, { on := 13, ground := Go.Ground.phase }, { on := 14, ground := Go.Ground.phase }, { on := 15, ground := Go.Ground.phase }, { on := 16, ground := Go.Ground.phase }, { on := 17, ground := Go.Ground.phase }, { on := 18, ground := Go.Ground.phase }], guard := none }) (v := ?vt19) rfl (by kernel_rfl) (by kernel_rfl) (by kernel_rfl) (fun _ _ _ h => h) (Or.inl ⟨by rfl, ?yt19⟩) (by assumption) ?rt19
  case yt19 => (intro wq hSw; (try dsimp only at hSw); go_simp; try with_reducible rfl)
  simp only [Act.put, List.setIfInBounds_toArray, List.set_cons_zero, List.set_cons_succ]
  refine wpAnyH_done (by kernel_rfl) ?_ _
  go_wp2
  go_ret
  exact ⟨rfl, K5.out⟩
end Go.Proofs.Ytkcalnmemjioaaa
