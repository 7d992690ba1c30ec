/- Any bytes as signs, in lines, too, are what the document says. -/
import Derived.Test.YtcfheljkefceeaaDoorBxAw
import Derived.Test.YtcfheljkefceeaaDoorBxRd
set_option linter.unusedSimpArgs false
set_option linter.unusedVariables false
namespace Go.Proofs.YtcfheljkefceeaaDoor
open Go.ChangeShapes Go.WideShapes Go.ChangeAt Go.RowKit
open Bx
set_option maxRecDepth 100000 in
set_option maxHeartbeats 8000000 in
theorem tells13_walk (v : Value) (l : B) (w : World) (hB : BRd v l w) (hd : l.length ≤ maxLen) (hE : Env w) : Calls Tryd.prog 3 #[v] w fun e w' => e = .returned (.bool true) ∧ Kept w w' := by
  unfold maxLen at hd
  obtain ⟨g, c, hv⟩ := hB.slice
  subst hv
  have HB := Lib.hid hB
  clear hB
  go_enter Tryd.func3, Tryd.ntmps3
  go_wp2_with fail
  refine (awake13_any w hE).mono ?_
  rintro e x1 ⟨rfl, k1⟩
  have K1 := Lib.hid k1
  clear k1 hE
  by_cases hs : 600 < (l.length : Int)
  · go_wp2
    go_ret
    exact ⟨rfl, K1.out⟩
  have hl : l.length ≤ 600 := by omega
  have HA := Lib.hid (fun (w : World) (h : BRd (.slice g l.length c) l w) => raw_any _ l w h (by omega))
  have HC := Lib.hid (fun (w : World) (h : BRd (.slice g l.length c) l w) => rraw_any _ l w h (by omega))
  have HV := Lib.hid (fun (w : World) (h : BRd (.slice g l.length c) l w) => encode_any _ l w h (by omega))
  have HX := Lib.hid (fun (w : World) (h : BRd (.slice g l.length c) l w) => rencode_any _ l w h (by omega))
  have hrl := raw_le l
  have hel := enc_le l
  generalize raw l = R at *
  generalize enc l = E at *
  have B1 := Lib.hid ((HB.out.kept K1.out).kept (Kept.refl x1).drew)
  clear HB
  go_upto_region 4 with (fail)
  refine wp_region_held_drew (S := (fun _ => True)) (by kernel_rfl) trivial (fun hS0 => ?_)
  refine wpAnyH_take (i := 0) (oi := { dst := some 13, op := Go.Op.move (Go.Operand.tmp 0), type := 22, pos := "law.go:23", after := #[], guard := none }) (v := ?vt0) rfl (by kernel_rfl) (by kernel_rfl) (by kernel_rfl) (fun _ _ _ h => h) (Or.inl ⟨by rfl, ?yt0⟩) (by assumption) ?rt0
  case yt0 => (intro wq hSw; (try dsimp only at hSw); go_simp; try with_reducible rfl)
  simp only [Act.put, List.setIfInBounds_toArray, List.set_cons_zero, List.set_cons_succ]
  refine wpAnyH_take (i := 2) (oi := { dst := some 15, op := Go.Op.move (Go.Operand.tmp 0), type := 22, pos := "law.go:23", after := #[], guard := none }) (v := ?vt2) rfl (by kernel_rfl) (by kernel_rfl) (by kernel_rfl) (fun _ _ _ h => h) (Or.inl ⟨by rfl, ?yt2⟩) (by assumption) ?rt2
  case yt2 => (intro wq hSw; (try dsimp only at hSw); go_simp; try with_reducible rfl)
  simp only [Act.put, List.setIfInBounds_toArray, List.set_cons_zero, List.set_cons_succ]
  refine wpAnyH_ready (rs := [1]) (by kernel_rfl) (by simp) (AllReadyH.cons (o := { dst := some 14, op := Go.Op.call { callee := Go.Callee.value (Go.Operand.func 9), args := #[Go.Operand.tmp 13], argTypes := #[22] }, type := 9, pos := "law.go:23", after := #[{ on := 0, ground := Go.Ground.data }], guard := none }) rfl (fun K hK => ?_) AllReadyH.nil)
  go_simp
  go_at_call 9
  refine (HA.out _ B1.out).mono ?_
  rintro e x2 ⟨rfl, k2⟩
  have K2 := Lib.hid (K1.out.drew.trans k2)
  have B2 := Lib.hid (B1.out.kept k2)
  clear k2 K1 B1
  refine Shut.out hK _ _ trivial (fun hSb => ?_)
  clear hK K
  try simp only [Act.put, List.setIfInBounds_toArray, List.set_cons_zero, List.set_cons_succ]
  refine wpAnyH_ready (rs := [3]) (by kernel_rfl) (by simp) (AllReadyH.cons (o := { dst := some 16, op := Go.Op.call { callee := Go.Callee.value (Go.Operand.func 10), args := #[Go.Operand.tmp 15], argTypes := #[22] }, type := 9, pos := "law.go:23", after := #[{ on := 2, ground := Go.Ground.data }, { on := 1, ground := Go.Ground.chain }], guard := none }) rfl (fun K hK => ?_) AllReadyH.nil)
  go_simp
  go_at_call 10
  refine (HC.out _ B2.out).mono ?_
  rintro e x3 ⟨rfl, k3⟩
  have K3 := Lib.hid (K2.out.trans k3)
  have B3 := Lib.hid (B2.out.kept k3)
  clear k3 K2 B2
  refine Shut.out hK _ _ trivial (fun hSb => ?_)
  clear hK K
  try simp only [Act.put, List.setIfInBounds_toArray, List.set_cons_zero, List.set_cons_succ]
  refine wpAnyH_take (i := 4) (oi := { dst := some 17, op := Go.Op.binOp Go.BinOp.eql 9 (Go.Operand.tmp 14) (Go.Operand.tmp 16) 9, type := 4, pos := "law.go:23", after := #[{ on := 1, ground := Go.Ground.data }, { on := 3, ground := Go.Ground.data }], guard := none }) (v := ?vt4) rfl (by kernel_rfl) (by kernel_rfl) (by kernel_rfl) (fun _ _ _ h => h) (Or.inl ⟨by rfl, ?yt4⟩) (by assumption) ?rt4
  case yt4 => (intro wq hSw; (try dsimp only at hSw); go_simp; try with_reducible rfl)
  simp only [Act.put, List.setIfInBounds_toArray, List.set_cons_zero, List.set_cons_succ]
  refine wpAnyH_take (i := 5) (oi := { dst := some 18, op := Go.Op.move (Go.Operand.tmp 17), type := 4, pos := "law.go:23", after := #[{ on := 4, ground := Go.Ground.data }, { on := 3, ground := Go.Ground.chain }], guard := none }) (v := ?vt5) rfl (by kernel_rfl) (by kernel_rfl) (by kernel_rfl) (fun _ _ _ h => h) (Or.inl ⟨by rfl, ?yt5⟩) (by assumption) ?rt5
  case yt5 => (intro wq hSw; (try dsimp only at hSw); go_simp; try with_reducible rfl)
  simp only [Act.put, List.setIfInBounds_toArray, List.set_cons_zero, List.set_cons_succ]
  refine wpAnyH_take (i := 6) (oi := { dst := some 19, op := Go.Op.move (Go.Operand.tmp 0), type := 22, pos := "law.go:23", after := #[{ on := 5, ground := Go.Ground.guard }], guard := some (5, true) }) (v := ?vt6) rfl (by kernel_rfl) (by kernel_rfl) (by kernel_rfl) (fun _ _ _ h => h) (Or.inl ⟨by rfl, ?yt6⟩) (by assumption) ?rt6
  case yt6 => (intro wq hSw; (try dsimp only at hSw); go_simp; try with_reducible rfl)
  simp only [Act.put, List.setIfInBounds_toArray, List.set_cons_zero, List.set_cons_succ]
  refine wpAnyH_take (i := 9) (oi := { dst := some 22, op := Go.Op.move (Go.Operand.tmp 0), type := 22, pos := "law.go:23", after := #[{ on := 5, ground := Go.Ground.guard }], guard := some (5, true) }) (v := ?vt9) rfl (by kernel_rfl) (by kernel_rfl) (by kernel_rfl) (fun _ _ _ h => h) (Or.inl ⟨by rfl, ?yt9⟩) (by assumption) ?rt9
  case yt9 => (intro wq hSw; (try dsimp only at hSw); go_simp; try with_reducible rfl)
  simp only [Act.put, List.setIfInBounds_toArray, List.set_cons_zero, List.set_cons_succ]
  refine wpAnyH_ready (rs := [7]) (by kernel_rfl) (by simp) (AllReadyH.cons (o := { dst := some 20, op := Go.Op.call { callee := Go.Callee.value (Go.Operand.func 11), args := #[Go.Operand.tmp 19], argTypes := #[22] }, type := 22, pos := "law.go:23", after := #[{ on := 6, ground := Go.Ground.data }, { on := 5, ground := Go.Ground.chain }, { on := 5, ground := Go.Ground.guard }], guard := some (5, true) }) rfl (fun K hK => ?_) AllReadyH.nil)
  go_simp
  go_at_call 11
  refine (HV.out _ B3.out).mono ?_
  rintro e x4 ⟨xv, rfl, hO, k4⟩
  have K4 := Lib.hid (K3.out.trans k4)
  have B4 := Lib.hid (B3.out.kept k4)
  have E4 := Lib.hid hO.rd
  obtain ⟨a4, c4, hv4⟩ := own_slice hO
  subst hv4
  clear hO k4 K3 B3
  refine Shut.out hK _ _ trivial (fun hSb => ?_)
  clear hK K
  try simp only [Act.put, List.setIfInBounds_toArray, List.set_cons_zero, List.set_cons_succ]
  have hS4 : (fun y => True ∧ (convert 22 9 (.slice a4 E.length c4)).run Tryd.prog y = .ok (sV E) y) x4 := ⟨trivial, E4.out.conv⟩
  refine wpAnyH_more (S' := (fun y => True ∧ (convert 22 9 (.slice a4 E.length c4)).run Tryd.prog y = .ok (sV E) y)) (fun y h => h.1) _ _ _ _ ?_
  refine wpAnyH_take (i := 8) (oi := { dst := some 21, op := Go.Op.convert 22 9 (Go.Operand.tmp 20), type := 9, pos := "law.go:23", after := #[{ on := 7, ground := Go.Ground.data }, { on := 5, ground := Go.Ground.guard }], guard := some (5, true) }) (v := ?vt8) rfl (by kernel_rfl) (by kernel_rfl) (by kernel_rfl) (fun _ _ _ h => h) (Or.inl ⟨by rfl, ?yt8⟩) (by assumption) ?rt8
  case yt8 => (intro wq hSw; (try dsimp only at hSw); go_simp; try with_reducible rfl)
  simp only [Act.put, List.setIfInBounds_toArray, List.set_cons_zero, List.set_cons_succ]
  refine wpAnyH_ready (rs := [10]) (by kernel_rfl) (by simp) (AllReadyH.cons (o := { dst := some 23, op := Go.Op.call { callee := Go.Callee.value (Go.Operand.func 12), args := #[Go.Operand.tmp 22], argTypes := #[22] }, type := 22, pos := "law.go:23", after := #[{ on := 9, ground := Go.Ground.data }, { on := 7, ground := Go.Ground.chain }, { on := 5, ground := Go.Ground.guard }], guard := some (5, true) }) rfl (fun K hK => ?_) AllReadyH.nil)
  go_simp
  go_at_call 12
  refine (HX.out _ B4.out).mono ?_
  rintro e x5 ⟨xv, rfl, hO, k5⟩
  have K5 := Lib.hid (K4.out.trans k5)
  have E5 := Lib.hid (E4.out.kept k5)
  have F5 := Lib.hid hO.rd
  obtain ⟨a5, c5, hv5⟩ := own_slice hO
  subst hv5
  clear hO k5 K4 B4 E4 hS4
  refine Shut.out hK _ _ ⟨trivial, E5.out.conv⟩ (fun hSb => ?_)
  clear hK K
  try simp only [Act.put, List.setIfInBounds_toArray, List.set_cons_zero, List.set_cons_succ]
  have hS5 : (fun y => (True ∧ (convert 22 9 (.slice a4 E.length c4)).run Tryd.prog y = .ok (sV E) y) ∧ (convert 22 9 (.slice a5 E.length c5)).run Tryd.prog y = .ok (sV E) y) x5 := ⟨⟨trivial, E5.out.conv⟩, F5.out.conv⟩
  refine wpAnyH_more (S' := (fun y => (True ∧ (convert 22 9 (.slice a4 E.length c4)).run Tryd.prog y = .ok (sV E) y) ∧ (convert 22 9 (.slice a5 E.length c5)).run Tryd.prog y = .ok (sV E) y)) (fun y h => h.1) _ _ _ _ ?_
  refine wpAnyH_take (i := 11) (oi := { dst := some 24, op := Go.Op.convert 22 9 (Go.Operand.tmp 23), type := 9, pos := "law.go:23", after := #[{ on := 10, ground := Go.Ground.data }, { on := 5, ground := Go.Ground.guard }], guard := some (5, true) }) (v := ?vt11) rfl (by kernel_rfl) (by kernel_rfl) (by kernel_rfl) (fun _ _ _ h => h) (Or.inl ⟨by rfl, ?yt11⟩) (by assumption) ?rt11
  case yt11 => (intro wq hSw; (try dsimp only at hSw); go_simp; try with_reducible rfl)
  simp only [Act.put, List.setIfInBounds_toArray, List.set_cons_zero, List.set_cons_succ]
  refine wpAnyH_take (i := 12) (oi := { dst := some 25, op := Go.Op.binOp Go.BinOp.eql 9 (Go.Operand.tmp 21) (Go.Operand.tmp 24) 9, type := 4, pos := "law.go:23", after := #[{ on := 8, ground := Go.Ground.data }, { on := 11, ground := Go.Ground.data }, { on := 5, ground := Go.Ground.guard }], guard := some (5, true) }) (v := ?vt12) rfl (by kernel_rfl) (by kernel_rfl) (by kernel_rfl) (fun _ _ _ h => h) (Or.inl ⟨by rfl, ?yt12⟩) (by assumption) ?rt12
  case yt12 => (intro wq hSw; (try dsimp only at hSw); go_simp; try with_reducible rfl)
  simp only [Act.put, List.setIfInBounds_toArray, List.set_cons_zero, List.set_cons_succ]
  refine wpAnyH_take (i := 13) (oi := { dst := some 26, op := Go.Op.pick (Go.Operand.tmp 18) (Go.Operand.tmp 25) (Go.Operand.const (Go.Value.bool false)), type := 4, pos := "law.go:23", after := #[{ on := 5, ground := Go.Ground.data }, { on := 12, ground := Go.Ground.data }], guard := none }) (v := ?vt13) rfl (by kernel_rfl) (by kernel_rfl) (by kernel_rfl) (fun _ _ _ h => h) (Or.inl ⟨by rfl, ?yt13⟩) (by assumption) ?rt13
  case yt13 => (intro wq hSw; (try dsimp only at hSw); go_simp; try with_reducible rfl)
  simp only [Act.put, List.setIfInBounds_toArray, List.set_cons_zero, List.set_cons_succ]
  refine wpAnyH_take (i := 14) (oi := { dst := some 2, op := Go.Op.assign (Go.Operand.tmp 26), type := 4, pos := "law.go:23", after := #[{ on := 13, ground := Go.Ground.data }, { on := 10, ground := Go.Ground.chain }, { on := 0, ground := Go.Ground.phase }, { on := 1, ground := Go.Ground.phase }, { on := 2, ground := Go.Ground.phase }, { on := 3, ground := Go.Ground.phase }, { on := 4, ground := Go.Ground.phase }, { on := 5, ground := Go.Ground.phase }, { on := 6, ground := Go.Ground.phase }, { on := 7, ground := Go.Ground.phase }, { on := 8, ground := Go.Ground.phase }, { on := 9, ground := Go.Ground.phase }, { on := 10, ground := Go.Ground.phase }, { on := 11, ground := Go.Ground.phase }, { on := 12, ground := Go.Ground.phase }, { on := 13, ground := Go.Ground.phase }], guard := none }) (v := ?vt14) rfl (by kernel_rfl) (by kernel_rfl) (by kernel_rfl) (fun _ _ _ h => h) (Or.inl ⟨by rfl, ?yt14⟩) (by assumption) ?rt14
  case yt14 => (intro wq hSw; (try dsimp only at hSw); go_simp; try with_reducible rfl)
  simp only [Act.put, List.setIfInBounds_toArray, List.set_cons_zero, List.set_cons_succ]
  refine wpAnyH_done (by kernel_rfl) ?_ _
  go_wp2
  go_ret
  exact ⟨rfl, K5.out⟩
end Go.Proofs.YtcfheljkefceeaaDoor
