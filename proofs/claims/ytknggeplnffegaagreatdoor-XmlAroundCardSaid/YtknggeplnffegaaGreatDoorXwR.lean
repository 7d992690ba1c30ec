/- The law XmlAround, walked. -/
import Derived.Test.YtknggeplnffegaaGreatDoorXwB
import Derived.Test.YtknggeplnffegaaGreatDoorXmX
import Derived.RegionTactic
import Derived.ChangeAlike
import Derived.Deep.RegionHeld3
set_option linter.unusedVariables false
namespace Go.Proofs.YtknggeplnffegaaGreatDoor
open Go.ChangeShapes Go.WideShapes Go.ChangeAt Go.RowKit
open En Xm
def ar4 : Nat → B
  | 0 => []
  | 1 => a1
  | 2 => a2
  | _ => a3
theorem ar4_around (n : Nat) : Around (ar4 n) := by
  unfold ar4
  split
  · exact Or.inl rfl
  · exact Or.inr (Or.inl rfl)
  · exact Or.inr (Or.inr (Or.inl rfl))
  · exact Or.inr (Or.inr (Or.inr rfl))
theorem ar4_len (n : Nat) : (ar4 n).length ≤ 40 := by
  unfold ar4
  split <;> decide
def arC : Array Value := #[Value.string { data := #[] }, Value.string { data := #[10, 32] }, Value.string { data := #[60, 33, 45, 45, 32, 60, 97, 62, 32, 45, 45, 62] }, Value.string { data := #[60, 63, 120, 109, 108, 32, 118, 101, 114, 115, 105, 111, 110, 61, 39, 49, 46, 48, 39, 63, 62, 10, 60, 33, 68, 79, 67, 84, 89, 80, 69, 32, 97, 62] }]
theorem ar4_cell (x : World) (n : Nat) (h : n < 4) : (x.alloc (.cells arC 9)).cell? ⟨x.heap.size, n, none⟩ = some (sV (ar4 n)) := by
  refine (Kept.refl (x.alloc (.cells arC 9))).new n ?_
  match n, h with
  | 0, _ => rfl
  | 1, _ => rfl
  | 2, _ => rfl
  | 3, _ => rfl
set_option maxRecDepth 100000 in
set_option maxHeartbeats 4000000 in
theorem around8_walk (v : Value) (doc : B) (ah bh : Int) (w : World) (hB : BRd v doc w) (hd : doc.length ≤ maxLen) (n1 : -9223372036854775808 ≤ ah) (n2 : ah ≤ 9223372036854775807) (n3 : -9223372036854775808 ≤ bh) (n4 : bh ≤ 9223372036854775807) (hE : EX w.heap.size w) :
    Calls Tryz.prog 8 #[v, .int .i64 ah, .int .i64 bh] w fun e w' => e = .returned (.bool true) ∧ Kept w w' := by
  unfold maxLen at hd
  obtain ⟨g, c, hv⟩ := hB.slice
  subst hv
  have HB := Lib.hid hB; have HE := Lib.hid hE
  clear hB hE
  go_enter Tryz.func8, Tryz.ntmps8
  go_wp2_with fail
  refine (awake8_any w HE.out).mono ?_
  rintro e x1 ⟨rfl, k1⟩
  have K1 := Lib.hid k1
  clear k1
  by_cases hs : 1000 < (doc.length : Int)
  · go_wp2
    go_ret
    exact ⟨rfl, K1.out⟩
  by_cases s1 : ah < 0
  · go_wp2
    go_ret
    exact ⟨rfl, K1.out⟩
  by_cases s2 : 3 < ah
  · go_wp2
    go_ret
    exact ⟨rfl, K1.out⟩
  by_cases s3 : bh < 0
  · go_wp2
    go_ret
    exact ⟨rfl, K1.out⟩
  by_cases s4 : 3 < bh
  · go_wp2
    go_ret
    exact ⟨rfl, K1.out⟩
  obtain ⟨A, rfl⟩ : ∃ A : Nat, ah = A := ⟨ah.toNat, by omega⟩
  obtain ⟨E, rfl⟩ : ∃ A : Nat, bh = A := ⟨bh.toNat, by omega⟩
  have hA : A < 4 := by omega
  have hEe : E < 4 := by omega
  have hl : doc.length ≤ 1000 := by omega
  go_wp2_with fail
  rw [show (#[Value.string { data := #[] }, Value.string { data := #[10, 32] }, Value.string { data := #[60, 33, 45, 45, 32, 60, 97, 62, 32, 45, 45, 62] }, Value.string { data := #[60, 63, 120, 109, 108, 32, 118, 101, 114, 115, 105, 111, 110, 61, 39, 49, 46, 48, 39, 63, 62, 10, 60, 33, 68, 79, 67, 84, 89, 80, 69, 32, 97, 62] }] : Array Value) = arC from rfl]
  have k2 : Kept x1 (x1.alloc (.cells arC 9)) := (Kept.refl x1).alloc _
  have c1 := ar4_cell x1 A hA
  have c2 := ar4_cell x1 E hEe
  generalize x1.alloc (.cells arC 9) = y1 at *
  generalize x1.heap.size = b at *
  have K2 := Lib.hid (K1.out.trans k2)
  clear K1 k2
  refine (ptokens_any g doc.length c doc y1 ((HE.out.kept K2.out).mono K2.out.size) rfl (fun _ => (HB.out.kept K2.out).conv)).mono ?_
  rintro e x2 ⟨k2, v2, rfl, hT⟩
  have K3 := Lib.hid (K2.out.trans k2)
  have T2 := Lib.hid hT.rd
  obtain ⟨a2, c2', hv2⟩ := hT.rd.slice
  subst hv2
  have d1 := k2.yes c1
  have d2 := k2.yes c2
  have HC := Lib.hid ((HB.out.kept K3.out))
  have HE3 := Lib.hid ((HE.out.kept K3.out).mono K3.out.size)
  clear k2 hT HB c1 c2 K2 HE
  have F := Lib.hid (Fw.at (tok_fw doc) (by omega))
  have AR := Lib.hid (fun l (h : tok doc = (l, 0)) => tok_around (ar4_around A) (ar4_around E) hl h)
  have la := ar4_len A; have lb := ar4_len E
  generalize tok doc = d at *
  generalize ar4 A = X at *
  generalize ar4 E = Y at *
  go_upto_region 6 with (fail)
  clear hs s1 s2 s3 s4
  have hcv := HC.out.conv
  have c1d : x2.drew.cell? ⟨b, A, none⟩ = some (sV X) := d1
  have c2d : x2.drew.cell? ⟨b, E, none⟩ = some (sV Y) := d2
  have cvd : (convert 22 9 (.slice g doc.length c)).run Tryz.prog x2.drew = .ok (sV doc) x2.drew := (HC.out.kept ((Kept.refl x2).drew)).conv
  have P1 : (⟨X.toArray⟩ ++ ⟨doc.toArray⟩ : ByteArray) = ⟨(X ++ doc).toArray⟩ := str_app X doc
  have P2 : (⟨(X ++ doc).toArray⟩ ++ ⟨Y.toArray⟩ : ByteArray) = ⟨(X ++ doc ++ Y).toArray⟩ := str_app (X ++ doc) Y
  have l1 : (X ++ doc).length = X.length + doc.length := by simp
  have l2 : (X ++ doc ++ Y).length = X.length + doc.length + Y.length := by simp; omega
  generalize X ++ doc = D1 at *
  generalize D1 ++ Y = D2 at *
  have n1 : ¬ 9223372036854775807 < X.length + doc.length := by omega
  have n2 : ¬ 9223372036854775807 < X.length + doc.length + Y.length := by omega
  have hAI : (A : Int) < 4 := by omega
  have hEI : (E : Int) < 4 := by omega
  clear d1 d2 hcv
  refine wp_region_held_drew (S := (fun y => y.cell? ⟨b, A, none⟩ = some (sV X) ∧ y.cell? ⟨b, E, none⟩ = some (sV Y) ∧ (convert 22 9 (.slice g doc.length c)).run Tryz.prog y = .ok (sV doc) y)) (by kernel_rfl) ⟨c1d, c2d, cvd⟩ (fun hS0 => ?_)
  refine wpAnyH_take (i := 0) (oi := { dst := some 45, op := Go.Op.move (Go.Operand.tmp 8), type := 40, pos := "law.go:159", after := #[], guard := none }) (v := ?va0) rfl (by kernel_rfl) (by kernel_rfl) (by kernel_rfl) (fun _ _ _ h => h) (Or.inl ⟨by rfl, ?ya0⟩) (by assumption) ?ra0
  case ya0 => (intro wq hSw; (try dsimp only at hSw); go_simp; try with_reducible rfl)
  simp only [Act.put, List.setIfInBounds_toArray, List.set_cons_zero, List.set_cons_succ]
  refine wpAnyH_take (i := 1) (oi := { dst := some 46, op := Go.Op.move (Go.Operand.tmp 1), type := 3, pos := "law.go:159", after := #[], guard := none }) (v := ?va1) rfl (by kernel_rfl) (by kernel_rfl) (by kernel_rfl) (fun _ _ _ h => h) (Or.inl ⟨by rfl, ?ya1⟩) (by assumption) ?ra1
  case ya1 => (intro wq hSw; (try dsimp only at hSw); go_simp; try with_reducible rfl)
  simp only [Act.put, List.setIfInBounds_toArray, List.set_cons_zero, List.set_cons_succ]
  refine wpAnyH_take (i := 2) (oi := { dst := some 47, op := Go.Op.indexAddr 40 (Go.Operand.tmp 45) (Go.Operand.tmp 46), type := 0, pos := "law.go:159", after := #[{ on := 0, ground := Go.Ground.data }, { on := 1, ground := Go.Ground.data }], guard := none }) (v := ?va2) rfl (by kernel_rfl) (by kernel_rfl) (by kernel_rfl) (fun _ _ _ h => h) (Or.inl ⟨by rfl, ?ya2⟩) (by assumption) ?ra2
  case ya2 => (intro wq hSw; (try dsimp only at hSw); go_simp; try with_reducible rfl)
  simp only [Act.put, List.setIfInBounds_toArray, List.set_cons_zero, List.set_cons_succ]
  refine wpAnyH_take (i := 3) (oi := { dst := some 48, op := Go.Op.load 9 (Go.Operand.tmp 47), type := 9, pos := "law.go:159", after := #[{ on := 2, ground := Go.Ground.data }], guard := none }) (v := ?va3) rfl (by kernel_rfl) (by kernel_rfl) (by kernel_rfl) (fun _ _ _ h => h) (Or.inl ⟨by rfl, ?ya3⟩) (by assumption) ?ra3
  case ya3 => (intro wq hSw; (try dsimp only at hSw); go_simp; try with_reducible rfl)
  simp only [Act.put, List.setIfInBounds_toArray, List.set_cons_zero, List.set_cons_succ]
  refine wpAnyH_take (i := 4) (oi := { dst := some 49, op := Go.Op.move (Go.Operand.tmp 0), type := 22, pos := "law.go:159", after := #[], guard := none }) (v := ?va4) rfl (by kernel_rfl) (by kernel_rfl) (by kernel_rfl) (fun _ _ _ h => h) (Or.inl ⟨by rfl, ?ya4⟩) (by assumption) ?ra4
  case ya4 => (intro wq hSw; (try dsimp only at hSw); go_simp; try with_reducible rfl)
  simp only [Act.put, List.setIfInBounds_toArray, List.set_cons_zero, List.set_cons_succ]
  refine wpAnyH_take (i := 5) (oi := { dst := some 50, op := Go.Op.convert 22 9 (Go.Operand.tmp 49), type := 9, pos := "law.go:159", after := #[{ on := 4, ground := Go.Ground.data }], guard := none }) (v := ?va5) rfl (by kernel_rfl) (by kernel_rfl) (by kernel_rfl) (fun _ _ _ h => h) (Or.inl ⟨by rfl, ?ya5⟩) (by assumption) ?ra5
  case ya5 => (intro wq hSw; (try dsimp only at hSw); go_simp; try with_reducible rfl)
  simp only [Act.put, List.setIfInBounds_toArray, List.set_cons_zero, List.set_cons_succ]
  refine wpAnyH_take (i := 6) (oi := { dst := some 51, op := Go.Op.binOp Go.BinOp.add 9 (Go.Operand.tmp 48) (Go.Operand.tmp 50) 9, type := 9, pos := "law.go:159", after := #[{ on := 3, ground := Go.Ground.data }, { on := 5, ground := Go.Ground.data }], guard := none }) (v := ?va6) rfl (by kernel_rfl) (by kernel_rfl) (by kernel_rfl) (fun _ _ _ h => h) (Or.inl ⟨by rfl, ?ya6⟩) (by assumption) ?ra6
  case ya6 => (intro wq hSw; (try dsimp only at hSw); go_simp; try with_reducible rfl)
  simp only [Act.put, List.setIfInBounds_toArray, List.set_cons_zero, List.set_cons_succ]
  refine wpAnyH_take (i := 7) (oi := { dst := some 52, op := Go.Op.move (Go.Operand.tmp 8), type := 40, pos := "law.go:159", after := #[], guard := none }) (v := ?va7) rfl (by kernel_rfl) (by kernel_rfl) (by kernel_rfl) (fun _ _ _ h => h) (Or.inl ⟨by rfl, ?ya7⟩) (by assumption) ?ra7
  case ya7 => (intro wq hSw; (try dsimp only at hSw); go_simp; try with_reducible rfl)
  simp only [Act.put, List.setIfInBounds_toArray, List.set_cons_zero, List.set_cons_succ]
  refine wpAnyH_take (i := 8) (oi := { dst := some 53, op := Go.Op.move (Go.Operand.tmp 2), type := 3, pos := "law.go:159", after := #[], guard := none }) (v := ?va8) rfl (by kernel_rfl) (by kernel_rfl) (by kernel_rfl) (fun _ _ _ h => h) (Or.inl ⟨by rfl, ?ya8⟩) (by assumption) ?ra8
  case ya8 => (intro wq hSw; (try dsimp only at hSw); go_simp; try with_reducible rfl)
  simp only [Act.put, List.setIfInBounds_toArray, List.set_cons_zero, List.set_cons_succ]
  refine wpAnyH_take (i := 9) (oi := { dst := some 54, op := Go.Op.indexAddr 40 (Go.Operand.tmp 52) (Go.Operand.tmp 53), type := 0, pos := "law.go:159", after := #[{ on := 7, ground := Go.Ground.data }, { on := 8, ground := Go.Ground.data }], guard := none }) (v := ?va9) rfl (by kernel_rfl) (by kernel_rfl) (by kernel_rfl) (fun _ _ _ h => h) (Or.inl ⟨by rfl, ?ya9⟩) (by assumption) ?ra9
  case ya9 => (intro wq hSw; (try dsimp only at hSw); go_simp; try with_reducible rfl)
  simp only [Act.put, List.setIfInBounds_toArray, List.set_cons_zero, List.set_cons_succ]
  refine wpAnyH_take (i := 10) (oi := { dst := some 55, op := Go.Op.load 9 (Go.Operand.tmp 54), type := 9, pos := "law.go:159", after := #[{ on := 9, ground := Go.Ground.data }], guard := none }) (v := ?va10) rfl (by kernel_rfl) (by kernel_rfl) (by kernel_rfl) (fun _ _ _ h => h) (Or.inl ⟨by rfl, ?ya10⟩) (by assumption) ?ra10
  case ya10 => (intro wq hSw; (try dsimp only at hSw); go_simp; try with_reducible rfl)
  simp only [Act.put, List.setIfInBounds_toArray, List.set_cons_zero, List.set_cons_succ]
  refine wpAnyH_take (i := 11) (oi := { dst := some 56, op := Go.Op.binOp Go.BinOp.add 9 (Go.Operand.tmp 51) (Go.Operand.tmp 55) 9, type := 9, pos := "law.go:159", after := #[{ on := 6, ground := Go.Ground.data }, { on := 10, ground := Go.Ground.data }], guard := none }) (v := ?va11) rfl (by kernel_rfl) (by kernel_rfl) (by kernel_rfl) (fun _ _ _ h => h) (Or.inl ⟨by rfl, ?ya11⟩) (by assumption) ?ra11
  case ya11 => (intro wq hSw; (try dsimp only at hSw); go_simp; try with_reducible rfl)
  simp only [Act.put, List.setIfInBounds_toArray, List.set_cons_zero, List.set_cons_succ]
  clear l1 l2 n1 n2 P1 P2
  obtain ⟨cc, y1, hcv, ky, hy⟩ := to_bytes D2 x2.drew
  have hxd : x2.drew.heap.size = x2.heap.size := rfl
  rw [hxd] at hcv hy
  refine wpAnyH_ready (rs := [12]) (by kernel_rfl) (by simp) (AllReadyH.cons (o := { dst := some 57, op := Go.Op.convert 9 22 (Go.Operand.tmp 56), type := 22, pos := "law.go:159", after := #[{ on := 11, ground := Go.Ground.data }], guard := none }) rfl (fun K hK => ?_) AllReadyH.nil)
  go_simp
  have KY : Kept x2 y1 := (Kept.refl x2).drew.trans ky
  have KW := Lib.hid (K3.out.trans KY)
  have HY := Lib.hid hy
  have HEY := Lib.hid ((HE3.out.kept KY).mono KY.size)
  have TY := Lib.hid (T2.out.kept KY)
  have HCY := Lib.hid (HC.out.kept KY)
  have e1 := ky.yes c1d
  have e2 := ky.yes c2d
  clear hcv hy cvd ky KY
  refine Shut.out hK _ _ ⟨e1, e2, HCY.out.conv⟩ (fun hSb => ?_)
  clear hK K
  try simp only [Act.put, List.setIfInBounds_toArray, List.set_cons_zero, List.set_cons_succ]
  generalize x2.heap.size = b2 at *
  refine wpAnyH_ready (rs := [13]) (by kernel_rfl) (by simp) (AllReadyH.cons (o := { dst := some 58, op := Go.Op.call { callee := Go.Callee.value (Go.Operand.func 10), args := #[Go.Operand.tmp 57], argTypes := #[22] }, type := 26, pos := "law.go:159", after := #[{ on := 12, ground := Go.Ground.data }], guard := none }) rfl (fun K hK => ?_) AllReadyH.nil)
  go_simp
  go_at_call 10
  refine (ptokens_any (some ⟨b2, 0, none⟩) D2.length cc D2 y1 HEY.out rfl (fun _ => HY.out.conv)).mono ?_
  rintro e y2 ⟨k4, v3, rfl, hT3⟩
  have KV := Lib.hid (KW.out.trans k4)
  have TV := Lib.hid (TY.out.kept k4)
  have RV := Lib.hid hT3.rd
  have HCV := Lib.hid (HCY.out.kept k4)
  have g1 := k4.yes e1
  have g2 := k4.yes e2
  obtain ⟨a3, c3, hv3⟩ := hT3.rd.slice
  subst hv3
  clear k4 hT3 KW TY HCY HY e1 e2
  generalize hd2 : tok D2 = d2 at *
  refine Shut.out hK _ _ ⟨g1, g2, HCV.out.conv⟩ (fun hSb => ?_)
  clear hK K
  try simp only [Act.put, List.setIfInBounds_toArray, List.set_cons_zero, List.set_cons_succ]
  refine wpAnyH_take (i := 14) (oi := { dst := some 44, op := Go.Op.move (Go.Operand.tmp 58), type := 26, pos := "law.go:159", after := #[{ on := 13, ground := Go.Ground.data }], guard := none }) (v := ?va14) rfl (by kernel_rfl) (by kernel_rfl) (by kernel_rfl) (fun _ _ _ h => h) (Or.inl ⟨by rfl, ?ya14⟩) (by assumption) ?ra14
  case ya14 => (intro wq hSw; (try dsimp only at hSw); go_simp; try with_reducible rfl)
  simp only [Act.put, List.setIfInBounds_toArray, List.set_cons_zero, List.set_cons_succ]
  refine wpAnyH_take (i := 15) (oi := { dst := some 59, op := Go.Op.extract (Go.Operand.tmp 44) 0, type := 24, pos := "law.go:159", after := #[{ on := 14, ground := Go.Ground.data }], guard := none }) (v := ?va15) rfl (by kernel_rfl) (by kernel_rfl) (by kernel_rfl) (fun _ _ _ h => h) (Or.inl ⟨by rfl, ?ya15⟩) (by assumption) ?ra15
  case ya15 => (intro wq hSw; (try dsimp only at hSw); go_simp; try with_reducible rfl)
  simp only [Act.put, List.setIfInBounds_toArray, List.set_cons_zero, List.set_cons_succ]
  refine wpAnyH_take (i := 16) (oi := { dst := some 60, op := Go.Op.extract (Go.Operand.tmp 44) 1, type := 25, pos := "law.go:159", after := #[{ on := 14, ground := Go.Ground.data }, { on := 17, ground := Go.Ground.gcOnly Go.Departure.lateStores }], guard := none }) (v := ?va16) rfl (by kernel_rfl) (by kernel_rfl) (by kernel_rfl) (fun _ _ _ h => h) (Or.inl ⟨by rfl, ?ya16⟩) (by assumption) ?ra16
  case ya16 => (intro wq hSw; (try dsimp only at hSw); go_simp; try with_reducible rfl)
  simp only [Act.put, List.setIfInBounds_toArray, List.set_cons_zero, List.set_cons_succ]
  refine wpAnyH_take (i := 17) (oi := { dst := some 11, op := Go.Op.assign (Go.Operand.tmp 59), type := 24, pos := "law.go:159", after := #[{ on := 15, ground := Go.Ground.data }, { on := 13, ground := Go.Ground.chain }, { on := 0, ground := Go.Ground.phase }, { on := 1, ground := Go.Ground.phase }, { on := 2, ground := Go.Ground.phase }, { on := 3, ground := Go.Ground.phase }, { on := 4, ground := Go.Ground.phase }, { on := 5, ground := Go.Ground.phase }, { on := 6, ground := Go.Ground.phase }, { on := 7, ground := Go.Ground.phase }, { on := 8, ground := Go.Ground.phase }, { on := 9, ground := Go.Ground.phase }, { on := 10, ground := Go.Ground.phase }, { on := 11, ground := Go.Ground.phase }, { on := 12, ground := Go.Ground.phase }, { on := 13, ground := Go.Ground.phase }, { on := 14, ground := Go.Ground.phase }, { on := 15, ground := Go.Ground.phase }, { on := 16, ground := Go.Ground.textOnly Go.Departure.lateStores }], guard := none }) (v := ?va17) rfl (by kernel_rfl) (by kernel_rfl) (by kernel_rfl) (fun _ _ _ h => h) (Or.inl ⟨by rfl, ?ya17⟩) (by assumption) ?ra17
  case ya17 => (intro wq hSw; (try dsimp only at hSw); go_simp; try with_reducible rfl)
  simp only [Act.put, List.setIfInBounds_toArray, List.set_cons_zero, List.set_cons_succ]
  refine wpAnyH_take (i := 18) (oi := { dst := some 12, op := Go.Op.assign (Go.Operand.tmp 60), type := 25, pos := "law.go:159", after := #[{ on := 16, ground := Go.Ground.data }, { on := 17, ground := Go.Ground.chain }, { on := 0, ground := Go.Ground.phase }, { on := 1, ground := Go.Ground.phase }, { on := 2, ground := Go.Ground.phase }, { on := 3, ground := Go.Ground.phase }, { on := 4, ground := Go.Ground.phase }, { on := 5, ground := Go.Ground.phase }, { on := 6, ground := Go.Ground.phase }, { on := 7, ground := Go.Ground.phase }, { on := 8, ground := Go.Ground.phase }, { on := 9, ground := Go.Ground.phase }, { on := 10, ground := Go.Ground.phase }, { on := 11, ground := Go.Ground.phase }, { on := 12, ground := Go.Ground.phase }, { on := 13, ground := Go.Ground.phase }, { on := 14, ground := Go.Ground.phase }, { on := 15, ground := Go.Ground.phase }, { on := 16, ground := Go.Ground.phase }, { on := 17, ground := Go.Ground.phase }], guard := none }) (v := ?va18) rfl (by kernel_rfl) (by kernel_rfl) (by kernel_rfl) (fun _ _ _ h => h) (Or.inl ⟨by rfl, ?ya18⟩) (by assumption) ?ra18
  case ya18 => (intro wq hSw; (try dsimp only at hSw); go_simp; try with_reducible rfl)
  simp only [Act.put, List.setIfInBounds_toArray, List.set_cons_zero, List.set_cons_succ]
  refine wpAnyH_done (by kernel_rfl) ?_ _
  clear HCV g1 g2 HC HE3 HEY T2 K3
  by_cases hz : d.2 = 0
  · have hee := AR.out d.1 (by rw [← hz])
    have hdd2 : (d.2 != 0) = false := by simp [hz]
    subst hee
    clear AR
    go_wp2_with fail
    refine (psame_any _ _ d.1 d.1 y2 TV.out RV.out F.out.1 F.out.1 F.out.2 F.out.2).mono ?_
    rintro e z ⟨rfl, kz⟩
    rw [decide_eq_true rfl]
    have KZ := Lib.hid (KV.out.trans kz)
    clear kz KV TV RV F
    go_wp2
    go_ret
    exact ⟨rfl, KZ.out⟩
  · have hdd2 : (d.2 != 0) = true := by simp [hz]
    clear AR
    go_wp2
    go_ret
    exact ⟨rfl, KV.out⟩
end Go.Proofs.YtknggeplnffegaaGreatDoor
