import Derived.Test.YtjlpkgipdkjfhaaGreatDoorDgIt
import Derived.Test.YtjlpkgipdkjfhaaGreatDoorDc
import Derived.Test.YtjlpkgipdkjfhaaGreatDoorDgFw
import Derived.Test.YtjlpkgipdkjfhaaGreatDoorQa
import Derived.Deep.RegionHeld3
set_option linter.unusedSimpArgs false
set_option linter.unusedVariables false
namespace Go.Proofs.YtjlpkgipdkjfhaaGreatDoor.Bk.Dg
open Go.ChangeShapes Go.WideShapes Go.ChangeAt Go.RowKit Go.Shelf
open Go.Proofs.YtjlpkgipdkjfhaaGreatDoor.Dg
theorem fw_bare {l : List It} {n : Nat} (h : Fw l n) : Fw (l.map bare) n := by
  refine ⟨by rw [List.length_map]; exact h.1, fun x hx => ?_⟩
  obtain ⟨y, hy, rfl⟩ := List.mem_map.1 hx
  exact h.2 y hy
theorem fw_both {a b : List It} {n m : Nat} (h : Fw a n) (k : Fw b m) : Fw (a ++ b) (n + m) := by
  refine ⟨by rw [List.length_append]; have := h.1; have := k.1; omega, fun x hx => ?_⟩
  rcases List.mem_append.1 hx with hx | hx
  · exact h.2 x hx
  · exact k.2 x hx
theorem bare_next {l : List It} {i : Nat} {x : It} (h : l[i]? = some x) : (l.map bare).take (i + 1) = (l.map bare).take i ++ [bare x] := by
  rw [List.take_add_one, List.getElem?_map, h]; rfl
theorem cat2 (a b : B) : (⟨a.toArray⟩ : ByteArray) ++ ⟨b.toArray⟩ = ⟨(a ++ b).toArray⟩ := by
  apply ByteArray.ext
  simp [ByteArray.data_append]
set_option maxRecDepth 100000 in
set_option maxHeartbeats 8000000 in
theorem same16_walk (va vb : Value) (a b : List It) (w : World) (hE : EX w) (hA : ItA va a w) (hB : ItA vb b w) : Calls Tryz.prog 7 #[va, vb] w fun e w' => e = .returned (.bool true) ∧ Kept w w' := by
  have HE := Lib.hid hE
  have HW := Lib.hid (awake16_any w hE)
  have RA := Lib.hid hA.rd
  have RB := Lib.hid hB.rd
  have FA := Lib.hid (fun w hR => few_any va a 6 w hR (by omega) hA.n hA.b)
  have FB := Lib.hid (fun w hR => few_any vb b 6 w hR (by omega) hB.n hB.b)
  obtain ⟨aa, ac, rfl⟩ := hA.rd.slice
  obtain ⟨ba, bc, rfl⟩ := hB.rd.slice
  clear hE
  cases hfa : fwB a 6 with
  | false =>
    rw [hfa] at FA
    generalize fwB b 6 = q at *
    clear hfa hA hB
    go_enter Tryz.func7, Tryz.ntmps7
    go_wp2_with fail
    refine HW.out.mono ?_
    rintro e y ⟨rfl, k⟩
    go_wp2_with fail
    refine (FA.out _ (RA.out.kept k)).mono ?_
    rintro e y2 ⟨rfl, k2⟩
    have K2 := Lib.hid (k.trans k2)
    clear k k2
    go_wp2_with fail
    refine (FB.out _ (RB.out.kept K2.out)).mono ?_
    rintro e y3 ⟨rfl, k3⟩
    have K := Lib.hid (K2.out.trans k3)
    clear k3
    go_wp2
    go_ret
    exact ⟨rfl, K.out⟩
  | true =>
    have hFa := fwB_iff.1 hfa
    rw [hfa] at FA
    cases hfb : fwB b 6 with
    | false =>
      rw [hfb] at FB
      clear hfa hfb hA hB
      go_enter Tryz.func7, Tryz.ntmps7
      go_wp2_with fail
      refine HW.out.mono ?_
      rintro e y ⟨rfl, k⟩
      go_wp2_with fail
      refine (FA.out _ (RA.out.kept k)).mono ?_
      rintro e y2 ⟨rfl, k2⟩
      have K2 := Lib.hid (k.trans k2)
      clear k k2
      go_wp2_with fail
      refine (FB.out _ (RB.out.kept K2.out)).mono ?_
      rintro e y3 ⟨rfl, k3⟩
      have K := Lib.hid (K2.out.trans k3)
      clear k3
      go_wp2
      go_ret
      exact ⟨rfl, K.out⟩
    | true =>
      have hFb := fwB_iff.1 hfb
      rw [hfb] at FB
      have hFc := fw_both (fw_bare hFa) hFb
      have hSa := hFa.sm (by omega)
      have hSb := hFb.sm (by omega)
      have hSc := hFc.sm (by omega)
      have TA := Lib.hid (fun w hR hE => text_any (.slice aa a.length ac) a w hR hE hSa)
      have TB := Lib.hid (fun w hR hE => text_any (.slice ba b.length bc) b w hR hE hSb)
      have TC := Lib.hid (fun v w hR hE => text_any v (a.map bare ++ b) w hR hE hSc)
      have HA := Lib.hid (fun w hR hE => html_any (.slice aa a.length ac) a w hR hE hSa)
      have HB := Lib.hid (fun w hR hE => html_any (.slice ba b.length bc) b w hR hE hSb)
      have HC := Lib.hid (fun v w hR hE => html_any v (a.map bare ++ b) w hR hE hSc)
      rw [txt_both] at TC
      rw [htm_both] at HC
      have lta : (txt a).length ≤ 1000000 := by have := hFa.txt; have := hFa.1; omega
      have ltb : (txt b).length ≤ 1000000 := by have := hFb.txt; have := hFb.1; omega
      have lha : (htm a).length ≤ 1000000 := by have := hFa.htm; have := hFa.1; omega
      have lhb : (htm b).length ≤ 1000000 := by have := hFb.htm; have := hFb.1; omega
      have mha : 11 ≤ (htm a).length := by rw [htm_long]; omega
      have mhb : 11 ≤ (htm b).length := by rw [htm_long]; omega
      have hal := hFa.1
      have hbl := hFb.1
      generalize txt a = ta at *
      generalize txt b = tb at *
      generalize htm a = ha at *
      generalize htm b = hb at *
      have s14 : ∀ w, (Instr.slice 9 (.string ⟨ha.toArray⟩) none (some (.int .i64 ((ha.length : Int) - 6))) none).run Tryz.prog w = .ok (.string ⟨(ha.take (ha.length - 6)).toArray⟩) w := fun w => by
        have := Qp.cut_to ha (ha.length - 6) (by omega) w
        rwa [show ((ha.length - 6 : Nat) : Int) = (ha.length : Int) - 6 by omega] at this
      have s16 : ∀ w, (Instr.slice 9 (.string ⟨hb.toArray⟩) (some (.int .i64 5)) none none).run Tryz.prog w = .ok (.string ⟨(hb.drop 5).toArray⟩) w := fun w => Qp.cut_from hb 5 5 rfl (by omega) w
      have lP : (ha.take (ha.length - 6)).length ≤ 1000000 := by rw [List.length_take]; omega
      have lD : (hb.drop 5).length ≤ 1000000 := by rw [List.length_drop]; omega
      have hsa : (ByteArray.mk ha.toArray).size = ha.length := List.size_toArray
      have hsb : (ByteArray.mk hb.toArray).size = hb.length := List.size_toArray
      generalize ha.take (ha.length - 6) = P at *
      generalize hb.drop 5 = D at *
      clear hfa hfb hA hB hFa hFb hFc hSa hSb hSc
      go_enter Tryz.func7, Tryz.ntmps7
      go_wp2_with fail
      refine HW.out.mono ?_
      rintro e y ⟨rfl, k⟩
      go_wp2_with fail
      refine (FA.out _ (RA.out.kept k)).mono ?_
      rintro e y2 ⟨rfl, k2⟩
      have K2 := Lib.hid (k.trans k2)
      clear k k2
      go_wp2_with fail
      refine (FB.out _ (RB.out.kept K2.out)).mono ?_
      rintro e y3 ⟨rfl, k3⟩
      have K3 := Lib.hid (K2.out.trans k3)
      clear k3
      go_wp2_with fail
      go_loopw [8, 9] (fun vc vi wr => ∃ i : Nat, i ≤ a.length ∧ vi = .int .i64 i ∧ Hid (Kept w wr) ∧ Hid (OwnI w.heap.size vc ((a.map bare).take i) wr)) (fun _ vi _ => a.length - (intOf vi).toNat)
      case atStart => exact ⟨0, Nat.zero_le _, rfl, K3, Lib.hid (OwnI.nil _ _)⟩
      case round =>
        obtain ⟨i, hi, rfl, hK, hO⟩ := hrel
        by_cases hlt : i < a.length
        · have hltI : (i : Int) < a.length := by omega
          obtain ⟨x, hx⟩ : ∃ x, a[i]? = some x := ⟨_, List.getElem?_eq_getElem hlt⟩
          obtain ⟨-, g, o, rfl, hc, p0, p1, p2, p3, p4, p5, p6⟩ := (RA.out.kept hK.out).at hx
          have HN := Lib.hid (bare_next hx)
          have al := (Kept.refl wr).alloc (.cells (i7 (bare x)) 50)
          have O1 := Lib.hid (hO.out.kept al)
          have K1 := Lib.hid (hK.out.trans al)
          have N1 := Lib.hid (it_new wr (bare x))
          have hsz := K1.out.size
          obtain ⟨a5, a6, a0, a1, a2, a3, a4⟩ := x
          simp only at p0 p1 p2 p3 p4 p5 p6
          have hln : ((a.map bare).take i).length ≤ 6 := by rw [List.length_take, List.length_map]; omega
          clear hx hO hK al
          go_wp2_with (at_builtin; refine wpList_appI rfl _ _ rfl w.heap.size _ _ _ [bare ⟨a5, a6, a0, a1, a2, a3, a4⟩] rfl O1.out rfl N1.out (by simp only [List.length_cons, List.length_nil]; omega) hsz ?_)
          intro vc2 z hz hgz
          have Z := Lib.hid hz
          have KZ := Lib.hid (kept_row K1.out hgz (own_ge O1.out))
          clear hz hgz O1 K1 N1 hsz
          go_wp2
          go_roundw
          case rel => exact ⟨i + 1, hlt, by go_num, KZ, Lib.hid (by rw [HN.out]; exact Z.out)⟩
          case measure => simp [intOf]; omega
        · have hltI : ¬ (i : Int) < a.length := by omega
          obtain rfl : i = a.length := by omega
          rw [show (a.map bare).take a.length = a.map bare from List.take_of_length_le (by rw [List.length_map]; omega)] at hO
          have hml : (a.map bare).length ≤ 6 := by rw [List.length_map]; omega
          have hsz := hK.out.size
          go_wp2_with (at_builtin; refine wpList_appI rfl _ _ rfl w.heap.size _ [] _ (a.map bare) rfl (OwnI.nil _ _) rfl hO.out.rd (by simp only [List.length_nil]; omega) hsz ?_)
          intro v1 z1 hz1 hg1
          have Z1 := Lib.hid (show OwnI w.heap.size v1 (a.map bare) z1 from hz1)
          have K4 := Lib.hid (kept_row hK.out hg1 (fun g hg => by simp [Value.ownBlock] at hg))
          have hsz1 := K4.out.size
          clear hz1 hg1 hO hK hsz
          go_wp2_with (at_builtin; refine wpList_appI rfl _ _ rfl w.heap.size _ _ _ b rfl Z1.out rfl (RB.out.kept K4.out) (by omega) hsz1 ?_)
          intro v2 z2 hz2 hg2
          have K5 := Lib.hid (kept_row K4.out hg2 (own_ge Z1.out))
          have RC := Lib.hid hz2.rd
          clear hz2 hg2 Z1 K4 hsz1
          go_wp2_with fail
          refine (HA.out _ (RA.out.kept K5.out) (HE.out.kept K5.out).p).mono ?_
          rintro e x1 ⟨rfl, k1⟩
          have K6 := Lib.hid (K5.out.trans k1)
          have RC1 := Lib.hid (RC.out.kept k1)
          clear k1 RC K5
          go_wp2_with fail
          refine (HB.out _ (RB.out.kept K6.out) (HE.out.kept K6.out).p).mono ?_
          rintro e x2 ⟨rfl, k2⟩
          have K7 := Lib.hid (K6.out.trans k2)
          have RC2 := Lib.hid (RC1.out.kept k2)
          clear k2 RC1 K6
          go_wp2_with fail
          refine (HC.out _ _ RC2.out (HE.out.kept K7.out).p).mono ?_
          rintro e x3 ⟨rfl, k3⟩
          have K8 := Lib.hid (K7.out.trans k3)
          have RC3 := Lib.hid (RC2.out.kept k3)
          clear k3 RC2 K7
          go_upto_region 17 with (fail)
          refine wp_region_held_drew (S := (fun y => Kept x3 y)) (by kernel_rfl) (Kept.refl x3).drew (fun hS0 => ?_)
          have KD := Lib.hid (K8.out.trans hS0)
          have RD := Lib.hid (RC3.out.kept hS0)
          have KX := Lib.hid hS0
          clear K8 RC3
          generalize x3.drew = x4 at *
          refine wpAnyH_take (i := 0) (oi := { dst := some 63, op := Go.Op.move (Go.Operand.tmp 10), type := 22, pos := "law.go:96", after := #[], guard := none }) (v := ?vb0) rfl (by kernel_rfl) (by kernel_rfl) (by kernel_rfl) (fun _ _ _ h => h) (Or.inl ⟨by rfl, ?yb0⟩) (by assumption) ?rb0
          case yb0 => (intro wq hSw; (try dsimp only at hSw); go_simp; try with_reducible rfl)
          simp only [Act.put, List.setIfInBounds_toArray, List.set_cons_zero, List.set_cons_succ]
          refine wpAnyH_take (i := 2) (oi := { dst := some 65, op := Go.Op.move (Go.Operand.tmp 0), type := 22, pos := "law.go:96", after := #[], guard := none }) (v := ?vb2) rfl (by kernel_rfl) (by kernel_rfl) (by kernel_rfl) (fun _ _ _ h => h) (Or.inl ⟨by rfl, ?yb2⟩) (by assumption) ?rb2
          case yb2 => (intro wq hSw; (try dsimp only at hSw); go_simp; try with_reducible rfl)
          simp only [Act.put, List.setIfInBounds_toArray, List.set_cons_zero, List.set_cons_succ]
          refine wpAnyH_take (i := 4) (oi := { dst := some 67, op := Go.Op.move (Go.Operand.tmp 1), type := 22, pos := "law.go:96", after := #[], guard := none }) (v := ?vb4) rfl (by kernel_rfl) (by kernel_rfl) (by kernel_rfl) (fun _ _ _ h => h) (Or.inl ⟨by rfl, ?yb4⟩) (by assumption) ?rb4
          case yb4 => (intro wq hSw; (try dsimp only at hSw); go_simp; try with_reducible rfl)
          simp only [Act.put, List.setIfInBounds_toArray, List.set_cons_zero, List.set_cons_succ]
          refine wpAnyH_ready (rs := [1]) (by kernel_rfl) (by simp) (AllReadyH.cons (o := { dst := some 64, op := Go.Op.call { callee := Go.Callee.value (Go.Operand.func 13), args := #[Go.Operand.tmp 63], argTypes := #[22] }, type := 9, pos := "law.go:96", after := #[{ on := 0, ground := Go.Ground.data }], guard := none }) rfl (fun K hK => ?_) AllReadyH.nil)
          go_simp
          refine (TC.out _ _ RD.out (HE.out.kept KD.out).p).mono ?_
          rintro e x5 ⟨rfl, k5⟩
          have KE := Lib.hid (KD.out.trans k5)
          refine Shut.out hK _ _ (hS0.trans k5) (fun hSb => ?_)
          clear hK K
          try simp only [Act.put, List.setIfInBounds_toArray, List.set_cons_zero, List.set_cons_succ]
          clear hSb
          refine wpAnyH_ready (rs := [3]) (by kernel_rfl) (by simp) (AllReadyH.cons (o := { dst := some 66, op := Go.Op.call { callee := Go.Callee.value (Go.Operand.func 13), args := #[Go.Operand.tmp 65], argTypes := #[22] }, type := 9, pos := "law.go:96", after := #[{ on := 2, ground := Go.Ground.data }, { on := 1, ground := Go.Ground.chain }], guard := none }) rfl (fun K hK => ?_) AllReadyH.nil)
          go_simp
          refine (TA.out _ (RA.out.kept KE.out) (HE.out.kept KE.out).p).mono ?_
          rintro e x6 ⟨rfl, k6⟩
          have KF := Lib.hid (KE.out.trans k6)
          refine Shut.out hK _ _ ((hS0.trans k5).trans k6) (fun hSb => ?_)
          clear hK K
          try simp only [Act.put, List.setIfInBounds_toArray, List.set_cons_zero, List.set_cons_succ]
          clear hSb
          refine wpAnyH_ready (rs := [5]) (by kernel_rfl) (by simp) (AllReadyH.cons (o := { dst := some 68, op := Go.Op.call { callee := Go.Callee.value (Go.Operand.func 13), args := #[Go.Operand.tmp 67], argTypes := #[22] }, type := 9, pos := "law.go:96", after := #[{ on := 4, ground := Go.Ground.data }, { on := 3, ground := Go.Ground.chain }], guard := none }) rfl (fun K hK => ?_) AllReadyH.nil)
          go_simp
          refine (TB.out _ (RB.out.kept KF.out) (HE.out.kept KF.out).p).mono ?_
          rintro e x7 ⟨rfl, k7⟩
          have KG := Lib.hid (KF.out.trans k7)
          refine Shut.out hK _ _ (((hS0.trans k5).trans k6).trans k7) (fun hSb => ?_)
          clear hK K
          try simp only [Act.put, List.setIfInBounds_toArray, List.set_cons_zero, List.set_cons_succ]
          have q6 : ¬ 9223372036854775807 < ta.length + tb.length := by omega
          have q13 : IntKind.i64.wrap ((ha.length : Int) - 6) = (ha.length : Int) - 6 := by rw [IntKind.wrap_i64]; omega
          have q17 : ¬ 9223372036854775807 < P.length + D.length := by omega
          refine wpAnyH_take (i := 6) (oi := { dst := some 69, op := Go.Op.binOp Go.BinOp.add 9 (Go.Operand.tmp 66) (Go.Operand.tmp 68) 9, type := 9, pos := "law.go:96", after := #[{ on := 3, ground := Go.Ground.data }, { on := 5, ground := Go.Ground.data }], guard := none }) (v := ?vb6) rfl (by kernel_rfl) (by kernel_rfl) (by kernel_rfl) (fun _ _ _ h => h) (Or.inl ⟨by rfl, ?yb6⟩) (by assumption) ?rb6
          case yb6 => (intro wq hSw; (try dsimp only at hSw); go_simp; try with_reducible rfl)
          simp only [Act.put, List.setIfInBounds_toArray, List.set_cons_zero, List.set_cons_succ]
          refine wpAnyH_take (i := 7) (oi := { dst := some 70, op := Go.Op.binOp Go.BinOp.eql 9 (Go.Operand.tmp 64) (Go.Operand.tmp 69) 9, type := 4, pos := "law.go:96", after := #[{ on := 1, ground := Go.Ground.data }, { on := 6, ground := Go.Ground.data }], guard := none }) (v := Value.bool true) rfl (by kernel_rfl) (by kernel_rfl) (by kernel_rfl) (fun _ _ _ h => h) (Or.inl ⟨by rfl, ?yb7⟩) (by assumption) ?rb7
          case yb7 => (intro wq hSw; (try dsimp only at hSw); go_simp; (rw [cat2]; simp))
          simp only [Act.put, List.setIfInBounds_toArray, List.set_cons_zero, List.set_cons_succ]
          refine wpAnyH_take (i := 8) (oi := { dst := some 71, op := Go.Op.move (Go.Operand.tmp 70), type := 4, pos := "law.go:96", after := #[{ on := 7, ground := Go.Ground.data }, { on := 5, ground := Go.Ground.chain }], guard := none }) (v := ?vb8) rfl (by kernel_rfl) (by kernel_rfl) (by kernel_rfl) (fun _ _ _ h => h) (Or.inl ⟨by rfl, ?yb8⟩) (by assumption) ?rb8
          case yb8 => (intro wq hSw; (try dsimp only at hSw); go_simp; try with_reducible rfl)
          simp only [Act.put, List.setIfInBounds_toArray, List.set_cons_zero, List.set_cons_succ]
          refine wpAnyH_take (i := 9) (oi := { dst := some 72, op := Go.Op.move (Go.Operand.tmp 13), type := 9, pos := "law.go:96", after := #[{ on := 8, ground := Go.Ground.guard }], guard := some (8, true) }) (v := ?vb9) rfl (by kernel_rfl) (by kernel_rfl) (by kernel_rfl) (fun _ _ _ h => h) (Or.inl ⟨by rfl, ?yb9⟩) (by assumption) ?rb9
          case yb9 => (intro wq hSw; (try dsimp only at hSw); go_simp; try with_reducible rfl)
          simp only [Act.put, List.setIfInBounds_toArray, List.set_cons_zero, List.set_cons_succ]
          refine wpAnyH_take (i := 10) (oi := { dst := some 73, op := Go.Op.move (Go.Operand.tmp 11), type := 9, pos := "law.go:96", after := #[{ on := 8, ground := Go.Ground.guard }], guard := some (8, true) }) (v := ?vb10) rfl (by kernel_rfl) (by kernel_rfl) (by kernel_rfl) (fun _ _ _ h => h) (Or.inl ⟨by rfl, ?yb10⟩) (by assumption) ?rb10
          case yb10 => (intro wq hSw; (try dsimp only at hSw); go_simp; try with_reducible rfl)
          simp only [Act.put, List.setIfInBounds_toArray, List.set_cons_zero, List.set_cons_succ]
          refine wpAnyH_take (i := 11) (oi := { dst := some 74, op := Go.Op.move (Go.Operand.tmp 11), type := 9, pos := "law.go:96", after := #[{ on := 8, ground := Go.Ground.guard }], guard := some (8, true) }) (v := ?vb11) rfl (by kernel_rfl) (by kernel_rfl) (by kernel_rfl) (fun _ _ _ h => h) (Or.inl ⟨by rfl, ?yb11⟩) (by assumption) ?rb11
          case yb11 => (intro wq hSw; (try dsimp only at hSw); go_simp; try with_reducible rfl)
          simp only [Act.put, List.setIfInBounds_toArray, List.set_cons_zero, List.set_cons_succ]
          refine wpAnyH_take (i := 12) (oi := { dst := some 75, op := Go.Op.call { callee := Go.Callee.builtin Go.Builtin.len, args := #[Go.Operand.tmp 74], argTypes := #[9] }, type := 3, pos := "law.go:96", after := #[{ on := 11, ground := Go.Ground.data }, { on := 8, ground := Go.Ground.guard }], guard := some (8, true) }) (v := ?vb12) rfl (by kernel_rfl) (by kernel_rfl) (by kernel_rfl) (fun _ _ _ h => h) (Or.inl ⟨by rfl, ?yb12⟩) (by assumption) ?rb12
          case yb12 => (intro wq hSw; (try dsimp only at hSw); go_simp; try with_reducible rfl)
          simp only [Act.put, List.setIfInBounds_toArray, List.set_cons_zero, List.set_cons_succ]
          refine wpAnyH_take (i := 13) (oi := { dst := some 76, op := Go.Op.binOp Go.BinOp.sub 3 (Go.Operand.tmp 75) (Go.Operand.const (Go.Value.int Go.IntKind.i64 6)) 3, type := 3, pos := "law.go:96", after := #[{ on := 12, ground := Go.Ground.data }, { on := 8, ground := Go.Ground.guard }], guard := some (8, true) }) (v := ?vb13) rfl (by kernel_rfl) (by kernel_rfl) (by kernel_rfl) (fun _ _ _ h => h) (Or.inl ⟨by rfl, ?yb13⟩) (by assumption) ?rb13
          case yb13 => (intro wq hSw; (try dsimp only at hSw); go_simp; try with_reducible rfl)
          simp only [Act.put, List.setIfInBounds_toArray, List.set_cons_zero, List.set_cons_succ]
          refine wpAnyH_take (i := 14) (oi := { dst := some 77, op := Go.Op.slice 9 (Go.Operand.tmp 73) none (some (Go.Operand.tmp 76)) none, type := 9, pos := "law.go:96", after := #[{ on := 10, ground := Go.Ground.data }, { on := 13, ground := Go.Ground.data }, { on := 8, ground := Go.Ground.guard }], guard := some (8, true) }) (v := ?vb14) rfl (by kernel_rfl) (by kernel_rfl) (by kernel_rfl) (fun _ _ _ h => h) (Or.inl ⟨by rfl, ?yb14⟩) (by assumption) ?rb14
          case yb14 => (intro wq hSw; (try dsimp only at hSw); go_simp; try with_reducible rfl)
          simp only [Act.put, List.setIfInBounds_toArray, List.set_cons_zero, List.set_cons_succ]
          refine wpAnyH_take (i := 15) (oi := { dst := some 78, op := Go.Op.move (Go.Operand.tmp 12), type := 9, pos := "law.go:96", after := #[{ on := 8, ground := Go.Ground.guard }], guard := some (8, true) }) (v := ?vb15) rfl (by kernel_rfl) (by kernel_rfl) (by kernel_rfl) (fun _ _ _ h => h) (Or.inl ⟨by rfl, ?yb15⟩) (by assumption) ?rb15
          case yb15 => (intro wq hSw; (try dsimp only at hSw); go_simp; try with_reducible rfl)
          simp only [Act.put, List.setIfInBounds_toArray, List.set_cons_zero, List.set_cons_succ]
          refine wpAnyH_take (i := 16) (oi := { dst := some 79, op := Go.Op.slice 9 (Go.Operand.tmp 78) (some (Go.Operand.const (Go.Value.int Go.IntKind.i64 5))) none none, type := 9, pos := "law.go:96", after := #[{ on := 15, ground := Go.Ground.data }, { on := 8, ground := Go.Ground.guard }], guard := some (8, true) }) (v := ?vb16) rfl (by kernel_rfl) (by kernel_rfl) (by kernel_rfl) (fun _ _ _ h => h) (Or.inl ⟨by rfl, ?yb16⟩) (by assumption) ?rb16
          case yb16 => (intro wq hSw; (try dsimp only at hSw); go_simp; try with_reducible rfl)
          simp only [Act.put, List.setIfInBounds_toArray, List.set_cons_zero, List.set_cons_succ]
          refine wpAnyH_take (i := 17) (oi := { dst := some 80, op := Go.Op.binOp Go.BinOp.add 9 (Go.Operand.tmp 77) (Go.Operand.tmp 79) 9, type := 9, pos := "law.go:96", after := #[{ on := 14, ground := Go.Ground.data }, { on := 16, ground := Go.Ground.data }, { on := 8, ground := Go.Ground.guard }], guard := some (8, true) }) (v := ?vb17) rfl (by kernel_rfl) (by kernel_rfl) (by kernel_rfl) (fun _ _ _ h => h) (Or.inl ⟨by rfl, ?yb17⟩) (by assumption) ?rb17
          case yb17 => (intro wq hSw; (try dsimp only at hSw); go_simp; try with_reducible rfl)
          simp only [Act.put, List.setIfInBounds_toArray, List.set_cons_zero, List.set_cons_succ]
          refine wpAnyH_take (i := 18) (oi := { dst := some 81, op := Go.Op.binOp Go.BinOp.eql 9 (Go.Operand.tmp 72) (Go.Operand.tmp 80) 9, type := 4, pos := "law.go:96", after := #[{ on := 9, ground := Go.Ground.data }, { on := 17, ground := Go.Ground.data }, { on := 8, ground := Go.Ground.guard }], guard := some (8, true) }) (v := Value.bool true) rfl (by kernel_rfl) (by kernel_rfl) (by kernel_rfl) (fun _ _ _ h => h) (Or.inl ⟨by rfl, ?yb18⟩) (by assumption) ?rb18
          case yb18 => (intro wq hSw; (try dsimp only at hSw); go_simp; (rw [cat2]; simp))
          simp only [Act.put, List.setIfInBounds_toArray, List.set_cons_zero, List.set_cons_succ]
          refine wpAnyH_take (i := 19) (oi := { dst := some 82, op := Go.Op.pick (Go.Operand.tmp 71) (Go.Operand.tmp 81) (Go.Operand.const (Go.Value.bool false)), type := 4, pos := "law.go:96", after := #[{ on := 8, ground := Go.Ground.data }, { on := 18, ground := Go.Ground.data }], guard := none }) (v := ?vb19) rfl (by kernel_rfl) (by kernel_rfl) (by kernel_rfl) (fun _ _ _ h => h) (Or.inl ⟨by rfl, ?yb19⟩) (by assumption) ?rb19
          case yb19 => (intro wq hSw; (try dsimp only at hSw); go_simp; try with_reducible rfl)
          simp only [Act.put, List.setIfInBounds_toArray, List.set_cons_zero, List.set_cons_succ]
          refine wpAnyH_take (i := 20) (oi := { dst := some 4, op := Go.Op.assign (Go.Operand.tmp 82), type := 4, pos := "law.go:96", after := #[{ on := 19, ground := Go.Ground.data }, { on := 8, ground := Go.Ground.chain }, { on := 0, ground := Go.Ground.phase }, { on := 1, ground := Go.Ground.phase }, { on := 2, ground := Go.Ground.phase }, { on := 3, ground := Go.Ground.phase }, { on := 4, ground := Go.Ground.phase }, { on := 5, ground := Go.Ground.phase }, { on := 6, ground := Go.Ground.phase }, { on := 7, ground := Go.Ground.phase }, { on := 8, ground := Go.Ground.phase }, { on := 9, ground := Go.Ground.phase }, { on := 10, ground := Go.Ground.phase }, { on := 11, ground := Go.Ground.phase }, { on := 12, ground := Go.Ground.phase }, { on := 13, ground := Go.Ground.phase }, { on := 14, ground := Go.Ground.phase }, { on := 15, ground := Go.Ground.phase }, { on := 16, ground := Go.Ground.phase }, { on := 17, ground := Go.Ground.phase }, { on := 18, ground := Go.Ground.phase }, { on := 19, ground := Go.Ground.phase }], guard := none }) (v := ?vb20) rfl (by kernel_rfl) (by kernel_rfl) (by kernel_rfl) (fun _ _ _ h => h) (Or.inl ⟨by rfl, ?yb20⟩) (by assumption) ?rb20
          case yb20 => (intro wq hSw; (try dsimp only at hSw); go_simp; try with_reducible rfl)
          simp only [Act.put, List.setIfInBounds_toArray, List.set_cons_zero, List.set_cons_succ]
          refine wpAnyH_done (by kernel_rfl) ?_ _
          go_wp2
          go_ret
          exact ⟨rfl, KG.out⟩
end Go.Proofs.YtjlpkgipdkjfhaaGreatDoor.Bk.Dg
