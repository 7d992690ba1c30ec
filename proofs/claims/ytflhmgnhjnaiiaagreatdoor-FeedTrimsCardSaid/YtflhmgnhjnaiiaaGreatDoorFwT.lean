/- The law FeedTrims, walked. -/
import Derived.Test.YtflhmgnhjnaiiaaGreatDoorFwB
import Derived.Test.YtflhmgnhjnaiiaaGreatDoorFdP
import Derived.Test.YtflhmgnhjnaiiaaGreatDoorEnRX
import Derived.Deep.RegionHeld3
set_option linter.unusedSimpArgs false
set_option linter.unusedVariables false
namespace Go.Proofs.YtflhmgnhjnaiiaaGreatDoor.Fd
open Go.ChangeShapes Go.WideShapes Go.ChangeAt Go.RowKit
open En Xm
theorem ftrim_any (l : B) (w : World) (h : tr l = l) (hl : l.length ≤ 3000) : Calls Tryz.prog 12 #[sV l] w fun e w' => e = .returned (sV l) ∧ Kept w w' :=
  (rtrim_any l w (by omega)).mono fun e w' ⟨h1, h2⟩ => ⟨by rw [h1, h], h2⟩
theorem eb5 {D : Nat} {u1 u2 u3 u4 : B} {u5 : Int} {y : World} (h : Eb D (u1, u2, u3, u4, u5) y) : y.cell? ⟨D, 0, none⟩ = some (sV u1) ∧ y.cell? ⟨D, 1, none⟩ = some (sV u2) ∧ y.cell? ⟨D, 2, none⟩ = some (sV u3) ∧ y.cell? ⟨D, 3, none⟩ = some (sV u4) ∧ y.cell? ⟨D, 4, none⟩ = some (iV u5) := h.cells
theorem heldF {W x x' : World} {b : Nat} {v : Value} (k : Kept x x') (H : Kept W x ∧ x.cell? ⟨b, 0, none⟩ = some v) (hb : b < W.heap.size) : Kept W x' ∧ x'.cell? ⟨b, 0, none⟩ = some v :=
  ⟨H.1.trans k, k.yes H.2⟩
set_option maxRecDepth 100000 in
set_option maxHeartbeats 8000000 in
theorem trims9_walk (v : Value) (doc : B) (w : World) (hB : BRd v doc w) (hd : doc.length ≤ maxLen) (hE : EX w.heap.size w) : Calls Tryz.prog 6 #[v] w fun e w' => e = .returned (.bool true) ∧ Kept w w' := by
  unfold maxLen at hd
  obtain ⟨g, c, hv⟩ := hB.slice
  subst hv
  have HB := Lib.hid hB; have HE := Lib.hid hE
  clear hB hE
  go_enter Tryz.func6, Tryz.ntmps6
  go_wp2_with fail
  refine (fawake_any w HE.out).mono ?_
  rintro e x1 ⟨rfl, k1⟩
  have K1 := Lib.hid k1
  clear k1
  by_cases hs : 3000 < (doc.length : Int)
  · go_wp2
    go_ret
    exact ⟨rfl, K1.out⟩
  have hl : doc.length ≤ 3000 := by omega
  have HP := Lib.hid (fread_any g doc.length c doc x1 ((HE.out.kept K1.out).mono K1.out.size) rfl (by omega) (fun y ky => (HB.out.kept (K1.out.trans ky)).conv))
  have HOK := Lib.hid (rd_ok Sm.rparse doc hl)
  generalize rdP Sm.rparse doc = d at *
  obtain ⟨⟨ti, es⟩, er⟩ := d
  clear HB
  go_wp2_with fail
  refine HP.out.mono ?_
  rintro e x2 ⟨k2, v2, rfl, hO⟩
  have K2 := Lib.hid (K1.out.trans k2)
  have R2 := Lib.hid hO.rd
  obtain ⟨a2, c2, rfl⟩ := hO.slice
  clear k2 hO HP K1
  simp only at R2 ⊢
  have F3 := Lib.hid (show Fb x2.heap.size ti (.slice a2 es.length c2) (x2.alloc (.cells #[sV ti, .slice a2 es.length c2] 26)) from World.alloc_heap_new x2 _)
  have k3 := (Kept.refl x2).alloc (.cells #[sV ti, .slice a2 es.length c2] 26)
  have K3 := Lib.hid (K2.out.trans k3); have R3 := Lib.hid (R2.out.kept k3)
  clear k3 K2 R2
  go_upto_region 5 with (fail)
  generalize hb : x2.heap.size = b at *
  rw [show x2.alloc (.cells #[.string ⟨ti.toArray⟩, .slice a2 es.length c2] 26) = x2.alloc (.cells #[sV ti, .slice a2 es.length c2] 26) from rfl]
  generalize x2.alloc (.cells #[sV ti, .slice a2 es.length c2] 26) = x3 at *
  clear hb x2
  rcases HOK.out with ⟨h0, hok⟩ | ⟨h0, hok⟩
  · have h0 : er = 0 := h0
    subst h0
    obtain ⟨ht, htl, hel, hall⟩ : tr ti = ti ∧ ti.length ≤ 3000 ∧ es.length ≤ 200 ∧ ∀ e ∈ es, EntOk e := hok
    have HALL := Lib.hid hall
    obtain ⟨c0, d0⟩ := F3.out.cells
    have hblt := F3.out.lt
    clear hall HOK
    go_upto_region 7 with (fail)
    go_region_held3 (fun x => Kept x3 x ∧ x.cell? ⟨b, 0, none⟩ = some (sV ti)) (first | exact heldF (by assumption) (by assumption) hblt | assumption | exact ⟨(Kept.refl x3).drew, c0⟩)
      (first | (go_at_call 12; refine (ftrim_any ti _ ht htl).mono ?_; rintro e w' ⟨rfl, hk'⟩))
    have hK := (‹Kept x3 w' ∧ _›).1
    have F4 := Lib.hid (F3.out.kept hK); have K4 := Lib.hid (K3.out.trans hK); have R4 := Lib.hid (R3.out.kept hK)
    clear hK F3 K3 R3 c0 d0 hblt
    obtain ⟨c0, d0⟩ := F4.out.cells
    go_wp2_with fail
    clear c0 d0
    go_loopw [6, 7] (fun vi _ wr => ∃ i : Nat, i ≤ es.length ∧ vi = .int .i64 i ∧ Hid (Kept w' wr)) (fun vi _ _ => es.length - (intOf vi).toNat)
    case atStart => exact ⟨0, Nat.zero_le _, rfl, Lib.hid (Kept.refl _)⟩
    case round =>
      obtain ⟨i, hi, rfl, hK⟩ := hrel
      obtain ⟨c0, d0⟩ := (F4.out.kept hK.out).cells
      by_cases hlt : i < es.length
      · have hltI : (i : Int) < es.length := by omega
        obtain ⟨u, hu⟩ : ∃ u, es[i]? = some u := ⟨_, List.getElem?_eq_getElem hlt⟩
        obtain ⟨-, ga, oa, hpa, hca, p0, p1, p2, p3, p4⟩ := (R4.out.kept hK.out).at hu
        subst hpa
        obtain ⟨t1, t2, t3, l1, l2, l3, b1, b2⟩ := HALL.out u (List.mem_of_getElem? hu)
        obtain ⟨u1, u2, u3, u4, u5⟩ := u
        simp only at p0 p1 p2 p3 p4 t1 t2 t3 l1 l2 l3 b1 b2
        have hb1 : ¬ u5 < 0 := by omega
        have hb2 : ¬ 253402300799 < u5 := by omega
        have hb3 : ¬ (4000 : Int) < u4.length := by omega
        have E5 := Eb.new wr (u1, u2, u3, u4, u5)
        have k5 := (Kept.refl wr).alloc (.cells (e5 (u1, u2, u3, u4, u5)) 32)
        have K5 := Lib.hid (hK.out.trans k5)
        clear hu k5 hK
        go_upto_region 13 with (fail)
        rw [show wr.alloc (.cells #[sV u1, sV u2, sV u3, sV u4, iV u5] 32) = wr.alloc (.cells (e5 (u1, u2, u3, u4, u5)) 32) from rfl]
        generalize hD : wr.heap.size = D at *
        generalize wr.alloc (.cells (e5 (u1, u2, u3, u4, u5)) 32) = Y at *
        clear p0 p1 p2 p3 p4 c0 d0
        have E5 := Lib.hid E5
        have KD := Lib.hid ((Kept.refl Y).drew)
        refine wp_region_held_drew (S := (fun y => y.cell? ⟨D, 0, none⟩ = some (sV u1) ∧ y.cell? ⟨D, 1, none⟩ = some (sV u2) ∧ y.cell? ⟨D, 2, none⟩ = some (sV u3) ∧ y.cell? ⟨D, 3, none⟩ = some (sV u4) ∧ y.cell? ⟨D, 4, none⟩ = some (iV u5))) (by kernel_rfl) (eb5 (E5.out.kept KD.out)) (fun hS0 => ?_)
        refine wpAnyH_take (i := 0) (oi := { dst := some 51, op := Go.Op.fieldAddr 32 (Go.Operand.tmp 7) 1, type := 0, pos := "law.go:150", after := #[], guard := none }) (v := ?vs0) rfl (by kernel_rfl) (by kernel_rfl) (by kernel_rfl) (fun _ _ _ h => h) (Or.inl ⟨by rfl, ?ys0⟩) (by assumption) ?rs0
        case ys0 => (intro wq hSw; (try dsimp only at hSw); go_simp; try with_reducible rfl)
        simp only [Act.put, List.setIfInBounds_toArray, List.set_cons_zero, List.set_cons_succ]
        refine wpAnyH_take (i := 1) (oi := { dst := some 52, op := Go.Op.load 9 (Go.Operand.tmp 51), type := 9, pos := "law.go:150", after := #[{ on := 0, ground := Go.Ground.data }], guard := none }) (v := ?vs1) rfl (by kernel_rfl) (by kernel_rfl) (by kernel_rfl) (fun _ _ _ h => h) (Or.inl ⟨by rfl, ?ys1⟩) (by assumption) ?rs1
        case ys1 => (intro wq hSw; (try dsimp only at hSw); go_simp; try with_reducible rfl)
        simp only [Act.put, List.setIfInBounds_toArray, List.set_cons_zero, List.set_cons_succ]
        refine wpAnyH_take (i := 3) (oi := { dst := some 54, op := Go.Op.fieldAddr 32 (Go.Operand.tmp 7) 1, type := 0, pos := "law.go:150", after := #[], guard := none }) (v := ?vs3) rfl (by kernel_rfl) (by kernel_rfl) (by kernel_rfl) (fun _ _ _ h => h) (Or.inl ⟨by rfl, ?ys3⟩) (by assumption) ?rs3
        case ys3 => (intro wq hSw; (try dsimp only at hSw); go_simp; try with_reducible rfl)
        simp only [Act.put, List.setIfInBounds_toArray, List.set_cons_zero, List.set_cons_succ]
        refine wpAnyH_take (i := 4) (oi := { dst := some 55, op := Go.Op.load 9 (Go.Operand.tmp 54), type := 9, pos := "law.go:150", after := #[{ on := 3, ground := Go.Ground.data }], guard := none }) (v := ?vs4) rfl (by kernel_rfl) (by kernel_rfl) (by kernel_rfl) (fun _ _ _ h => h) (Or.inl ⟨by rfl, ?ys4⟩) (by assumption) ?rs4
        case ys4 => (intro wq hSw; (try dsimp only at hSw); go_simp; try with_reducible rfl)
        simp only [Act.put, List.setIfInBounds_toArray, List.set_cons_zero, List.set_cons_succ]
        refine wpAnyH_ready (rs := [2]) (by kernel_rfl) (by simp) (AllReadyH.cons (o := { dst := some 53, op := Go.Op.call { callee := Go.Callee.value (Go.Operand.func 12), args := #[Go.Operand.tmp 52], argTypes := #[9] }, type := 9, pos := "law.go:150", after := #[{ on := 1, ground := Go.Ground.data }], guard := none }) rfl (fun K hK => ?_) AllReadyH.nil)
        go_simp
        go_at_call 12; refine (ftrim_any u2 _ t2 l2).mono ?_
        rintro e yKA ⟨rfl, kKA⟩
        have KA := Lib.hid (KD.out.trans kKA)
        clear kKA
        refine Shut.out hK _ _ (eb5 (E5.out.kept KA.out)) (fun hSb => ?_)
        clear hK K
        try simp only [Act.put, List.setIfInBounds_toArray, List.set_cons_zero, List.set_cons_succ]
        refine wpAnyH_take (i := 5) (oi := { dst := some 56, op := Go.Op.binOp Go.BinOp.neq 9 (Go.Operand.tmp 53) (Go.Operand.tmp 55) 9, type := 4, pos := "law.go:150", after := #[{ on := 2, ground := Go.Ground.data }, { on := 4, ground := Go.Ground.data }], guard := none }) (v := ?vs5) rfl (by kernel_rfl) (by kernel_rfl) (by kernel_rfl) (fun _ _ _ h => h) (Or.inl ⟨by rfl, ?ys5⟩) (by assumption) ?rs5
        case ys5 => (intro wq hSw; (try dsimp only at hSw); go_simp; try with_reducible rfl)
        simp only [Act.put, List.setIfInBounds_toArray, List.set_cons_zero, List.set_cons_succ]
        refine wpAnyH_take (i := 6) (oi := { dst := some 57, op := Go.Op.move (Go.Operand.tmp 56), type := 4, pos := "law.go:150", after := #[{ on := 5, ground := Go.Ground.data }, { on := 2, ground := Go.Ground.chain }], guard := none }) (v := ?vs6) rfl (by kernel_rfl) (by kernel_rfl) (by kernel_rfl) (fun _ _ _ h => h) (Or.inl ⟨by rfl, ?ys6⟩) (by assumption) ?rs6
        case ys6 => (intro wq hSw; (try dsimp only at hSw); go_simp; try with_reducible rfl)
        simp only [Act.put, List.setIfInBounds_toArray, List.set_cons_zero, List.set_cons_succ]
        refine wpAnyH_take (i := 7) (oi := { dst := some 58, op := Go.Op.fieldAddr 32 (Go.Operand.tmp 7) 0, type := 0, pos := "law.go:150", after := #[{ on := 6, ground := Go.Ground.guard }], guard := some (6, false) }) (v := ?vs7) rfl (by kernel_rfl) (by kernel_rfl) (by kernel_rfl) (fun _ _ _ h => h) (Or.inl ⟨by rfl, ?ys7⟩) (by assumption) ?rs7
        case ys7 => (intro wq hSw; (try dsimp only at hSw); go_simp; try with_reducible rfl)
        simp only [Act.put, List.setIfInBounds_toArray, List.set_cons_zero, List.set_cons_succ]
        refine wpAnyH_take (i := 8) (oi := { dst := some 59, op := Go.Op.load 9 (Go.Operand.tmp 58), type := 9, pos := "law.go:150", after := #[{ on := 7, ground := Go.Ground.data }, { on := 6, ground := Go.Ground.guard }], guard := some (6, false) }) (v := ?vs8) rfl (by kernel_rfl) (by kernel_rfl) (by kernel_rfl) (fun _ _ _ h => h) (Or.inl ⟨by rfl, ?ys8⟩) (by assumption) ?rs8
        case ys8 => (intro wq hSw; (try dsimp only at hSw); go_simp; try with_reducible rfl)
        simp only [Act.put, List.setIfInBounds_toArray, List.set_cons_zero, List.set_cons_succ]
        refine wpAnyH_take (i := 10) (oi := { dst := some 61, op := Go.Op.fieldAddr 32 (Go.Operand.tmp 7) 0, type := 0, pos := "law.go:150", after := #[{ on := 6, ground := Go.Ground.guard }], guard := some (6, false) }) (v := ?vs10) rfl (by kernel_rfl) (by kernel_rfl) (by kernel_rfl) (fun _ _ _ h => h) (Or.inl ⟨by rfl, ?ys10⟩) (by assumption) ?rs10
        case ys10 => (intro wq hSw; (try dsimp only at hSw); go_simp; try with_reducible rfl)
        simp only [Act.put, List.setIfInBounds_toArray, List.set_cons_zero, List.set_cons_succ]
        refine wpAnyH_take (i := 11) (oi := { dst := some 62, op := Go.Op.load 9 (Go.Operand.tmp 61), type := 9, pos := "law.go:150", after := #[{ on := 10, ground := Go.Ground.data }, { on := 6, ground := Go.Ground.guard }], guard := some (6, false) }) (v := ?vs11) rfl (by kernel_rfl) (by kernel_rfl) (by kernel_rfl) (fun _ _ _ h => h) (Or.inl ⟨by rfl, ?ys11⟩) (by assumption) ?rs11
        case ys11 => (intro wq hSw; (try dsimp only at hSw); go_simp; try with_reducible rfl)
        simp only [Act.put, List.setIfInBounds_toArray, List.set_cons_zero, List.set_cons_succ]
        refine wpAnyH_ready (rs := [9]) (by kernel_rfl) (by simp) (AllReadyH.cons (o := { dst := some 60, op := Go.Op.call { callee := Go.Callee.value (Go.Operand.func 12), args := #[Go.Operand.tmp 59], argTypes := #[9] }, type := 9, pos := "law.go:150", after := #[{ on := 8, ground := Go.Ground.data }, { on := 6, ground := Go.Ground.chain }, { on := 6, ground := Go.Ground.guard }], guard := some (6, false) }) rfl (fun K hK => ?_) AllReadyH.nil)
        go_simp
        go_at_call 12; refine (ftrim_any u1 _ t1 l1).mono ?_
        rintro e yKB ⟨rfl, kKB⟩
        have KB := Lib.hid (KA.out.trans kKB)
        clear kKB
        refine Shut.out hK _ _ (eb5 (E5.out.kept KB.out)) (fun hSb => ?_)
        clear hK K
        try simp only [Act.put, List.setIfInBounds_toArray, List.set_cons_zero, List.set_cons_succ]
        refine wpAnyH_take (i := 12) (oi := { dst := some 63, op := Go.Op.binOp Go.BinOp.neq 9 (Go.Operand.tmp 60) (Go.Operand.tmp 62) 9, type := 4, pos := "law.go:150", after := #[{ on := 9, ground := Go.Ground.data }, { on := 11, ground := Go.Ground.data }, { on := 6, ground := Go.Ground.guard }], guard := some (6, false) }) (v := ?vs12) rfl (by kernel_rfl) (by kernel_rfl) (by kernel_rfl) (fun _ _ _ h => h) (Or.inl ⟨by rfl, ?ys12⟩) (by assumption) ?rs12
        case ys12 => (intro wq hSw; (try dsimp only at hSw); go_simp; try with_reducible rfl)
        simp only [Act.put, List.setIfInBounds_toArray, List.set_cons_zero, List.set_cons_succ]
        refine wpAnyH_take (i := 13) (oi := { dst := some 64, op := Go.Op.pick (Go.Operand.tmp 57) (Go.Operand.const (Go.Value.bool true)) (Go.Operand.tmp 63), type := 4, pos := "law.go:150", after := #[{ on := 6, ground := Go.Ground.data }, { on := 12, ground := Go.Ground.data }], guard := none }) (v := ?vs13) rfl (by kernel_rfl) (by kernel_rfl) (by kernel_rfl) (fun _ _ _ h => h) (Or.inl ⟨by rfl, ?ys13⟩) (by assumption) ?rs13
        case ys13 => (intro wq hSw; (try dsimp only at hSw); go_simp; try with_reducible rfl)
        simp only [Act.put, List.setIfInBounds_toArray, List.set_cons_zero, List.set_cons_succ]
        refine wpAnyH_take (i := 14) (oi := { dst := some 65, op := Go.Op.move (Go.Operand.tmp 64), type := 4, pos := "law.go:150", after := #[{ on := 13, ground := Go.Ground.data }, { on := 9, ground := Go.Ground.chain }], guard := none }) (v := ?vs14) rfl (by kernel_rfl) (by kernel_rfl) (by kernel_rfl) (fun _ _ _ h => h) (Or.inl ⟨by rfl, ?ys14⟩) (by assumption) ?rs14
        case ys14 => (intro wq hSw; (try dsimp only at hSw); go_simp; try with_reducible rfl)
        simp only [Act.put, List.setIfInBounds_toArray, List.set_cons_zero, List.set_cons_succ]
        refine wpAnyH_take (i := 15) (oi := { dst := some 66, op := Go.Op.fieldAddr 32 (Go.Operand.tmp 7) 3, type := 0, pos := "law.go:150", after := #[{ on := 14, ground := Go.Ground.guard }], guard := some (14, false) }) (v := ?vs15) rfl (by kernel_rfl) (by kernel_rfl) (by kernel_rfl) (fun _ _ _ h => h) (Or.inl ⟨by rfl, ?ys15⟩) (by assumption) ?rs15
        case ys15 => (intro wq hSw; (try dsimp only at hSw); go_simp; try with_reducible rfl)
        simp only [Act.put, List.setIfInBounds_toArray, List.set_cons_zero, List.set_cons_succ]
        refine wpAnyH_take (i := 16) (oi := { dst := some 67, op := Go.Op.load 9 (Go.Operand.tmp 66), type := 9, pos := "law.go:150", after := #[{ on := 15, ground := Go.Ground.data }, { on := 14, ground := Go.Ground.guard }], guard := some (14, false) }) (v := ?vs16) rfl (by kernel_rfl) (by kernel_rfl) (by kernel_rfl) (fun _ _ _ h => h) (Or.inl ⟨by rfl, ?ys16⟩) (by assumption) ?rs16
        case ys16 => (intro wq hSw; (try dsimp only at hSw); go_simp; try with_reducible rfl)
        simp only [Act.put, List.setIfInBounds_toArray, List.set_cons_zero, List.set_cons_succ]
        refine wpAnyH_take (i := 18) (oi := { dst := some 69, op := Go.Op.fieldAddr 32 (Go.Operand.tmp 7) 3, type := 0, pos := "law.go:150", after := #[{ on := 14, ground := Go.Ground.guard }], guard := some (14, false) }) (v := ?vs18) rfl (by kernel_rfl) (by kernel_rfl) (by kernel_rfl) (fun _ _ _ h => h) (Or.inl ⟨by rfl, ?ys18⟩) (by assumption) ?rs18
        case ys18 => (intro wq hSw; (try dsimp only at hSw); go_simp; try with_reducible rfl)
        simp only [Act.put, List.setIfInBounds_toArray, List.set_cons_zero, List.set_cons_succ]
        refine wpAnyH_take (i := 19) (oi := { dst := some 70, op := Go.Op.load 9 (Go.Operand.tmp 69), type := 9, pos := "law.go:150", after := #[{ on := 18, ground := Go.Ground.data }, { on := 14, ground := Go.Ground.guard }], guard := some (14, false) }) (v := ?vs19) rfl (by kernel_rfl) (by kernel_rfl) (by kernel_rfl) (fun _ _ _ h => h) (Or.inl ⟨by rfl, ?ys19⟩) (by assumption) ?rs19
        case ys19 => (intro wq hSw; (try dsimp only at hSw); go_simp; try with_reducible rfl)
        simp only [Act.put, List.setIfInBounds_toArray, List.set_cons_zero, List.set_cons_succ]
        refine wpAnyH_ready (rs := [17]) (by kernel_rfl) (by simp) (AllReadyH.cons (o := { dst := some 68, op := Go.Op.call { callee := Go.Callee.value (Go.Operand.func 12), args := #[Go.Operand.tmp 67], argTypes := #[9] }, type := 9, pos := "law.go:150", after := #[{ on := 16, ground := Go.Ground.data }, { on := 14, ground := Go.Ground.chain }, { on := 14, ground := Go.Ground.guard }], guard := some (14, false) }) rfl (fun K hK => ?_) AllReadyH.nil)
        go_simp
        go_at_call 12; refine (ftrim_any u4 _ t3 l3).mono ?_
        rintro e yKC ⟨rfl, kKC⟩
        have KC := Lib.hid (KB.out.trans kKC)
        clear kKC
        refine Shut.out hK _ _ (eb5 (E5.out.kept KC.out)) (fun hSb => ?_)
        clear hK K
        try simp only [Act.put, List.setIfInBounds_toArray, List.set_cons_zero, List.set_cons_succ]
        refine wpAnyH_take (i := 20) (oi := { dst := some 71, op := Go.Op.binOp Go.BinOp.neq 9 (Go.Operand.tmp 68) (Go.Operand.tmp 70) 9, type := 4, pos := "law.go:150", after := #[{ on := 17, ground := Go.Ground.data }, { on := 19, ground := Go.Ground.data }, { on := 14, ground := Go.Ground.guard }], guard := some (14, false) }) (v := ?vs20) rfl (by kernel_rfl) (by kernel_rfl) (by kernel_rfl) (fun _ _ _ h => h) (Or.inl ⟨by rfl, ?ys20⟩) (by assumption) ?rs20
        case ys20 => (intro wq hSw; (try dsimp only at hSw); go_simp; try with_reducible rfl)
        simp only [Act.put, List.setIfInBounds_toArray, List.set_cons_zero, List.set_cons_succ]
        refine wpAnyH_take (i := 21) (oi := { dst := some 72, op := Go.Op.pick (Go.Operand.tmp 65) (Go.Operand.const (Go.Value.bool true)) (Go.Operand.tmp 71), type := 4, pos := "law.go:150", after := #[{ on := 14, ground := Go.Ground.data }, { on := 20, ground := Go.Ground.data }], guard := none }) (v := ?vs21) rfl (by kernel_rfl) (by kernel_rfl) (by kernel_rfl) (fun _ _ _ h => h) (Or.inl ⟨by rfl, ?ys21⟩) (by assumption) ?rs21
        case ys21 => (intro wq hSw; (try dsimp only at hSw); go_simp; try with_reducible rfl)
        simp only [Act.put, List.setIfInBounds_toArray, List.set_cons_zero, List.set_cons_succ]
        refine wpAnyH_take (i := 22) (oi := { dst := some 73, op := Go.Op.move (Go.Operand.tmp 72), type := 4, pos := "law.go:150", after := #[{ on := 21, ground := Go.Ground.data }, { on := 17, ground := Go.Ground.chain }], guard := none }) (v := ?vs22) rfl (by kernel_rfl) (by kernel_rfl) (by kernel_rfl) (fun _ _ _ h => h) (Or.inl ⟨by rfl, ?ys22⟩) (by assumption) ?rs22
        case ys22 => (intro wq hSw; (try dsimp only at hSw); go_simp; try with_reducible rfl)
        simp only [Act.put, List.setIfInBounds_toArray, List.set_cons_zero, List.set_cons_succ]
        refine wpAnyH_take (i := 23) (oi := { dst := some 74, op := Go.Op.fieldAddr 32 (Go.Operand.tmp 7) 3, type := 0, pos := "law.go:150", after := #[{ on := 22, ground := Go.Ground.guard }], guard := some (22, false) }) (v := ?vs23) rfl (by kernel_rfl) (by kernel_rfl) (by kernel_rfl) (fun _ _ _ h => h) (Or.inl ⟨by rfl, ?ys23⟩) (by assumption) ?rs23
        case ys23 => (intro wq hSw; (try dsimp only at hSw); go_simp; try with_reducible rfl)
        simp only [Act.put, List.setIfInBounds_toArray, List.set_cons_zero, List.set_cons_succ]
        refine wpAnyH_take (i := 24) (oi := { dst := some 75, op := Go.Op.load 9 (Go.Operand.tmp 74), type := 9, pos := "law.go:150", after := #[{ on := 23, ground := Go.Ground.data }, { on := 22, ground := Go.Ground.guard }], guard := some (22, false) }) (v := ?vs24) rfl (by kernel_rfl) (by kernel_rfl) (by kernel_rfl) (fun _ _ _ h => h) (Or.inl ⟨by rfl, ?ys24⟩) (by assumption) ?rs24
        case ys24 => (intro wq hSw; (try dsimp only at hSw); go_simp; try with_reducible rfl)
        simp only [Act.put, List.setIfInBounds_toArray, List.set_cons_zero, List.set_cons_succ]
        refine wpAnyH_take (i := 25) (oi := { dst := some 76, op := Go.Op.call { callee := Go.Callee.builtin Go.Builtin.len, args := #[Go.Operand.tmp 75], argTypes := #[9] }, type := 3, pos := "law.go:150", after := #[{ on := 24, ground := Go.Ground.data }, { on := 22, ground := Go.Ground.guard }], guard := some (22, false) }) (v := ?vs25) rfl (by kernel_rfl) (by kernel_rfl) (by kernel_rfl) (fun _ _ _ h => h) (Or.inl ⟨by rfl, ?ys25⟩) (by assumption) ?rs25
        case ys25 => (intro wq hSw; (try dsimp only at hSw); go_simp; try with_reducible rfl)
        simp only [Act.put, List.setIfInBounds_toArray, List.set_cons_zero, List.set_cons_succ]
        refine wpAnyH_take (i := 26) (oi := { dst := some 77, op := Go.Op.binOp Go.BinOp.gtr 3 (Go.Operand.tmp 76) (Go.Operand.const (Go.Value.int Go.IntKind.i64 4000)) 3, type := 4, pos := "law.go:150", after := #[{ on := 25, ground := Go.Ground.data }, { on := 22, ground := Go.Ground.guard }], guard := some (22, false) }) (v := ?vs26) rfl (by kernel_rfl) (by kernel_rfl) (by kernel_rfl) (fun _ _ _ h => h) (Or.inl ⟨by rfl, ?ys26⟩) (by assumption) ?rs26
        case ys26 => (intro wq hSw; (try dsimp only at hSw); go_simp; try with_reducible rfl)
        simp only [Act.put, List.setIfInBounds_toArray, List.set_cons_zero, List.set_cons_succ]
        refine wpAnyH_take (i := 27) (oi := { dst := some 78, op := Go.Op.pick (Go.Operand.tmp 73) (Go.Operand.const (Go.Value.bool true)) (Go.Operand.tmp 77), type := 4, pos := "law.go:150", after := #[{ on := 22, ground := Go.Ground.data }, { on := 26, ground := Go.Ground.data }], guard := none }) (v := ?vs27) rfl (by kernel_rfl) (by kernel_rfl) (by kernel_rfl) (fun _ _ _ h => h) (Or.inl ⟨by rfl, ?ys27⟩) (by assumption) ?rs27
        case ys27 => (intro wq hSw; (try dsimp only at hSw); go_simp; try with_reducible rfl)
        simp only [Act.put, List.setIfInBounds_toArray, List.set_cons_zero, List.set_cons_succ]
        refine wpAnyH_take (i := 28) (oi := { dst := some 79, op := Go.Op.move (Go.Operand.tmp 78), type := 4, pos := "law.go:150", after := #[{ on := 27, ground := Go.Ground.data }, { on := 22, ground := Go.Ground.chain }], guard := none }) (v := ?vs28) rfl (by kernel_rfl) (by kernel_rfl) (by kernel_rfl) (fun _ _ _ h => h) (Or.inl ⟨by rfl, ?ys28⟩) (by assumption) ?rs28
        case ys28 => (intro wq hSw; (try dsimp only at hSw); go_simp; try with_reducible rfl)
        simp only [Act.put, List.setIfInBounds_toArray, List.set_cons_zero, List.set_cons_succ]
        refine wpAnyH_take (i := 29) (oi := { dst := some 80, op := Go.Op.fieldAddr 32 (Go.Operand.tmp 7) 4, type := 0, pos := "law.go:150", after := #[{ on := 28, ground := Go.Ground.guard }], guard := some (28, false) }) (v := ?vs29) rfl (by kernel_rfl) (by kernel_rfl) (by kernel_rfl) (fun _ _ _ h => h) (Or.inl ⟨by rfl, ?ys29⟩) (by assumption) ?rs29
        case ys29 => (intro wq hSw; (try dsimp only at hSw); go_simp; try with_reducible rfl)
        simp only [Act.put, List.setIfInBounds_toArray, List.set_cons_zero, List.set_cons_succ]
        refine wpAnyH_take (i := 30) (oi := { dst := some 81, op := Go.Op.load 3 (Go.Operand.tmp 80), type := 3, pos := "law.go:150", after := #[{ on := 29, ground := Go.Ground.data }, { on := 28, ground := Go.Ground.guard }], guard := some (28, false) }) (v := ?vs30) rfl (by kernel_rfl) (by kernel_rfl) (by kernel_rfl) (fun _ _ _ h => h) (Or.inl ⟨by rfl, ?ys30⟩) (by assumption) ?rs30
        case ys30 => (intro wq hSw; (try dsimp only at hSw); go_simp; try with_reducible rfl)
        simp only [Act.put, List.setIfInBounds_toArray, List.set_cons_zero, List.set_cons_succ]
        refine wpAnyH_take (i := 31) (oi := { dst := some 82, op := Go.Op.binOp Go.BinOp.lss 3 (Go.Operand.tmp 81) (Go.Operand.const (Go.Value.int Go.IntKind.i64 0)) 3, type := 4, pos := "law.go:150", after := #[{ on := 30, ground := Go.Ground.data }, { on := 28, ground := Go.Ground.guard }], guard := some (28, false) }) (v := ?vs31) rfl (by kernel_rfl) (by kernel_rfl) (by kernel_rfl) (fun _ _ _ h => h) (Or.inl ⟨by rfl, ?ys31⟩) (by assumption) ?rs31
        case ys31 => (intro wq hSw; (try dsimp only at hSw); go_simp; try with_reducible rfl)
        simp only [Act.put, List.setIfInBounds_toArray, List.set_cons_zero, List.set_cons_succ]
        refine wpAnyH_take (i := 32) (oi := { dst := some 83, op := Go.Op.pick (Go.Operand.tmp 79) (Go.Operand.const (Go.Value.bool true)) (Go.Operand.tmp 82), type := 4, pos := "law.go:150", after := #[{ on := 28, ground := Go.Ground.data }, { on := 31, ground := Go.Ground.data }], guard := none }) (v := ?vs32) rfl (by kernel_rfl) (by kernel_rfl) (by kernel_rfl) (fun _ _ _ h => h) (Or.inl ⟨by rfl, ?ys32⟩) (by assumption) ?rs32
        case ys32 => (intro wq hSw; (try dsimp only at hSw); go_simp; try with_reducible rfl)
        simp only [Act.put, List.setIfInBounds_toArray, List.set_cons_zero, List.set_cons_succ]
        refine wpAnyH_take (i := 33) (oi := { dst := some 84, op := Go.Op.move (Go.Operand.tmp 83), type := 4, pos := "law.go:150", after := #[{ on := 32, ground := Go.Ground.data }, { on := 28, ground := Go.Ground.chain }], guard := none }) (v := ?vs33) rfl (by kernel_rfl) (by kernel_rfl) (by kernel_rfl) (fun _ _ _ h => h) (Or.inl ⟨by rfl, ?ys33⟩) (by assumption) ?rs33
        case ys33 => (intro wq hSw; (try dsimp only at hSw); go_simp; try with_reducible rfl)
        simp only [Act.put, List.setIfInBounds_toArray, List.set_cons_zero, List.set_cons_succ]
        refine wpAnyH_take (i := 34) (oi := { dst := some 85, op := Go.Op.fieldAddr 32 (Go.Operand.tmp 7) 4, type := 0, pos := "law.go:150", after := #[{ on := 33, ground := Go.Ground.guard }], guard := some (33, false) }) (v := ?vs34) rfl (by kernel_rfl) (by kernel_rfl) (by kernel_rfl) (fun _ _ _ h => h) (Or.inl ⟨by rfl, ?ys34⟩) (by assumption) ?rs34
        case ys34 => (intro wq hSw; (try dsimp only at hSw); go_simp; try with_reducible rfl)
        simp only [Act.put, List.setIfInBounds_toArray, List.set_cons_zero, List.set_cons_succ]
        refine wpAnyH_take (i := 35) (oi := { dst := some 86, op := Go.Op.load 3 (Go.Operand.tmp 85), type := 3, pos := "law.go:150", after := #[{ on := 34, ground := Go.Ground.data }, { on := 33, ground := Go.Ground.guard }], guard := some (33, false) }) (v := ?vs35) rfl (by kernel_rfl) (by kernel_rfl) (by kernel_rfl) (fun _ _ _ h => h) (Or.inl ⟨by rfl, ?ys35⟩) (by assumption) ?rs35
        case ys35 => (intro wq hSw; (try dsimp only at hSw); go_simp; try with_reducible rfl)
        simp only [Act.put, List.setIfInBounds_toArray, List.set_cons_zero, List.set_cons_succ]
        refine wpAnyH_take (i := 36) (oi := { dst := some 87, op := Go.Op.binOp Go.BinOp.gtr 3 (Go.Operand.tmp 86) (Go.Operand.const (Go.Value.int Go.IntKind.i64 253402300799)) 3, type := 4, pos := "law.go:150", after := #[{ on := 35, ground := Go.Ground.data }, { on := 33, ground := Go.Ground.guard }], guard := some (33, false) }) (v := ?vs36) rfl (by kernel_rfl) (by kernel_rfl) (by kernel_rfl) (fun _ _ _ h => h) (Or.inl ⟨by rfl, ?ys36⟩) (by assumption) ?rs36
        case ys36 => (intro wq hSw; (try dsimp only at hSw); go_simp; try with_reducible rfl)
        simp only [Act.put, List.setIfInBounds_toArray, List.set_cons_zero, List.set_cons_succ]
        refine wpAnyH_take (i := 37) (oi := { dst := some 88, op := Go.Op.pick (Go.Operand.tmp 84) (Go.Operand.const (Go.Value.bool true)) (Go.Operand.tmp 87), type := 4, pos := "law.go:150", after := #[{ on := 33, ground := Go.Ground.data }, { on := 36, ground := Go.Ground.data }], guard := none }) (v := ?vs37) rfl (by kernel_rfl) (by kernel_rfl) (by kernel_rfl) (fun _ _ _ h => h) (Or.inl ⟨by rfl, ?ys37⟩) (by assumption) ?rs37
        case ys37 => (intro wq hSw; (try dsimp only at hSw); go_simp; try with_reducible rfl)
        simp only [Act.put, List.setIfInBounds_toArray, List.set_cons_zero, List.set_cons_succ]
        refine wpAnyH_done (by kernel_rfl) ?_ _
        have KZ := Lib.hid (K5.out.trans KC.out)
        clear hSb hS0 K5 KD KA KB KC E5
        go_wp2
        go_roundw
        case rel => exact ⟨i + 1, hlt, by go_num, KZ⟩
        case measure => simp [intOf]; omega
      · have hltI : ¬ (i : Int) < es.length := by omega
        have Z := Lib.hid (K4.out.trans hK.out)
        go_wp2
        go_ret
        exact ⟨rfl, Z.out⟩
  · have h0 : er ≠ 0 := h0
    have hb : (er != 0) = true := by simpa using h0
    obtain ⟨rfl, rfl⟩ := Prod.mk.inj (show (ti, es) = (([] : B), ([] : List Ent)) from hok)
    obtain ⟨c0, d0⟩ := F3.out.cells
    clear HOK h0 hok
    go_wp2
    go_ret
    exact ⟨rfl, K3.out⟩
end Go.Proofs.YtflhmgnhjnaiiaaGreatDoor.Fd
