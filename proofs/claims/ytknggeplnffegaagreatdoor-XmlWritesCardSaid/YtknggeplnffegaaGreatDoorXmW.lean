/- The document's Write. -/
import Derived.Test.YtknggeplnffegaaGreatDoorXpL
set_option linter.unusedVariables false
namespace Go.Proofs.YtknggeplnffegaaGreatDoor
open Go.ChangeShapes Go.WideShapes Go.ChangeAt Go.RowKit
open En Xm
theorem wpList_byteB {ops : Array Oper} {rest : List Oper} {op : Oper} {a : Act} {w : World} {Q : Exit → Act → World → Prop} (hg : op.guard = none) (sx x : Operand) (ho : op.op = .call { callee := .builtin .append, args := #[sx, x], argTypes := #[22, 22] })
    (B0 : Nat) (v : Value) (l : B) (t : UInt8) (k : Nat) (hs : a.eval sx = v) (hO : OwnB B0 v l w) (hx : a.eval x = .slice (some ⟨k, 0, none⟩) 1 1) (hc : w.cell? ⟨k, 0, none⟩ = some (.int .u8 t.toNat)) (hl : l.length ≤ 100000000000000) (hB : B0 ≤ w.heap.size)
    (h : ∀ v' w', OwnB B0 v' (l ++ [t]) w' → w.grownBy w' v.ownBlock → wpList Tryz.prog ops Q rest (a.put op.dst v') w') : wpList Tryz.prog ops Q (op :: rest) a w :=
  wpList_plain hg fun K hK => wp_byteB sx x ho B0 v l t k hs hO hx hc hl hB (fun v' w' h1 h2 => hK _ _ (h v' w' h1 h2))
theorem blk_ne {B0 k : Nat} {v : Value} {l : B} {y : World} {cs : Array Value} (hO : OwnB B0 v l y) (hk : y.heap[k]? = some (.cells cs 38)) : v.ownBlock ≠ some k := fun e => by
  obtain ⟨c, hc⟩ := own_kind hO k e
  rw [hk] at hc
  simp at hc
theorem blk_cell {k j : Nat} {v : Value} {y : World} {cs : Array Value} {e : TypeId} (hk : y.heap[k]? = some (.cells cs e)) (hj : cs[j]? = some v) : y.cell? ⟨k, j, none⟩ = some v := by
  simp [World.cell?, hk, hj]
theorem blk_grown {k : Nat} {y z : World} {row : Option Nat} {o : Obj} (hg : y.grownBy z row) (hk : y.heap[k]? = some o) (hne : row ≠ some k) : z.heap[k]? = some o := by
  rw [hg.block k (Array.getElem?_eq_some_iff.1 hk).1 (Ne.symm hne)]; exact hk
theorem blk_kept {k : Nat} {y z : World} {o : Obj} (hg : Kept y z) (hk : y.heap[k]? = some o) : z.heap[k]? = some o := by
  rw [hg.block k (Array.getElem?_eq_some_iff.1 hk).1]; exact hk
theorem blk_new (y : World) (o : Obj) : (y.alloc o).heap[y.heap.size]? = some o := by simp [World.alloc, -World.alloc_eq]
theorem one_new (x : World) (v : Value) (t : TypeId) : (x.alloc (.cells #[v] t)).cell? ⟨x.heap.size, 0, none⟩ = some v := (Kept.refl _).new 0 rfl
set_option maxRecDepth 100000 in
set_option maxHeartbeats 8000000 in
theorem rwrite_any (v : Value) (l : List Tk) (w : World) (h : TkRd v l w) (hs : SmallL l) : Calls Tryz.prog 15 #[v] w (WtP l w) := by
  have hl : l.length ≤ 12000 := hs.1
  have HA := Lib.hid (show ∀ t ∈ l, t.2.2.2.length ≤ 1000000 from fun t ht => by have := (hs.2 t ht).2.2.1; omega)
  have HS := Lib.hid hs.2
  obtain ⟨a, c, hv⟩ := h.slice
  subst hv
  have H := Lib.hid h
  clear h hs
  go_enter Tryz.func15, Tryz.ntmps15
  go_wp2_with fail
  go_loopw [4, 5] (fun vt vi wr => ∃ i : Nat, i ≤ l.length ∧ ((l.take i).flatMap wrK).length ≤ i * 1100100000 ∧ vi = .int .i64 i ∧ Hid (Kept w wr) ∧ Hid (OwnB w.heap.size vt ((l.take i).flatMap wrK) wr)) (fun _ vi _ => l.length - (intOf vi).toNat)
  case atStart => exact ⟨0, Nat.zero_le _, by simp, rfl, Lib.hid (Kept.refl w), Lib.hid (OwnB.nil _ _)⟩
  case round =>
    obtain ⟨i, hi, hD, rfl, hK, hO⟩ := hrel
    rename_i vt _
    obtain ⟨ta, tc, htv⟩ := own_slice hO.out
    subst htv
    by_cases hlt : i < l.length
    · have hltI : (i : Int) < l.length := by omega
      obtain ⟨t, ht⟩ : ∃ t, l[i]? = some t := ⟨_, List.getElem?_eq_getElem hlt⟩
      obtain ⟨-, g, o, x, ha, hc, b0, b1, b2, b3, hx⟩ := H.out.at ht
      have d0 := hK.out.yes b0; have d1 := hK.out.yes b1; have d2 := hK.out.yes b2; have d3 := hK.out.yes b3
      clear b0 b1 b2 b3
      obtain ⟨pa, ca, hxs⟩ := hx.slice
      subst ha hxs
      have hSK := HS.out t (List.mem_of_getElem? ht)
      have HW := Lib.hid (flat_succ wrK ht)
      have hwt := wrK_le hSK
      clear ht
      have kx : Kept wr (wr.alloc (.cells #[iV t.1, sV t.2.1, sV t.2.2.1, .slice pa t.2.2.2.length ca] 38)) := (Kept.refl wr).alloc _
      have KX := Lib.hid (hK.out.trans kx)
      have OX := Lib.hid (hO.out.kept kx)
      have XW := Lib.hid hx
      have tq := quad_at wr (iV t.1) (sV t.2.1) (sV t.2.2.1) (.slice pa t.2.2.2.length ca) 38
      have BX := Lib.hid (blk_new wr (.cells #[iV t.1, sV t.2.1, sV t.2.2.1, .slice pa t.2.2.2.length ca] 38))
      have hwk : w.heap.size ≤ wr.heap.size := hK.out.size
      clear hx kx hK hO
      have hDl : ((l.take i).flatMap wrK).length ≤ 14000000000000 := by omega
      have HDi := Lib.hid hD
      clear hD
      have HLen := Lib.hid (show ((l.take (i + 1)).flatMap wrK).length ≤ (i + 1) * 1100100000 by rw [HW.out, List.length_append]; have := HDi.out; omega)
      generalize (l.take i).flatMap wrK = D at *
      obtain ⟨kd, n, s, al⟩ := t
      simp only at d0 d1 d2 d3 tq BX XW
      obtain ⟨hn, hst, hSA⟩ := hSK
      simp only at hn hst hSA
      go_upto_region 6 with (fail)
      generalize wr.alloc (.cells #[iV kd, sV n, sV s, .slice pa al.length ca] 38) = X at *
      generalize wr.heap.size = k at *
      obtain ⟨t0, t1, t2, t3⟩ := tq
      clear d0 d1 d2 d3
      have hwx : w.heap.size ≤ X.heap.size := KX.out.size
      by_cases h0 : kd = 0
      · subst h0
        have P1 : (⟨#[60]⟩ ++ ⟨n.toArray⟩ : ByteArray) = ⟨([60] ++ n).toArray⟩ := str_app [60] n
        have l1 : ([60] ++ n).length = 1 + n.length := by simp; omega
        have n1 : ¬ 9223372036854775807 < 1 + n.length := by omega
        have HW0 := Lib.hid (wrK0 n s al)
        generalize [60] ++ n = A1 at *
        go_upto_region 9 with (fail)
        go_wp2_with (at_builtin; refine wpList_strB rfl _ _ rfl w.heap.size (.slice ta D.length tc) D A1 rfl OX.out rfl (by omega) hwx ?_)
        intro v' z hz hgz
        have KZ := Lib.hid (kept_row KX.out hgz (fun g hg => (World.ownsRow.lt OX.out g hg).1))
        have BZ := Lib.hid (blk_grown hgz BX.out (blk_ne OX.out BX.out))
        have OZ := Lib.hid hz
        have hE1 : (D ++ A1).length ≤ 14000000020000 := by rw [List.length_append]; omega
        have HE1 := Lib.hid (show D ++ wrK (0, n, s, al) = (D ++ A1) ++ al.flatMap wrA ++ [62] by rw [HW0.out]; simp [List.append_assoc])
        clear hz hgz OX KX BX P1 n1 l1 HW0 t0 t1 t2 t3
        generalize D ++ A1 = D1 at *
        obtain ⟨va, vc, hvv⟩ := own_slice OZ.out
        subst hvv
        have hAl : al.length ≤ 12000 := hSA.1
        have HF := Lib.hid (fun j hj => flat_take wrA 84010 (fun t ht => wrA_le (hSA.2 t ht)) (l := al) j hj)
        have HSA := Lib.hid hSA.2
        clear hSA
        have OZ2 := Lib.hid (show OwnB w.heap.size (.slice va D1.length vc) (D1 ++ (al.take 0).flatMap wrA) z by simpa using OZ.out)
        clear OZ
        go_wp2_with fail
        go_loopw [4, 7] (fun vt vj y => ∃ j : Nat, j ≤ al.length ∧ vj = .int .i64 j ∧ Hid (Kept w y) ∧ Hid (OwnB w.heap.size vt (D1 ++ (al.take j).flatMap wrA) y) ∧ Hid (y.heap[k]? = some (.cells #[iV 0, sV n, sV s, .slice pa al.length ca] 38))) (fun _ vj _ => al.length - (intOf vj).toNat)
        case atStart => exact ⟨0, Nat.zero_le _, rfl, KZ, OZ2, BZ⟩
        case round =>
          obtain ⟨j, hj, rfl, hK2, hO2, hB2⟩ := hrel
          rename_i vt2 _
          obtain ⟨sa, sc, htv2⟩ := own_slice hO2.out
          subst htv2
          clear OZ2 KZ BZ
          have t3 := blk_cell hB2.out (j := 3) rfl
          have hfj := HF.out j hj
          have hLj : (D1 ++ (al.take j).flatMap wrA).length ≤ 14002000000000 := by rw [List.length_append]; omega
          by_cases hjl : j < al.length
          · have hjI : (j : Int) < al.length := by omega
            obtain ⟨u, hu⟩ : ∃ u, al[j]? = some u := ⟨_, List.getElem?_eq_getElem hjl⟩
            obtain ⟨-, ga, oa, hpa, hca, f0w, f1w⟩ := XW.out.at hu
            subst hpa
            have f0 := hK2.out.yes f0w; have f1 := hK2.out.yes f1w
            have F0 := Lib.hid f0w; have F1 := Lib.hid f1w
            have hu1 := HSA.out u (List.mem_of_getElem? hu)
            have HU := Lib.hid (show D1 ++ (al.take (j + 1)).flatMap wrA = (D1 ++ (al.take j).flatMap wrA) ++ wrA u by rw [flat_succ wrA hu, List.append_assoc])
            clear hu f0w f1w hfj
            generalize D1 ++ (al.take j).flatMap wrA = D3 at *
            go_upto_region 13 with (fail)
            have le := enc_len u.2
            have HW2 := Lib.hid (HU.out.trans (by rw [wrA_split u]))
            clear HU
            have P1 : (⟨#[32]⟩ ++ ⟨u.1.toArray⟩ : ByteArray) = ⟨([32] ++ u.1).toArray⟩ := str_app [32] u.1
            have l1 : ([32] ++ u.1).length = 1 + u.1.length := by simp; omega
            generalize [32] ++ u.1 = A1 at *
            have P2 : (⟨A1.toArray⟩ ++ ⟨#[61, 34]⟩ : ByteArray) = ⟨(A1 ++ [61, 34]).toArray⟩ := str_app A1 [61, 34]
            have l2 : (A1 ++ [61, 34]).length = A1.length + 2 := by simp
            generalize A1 ++ [61, 34] = A2 at *
            have P3 : (⟨A2.toArray⟩ ++ ⟨(enc u.2).toArray⟩ : ByteArray) = ⟨(A2 ++ enc u.2).toArray⟩ := str_app A2 (enc u.2)
            have l3 : (A2 ++ enc u.2).length = A2.length + (enc u.2).length := by simp
            generalize A2 ++ enc u.2 = A3 at *
            have P4 : (⟨A3.toArray⟩ ++ ⟨#[34]⟩ : ByteArray) = ⟨(A3 ++ [34]).toArray⟩ := str_app A3 [34]
            have l4 : (A3 ++ [34]).length = A3.length + 1 := by simp
            generalize A3 ++ [34] = A4 at *
            have n1 : ¬ 9223372036854775807 < 1 + u.1.length := by omega
            have n2 : ¬ 9223372036854775807 < 1 + u.1.length + 2 := by omega
            have n3 : ¬ 9223372036854775807 < 1 + u.1.length + 2 + (enc u.2).length := by omega
            have n4 : ¬ 9223372036854775807 < 1 + u.1.length + 2 + (enc u.2).length + 1 := by omega
            have t3d : wr.drew.cell? ⟨k, 3, none⟩ = some (.slice (some ⟨ga, oa, none⟩) al.length ca) := t3
            have f0d : wr.drew.cell? ⟨ga, oa + j * 2, none⟩ = some (sV u.1) := f0
            have f1d : wr.drew.cell? ⟨ga, oa + j * 2 + 1, none⟩ = some (sV u.2) := f1
            clear t3 f0 f1
            refine wp_region_held_drew (S := (fun y => y.cell? ⟨k, 3, none⟩ = some (.slice (some ⟨ga, oa, none⟩) al.length ca) ∧ y.cell? ⟨ga, oa + j * 2, none⟩ = some (sV u.1) ∧ y.cell? ⟨ga, oa + j * 2 + 1, none⟩ = some (sV u.2))) (by kernel_rfl) ⟨t3d, f0d, f1d⟩ (fun hS0 => ?_)
            refine wpAnyH_take (i := 0) (oi := { dst := some 42, op := Go.Op.move (Go.Operand.tmp 4), type := 22, pos := "ref.go:309", after := #[], guard := none }) (v := ?va0) rfl (by kernel_rfl) (by kernel_rfl) (by kernel_rfl) (fun _ _ _ h => h) (Or.inl ⟨by rfl, ?ya0⟩) (by assumption) ?ra0
            case ya0 => (intro wq hSw; (try dsimp only at hSw); go_simp; try with_reducible rfl)
            simp only [Act.put, List.setIfInBounds_toArray, List.set_cons_zero, List.set_cons_succ]
            refine wpAnyH_take (i := 1) (oi := { dst := some 43, op := Go.Op.fieldAddr 38 (Go.Operand.tmp 6) 3, type := 0, pos := "ref.go:309", after := #[], guard := none }) (v := ?va1) rfl (by kernel_rfl) (by kernel_rfl) (by kernel_rfl) (fun _ _ _ h => h) (Or.inl ⟨by rfl, ?ya1⟩) (by assumption) ?ra1
            case ya1 => (intro wq hSw; (try dsimp only at hSw); go_simp; try with_reducible rfl)
            simp only [Act.put, List.setIfInBounds_toArray, List.set_cons_zero, List.set_cons_succ]
            refine wpAnyH_take (i := 2) (oi := { dst := some 44, op := Go.Op.load 36 (Go.Operand.tmp 43), type := 36, pos := "ref.go:309", after := #[{ on := 1, ground := Go.Ground.data }], guard := none }) (v := ?va2) rfl (by kernel_rfl) (by kernel_rfl) (by kernel_rfl) (fun _ _ _ h => h) (Or.inl ⟨by rfl, ?ya2⟩) (by assumption) ?ra2
            case ya2 => (intro wq hSw; (try dsimp only at hSw); go_simp; try with_reducible rfl)
            simp only [Act.put, List.setIfInBounds_toArray, List.set_cons_zero, List.set_cons_succ]
            refine wpAnyH_take (i := 3) (oi := { dst := some 45, op := Go.Op.move (Go.Operand.tmp 7), type := 3, pos := "ref.go:309", after := #[], guard := none }) (v := ?va3) rfl (by kernel_rfl) (by kernel_rfl) (by kernel_rfl) (fun _ _ _ h => h) (Or.inl ⟨by rfl, ?ya3⟩) (by assumption) ?ra3
            case ya3 => (intro wq hSw; (try dsimp only at hSw); go_simp; try with_reducible rfl)
            simp only [Act.put, List.setIfInBounds_toArray, List.set_cons_zero, List.set_cons_succ]
            refine wpAnyH_take (i := 4) (oi := { dst := some 46, op := Go.Op.indexAddr 36 (Go.Operand.tmp 44) (Go.Operand.tmp 45), type := 0, pos := "ref.go:309", after := #[{ on := 2, ground := Go.Ground.data }, { on := 3, ground := Go.Ground.data }], guard := none }) (v := ?va4) rfl (by kernel_rfl) (by kernel_rfl) (by kernel_rfl) (fun _ _ _ h => h) (Or.inl ⟨by rfl, ?ya4⟩) (by assumption) ?ra4
            case ya4 => (intro wq hSw; (try dsimp only at hSw); go_simp; try with_reducible rfl)
            simp only [Act.put, List.setIfInBounds_toArray, List.set_cons_zero, List.set_cons_succ]
            refine wpAnyH_take (i := 5) (oi := { dst := some 47, op := Go.Op.fieldAddr 44 (Go.Operand.tmp 46) 0, type := 0, pos := "ref.go:309", after := #[{ on := 4, ground := Go.Ground.data }], guard := none }) (v := ?va5) rfl (by kernel_rfl) (by kernel_rfl) (by kernel_rfl) (fun _ _ _ h => h) (Or.inl ⟨by rfl, ?ya5⟩) (by assumption) ?ra5
            case ya5 => (intro wq hSw; (try dsimp only at hSw); go_simp; try with_reducible rfl)
            simp only [Act.put, List.setIfInBounds_toArray, List.set_cons_zero, List.set_cons_succ]
            refine wpAnyH_take (i := 6) (oi := { dst := some 48, op := Go.Op.load 9 (Go.Operand.tmp 47), type := 9, pos := "ref.go:309", after := #[{ on := 5, ground := Go.Ground.data }], guard := none }) (v := ?va6) rfl (by kernel_rfl) (by kernel_rfl) (by kernel_rfl) (fun _ _ _ h => h) (Or.inl ⟨by rfl, ?ya6⟩) (by assumption) ?ra6
            case ya6 => (intro wq hSw; (try dsimp only at hSw); go_simp; try with_reducible rfl)
            simp only [Act.put, List.setIfInBounds_toArray, List.set_cons_zero, List.set_cons_succ]
            refine wpAnyH_take (i := 7) (oi := { dst := some 49, op := Go.Op.binOp Go.BinOp.add 9 (Go.Operand.const (Go.Value.string { data := #[32] })) (Go.Operand.tmp 48) 9, type := 9, pos := "ref.go:309", after := #[{ on := 6, ground := Go.Ground.data }], guard := none }) (v := ?va7) rfl (by kernel_rfl) (by kernel_rfl) (by kernel_rfl) (fun _ _ _ h => h) (Or.inl ⟨by rfl, ?ya7⟩) (by assumption) ?ra7
            case ya7 => (intro wq hSw; (try dsimp only at hSw); go_simp; try with_reducible rfl)
            simp only [Act.put, List.setIfInBounds_toArray, List.set_cons_zero, List.set_cons_succ]
            refine wpAnyH_take (i := 8) (oi := { dst := some 50, op := Go.Op.binOp Go.BinOp.add 9 (Go.Operand.tmp 49) (Go.Operand.const (Go.Value.string { data := #[61, 34] })) 9, type := 9, pos := "ref.go:309", after := #[{ on := 7, ground := Go.Ground.data }], guard := none }) (v := ?va8) rfl (by kernel_rfl) (by kernel_rfl) (by kernel_rfl) (fun _ _ _ h => h) (Or.inl ⟨by rfl, ?ya8⟩) (by assumption) ?ra8
            case ya8 => (intro wq hSw; (try dsimp only at hSw); go_simp; try with_reducible rfl)
            simp only [Act.put, List.setIfInBounds_toArray, List.set_cons_zero, List.set_cons_succ]
            refine wpAnyH_take (i := 9) (oi := { dst := some 51, op := Go.Op.fieldAddr 38 (Go.Operand.tmp 6) 3, type := 0, pos := "ref.go:309", after := #[], guard := none }) (v := ?va9) rfl (by kernel_rfl) (by kernel_rfl) (by kernel_rfl) (fun _ _ _ h => h) (Or.inl ⟨by rfl, ?ya9⟩) (by assumption) ?ra9
            case ya9 => (intro wq hSw; (try dsimp only at hSw); go_simp; try with_reducible rfl)
            simp only [Act.put, List.setIfInBounds_toArray, List.set_cons_zero, List.set_cons_succ]
            refine wpAnyH_take (i := 10) (oi := { dst := some 52, op := Go.Op.load 36 (Go.Operand.tmp 51), type := 36, pos := "ref.go:309", after := #[{ on := 9, ground := Go.Ground.data }], guard := none }) (v := ?va10) rfl (by kernel_rfl) (by kernel_rfl) (by kernel_rfl) (fun _ _ _ h => h) (Or.inl ⟨by rfl, ?ya10⟩) (by assumption) ?ra10
            case ya10 => (intro wq hSw; (try dsimp only at hSw); go_simp; try with_reducible rfl)
            simp only [Act.put, List.setIfInBounds_toArray, List.set_cons_zero, List.set_cons_succ]
            refine wpAnyH_take (i := 11) (oi := { dst := some 53, op := Go.Op.move (Go.Operand.tmp 7), type := 3, pos := "ref.go:309", after := #[], guard := none }) (v := ?va11) rfl (by kernel_rfl) (by kernel_rfl) (by kernel_rfl) (fun _ _ _ h => h) (Or.inl ⟨by rfl, ?ya11⟩) (by assumption) ?ra11
            case ya11 => (intro wq hSw; (try dsimp only at hSw); go_simp; try with_reducible rfl)
            simp only [Act.put, List.setIfInBounds_toArray, List.set_cons_zero, List.set_cons_succ]
            refine wpAnyH_take (i := 12) (oi := { dst := some 54, op := Go.Op.indexAddr 36 (Go.Operand.tmp 52) (Go.Operand.tmp 53), type := 0, pos := "ref.go:309", after := #[{ on := 10, ground := Go.Ground.data }, { on := 11, ground := Go.Ground.data }], guard := none }) (v := ?va12) rfl (by kernel_rfl) (by kernel_rfl) (by kernel_rfl) (fun _ _ _ h => h) (Or.inl ⟨by rfl, ?ya12⟩) (by assumption) ?ra12
            case ya12 => (intro wq hSw; (try dsimp only at hSw); go_simp; try with_reducible rfl)
            simp only [Act.put, List.setIfInBounds_toArray, List.set_cons_zero, List.set_cons_succ]
            refine wpAnyH_take (i := 13) (oi := { dst := some 55, op := Go.Op.fieldAddr 44 (Go.Operand.tmp 54) 1, type := 0, pos := "ref.go:309", after := #[{ on := 12, ground := Go.Ground.data }], guard := none }) (v := ?va13) rfl (by kernel_rfl) (by kernel_rfl) (by kernel_rfl) (fun _ _ _ h => h) (Or.inl ⟨by rfl, ?ya13⟩) (by assumption) ?ra13
            case ya13 => (intro wq hSw; (try dsimp only at hSw); go_simp; try with_reducible rfl)
            simp only [Act.put, List.setIfInBounds_toArray, List.set_cons_zero, List.set_cons_succ]
            refine wpAnyH_take (i := 14) (oi := { dst := some 56, op := Go.Op.load 9 (Go.Operand.tmp 55), type := 9, pos := "ref.go:309", after := #[{ on := 13, ground := Go.Ground.data }], guard := none }) (v := ?va14) rfl (by kernel_rfl) (by kernel_rfl) (by kernel_rfl) (fun _ _ _ h => h) (Or.inl ⟨by rfl, ?ya14⟩) (by assumption) ?ra14
            case ya14 => (intro wq hSw; (try dsimp only at hSw); go_simp; try with_reducible rfl)
            simp only [Act.put, List.setIfInBounds_toArray, List.set_cons_zero, List.set_cons_succ]
            refine wpAnyH_ready (rs := [15]) (by kernel_rfl) (by simp) (AllReadyH.cons (o := { dst := some 57, op := Go.Op.call { callee := Go.Callee.value (Go.Operand.func 24), args := #[Go.Operand.tmp 56], argTypes := #[9] }, type := 9, pos := "ref.go:309", after := #[{ on := 14, ground := Go.Ground.data }], guard := none }) rfl (fun K hK => ?_) AllReadyH.nil)
            go_simp
            go_at_call 24
            refine (rencode_any u.2 _ (by omega)).mono ?_
            rintro e Y ⟨rfl, ky⟩
            have kd : Kept wr Y := (Kept.refl wr).drew.trans ky
            have KY := Lib.hid (hK2.out.trans kd)
            have OY := Lib.hid (hO2.out.kept kd)
            have BY := Lib.hid (blk_kept kd hB2.out)
            have hwy : w.heap.size ≤ Y.heap.size := KY.out.size
            have y3 := ky.yes t3d; have y0 := ky.yes f0d; have y1 := ky.yes f1d
            clear kd ky hK2 hO2 hB2 t3d f0d f1d
            refine Shut.out hK _ _ ⟨y3, y0, y1⟩ (fun hSb => ?_)
            clear hK K
            try simp only [Act.put, List.setIfInBounds_toArray, List.set_cons_zero, List.set_cons_succ]
            refine wpAnyH_take (i := 16) (oi := { dst := some 58, op := Go.Op.binOp Go.BinOp.add 9 (Go.Operand.tmp 50) (Go.Operand.tmp 57) 9, type := 9, pos := "ref.go:309", after := #[{ on := 8, ground := Go.Ground.data }, { on := 15, ground := Go.Ground.data }], guard := none }) (v := ?va16) rfl (by kernel_rfl) (by kernel_rfl) (by kernel_rfl) (fun _ _ _ h => h) (Or.inl ⟨by rfl, ?ya16⟩) (by assumption) ?ra16
            case ya16 => (intro wq hSw; (try dsimp only at hSw); go_simp; try with_reducible rfl)
            simp only [Act.put, List.setIfInBounds_toArray, List.set_cons_zero, List.set_cons_succ]
            refine wpAnyH_take (i := 17) (oi := { dst := some 59, op := Go.Op.binOp Go.BinOp.add 9 (Go.Operand.tmp 58) (Go.Operand.const (Go.Value.string { data := #[34] })) 9, type := 9, pos := "ref.go:309", after := #[{ on := 16, ground := Go.Ground.data }], guard := none }) (v := ?va17) rfl (by kernel_rfl) (by kernel_rfl) (by kernel_rfl) (fun _ _ _ h => h) (Or.inl ⟨by rfl, ?ya17⟩) (by assumption) ?ra17
            case ya17 => (intro wq hSw; (try dsimp only at hSw); go_simp; try with_reducible rfl)
            simp only [Act.put, List.setIfInBounds_toArray, List.set_cons_zero, List.set_cons_succ]
            refine wpAnyH_ready (rs := [18]) (by kernel_rfl) (by simp) (AllReadyH.cons (o := { dst := some 60, op := Go.Op.call { callee := Go.Callee.builtin Go.Builtin.append, args := #[Go.Operand.tmp 42, Go.Operand.tmp 59], argTypes := #[22, 9] }, type := 22, pos := "ref.go:309", after := #[{ on := 0, ground := Go.Ground.data }, { on := 17, ground := Go.Ground.data }, { on := 15, ground := Go.Ground.chain }], guard := none }) rfl (fun K hK => ?_) AllReadyH.nil)
            rw [if_pos (by rfl)]
            refine wp_strB (.tmp 42) (.tmp 59) rfl w.heap.size (.slice sa D3.length sc) D3 A4 (by rfl) OY.out (by rfl) (by omega) hwy ?_
            intro v' z hz hgz
            have hzk := kept_row KY.out hgz (fun g hg => (World.ownsRow.lt OY.out g hg).1)
            have BZ := Lib.hid (blk_grown hgz BY.out (blk_ne OY.out BY.out))
            have z3 := blk_cell BZ.out (j := 3) rfl
            have z0 := hzk.yes F0.out; have z1 := hzk.yes F1.out
            generalize D3 ++ A4 = D4 at *
            obtain ⟨va, vc, hvv⟩ := own_slice hz
            subst hvv
            have KZ := Lib.hid hzk
            have OZ := Lib.hid hz
            clear hzk hz hgz OY KY BY y3 y0 y1
            refine Shut.out hK _ _ ⟨z3, z0, z1⟩ (fun hSb => ?_)
            clear hK K
            try simp only [Act.put, List.setIfInBounds_toArray, List.set_cons_zero, List.set_cons_succ]
            refine wpAnyH_take (i := 19) (oi := { dst := some 4, op := Go.Op.assign (Go.Operand.tmp 60), type := 22, pos := "ref.go:309", after := #[{ on := 18, ground := Go.Ground.data }, { on := 18, ground := Go.Ground.chain }, { on := 0, ground := Go.Ground.phase }, { on := 1, ground := Go.Ground.phase }, { on := 2, ground := Go.Ground.phase }, { on := 3, ground := Go.Ground.phase }, { on := 4, ground := Go.Ground.phase }, { on := 5, ground := Go.Ground.phase }, { on := 6, ground := Go.Ground.phase }, { on := 7, ground := Go.Ground.phase }, { on := 8, ground := Go.Ground.phase }, { on := 9, ground := Go.Ground.phase }, { on := 10, ground := Go.Ground.phase }, { on := 11, ground := Go.Ground.phase }, { on := 12, ground := Go.Ground.phase }, { on := 13, ground := Go.Ground.phase }, { on := 14, ground := Go.Ground.phase }, { on := 15, ground := Go.Ground.phase }, { on := 16, ground := Go.Ground.phase }, { on := 17, ground := Go.Ground.phase }, { on := 18, ground := Go.Ground.phase }], guard := none }) (v := ?va19) rfl (by kernel_rfl) (by kernel_rfl) (by kernel_rfl) (fun _ _ _ h => h) (Or.inl ⟨by rfl, ?ya19⟩) (by assumption) ?ra19
            case ya19 => (intro wq hSw; (try dsimp only at hSw); go_simp; try with_reducible rfl)
            simp only [Act.put, List.setIfInBounds_toArray, List.set_cons_zero, List.set_cons_succ]
            refine wpAnyH_done (by kernel_rfl) ?_ _
            have OF := Lib.hid (show OwnB w.heap.size (.slice va D4.length vc) (D1 ++ (al.take (j + 1)).flatMap wrA) z by rw [HW2.out]; exact OZ.out)
            clear OZ z0 z1 z3 HW2
            go_wp2
            go_roundw
            case rel => exact ⟨j + 1, hjl, by go_num, KZ, OF, BZ⟩
            case measure => simp [intOf]; omega
          · have hjI : ¬ (j : Int) < al.length := by omega
            have HE2 := Lib.hid (show D ++ wrK (0, n, s, al) = (D1 ++ (al.take j).flatMap wrA) ++ [62] by rw [HE1.out, List.take_of_length_le (by omega)])
            clear HE1 hfj
            generalize D1 ++ (al.take j).flatMap wrA = D3 at *
            have kx : Kept wr (wr.alloc (.cells #[.int .u8 62] 5)) := (Kept.refl wr).alloc _
            have KX1 := Lib.hid (hK2.out.trans kx)
            have OX1 := Lib.hid (hO2.out.kept kx)
            have hc1 := one_new wr (.int .u8 62) 5
            have hB1 : w.heap.size ≤ (wr.alloc (.cells #[.int .u8 62] 5)).heap.size := KX1.out.size
            clear kx hK2 hO2 hB2
            go_upto_region 14 with (fail)
            go_wp2_with (at_builtin; refine wpList_byteB rfl _ _ rfl w.heap.size (.slice sa D3.length sc) D3 62 wr.heap.size rfl OX1.out rfl hc1 (by omega) hB1 ?_)
            intro v' z hz hgz
            have HW3 := Lib.hid (HW.out.trans HE2.out)
            clear HW HE2 hc1
            have HKT := Lib.hid hwt
            have hw3 := congrArg List.length HW3.out
            have KZ := Lib.hid (kept_row KX1.out hgz (fun g hg => (World.ownsRow.lt OX1.out g hg).1))
            have OZ := Lib.hid hz
            clear hz hgz OX1 KX1
            have hDT : (D3 ++ [62]).length ≤ (i + 1) * 1100100000 := by
              rw [← hw3]
              exact HLen.out
            have OF := Lib.hid (show OwnB w.heap.size v' ((l.take (i + 1)).flatMap wrK) z by rw [HW3.out]; exact OZ.out)
            have HL := Lib.hid HLen.out
            clear HW3 hDT hw3
            generalize D3 ++ [62] = D2 at *
            obtain ⟨va, vc, hvv⟩ := own_slice OZ.out
            subst hvv
            clear OZ
            go_wp2
            go_roundw
            case rel => exact ⟨i + 1, hlt, HL.out, by go_num, KZ, OF⟩
            case measure => simp [intOf]; omega
      by_cases h1 : kd = 1
      · subst h1
        have P1 : (⟨#[60, 47]⟩ ++ ⟨n.toArray⟩ : ByteArray) = ⟨([60, 47] ++ n).toArray⟩ := str_app [60, 47] n
        have P2 : (⟨([60, 47] ++ n).toArray⟩ ++ ⟨#[62]⟩ : ByteArray) = ⟨([60, 47] ++ n ++ [62]).toArray⟩ := str_app ([60, 47] ++ n) [62]
        have l1 : ([60, 47] ++ n).length = 2 + n.length := by simp; omega
        have l2 : ([60, 47] ++ n ++ [62]).length = 2 + n.length + 1 := by simp; omega
        rw [wrK1] at HW hwt
        generalize [60, 47] ++ n = A1 at *
        generalize A1 ++ [62] = A2 at *
        have n1 : ¬ 9223372036854775807 < 2 + n.length := by omega
        have n2 : ¬ 9223372036854775807 < 2 + n.length + 1 := by omega
        go_upto_region 16 with (fail)
        go_wp2_with (at_builtin; refine wpList_strB rfl _ _ rfl w.heap.size (.slice ta D.length tc) D A2 rfl OX.out rfl (by omega) hwx ?_)
        intro v' z hz hgz
        have KZ := Lib.hid (kept_row KX.out hgz (fun g hg => (World.ownsRow.lt OX.out g hg).1))
        have OZ := Lib.hid hz
        clear hz hgz OX KX
        have hDT : (D ++ A2).length ≤ (i + 1) * 1100100000 := by rw [List.length_append]; have := HDi.out; omega
        have OF := Lib.hid (show OwnB w.heap.size v' ((l.take (i + 1)).flatMap wrK) z by rw [HW.out]; exact OZ.out)
        have HL := Lib.hid (show ((l.take (i + 1)).flatMap wrK).length ≤ (i + 1) * 1100100000 by rw [HW.out]; exact hDT)
        clear HW hDT
        generalize D ++ A2 = D2 at *
        obtain ⟨va, vc, hvv⟩ := own_slice OZ.out
        subst hvv
        clear OZ
        go_wp2
        go_roundw
        case rel => exact ⟨i + 1, hlt, HL.out, by go_num, KZ, OF⟩
        case measure => simp [intOf]; omega
      · have hk0 : (kd == 0) = false := by simp [h0]
        have hk1 : (kd == 1) = false := by simp [h1]
        rw [wrK2 kd n s al h0 h1] at HW hwt
        go_wp2_with fail
        refine (rencode_any s X (by omega)).mono ?_
        rintro e y ⟨rfl, ky⟩
        have KY := Lib.hid (KX.out.trans ky)
        have OY := Lib.hid (OX.out.kept ky)
        have hwy : w.heap.size ≤ y.heap.size := KY.out.size
        clear ky KX OX
        generalize enc s = A2 at *
        go_wp2_with (at_builtin; refine wpList_strB rfl _ _ rfl w.heap.size (.slice ta D.length tc) D A2 rfl OY.out rfl (by omega) hwy ?_)
        intro v' z hz hgz
        have KZ := Lib.hid (kept_row KY.out hgz (fun g hg => (World.ownsRow.lt OY.out g hg).1))
        have OZ := Lib.hid hz
        clear hz hgz OY KY
        have hDT : (D ++ A2).length ≤ (i + 1) * 1100100000 := by rw [List.length_append]; have := HDi.out; omega
        have OF := Lib.hid (show OwnB w.heap.size v' ((l.take (i + 1)).flatMap wrK) z by rw [HW.out]; exact OZ.out)
        have HL := Lib.hid (show ((l.take (i + 1)).flatMap wrK).length ≤ (i + 1) * 1100100000 by rw [HW.out]; exact hDT)
        clear HW hDT
        generalize D ++ A2 = D2 at *
        obtain ⟨va, vc, hvv⟩ := own_slice OZ.out
        subst hvv
        clear OZ
        go_wp2
        go_roundw
        case rel => exact ⟨i + 1, hlt, HL.out, by go_num, KZ, OF⟩
        case measure => simp [intOf]; omega
    · have hltI : ¬ (i : Int) < l.length := by omega
      have hfin : (l.take i).flatMap wrK = wrAll l := by rw [List.take_of_length_le (by omega)]; rfl
      rw [hfin] at hO hD
      have O1 := Lib.hid hO.out.rd
      have Hy := Lib.hid (wri_yes (l := l)); have Hn := Lib.hid (wri_no (l := l))
      have F : Hid ((tok (wrAll l)).1.length ≤ 1000000 ∧ ∀ t ∈ (tok (wrAll l)).1, t.2.2.2.length ≤ 1000000) := Lib.hid (by
        by_cases q : (wrAll l).length ≤ 100000
        · exact Fw.at (tok_fw (wrAll l)) (by omega)
        · rw [tok_rdS, if_pos (by omega)]
          exact ⟨by simp, fun t ht => by cases ht⟩)
      have ZY := Lib.hid (fun (q : tok (wrAll l) = (l, 0)) y (ky : Kept wr y) => WtP.yes (w := w) (hK.out.trans ky) (Hy.out q) (O1.out.kept ky))
      have ZN := Lib.hid (fun (q : ¬ tok (wrAll l) = (l, 0)) y (ky : Kept wr y) => WtP.no (w := w) (hK.out.trans ky) (Hn.out q))
      have H1 := Lib.hid (H.out.kept hK.out)
      have RT := Lib.hid (rtokens_any ta tc (wrAll l) wr (fun _ => O1.out.conv))
      clear Hy Hn hO hK hD H
      generalize tok (wrAll l) = d at *
      rw [hfin]
      clear hfin
      generalize wrAll l = doc at *
      go_wp2_with fail
      refine RT.out.mono ?_
      rintro e x2 ⟨k2, v2, rfl, hT⟩
      have K2 := Lib.hid k2
      have T2 := Lib.hid hT.rd
      obtain ⟨a2, c2, hv2⟩ := hT.rd.slice
      subst hv2
      have H2 := Lib.hid (H1.out.kept k2)
      clear k2 hT RT H1
      go_wp2_with fail
      refine (rsame_any _ _ d.1 l x2 T2.out H2.out F.out.1 (by omega) F.out.2).mono ?_
      rintro e x3 ⟨rfl, k3⟩
      have K3 := Lib.hid (K2.out.trans k3)
      clear k3 T2 H2 F K2
      by_cases hz : d.2 = 0
      · have hdd : (d.2 != 0) = false := by simp [hz]
        by_cases hq : d.1 = l
        · have Z := Lib.hid (ZY.out (by rw [← hz, ← hq]) _ K3.out)
          rw [decide_eq_true hq]
          clear ZY ZN hq
          go_wp2
          go_ret2
          exact Z.out
        · have Z := Lib.hid (ZN.out (fun q => hq (by rw [q])) _ K3.out)
          rw [decide_eq_false hq]
          clear ZY ZN hq
          go_wp2
          go_ret2
          exact Z.out
      · have hdd : (d.2 != 0) = true := by simp [hz]
        have Z := Lib.hid (ZN.out (fun q => hz (by rw [q])) _ K3.out)
        clear ZY ZN
        go_wp2
        go_ret2
        exact Z.out
end Go.Proofs.YtknggeplnffegaaGreatDoor
