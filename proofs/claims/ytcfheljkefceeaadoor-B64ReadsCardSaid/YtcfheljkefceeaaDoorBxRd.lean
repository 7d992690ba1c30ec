/- The document's Decode. -/
import Derived.Test.YtcfheljkefceeaaDoorBxRb
import Derived.Test.YtcfheljkefceeaaDoorBxRe
import Derived.Test.YtcfheljkefceeaaDoorBxC
import Derived.Deep.RegionHeld3
set_option linter.unusedSimpArgs false
set_option linter.unusedVariables false
namespace Go.Proofs.YtcfheljkefceeaaDoor
open Go.ChangeShapes Go.WideShapes Go.ChangeAt Go.RowKit
open Bx
/-- more may be held of the worlds from here on -/
theorem wpAnyH_more {P : Program} {md : Region.Mode} {ops : Array Oper} {Q : Exit → Act → World → Prop} {S S' : World → Prop} (h : ∀ w, S' w → S w) : ∀ (fuel : Nat) (listed : Array Bool) (a : Act) (w : World), wpAnyH P md ops Q S' fuel listed a w → wpAnyH P md ops Q S fuel listed a w
  | 0, _, _, _, q => q
  | fuel + 1, _, _, _, q => ⟨q.1, fun i hi => wpOp_mono (fun a' w' h' => ⟨h w' h'.1, wpAnyH_more h fuel _ a' w' h'.2⟩) (q.2 i hi)⟩
theorem flt_more {l : B} {i : Nat} {c : UInt8} (h : l[i]? = some c) : flt (l.drop i) = (if c ≠ 13 ∧ c ≠ 10 then [c] else []) ++ flt (l.drop (i + 1)) := by
  rw [drop_cons h]
  unfold flt
  rw [List.filter_cons]
  by_cases h1 : c = 13
  · simp [h1]
  · by_cases h2 : c = 10
    · simp [h2]
    · simp [h1, h2]
theorem flt_len (l : B) : (flt l).length ≤ l.length := List.length_filter_le _ _
theorem flt_encs (b : B) : flt (enc b) = raw b := flt_enc b
set_option maxRecDepth 100000 in
set_option maxHeartbeats 4000000 in
theorem rdecode_any (v : Value) (l : B) (w : World) (hR : BRd v l w) (hl : l.length ≤ 1000000) : Calls Tryd.prog 16 #[v] w fun e w' => ∃ xv, e = .returned xv ∧ DecR w.heap.size l xv w' ∧ Kept w w' := by
  obtain ⟨a, c, hv⟩ := hR.slice
  have HR := Lib.hid hR
  have hfl := flt_len l
  have HN := Lib.hid (fun (h : byt (flt l) = none) => dec_byt flt_encs h)
  have HX := Lib.hid (fun (x : B) (h : byt (flt l) = some x) (hx : enc x ≠ l) => dec_not flt_encs h hx)
  clear hR
  subst hv
  go_enter Tryd.func16, Tryd.ntmps16
  go_upto_block 0 with (fail)
  go_cut [4, 5] from 8 (fun vs vi wx => Hid (Kept w wx) ∧ Hid (OwnB w.heap.size vs (flt l) wx))
  case first =>
    clear HN HX
    go_wp2_with fail
    go_loopw [4, 5] (fun vm vi wr => ∃ (i : Nat) (D : B), i ≤ l.length ∧ D.length ≤ i ∧ vi = .int .i64 i ∧ Hid (D ++ flt (l.drop i) = flt l) ∧ Hid (Kept w wr) ∧ Hid (OwnB w.heap.size vm D wr)) (fun _ vi _ => l.length - (intOf vi).toNat)
    case atStart => exact ⟨0, [], Nat.zero_le _, Nat.zero_le _, rfl, Lib.hid rfl, Lib.hid (Kept.refl w), Lib.hid (OwnB.nil _ _)⟩
    case round =>
      obtain ⟨i, D, hi, hDi, rfl, hD, hK, hO⟩ := hrel
      obtain ⟨ta, tc, htv⟩ := own_slice hO.out
      have hsz := hK.out.size
      subst htv
      by_cases hlt : i < l.length
      · have hltI : (i : Int) < l.length := by omega
        obtain ⟨x, hx⟩ : ∃ x, l[i]? = some x := ⟨_, List.getElem?_eq_getElem hlt⟩
        obtain ⟨g, o, cp, hv', hcp, cell⟩ := (HR.out.kept hK.out).at hx
        cases hv'
        have HF := Lib.hid (hD.out.symm.trans (congrArg (D ++ ·) (flt_more hx)))
        clear hx hD
        by_cases h13 : (x.toNat : Int) = 13
        · have HE := Lib.hid (HF.out.trans (by rw [if_neg (fun q => q.1 (UInt8.toNat_inj.1 (by rw [show (13 : UInt8).toNat = 13 from rfl]; omega)))]; rfl : _ = D ++ flt (l.drop (i + 1))))
          rw [h13] at cell
          clear HF h13
          go_wp2_with fail
          go_roundw
          case rel => exact ⟨i + 1, D, hlt, by omega, by go_num, Lib.hid HE.out.symm, hK, hO⟩
          case measure => simp [intOf]; omega
        · by_cases h10 : (x.toNat : Int) = 10
          · have HE := Lib.hid (HF.out.trans (by rw [if_neg (fun q => q.2 (UInt8.toNat_inj.1 (by rw [show (10 : UInt8).toNat = 10 from rfl]; omega)))]; rfl : _ = D ++ flt (l.drop (i + 1))))
            rw [h10] at cell
            clear HF h10 h13
            go_wp2_with fail
            go_roundw
            case rel => exact ⟨i + 1, D, hlt, by omega, by go_num, Lib.hid HE.out.symm, hK, hO⟩
            case measure => simp [intOf]; omega
          · have HE := Lib.hid (HF.out.trans (by rw [if_pos ⟨fun q => h13 (by rw [q]; rfl), fun q => h10 (by rw [q]; rfl)⟩, ← List.append_assoc] : _ = (D ++ [x]) ++ flt (l.drop (i + 1))))
            have b1 : ((x.toNat : Int) != 13) = true := bne_iff_ne.2 h13
            have b2 : ((x.toNat : Int) != 10) = true := bne_iff_ne.2 h10
            have ky : Kept wr (wr.alloc (.cells #[.int .u8 x.toNat] 5)) := (Kept.refl wr).alloc _
            have OY := Lib.hid (hO.out.kept ky)
            have KY := Lib.hid (hK.out.trans ky)
            have hcy : (wr.alloc (.cells #[.int .u8 x.toNat] 5)).cell? ⟨wr.heap.size, 0, none⟩ = some (.int .u8 x.toNat) := (Kept.refl _).new 0 rfl
            have hszy := KY.out.size
            clear HF h10 h13 hO hK ky
            go_wp2_with (at_builtin; refine wpList_byteB rfl _ _ rfl w.heap.size (.slice ta D.length tc) D x wr.heap.size rfl OY.out rfl hcy (by omega) hszy ?_)
            intro v' z hz hgz
            have KZ := Lib.hid (kept_row KY.out hgz (fun g hg => (World.ownsRow.lt OY.out g hg).1))
            have OZ := Lib.hid hz
            clear hz hgz OY KY hcy
            go_wp2_with fail
            go_roundw
            case rel => exact ⟨i + 1, D ++ [x], hlt, by simp; omega, by go_num, Lib.hid HE.out.symm, KZ, OZ⟩
            case measure => simp [intOf]; omega
      · have hltI : ¬ (i : Int) < l.length := by omega
        have HF := Lib.hid (show D = flt l by rw [← hD.out, List.drop_eq_nil_of_le (Nat.le_of_not_lt hlt)]; simp [flt])
        clear hD
        go_wp2
        go_meet
        case rel => exact ⟨hK, Lib.hid (by rw [← HF.out]; exact hO.out)⟩
  case rest =>
    obtain ⟨hKw, hO⟩ := hcut
    obtain ⟨ta, tc, htv⟩ := own_slice hO.out
    subst htv
    have hcv := hO.out.rd.conv
    clear hO
    generalize flt l = r at *
    go_wp2_with fail
    refine (rbytes_any r wc (by omega)).mono ?_
    rintro e x2 ⟨xv, rfl, ⟨av, hO, rfl⟩, k2⟩
    have K2 := Lib.hid (hKw.out.trans k2)
    have R2 := Lib.hid (HR.out.kept K2.out)
    have hO := own_mono hO hKw.out.size
    clear k2 hKw HR hcv
    cases h : byt r with
    | none =>
      have HB := Lib.hid (HN.out h)
      rw [bE_none h]
      obtain ⟨ta, tc, htv⟩ := own_slice hO
      subst htv
      clear HN HX hO h
      go_wp2
      go_quiet (fail)
      go_wp2
      go_ret2
      exact ⟨_, rfl, DecR.none HB.out _, K2.out.drewN _⟩
    | some z =>
      have HX2 := Lib.hid (HX.out z h)
      have hzl := byt_len h
      rw [bE_some h]
      rw [h] at hO
      have hO : OwnB w.heap.size av z x2 := hO
      have HO := Lib.hid hO
      have HZ := Lib.hid hO.rd
      obtain ⟨ta, tc, htv⟩ := own_slice hO
      subst htv
      clear HN HX hO h
      have R2d := Lib.hid (R2.out.kept (Kept.refl x2).drew)
      have Z2d := Lib.hid (HZ.out.kept (Kept.refl x2).drew)
      have O2d := Lib.hid (HO.out.kept (Kept.refl x2).drew)
      clear R2 HZ HO
      by_cases hz : enc z = l
      · have HB := Lib.hid (dec_some hz)
        have hq : (enc z == l) = true := by rw [hz]; exact beq_self_eq_true l
        clear hz HX2
        go_wp2_with fail
        refine wp_region_held_drew (S := (fun y => (convert 22 9 (.slice a l.length c)).run Tryd.prog y = .ok (sV l) y)) (by kernel_rfl) R2d.out.conv (fun hS0 => ?_)
        refine wpAnyH_take (i := 0) (oi := { dst := some 39, op := Go.Op.move (Go.Operand.tmp 7), type := 27, pos := "ref.go:91", after := #[], guard := none }) (v := ?vs0) rfl (by kernel_rfl) (by kernel_rfl) (by kernel_rfl) (fun _ _ _ h => h) (Or.inl ⟨by rfl, ?ys0⟩) (by assumption) ?rs0
        case ys0 => (intro wq hSw; (try dsimp only at hSw); go_simp; try with_reducible rfl)
        simp only [Act.put, List.setIfInBounds_toArray, List.set_cons_zero, List.set_cons_succ]
        refine wpAnyH_take (i := 1) (oi := { dst := some 40, op := Go.Op.binOp Go.BinOp.neq 27 (Go.Operand.tmp 39) (Go.Operand.const (Go.Value.int Go.IntKind.i64 0)) 27, type := 4, pos := "ref.go:91", after := #[{ on := 0, ground := Go.Ground.data }], guard := none }) (v := ?vs1) rfl (by kernel_rfl) (by kernel_rfl) (by kernel_rfl) (fun _ _ _ h => h) (Or.inl ⟨by rfl, ?ys1⟩) (by assumption) ?rs1
        case ys1 => (intro wq hSw; (try dsimp only at hSw); go_simp; try with_reducible rfl)
        simp only [Act.put, List.setIfInBounds_toArray, List.set_cons_zero, List.set_cons_succ]
        refine wpAnyH_take (i := 2) (oi := { dst := some 41, op := Go.Op.move (Go.Operand.tmp 40), type := 4, pos := "ref.go:91", after := #[{ on := 1, ground := Go.Ground.data }], guard := none }) (v := ?vs2) rfl (by kernel_rfl) (by kernel_rfl) (by kernel_rfl) (fun _ _ _ h => h) (Or.inl ⟨by rfl, ?ys2⟩) (by assumption) ?rs2
        case ys2 => (intro wq hSw; (try dsimp only at hSw); go_simp; try with_reducible rfl)
        simp only [Act.put, List.setIfInBounds_toArray, List.set_cons_zero, List.set_cons_succ]
        refine wpAnyH_take (i := 3) (oi := { dst := some 42, op := Go.Op.move (Go.Operand.tmp 6), type := 22, pos := "ref.go:91", after := #[{ on := 2, ground := Go.Ground.guard }], guard := some (2, false) }) (v := ?vs3) rfl (by kernel_rfl) (by kernel_rfl) (by kernel_rfl) (fun _ _ _ h => h) (Or.inl ⟨by rfl, ?ys3⟩) (by assumption) ?rs3
        case ys3 => (intro wq hSw; (try dsimp only at hSw); go_simp; try with_reducible rfl)
        simp only [Act.put, List.setIfInBounds_toArray, List.set_cons_zero, List.set_cons_succ]
        refine wpAnyH_take (i := 6) (oi := { dst := some 45, op := Go.Op.move (Go.Operand.tmp 0), type := 22, pos := "ref.go:91", after := #[{ on := 2, ground := Go.Ground.guard }], guard := some (2, false) }) (v := ?vs6) rfl (by kernel_rfl) (by kernel_rfl) (by kernel_rfl) (fun _ _ _ h => h) (Or.inl ⟨by rfl, ?ys6⟩) (by assumption) ?rs6
        case ys6 => (intro wq hSw; (try dsimp only at hSw); go_simp; try with_reducible rfl)
        simp only [Act.put, List.setIfInBounds_toArray, List.set_cons_zero, List.set_cons_succ]
        refine wpAnyH_take (i := 7) (oi := { dst := some 46, op := Go.Op.convert 22 9 (Go.Operand.tmp 45), type := 9, pos := "ref.go:91", after := #[{ on := 6, ground := Go.Ground.data }, { on := 2, ground := Go.Ground.guard }], guard := some (2, false) }) (v := ?vs7) rfl (by kernel_rfl) (by kernel_rfl) (by kernel_rfl) (fun _ _ _ h => h) (Or.inl ⟨by rfl, ?ys7⟩) (by assumption) ?rs7
        case ys7 => (intro wq hSw; (try dsimp only at hSw); go_simp; try with_reducible rfl)
        simp only [Act.put, List.setIfInBounds_toArray, List.set_cons_zero, List.set_cons_succ]
        refine wpAnyH_ready (rs := [4]) (by kernel_rfl) (by simp) (AllReadyH.cons (o := { dst := some 43, op := Go.Op.call { callee := Go.Callee.value (Go.Operand.func 12), args := #[Go.Operand.tmp 42], argTypes := #[22] }, type := 22, pos := "ref.go:91", after := #[{ on := 3, ground := Go.Ground.data }, { on := 2, ground := Go.Ground.chain }, { on := 2, ground := Go.Ground.guard }], guard := some (2, false) }) rfl (fun K hK => ?_) AllReadyH.nil)
        go_simp
        go_at_call 12
        refine (rencode_any _ z _ Z2d.out (by omega)).mono ?_
        rintro e x3 ⟨ev, rfl, hE3, k3⟩
        have K3 := Lib.hid (K2.out.drew.trans k3)
        have O3 := Lib.hid (O2d.out.kept k3)
        have R3 := Lib.hid (R2d.out.kept k3)
        have E3 := Lib.hid hE3.rd
        obtain ⟨ea, ec, hev⟩ := own_slice hE3
        subst hev
        clear k3 hE3 K2 O2d R2d Z2d
        generalize enc z = E at *
        refine Shut.out hK _ _ R3.out.conv (fun hSb => ?_)
        clear hK K
        try simp only [Act.put, List.setIfInBounds_toArray, List.set_cons_zero, List.set_cons_succ]
        have hS3 : (fun y => (convert 22 9 (.slice a l.length c)).run Tryd.prog y = .ok (sV l) y ∧ (convert 22 9 (.slice ea E.length ec)).run Tryd.prog y = .ok (sV E) y) x3 := ⟨R3.out.conv, E3.out.conv⟩
        refine wpAnyH_more (S' := (fun y => (convert 22 9 (.slice a l.length c)).run Tryd.prog y = .ok (sV l) y ∧ (convert 22 9 (.slice ea E.length ec)).run Tryd.prog y = .ok (sV E) y)) (fun y h => h.1) _ _ _ _ ?_
        refine wpAnyH_take (i := 5) (oi := { dst := some 44, op := Go.Op.convert 22 9 (Go.Operand.tmp 43), type := 9, pos := "ref.go:91", after := #[{ on := 4, ground := Go.Ground.data }, { on := 2, ground := Go.Ground.guard }], guard := some (2, false) }) (v := ?vs5) rfl (by kernel_rfl) (by kernel_rfl) (by kernel_rfl) (fun _ _ _ h => h) (Or.inl ⟨by rfl, ?ys5⟩) (by assumption) ?rs5
        case ys5 => (intro wq hSw; (try dsimp only at hSw); go_simp; try with_reducible rfl)
        simp only [Act.put, List.setIfInBounds_toArray, List.set_cons_zero, List.set_cons_succ]
        refine wpAnyH_take (i := 8) (oi := { dst := some 47, op := Go.Op.binOp Go.BinOp.neq 9 (Go.Operand.tmp 44) (Go.Operand.tmp 46) 9, type := 4, pos := "ref.go:91", after := #[{ on := 5, ground := Go.Ground.data }, { on := 7, ground := Go.Ground.data }, { on := 2, ground := Go.Ground.guard }], guard := some (2, false) }) (v := ?vs8) rfl (by kernel_rfl) (by kernel_rfl) (by kernel_rfl) (fun _ _ _ h => h) (Or.inl ⟨by rfl, ?ys8⟩) (by assumption) ?rs8
        case ys8 => (intro wq hSw; (try dsimp only at hSw); go_simp; try with_reducible rfl)
        simp only [Act.put, List.setIfInBounds_toArray, List.set_cons_zero, List.set_cons_succ]
        refine wpAnyH_take (i := 9) (oi := { dst := some 48, op := Go.Op.pick (Go.Operand.tmp 41) (Go.Operand.const (Go.Value.bool true)) (Go.Operand.tmp 47), type := 4, pos := "ref.go:91", after := #[{ on := 2, ground := Go.Ground.data }, { on := 8, ground := Go.Ground.data }], guard := none }) (v := ?vs9) rfl (by kernel_rfl) (by kernel_rfl) (by kernel_rfl) (fun _ _ _ h => h) (Or.inl ⟨by rfl, ?ys9⟩) (by assumption) ?rs9
        case ys9 => (intro wq hSw; (try dsimp only at hSw); go_simp; try with_reducible rfl)
        simp only [Act.put, List.setIfInBounds_toArray, List.set_cons_zero, List.set_cons_succ]
        refine wpAnyH_done (by kernel_rfl) ?_ _
        go_wp2
        go_ret2
        exact ⟨_, rfl, DecR.some HB.out O3.out, K3.out⟩
      · have HB := Lib.hid (HX2.out hz)
        have hq : (enc z == l) = false := beq_eq_false_iff_ne.2 hz
        clear hz HX2
        go_wp2_with fail
        refine wp_region_held_drew (S := (fun y => (convert 22 9 (.slice a l.length c)).run Tryd.prog y = .ok (sV l) y)) (by kernel_rfl) R2d.out.conv (fun hS0 => ?_)
        refine wpAnyH_take (i := 0) (oi := { dst := some 39, op := Go.Op.move (Go.Operand.tmp 7), type := 27, pos := "ref.go:91", after := #[], guard := none }) (v := ?vt0) rfl (by kernel_rfl) (by kernel_rfl) (by kernel_rfl) (fun _ _ _ h => h) (Or.inl ⟨by rfl, ?yt0⟩) (by assumption) ?rt0
        case yt0 => (intro wq hSw; (try dsimp only at hSw); go_simp; try with_reducible rfl)
        simp only [Act.put, List.setIfInBounds_toArray, List.set_cons_zero, List.set_cons_succ]
        refine wpAnyH_take (i := 1) (oi := { dst := some 40, op := Go.Op.binOp Go.BinOp.neq 27 (Go.Operand.tmp 39) (Go.Operand.const (Go.Value.int Go.IntKind.i64 0)) 27, type := 4, pos := "ref.go:91", after := #[{ on := 0, ground := Go.Ground.data }], guard := none }) (v := ?vt1) rfl (by kernel_rfl) (by kernel_rfl) (by kernel_rfl) (fun _ _ _ h => h) (Or.inl ⟨by rfl, ?yt1⟩) (by assumption) ?rt1
        case yt1 => (intro wq hSw; (try dsimp only at hSw); go_simp; try with_reducible rfl)
        simp only [Act.put, List.setIfInBounds_toArray, List.set_cons_zero, List.set_cons_succ]
        refine wpAnyH_take (i := 2) (oi := { dst := some 41, op := Go.Op.move (Go.Operand.tmp 40), type := 4, pos := "ref.go:91", after := #[{ on := 1, ground := Go.Ground.data }], guard := none }) (v := ?vt2) rfl (by kernel_rfl) (by kernel_rfl) (by kernel_rfl) (fun _ _ _ h => h) (Or.inl ⟨by rfl, ?yt2⟩) (by assumption) ?rt2
        case yt2 => (intro wq hSw; (try dsimp only at hSw); go_simp; try with_reducible rfl)
        simp only [Act.put, List.setIfInBounds_toArray, List.set_cons_zero, List.set_cons_succ]
        refine wpAnyH_take (i := 3) (oi := { dst := some 42, op := Go.Op.move (Go.Operand.tmp 6), type := 22, pos := "ref.go:91", after := #[{ on := 2, ground := Go.Ground.guard }], guard := some (2, false) }) (v := ?vt3) rfl (by kernel_rfl) (by kernel_rfl) (by kernel_rfl) (fun _ _ _ h => h) (Or.inl ⟨by rfl, ?yt3⟩) (by assumption) ?rt3
        case yt3 => (intro wq hSw; (try dsimp only at hSw); go_simp; try with_reducible rfl)
        simp only [Act.put, List.setIfInBounds_toArray, List.set_cons_zero, List.set_cons_succ]
        refine wpAnyH_take (i := 6) (oi := { dst := some 45, op := Go.Op.move (Go.Operand.tmp 0), type := 22, pos := "ref.go:91", after := #[{ on := 2, ground := Go.Ground.guard }], guard := some (2, false) }) (v := ?vt6) rfl (by kernel_rfl) (by kernel_rfl) (by kernel_rfl) (fun _ _ _ h => h) (Or.inl ⟨by rfl, ?yt6⟩) (by assumption) ?rt6
        case yt6 => (intro wq hSw; (try dsimp only at hSw); go_simp; try with_reducible rfl)
        simp only [Act.put, List.setIfInBounds_toArray, List.set_cons_zero, List.set_cons_succ]
        refine wpAnyH_take (i := 7) (oi := { dst := some 46, op := Go.Op.convert 22 9 (Go.Operand.tmp 45), type := 9, pos := "ref.go:91", after := #[{ on := 6, ground := Go.Ground.data }, { on := 2, ground := Go.Ground.guard }], guard := some (2, false) }) (v := ?vt7) rfl (by kernel_rfl) (by kernel_rfl) (by kernel_rfl) (fun _ _ _ h => h) (Or.inl ⟨by rfl, ?yt7⟩) (by assumption) ?rt7
        case yt7 => (intro wq hSw; (try dsimp only at hSw); go_simp; try with_reducible rfl)
        simp only [Act.put, List.setIfInBounds_toArray, List.set_cons_zero, List.set_cons_succ]
        refine wpAnyH_ready (rs := [4]) (by kernel_rfl) (by simp) (AllReadyH.cons (o := { dst := some 43, op := Go.Op.call { callee := Go.Callee.value (Go.Operand.func 12), args := #[Go.Operand.tmp 42], argTypes := #[22] }, type := 22, pos := "ref.go:91", after := #[{ on := 3, ground := Go.Ground.data }, { on := 2, ground := Go.Ground.chain }, { on := 2, ground := Go.Ground.guard }], guard := some (2, false) }) rfl (fun K hK => ?_) AllReadyH.nil)
        go_simp
        go_at_call 12
        refine (rencode_any _ z _ Z2d.out (by omega)).mono ?_
        rintro e x3 ⟨ev, rfl, hE3, k3⟩
        have K3 := Lib.hid (K2.out.drew.trans k3)
        have O3 := Lib.hid (O2d.out.kept k3)
        have R3 := Lib.hid (R2d.out.kept k3)
        have E3 := Lib.hid hE3.rd
        obtain ⟨ea, ec, hev⟩ := own_slice hE3
        subst hev
        clear k3 hE3 K2 O2d R2d Z2d
        generalize enc z = E at *
        refine Shut.out hK _ _ R3.out.conv (fun hSb => ?_)
        clear hK K
        try simp only [Act.put, List.setIfInBounds_toArray, List.set_cons_zero, List.set_cons_succ]
        have hS3 : (fun y => (convert 22 9 (.slice a l.length c)).run Tryd.prog y = .ok (sV l) y ∧ (convert 22 9 (.slice ea E.length ec)).run Tryd.prog y = .ok (sV E) y) x3 := ⟨R3.out.conv, E3.out.conv⟩
        refine wpAnyH_more (S' := (fun y => (convert 22 9 (.slice a l.length c)).run Tryd.prog y = .ok (sV l) y ∧ (convert 22 9 (.slice ea E.length ec)).run Tryd.prog y = .ok (sV E) y)) (fun y h => h.1) _ _ _ _ ?_
        refine wpAnyH_take (i := 5) (oi := { dst := some 44, op := Go.Op.convert 22 9 (Go.Operand.tmp 43), type := 9, pos := "ref.go:91", after := #[{ on := 4, ground := Go.Ground.data }, { on := 2, ground := Go.Ground.guard }], guard := some (2, false) }) (v := ?vt5) rfl (by kernel_rfl) (by kernel_rfl) (by kernel_rfl) (fun _ _ _ h => h) (Or.inl ⟨by rfl, ?yt5⟩) (by assumption) ?rt5
        case yt5 => (intro wq hSw; (try dsimp only at hSw); go_simp; try with_reducible rfl)
        simp only [Act.put, List.setIfInBounds_toArray, List.set_cons_zero, List.set_cons_succ]
        refine wpAnyH_take (i := 8) (oi := { dst := some 47, op := Go.Op.binOp Go.BinOp.neq 9 (Go.Operand.tmp 44) (Go.Operand.tmp 46) 9, type := 4, pos := "ref.go:91", after := #[{ on := 5, ground := Go.Ground.data }, { on := 7, ground := Go.Ground.data }, { on := 2, ground := Go.Ground.guard }], guard := some (2, false) }) (v := ?vt8) rfl (by kernel_rfl) (by kernel_rfl) (by kernel_rfl) (fun _ _ _ h => h) (Or.inl ⟨by rfl, ?yt8⟩) (by assumption) ?rt8
        case yt8 => (intro wq hSw; (try dsimp only at hSw); go_simp; try with_reducible rfl)
        simp only [Act.put, List.setIfInBounds_toArray, List.set_cons_zero, List.set_cons_succ]
        refine wpAnyH_take (i := 9) (oi := { dst := some 48, op := Go.Op.pick (Go.Operand.tmp 41) (Go.Operand.const (Go.Value.bool true)) (Go.Operand.tmp 47), type := 4, pos := "ref.go:91", after := #[{ on := 2, ground := Go.Ground.data }, { on := 8, ground := Go.Ground.data }], guard := none }) (v := ?vt9) rfl (by kernel_rfl) (by kernel_rfl) (by kernel_rfl) (fun _ _ _ h => h) (Or.inl ⟨by rfl, ?yt9⟩) (by assumption) ?rt9
        case yt9 => (intro wq hSw; (try dsimp only at hSw); go_simp; try with_reducible rfl)
        simp only [Act.put, List.setIfInBounds_toArray, List.set_cons_zero, List.set_cons_succ]
        refine wpAnyH_done (by kernel_rfl) ?_ _
        go_wp2
        go_ret2
        exact ⟨_, rfl, DecR.none HB.out _, K3.out⟩
end Go.Proofs.YtcfheljkefceeaaDoor
