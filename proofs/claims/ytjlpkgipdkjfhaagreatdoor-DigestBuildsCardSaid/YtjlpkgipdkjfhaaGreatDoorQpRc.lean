import Derived.Test.YtjlpkgipdkjfhaaGreatDoorQpRb
import Derived.Test.YtjlpkgipdkjfhaaGreatDoorQpE
set_option linter.unusedSimpArgs false
set_option linter.unusedVariables false
namespace Go.Proofs.YtjlpkgipdkjfhaaGreatDoor.Bk.Qp
open Go.ChangeShapes Go.WideShapes Go.ChangeAt Go.RowKit
set_option maxRecDepth 100000 in
set_option maxHeartbeats 4000000 in
theorem rencode_any (v : Value) (l : B) (w : World) (hR : BRd v l w) (hl : l.length ≤ 100000) : Calls Tryz.prog 68 #[v] w fun e w' => ∃ xv, e = .returned xv ∧ OwnB w.heap.size xv (enc 0 l) w' ∧ Kept w w' := by
  obtain ⟨a, c, hv⟩ := hR.slice
  have HR := Lib.hid hR
  have hle := enc_len l 0
  have HLE := Lib.hid (show (enc 0 l).length ≤ 600000 by omega)
  clear hR hle
  subst hv
  go_enter Tryz.func68, Tryz.ntmps68
  go_wp2_with fail
  go_loopw [3, 4, 5] (fun vt vk vi wr => ∃ (i k : Nat) (D : B), i ≤ l.length ∧ k ≤ 75 ∧ vi = .int .i64 i ∧ vk = .int .i64 k ∧ Hid (D ++ enc k (l.drop i) = enc 0 l) ∧ Hid (Kept w wr) ∧ Hid (OwnB w.heap.size vt D wr)) (fun _ _ vi _ => l.length - (intOf vi).toNat)
  case atStart => exact ⟨0, 0, [], Nat.zero_le _, by omega, rfl, rfl, Lib.hid rfl, Lib.hid (Kept.refl w), Lib.hid (OwnB.nil _ _)⟩
  case round =>
    obtain ⟨i, k, D, hi, hk, rfl, rfl, hD, hK, hO⟩ := hrel
    rename_i vt wr
    obtain ⟨ta, tc, htv⟩ := own_slice hO.out
    have hDl := len_le hD.out
    have hDl := Nat.le_trans hDl HLE.out
    have hsz := hK.out.size
    subst htv
    by_cases hlt : i < l.length
    · have hltI : (i : Int) < l.length := by omega
      obtain ⟨x, hx⟩ : ∃ x, l[i]? = some x := ⟨_, List.getElem?_eq_getElem hlt⟩
      have HX := Lib.hid hx
      obtain ⟨g, o, cp, hv', hcp, cell⟩ := (HR.out.kept hK.out).at hx
      cases hv'
      by_cases hn : (x.toNat : Int) = 10
      · have HE := Lib.hid (hD.out.symm.trans (by rw [enc_lf HX.out (by omega : x.toNat = 10), ← List.append_assoc]))
        rw [hn] at cell
        clear hx
        have kx : Kept wr (wr.alloc (.cells #[.int .u8 13, .int .u8 10] 5)) := (Kept.refl wr).alloc _
        have OX := Lib.hid (hO.out.kept kx)
        have KX := Lib.hid (hK.out.trans kx)
        have hbx := brd_new wr [13, 10] 5 #[.int .u8 13, .int .u8 10] rfl 2 (Nat.le_refl 2) (0, 0)
        have hszx := KX.out.size
        clear kx hO hK
        go_upto_region 7 with (fail)
        go_wp2_with (at_builtin; refine wpList_sliceB rfl _ _ rfl w.heap.size (.slice ta D.length tc) _ D [13, 10] rfl OX.out rfl hbx (by simp; omega) hszx ?_)
        intro v' z hz hgz
        have KZ := Lib.hid (kept_row KX.out hgz (fun g hg => (World.ownsRow.lt OX.out g hg).1))
        have OZ := Lib.hid hz
        clear hz hgz OX KX hbx
        go_wp2_with fail
        go_roundw
        case rel => exact ⟨i + 1, 0, D ++ [13, 10], hlt, by omega, by go_num, rfl, Lib.hid HE.out.symm, KZ, OZ⟩
        case measure => simp [intOf]; omega
      · clear hx
        go_wp2_with fail
        refine (hex_any x wr).mono ?_
        rintro e y ⟨rfl, ky⟩
        have KY := Lib.hid (hK.out.trans ky)
        have OY := Lib.hid (hO.out.kept ky)
        have celly := ky.yes cell
        clear ky hK hO cell
        have P1 : (⟨#[61]⟩ ++ ⟨[hx (x.toNat / 16), hx (x.toNat % 16)].toArray⟩ : ByteArray) = ⟨(quo x).toArray⟩ := str_app [61] _
        go_wp2_with fail
        refine (rplain_any _ l i x y (HR.out.kept KY.out) HX.out (by unfold maxLen; omega)).mono ?_
        rintro e y2 ⟨rfl, rfl⟩
        cases hp : pln x (l.drop (i + 1)) with
        | true =>
          have HC := Lib.hid (show cod x (l.drop (i + 1)) = [x] by unfold cod; rw [hp]; rfl)
          have hcv := ((HR.out.kept KY.out).sub i (i + 1) (by omega) (by omega)).conv
          rw [List.drop_take, drop_cons HX.out, show i + 1 - i = 1 by omega, List.take_succ_cons, List.take_zero] at hcv
          clear P1 hp
          have hCl := cod_len x (l.drop (i + 1))
          have HE1 := Lib.hid (fun h => hD.out.symm.trans (congrArg (D ++ ·) (enc_cut (k := k) HX.out (by omega : ¬ x.toNat = 10) h)))
          have HE2 := Lib.hid (fun h => hD.out.symm.trans (congrArg (D ++ ·) (enc_on (k := k) HX.out (by omega : ¬ x.toNat = 10) h)))
          rw [HC.out] at hCl HE1 HE2
          clear HC
          generalize [x] = C at *
          have hCs : (ByteArray.mk C.toArray).size = C.length := List.size_toArray
          have hszy := KY.out.size
          by_cases hw : 75 < (k : Int) + C.length
          · have HE := Lib.hid (HE1.out (by omega))
            clear HE1 HE2
            have kx : Kept y2 (y2.alloc (.cells #[.int .u8 61, .int .u8 13, .int .u8 10] 5)) := (Kept.refl y2).alloc _
            have OX := Lib.hid (OY.out.kept kx)
            have KX := Lib.hid (KY.out.trans kx)
            have hbx := brd_new y2 [61, 13, 10] 5 #[.int .u8 61, .int .u8 13, .int .u8 10] rfl 3 (Nat.le_refl 3) (0, 0)
            have hszx := KX.out.size
            clear kx KY OY
            go_upto_region 14 with (fail)
            go_wp2_with (at_builtin; refine wpList_sliceB rfl _ _ rfl w.heap.size (.slice ta D.length tc) _ D [61, 13, 10] rfl OX.out rfl hbx (by simp; omega) hszx ?_)
            intro v' z hz hgz
            have KZ := Lib.hid (kept_row KX.out hgz (fun g hg => (World.ownsRow.lt OX.out g hg).1))
            have OZ := Lib.hid hz
            have hszz := KZ.out.size
            obtain ⟨va, vc, hvv⟩ := own_slice hz
            subst hvv
            have HDL := Lib.hid (show (D ++ [61, 13, 10]).length = D.length + 3 by simp)
            have HE := Lib.hid (HE.out.trans (List.append_assoc D [61, 13, 10] _).symm)
            clear hz hgz OX KX hbx
            generalize D ++ [61, 13, 10] = D2 at *
            go_upto_region 16 with (fail)
            go_wp2_with (at_builtin; refine wpList_strB rfl _ _ rfl w.heap.size (.slice va D2.length vc) D2 C rfl OZ.out rfl (by have := HDL.out; omega) hszz ?_)
            intro v' z2 hz hgz
            have KF := Lib.hid (kept_row KZ.out hgz (fun g hg => (World.ownsRow.lt OZ.out g hg).1))
            have OF := Lib.hid hz
            have HEF := Lib.hid (HE.out.trans (List.append_assoc D2 C _).symm)
            clear hz hgz OZ KZ HE
            go_wp2_with fail
            go_roundw
            case rel => exact ⟨i + 1, C.length, D2 ++ C, hlt, by omega, by go_num, by go_num, Lib.hid HEF.out.symm, KF, OF⟩
            case measure => simp [intOf]; omega
          · have HE := Lib.hid (HE2.out (by omega))
            clear HE1 HE2
            go_upto_region 16 with (fail)
            go_wp2_with (at_builtin; refine wpList_strB rfl _ _ rfl w.heap.size (.slice ta D.length tc) D C rfl OY.out rfl (by omega) hszy ?_)
            intro v' z2 hz hgz
            have KF := Lib.hid (kept_row KY.out hgz (fun g hg => (World.ownsRow.lt OY.out g hg).1))
            have OF := Lib.hid hz
            have HEF := Lib.hid (HE.out.trans (List.append_assoc D C _).symm)
            clear hz hgz OY KY HE
            go_wp2_with fail
            go_roundw
            case rel => exact ⟨i + 1, k + C.length, D ++ C, hlt, by omega, by go_num, by go_num, Lib.hid HEF.out.symm, KF, OF⟩
            case measure => simp [intOf]; omega
        | false =>
          have HC := Lib.hid (show cod x (l.drop (i + 1)) = quo x by unfold cod; rw [hp]; rfl)
          clear hp
          have hCl := cod_len x (l.drop (i + 1))
          have HE1 := Lib.hid (fun h => hD.out.symm.trans (congrArg (D ++ ·) (enc_cut (k := k) HX.out (by omega : ¬ x.toNat = 10) h)))
          have HE2 := Lib.hid (fun h => hD.out.symm.trans (congrArg (D ++ ·) (enc_on (k := k) HX.out (by omega : ¬ x.toNat = 10) h)))
          rw [HC.out] at hCl HE1 HE2
          clear HC
          generalize quo x = C at *
          have hCs : (ByteArray.mk C.toArray).size = C.length := List.size_toArray
          have hszy := KY.out.size
          by_cases hw : 75 < (k : Int) + C.length
          · have HE := Lib.hid (HE1.out (by omega))
            clear HE1 HE2
            have kx : Kept y2 (y2.alloc (.cells #[.int .u8 61, .int .u8 13, .int .u8 10] 5)) := (Kept.refl y2).alloc _
            have OX := Lib.hid (OY.out.kept kx)
            have KX := Lib.hid (KY.out.trans kx)
            have hbx := brd_new y2 [61, 13, 10] 5 #[.int .u8 61, .int .u8 13, .int .u8 10] rfl 3 (Nat.le_refl 3) (0, 0)
            have hszx := KX.out.size
            clear kx KY OY
            go_upto_region 14 with (fail)
            go_wp2_with (at_builtin; refine wpList_sliceB rfl _ _ rfl w.heap.size (.slice ta D.length tc) _ D [61, 13, 10] rfl OX.out rfl hbx (by simp; omega) hszx ?_)
            intro v' z hz hgz
            have KZ := Lib.hid (kept_row KX.out hgz (fun g hg => (World.ownsRow.lt OX.out g hg).1))
            have OZ := Lib.hid hz
            have hszz := KZ.out.size
            obtain ⟨va, vc, hvv⟩ := own_slice hz
            subst hvv
            have HDL := Lib.hid (show (D ++ [61, 13, 10]).length = D.length + 3 by simp)
            have HE := Lib.hid (HE.out.trans (List.append_assoc D [61, 13, 10] _).symm)
            clear hz hgz OX KX hbx
            generalize D ++ [61, 13, 10] = D2 at *
            go_upto_region 16 with (fail)
            go_wp2_with (at_builtin; refine wpList_strB rfl _ _ rfl w.heap.size (.slice va D2.length vc) D2 C rfl OZ.out rfl (by have := HDL.out; omega) hszz ?_)
            intro v' z2 hz hgz
            have KF := Lib.hid (kept_row KZ.out hgz (fun g hg => (World.ownsRow.lt OZ.out g hg).1))
            have OF := Lib.hid hz
            have HEF := Lib.hid (HE.out.trans (List.append_assoc D2 C _).symm)
            clear hz hgz OZ KZ HE
            go_wp2_with fail
            go_roundw
            case rel => exact ⟨i + 1, C.length, D2 ++ C, hlt, by omega, by go_num, by go_num, Lib.hid HEF.out.symm, KF, OF⟩
            case measure => simp [intOf]; omega
          · have HE := Lib.hid (HE2.out (by omega))
            clear HE1 HE2
            go_upto_region 16 with (fail)
            go_wp2_with (at_builtin; refine wpList_strB rfl _ _ rfl w.heap.size (.slice ta D.length tc) D C rfl OY.out rfl (by omega) hszy ?_)
            intro v' z2 hz hgz
            have KF := Lib.hid (kept_row KY.out hgz (fun g hg => (World.ownsRow.lt OY.out g hg).1))
            have OF := Lib.hid hz
            have HEF := Lib.hid (HE.out.trans (List.append_assoc D C _).symm)
            clear hz hgz OY KY HE
            go_wp2_with fail
            go_roundw
            case rel => exact ⟨i + 1, k + C.length, D ++ C, hlt, by omega, by go_num, by go_num, Lib.hid HEF.out.symm, KF, OF⟩
            case measure => simp [intOf]; omega
    · have hltI : ¬ (i : Int) < l.length := by omega
      have HF := Lib.hid (show D = enc 0 l by rw [← hD.out, enc_done (by omega), List.append_nil])
      clear hD
      go_wp2
      go_ret
      exact ⟨_, rfl, by rw [← HF.out]; exact hO.out, hK.out⟩
end Go.Proofs.YtjlpkgipdkjfhaaGreatDoor.Bk.Qp
