import Derived.Test.YtjlpkgipdkjfhaaGreatDoorQa
import Derived.Deep.Cut
set_option linter.unusedSimpArgs false
set_option linter.unusedVariables false
namespace Go.Proofs.YtjlpkgipdkjfhaaGreatDoor.Bk.Qp
open Go.ChangeShapes Go.WideShapes Go.ChangeAt Go.RowKit
theorem enc_lf {l : B} {i k : Nat} {c : UInt8} (hc : l[i]? = some c) (h : c.toNat = 10) : enc k (l.drop i) = [13, 10] ++ enc 0 (l.drop (i + 1)) := by
  rw [drop_cons hc, enc, if_pos h]; rfl
theorem enc_cut {l : B} {i k : Nat} {c : UInt8} (hc : l[i]? = some c) (h : ¬ c.toNat = 10) (h2 : 75 < k + (cod c (l.drop (i + 1))).length) :
    enc k (l.drop i) = [61, 13, 10] ++ (cod c (l.drop (i + 1)) ++ enc (cod c (l.drop (i + 1))).length (l.drop (i + 1))) := by
  rw [drop_cons hc, enc, if_neg h, if_pos h2]; rfl
theorem enc_on {l : B} {i k : Nat} {c : UInt8} (hc : l[i]? = some c) (h : ¬ c.toNat = 10) (h2 : ¬ 75 < k + (cod c (l.drop (i + 1))).length) :
    enc k (l.drop i) = cod c (l.drop (i + 1)) ++ enc (k + (cod c (l.drop (i + 1))).length) (l.drop (i + 1)) := by
  rw [drop_cons hc, enc, if_neg h, if_neg h2]
theorem enc_done {l : B} {i k : Nat} (h : l.length ≤ i) : enc k (l.drop i) = [] := by rw [List.drop_eq_nil_of_le h, enc]
theorem len_le {a b c : B} (h : a ++ b = c) : a.length ≤ c.length := by rw [← h, List.length_append]; omega
set_option maxRecDepth 100000 in
set_option maxHeartbeats 4000000 in
theorem encode_any (v : Value) (l : B) (w : World) (hR : BRd v l w) (hl : l.length ≤ 40000000) : Calls Tryz.prog 93 #[v] w fun e w' => ∃ xv, e = .returned xv ∧ OwnB w.heap.size xv (enc 0 l) w' ∧ Kept w w' := by
  obtain ⟨a, c, hv⟩ := hR.slice
  have HVB := Lib.hid hR.old
  have HR := Lib.hid hR
  have hle := enc_len l 0
  have HLE := Lib.hid (show (enc 0 l).length ≤ 240000000 by omega)
  clear hR hle
  subst hv
  go_enter Tryz.func93, Tryz.ntmps93
  go_wp2_with fail
  go_loopw [3, 4, 10] (fun vt vk vi wr => ∃ (i k : Nat) (D : B), i ≤ l.length ∧ k ≤ 75 ∧ vi = .int .i64 i ∧ vk = .int .i64 k ∧ Hid (D ++ enc k (l.drop i) = enc 0 l) ∧ Hid (Kept w wr) ∧ Hid (OwnB w.heap.size vt D wr)) (fun _ _ vi _ => l.length - (intOf vi).toNat)
  case atStart => exact ⟨0, 0, [], Nat.zero_le _, by omega, rfl, rfl, Lib.hid rfl, Lib.hid (Kept.refl w), Lib.hid (OwnB.nil _ _)⟩
  case round =>
    obtain ⟨i, k, D, hi, hk, rfl, rfl, hD, hK, hO⟩ := hrel
    rename_i vt wr
    obtain ⟨ta, tc, htv⟩ := own_slice hO.out
    have hDl := len_le hD.out
    have hDl := Nat.le_trans hDl HLE.out
    have hsz := hK.out.size
    subst htv
    by_cases hlt : i < l.length
    · have hltI : (i : Int) < l.length := by omega
      obtain ⟨x, hx⟩ : ∃ x, l[i]? = some x := ⟨_, List.getElem?_eq_getElem hlt⟩
      have HX := Lib.hid hx
      obtain ⟨g, o, cp, hv', hcp, cell⟩ := (HR.out.kept hK.out).at hx
      cases hv'
      by_cases hn : (x.toNat : Int) = 10
      · have HE := Lib.hid (hD.out.symm.trans (by rw [enc_lf HX.out (by omega : x.toNat = 10), ← List.append_assoc]))
        rw [hn] at cell
        clear hx
        go_wp2_with (at_builtin; refine wpList_strB rfl _ _ rfl w.heap.size (.slice ta D.length tc) D [13, 10] rfl hO.out rfl (by simp; omega) hsz ?_)
        intro v' z hz hgz
        have KZ := Lib.hid (kept_row hK.out hgz (fun g hg => (World.ownsRow.lt hO.out g hg).1))
        have OZ := Lib.hid hz
        clear hz hgz hO hK
        go_wp2_with fail
        go_roundw
        case rel => exact ⟨i + 1, 0, D ++ [13, 10], hlt, by omega, by go_num, rfl, Lib.hid HE.out.symm, KZ, OZ⟩
        case measure => simp [intOf]; omega
      · clear hx
        have hne : l ≠ [] := by rintro rfl; simp at hlt
        have hgl := HVB.out hne g rfl
        go_wp2_with fail
        refine (coded_any _ l i x wr (HR.out.kept hK.out) HX.out (by unfold maxLen; omega)).mono ?_
        rintro e y ⟨xv, rfl, hx, ky, hxo⟩
        have hCl := cod_len x (l.drop (i + 1))
        have HE1 := Lib.hid (fun h => hD.out.symm.trans (congrArg (D ++ ·) (enc_cut (k := k) HX.out (by omega : ¬ x.toNat = 10) h)))
        have HE2 := Lib.hid (fun h => hD.out.symm.trans (congrArg (D ++ ·) (enc_on (k := k) HX.out (by omega : ¬ x.toNat = 10) h)))
        generalize cod x (l.drop (i + 1)) = C at *
        have KY := Lib.hid (hK.out.trans ky)
        have OY := Lib.hid (hO.out.kept ky)
        have hszy := KY.out.size
        have HXR := Lib.hid hx
        have HNE := Lib.hid (show ∀ r, (Value.slice ta D.length tc).ownBlock = some r → xv.ownBlock ≠ some r from fun r hr => hxo r (World.ownsRow.lt hO.out r hr).2 (fun e => by
          have h1 := (World.ownsRow.lt hO.out r hr).1
          simp only [Value.ownBlock, Option.some.injEq] at e
          omega))
        obtain ⟨xa, xc, hxv⟩ := hx.slice
        subst hxv
        clear hx ky hxo hK hO
        by_cases hw : 75 < (k : Int) + C.length
        · have HE := Lib.hid (HE1.out (by omega))
          clear HE1 HE2
          go_upto_region 11 with (fail)
          go_wp2_with (at_builtin; refine wpList_strB rfl _ _ rfl w.heap.size (.slice ta D.length tc) D [61, 13, 10] rfl OY.out rfl (by simp; omega) hszy ?_)
          intro v' z hz hgz
          have KZ := Lib.hid (kept_row KY.out hgz (fun g hg => (World.ownsRow.lt OY.out g hg).1))
          have XZ := Lib.hid (HXR.out.grow hgz HNE.out)
          have OZ := Lib.hid hz
          have hszz := KZ.out.size
          obtain ⟨va, vc, hvv⟩ := own_slice hz
          subst hvv
          have HDL := Lib.hid (show (D ++ [61, 13, 10]).length = D.length + 3 by simp)
          have HE := Lib.hid (HE.out.trans (List.append_assoc D [61, 13, 10] _).symm)
          clear hz hgz OY KY HXR HNE
          generalize D ++ [61, 13, 10] = D2 at *
          go_upto_region 13 with (fail)
          go_wp2_with (at_builtin; refine wpList_sliceB rfl _ _ rfl w.heap.size (.slice va D2.length vc) (.slice xa C.length xc) D2 C rfl OZ.out rfl XZ.out (by have := HDL.out; omega) hszz ?_)
          intro v' z2 hz hgz
          have KF := Lib.hid (kept_row KZ.out hgz (fun g hg => (World.ownsRow.lt OZ.out g hg).1))
          have OF := Lib.hid hz
          have HEF := Lib.hid (HE.out.trans (List.append_assoc D2 C _).symm)
          clear hz hgz OZ KZ XZ HE
          go_wp2_with fail
          go_roundw
          case rel => exact ⟨i + 1, C.length, D2 ++ C, hlt, by omega, by go_num, by go_num, Lib.hid HEF.out.symm, KF, OF⟩
          case measure => simp [intOf]; omega
        · have HE := Lib.hid (HE2.out (by omega))
          clear HE1 HE2
          go_upto_region 13 with (fail)
          go_wp2_with (at_builtin; refine wpList_sliceB rfl _ _ rfl w.heap.size (.slice ta D.length tc) (.slice xa C.length xc) D C rfl OY.out rfl HXR.out (by omega) hszy ?_)
          intro v' z2 hz hgz
          have KF := Lib.hid (kept_row KY.out hgz (fun g hg => (World.ownsRow.lt OY.out g hg).1))
          have OF := Lib.hid hz
          have HEF := Lib.hid (HE.out.trans (List.append_assoc D C _).symm)
          clear hz hgz OY KY HXR HNE HE
          go_wp2_with fail
          go_roundw
          case rel => exact ⟨i + 1, k + C.length, D ++ C, hlt, by omega, by go_num, by go_num, Lib.hid HEF.out.symm, KF, OF⟩
          case measure => simp [intOf]; omega
    · have hltI : ¬ (i : Int) < l.length := by omega
      have HF := Lib.hid (show D = enc 0 l by rw [← hD.out, enc_done (by omega), List.append_nil])
      clear hD
      go_wp2
      go_ret
      exact ⟨_, rfl, by rw [← HF.out]; exact hO.out, hK.out⟩
end Go.Proofs.YtjlpkgipdkjfhaaGreatDoor.Bk.Qp
