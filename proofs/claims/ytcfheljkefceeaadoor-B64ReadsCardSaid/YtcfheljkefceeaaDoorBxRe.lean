/- The document's Encode. -/
import Derived.Test.YtcfheljkefceeaaDoorBxRa
import Derived.Test.YtcfheljkefceeaaDoorBxE
set_option linter.unusedSimpArgs false
set_option linter.unusedVariables false
namespace Go.Proofs.YtcfheljkefceeaaDoor
open Go.ChangeShapes Go.WideShapes Go.ChangeAt Go.RowKit
open Bx
theorem drop_cons {l : B} {i : Nat} {c : UInt8} (h : l[i]? = some c) : l.drop i = c :: l.drop (i + 1) := by
  obtain ⟨hi, rfl⟩ := List.getElem?_eq_some_iff.1 h
  exact List.drop_eq_getElem_cons hi
theorem dl_end {s : B} {i : Nat} {c : UInt8} (h : s[i]? = some c) (q : i % 76 = 75 ∨ i + 1 = s.length) : dl (i % 76) (s.drop i) = [c] ++ ([13, 10] ++ dl ((i + 1) % 76) (s.drop (i + 1))) := by
  rw [drop_cons h, dl]
  rcases q with q | q
  · rw [if_pos (Or.inl q), show (i + 1) % 76 = 0 by omega]; rfl
  · have e : s.drop (i + 1) = [] := List.drop_eq_nil_of_le (by omega)
    rw [if_pos (Or.inr e), e, dl, dl]; rfl
theorem dl_on {s : B} {i : Nat} {c : UInt8} (h : s[i]? = some c) (q1 : ¬ i % 76 = 75) (q2 : ¬ i + 1 = s.length) : dl (i % 76) (s.drop i) = [c] ++ dl ((i + 1) % 76) (s.drop (i + 1)) := by
  have hi := (List.getElem?_eq_some_iff.1 h).1
  rw [drop_cons h, dl, if_neg (fun e => by
    rcases e with e | e
    · exact q1 e
    · rw [List.drop_eq_nil_iff] at e; omega), show (i + 1) % 76 = i % 76 + 1 by omega]; rfl
set_option maxRecDepth 100000 in
set_option maxHeartbeats 4000000 in
theorem rencode_any (v : Value) (l : B) (w : World) (hR : BRd v l w) (hl : l.length ≤ 1000000) : Calls Tryd.prog 12 #[v] w fun e w' => ∃ xv, e = .returned xv ∧ OwnB w.heap.size xv (enc l) w' ∧ Kept w w' := by
  have HW := Lib.hid (rraw_any v l w hR hl)
  obtain ⟨a, c, hv⟩ := hR.slice
  have hle := raw_le l
  have HLE := Lib.hid (show (lin (raw l)).length ≤ 4000012 by have := lin_le (raw l); omega)
  have hsl : (raw l).length ≤ 2000004 := by omega
  rw [show enc l = lin (raw l) from rfl]
  have HD0 := Lib.hid (dl_lin _ (raw l) (Nat.le_refl _))
  clear hR hle
  subst hv
  generalize raw l = s at *
  go_enter Tryd.func12, Tryd.ntmps12
  go_wp2_with fail
  refine HW.out.mono ?_
  rintro e x ⟨rfl, k⟩
  have K0 := Lib.hid k
  have hs0 := k.size
  have hss : (ByteArray.mk s.toArray).size = s.length := List.size_toArray
  clear HW k
  go_wp2_with fail
  go_loopw [4, 5] (fun vm vi wr => ∃ (i : Nat) (D : B), i ≤ s.length ∧ vi = .int .i64 i ∧ Hid (D ++ dl (i % 76) (s.drop i) = lin s) ∧ Hid (Kept w wr) ∧ Hid (OwnB w.heap.size vm D wr)) (fun _ vi _ => s.length - (intOf vi).toNat)
  case atStart => exact ⟨0, [], Nat.zero_le _, rfl, HD0, K0, Lib.hid (OwnB.nil _ _)⟩
  case round =>
    obtain ⟨i, D, hi, rfl, hD, hK, hO⟩ := hrel
    obtain ⟨ta, tc, htv⟩ := own_slice hO.out
    have hDl := len_le hD.out
    have hDl := Nat.le_trans hDl HLE.out
    subst htv
    by_cases hlt : i < s.length
    · have hltI : (i : Int) < s.length := by omega
      obtain ⟨y, hy⟩ : ∃ y, s[i]? = some y := ⟨_, List.getElem?_eq_getElem hlt⟩
      have hat := byte_at s i y hy
      have HE1 := Lib.hid (fun q => hD.out.symm.trans (congrArg (D ++ ·) (dl_end hy q)))
      have HE2 := Lib.hid (fun q1 q2 => hD.out.symm.trans (congrArg (D ++ ·) (dl_on hy q1 q2)))
      have ky : Kept wr (wr.alloc (.cells #[.int .u8 y.toNat] 5)) := (Kept.refl wr).alloc _
      have OY := Lib.hid (hO.out.kept ky)
      have KY := Lib.hid (hK.out.trans ky)
      have hcy : (wr.alloc (.cells #[.int .u8 y.toNat] 5)).cell? ⟨wr.heap.size, 0, none⟩ = some (.int .u8 y.toNat) := (Kept.refl _).new 0 rfl
      have hszy := KY.out.size
      clear hy hD hO hK ky
      go_wp2_with (at_builtin; refine wpList_byteB rfl _ _ rfl w.heap.size (.slice ta D.length tc) D y wr.heap.size rfl OY.out rfl hcy (by omega) hszy ?_)
      intro v' z hz hgz
      have KZ := Lib.hid (kept_row KY.out hgz (fun g hg => (World.ownsRow.lt OY.out g hg).1))
      have OZ := Lib.hid hz
      have HDL := Lib.hid (show (D ++ [y]).length ≤ 4000013 by simp; omega)
      have HE1 := Lib.hid (fun q => (HE1.out q).trans (List.append_assoc D [y] _).symm)
      have HE2 := Lib.hid (fun q1 q2 => (HE2.out q1 q2).trans (List.append_assoc D [y] _).symm)
      obtain ⟨za, zc, hzv⟩ := own_slice hz
      subst hzv
      have hszz := KZ.out.size
      clear hz hgz OY KY hcy hat
      generalize D ++ [y] = D2 at *
      by_cases hq : i % 76 = 75 ∨ i + 1 = s.length
      · have HE := Lib.hid (HE1.out hq)
        have kz : Kept z (z.alloc (.cells #[.int .u8 13, .int .u8 10] 5)) := (Kept.refl z).alloc _
        have OX := Lib.hid (OZ.out.kept kz)
        have KX := Lib.hid (KZ.out.trans kz)
        have HBX := Lib.hid (brd_new z [13, 10] 5 #[.int .u8 13, .int .u8 10] rfl 2 (Nat.le_refl 2) (0, 0))
        have hszx := KX.out.size
        clear HE1 HE2 kz OZ KZ
        go_upto_region 7 with (fail)
        by_cases hq1 : i % 76 = 75
        · have hq1I : (i : Int) % 76 = 75 := by omega
          clear hq
          go_wp2_with (at_builtin; refine wpList_sliceB rfl _ _ rfl w.heap.size (.slice za D2.length zc) _ D2 [13, 10] rfl OX.out rfl HBX.out (by have := HDL.out; simp; omega) hszx ?_)
          intro v' z2 hz hgz
          have KF := Lib.hid (kept_row KX.out hgz (fun g hg => (World.ownsRow.lt OX.out g hg).1))
          have OF := Lib.hid hz
          have HEF := Lib.hid (HE.out.trans (List.append_assoc D2 [13, 10] _).symm)
          clear hz hgz OX KX HBX HE
          go_wp2_with fail
          go_roundw
          case rel => exact ⟨i + 1, D2 ++ [13, 10], hlt, by go_num, Lib.hid HEF.out.symm, KF, OF⟩
          case measure => simp [intOf]; omega
        · have hq1I : (((i : Int) % 76) == 75) = false := beq_eq_false_iff_ne.2 (by omega)
          have hq2I : ((i : Int) == (s.length : Int) - 1) = true := beq_iff_eq.2 (by omega)
          clear hq
          go_wp2_with (at_builtin; refine wpList_sliceB rfl _ _ rfl w.heap.size (.slice za D2.length zc) _ D2 [13, 10] rfl OX.out rfl HBX.out (by have := HDL.out; simp; omega) hszx ?_)
          intro v' z2 hz hgz
          have KF := Lib.hid (kept_row KX.out hgz (fun g hg => (World.ownsRow.lt OX.out g hg).1))
          have OF := Lib.hid hz
          have HEF := Lib.hid (HE.out.trans (List.append_assoc D2 [13, 10] _).symm)
          clear hz hgz OX KX HBX HE
          go_wp2_with fail
          go_roundw
          case rel => exact ⟨i + 1, D2 ++ [13, 10], hlt, by go_num, Lib.hid HEF.out.symm, KF, OF⟩
          case measure => simp [intOf]; omega
      · have hn1 : ¬ i % 76 = 75 := fun e => hq (Or.inl e)
        have hn2 : ¬ i + 1 = s.length := fun e => hq (Or.inr e)
        have HE := Lib.hid (HE2.out hn1 hn2)
        have hq1I : (((i : Int) % 76) == 75) = false := beq_eq_false_iff_ne.2 (by omega)
        have hq2I : ((i : Int) == (s.length : Int) - 1) = false := beq_eq_false_iff_ne.2 (by omega)
        clear HE1 HE2 hq hn1 hn2
        go_wp2_with fail
        go_roundw
        case rel => exact ⟨i + 1, D2, hlt, by go_num, Lib.hid HE.out.symm, KZ, OZ⟩
        case measure => simp [intOf]; omega
    · have hltI : ¬ (i : Int) < s.length := by omega
      have HF := Lib.hid (show D = lin s by rw [← hD.out, List.drop_eq_nil_of_le (Nat.le_of_not_lt hlt), dl, List.append_nil])
      clear hD
      go_wp2
      go_ret
      exact ⟨_, rfl, by rw [← HF.out]; exact hO.out, hK.out⟩
end Go.Proofs.YtcfheljkefceeaaDoor
