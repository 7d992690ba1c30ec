/- Package b64's Encode. -/
import Derived.Test.YtcfheljkefceeaaDoorBxR
set_option linter.unusedSimpArgs false
set_option linter.unusedVariables false
namespace Go.Proofs.YtcfheljkefceeaaDoor
open Go.ChangeShapes Go.WideShapes Go.ChangeAt Go.RowKit
open Bx
theorem lin_le (s : B) : (lin s).length ≤ 2 * s.length + 4 := by
  rw [lin_len _ _ (Nat.le_refl _)]; omega
set_option maxRecDepth 100000 in
set_option maxHeartbeats 4000000 in
theorem encode_any (v : Value) (l : B) (w : World) (hR : BRd v l w) (hl : l.length ≤ 1000000) : Calls Tryd.prog 11 #[v] w fun e w' => ∃ xv, e = .returned xv ∧ OwnB w.heap.size xv (enc l) w' ∧ Kept w w' := by
  have HW := Lib.hid (raw_any v l w hR hl)
  obtain ⟨a, c, hv⟩ := hR.slice
  have hle := raw_le l
  have HLE := Lib.hid (show (lin (raw l)).length ≤ 4000012 by have := lin_le (raw l); omega)
  have hsl : (raw l).length ≤ 2000004 := by omega
  rw [show enc l = lin (raw l) from rfl]
  clear hR hle
  subst hv
  generalize raw l = s at *
  go_enter Tryd.func11, Tryd.ntmps11
  go_wp2_with fail
  refine HW.out.mono ?_
  rintro e x ⟨rfl, k⟩
  clear HW
  obtain ⟨cp, w1, hcv, hk1, hR1⟩ := to_bytes s x
  have HB := Lib.hid (BOld.of hR1)
  have K1 := Lib.hid (k.trans hk1)
  have hs1 := K1.out.size
  clear hk1 hR1 k
  go_wp2_with fail
  clear hcv
  go_loopw [3, 4] (fun vm vb wr => ∃ (r D : B), r.length ≤ s.length ∧ Hid (BOld w1.heap.size vb r wr) ∧ Hid (D ++ lin r = lin s) ∧ Hid (Kept w wr) ∧ Hid (w1.heap.size ≤ wr.heap.size) ∧ Hid (OwnB w1.heap.size vm D wr)) (fun _ vb _ => match vb with | .slice _ n _ => n | _ => 0)
  case atStart => exact ⟨s, [], Nat.le_refl _, HB, Lib.hid rfl, K1, Lib.hid (Nat.le_refl _), Lib.hid (OwnB.nil _ _)⟩
  case round =>
    obtain ⟨r, D, hr, hB, hD, hK, hZ, hO⟩ := hrel
    obtain ⟨ta, tc, htv⟩ := own_slice hO.out
    have hDl := len_le hD.out
    have hDl := Nat.le_trans hDl HLE.out
    subst htv
    by_cases hne : r = []
    · obtain ⟨ra, rc, hrv⟩ := hB.out.1.slice
      have HF := Lib.hid (show D = lin s by rw [← hD.out, hne, lin_nil, List.append_nil])
      have hr0 : r.length = 0 := by rw [hne]; rfl
      have HO := Lib.hid (own_mono hO.out hs1)
      subst hrv
      clear hD hB hne hO
      rw [hr0]
      go_wp2
      go_ret
      exact ⟨_, rfl, by rw [← HF.out]; exact HO.out, hK.out⟩
    · have hpos := List.length_pos_iff.2 hne
      obtain ⟨g, o, rc, hrv⟩ : ∃ g o c, u4 = .slice (some ⟨g, o, none⟩) r.length c := by
        obtain ⟨x, hx⟩ : ∃ x, r[0]? = some x := ⟨_, List.getElem?_eq_getElem hpos⟩
        obtain ⟨g, o, c, h, _⟩ := hB.out.1.at hx
        exact ⟨g, o, c, h⟩
      have hgl := hB.out.2 hne g (by rw [hrv]; rfl)
      subst hrv
      have hposI : (0 : Int) < r.length := by omega
      have HC := Lib.hid (cut_any g o 76 rc r wr hB.out.1 hne (by decide) (by decide) (by unfold maxLen; omega))
      have HFB := Lib.hid (hB.out.1.full (min 76 r.length) (Nat.min_le_right _ _))
      have ht3 : (r.take 76).length = min 76 r.length := by simp
      have ht1 : r.take 76 ≠ [] := fun e => by rw [e] at ht3; simp at ht3; omega
      have ht2 : (r.take 76).length ≤ 76 := by rw [ht3]; omega
      have htt : r.take (min 76 r.length) = r.take 76 := by
        rcases Nat.le_total 76 r.length with q | q
        · rw [Nat.min_eq_left q]
        · rw [Nat.min_eq_right q, List.take_length, List.take_of_length_le q]
      rw [htt, ← ht3] at HFB
      have HD2 := Lib.hid (show (D ++ (r.take 76 ++ [13, 10])) ++ lin (r.drop 76) = lin s by rw [← hD.out, lin_more hne]; simp)
      have hdl : (r.drop 76).length < r.length := by simp; omega
      have HT1 := Lib.hid ht1
      clear hne hD hB ht3 htt ht1
      generalize r.take 76 = t at *
      generalize r.drop 76 = d at *
      go_wp2_with fail
      refine HC.out.mono ?_
      rintro e x1 ⟨yv, rfl, k1, hy, hyo⟩
      have K2 := Lib.hid (hK.out.trans k1)
      have O2 := Lib.hid (hO.out.kept k1)
      have F2 := Lib.hid (HFB.out.kept k1)
      have Z2 := Lib.hid (Nat.le_trans hZ.out k1.size)
      have Y2 := Lib.hid (show BOld w1.heap.size yv d x1 from ⟨hy.kept k1, fun _ g' hg' => by rw [hyo] at hg'; cases hg'; exact hgl⟩)
      clear hK hO HFB HC hy hyo k1 hZ
      go_upto_region 6 with (fail)
      go_wp2_with (at_builtin; refine wpList_fullS rfl _ _ rfl g o t [13, 10] rfl F2.out rfl HT1.out (by decide) (by simp; omega) ?_)
      intro v3 x3 hx3 k3
      have K3 := Lib.hid (K2.out.trans k3)
      have O3 := Lib.hid (O2.out.kept k3)
      have Y3 := Lib.hid (Y2.out.kept k3)
      have Z3 := Lib.hid (Nat.le_trans Z2.out k3.size)
      have X3 := Lib.hid hx3
      obtain ⟨xa, xc, hxv⟩ := hx3.slice
      subst hxv
      have HTL := Lib.hid (show (t ++ [13, 10]).length ≤ 78 by simp; omega)
      clear hx3 k3 K2 O2 F2 Z2 Y2
      generalize t ++ [13, 10] = T at *
      go_wp2_with (at_builtin; refine wpList_sliceB rfl _ _ rfl w1.heap.size (.slice ta D.length tc) (.slice xa T.length xc) D T rfl O3.out rfl X3.out (by have := HTL.out; omega) Z3.out ?_)
      intro v' z hz hgz
      have KZ := Lib.hid (kept_row K3.out hgz (fun g hg => Nat.le_trans hs1 (World.ownsRow.lt O3.out g hg).1))
      have YZ := Lib.hid (Y3.out.grow hgz (fun g hg => (World.ownsRow.lt O3.out g hg).1))
      have ZZ := Lib.hid (Nat.le_trans Z3.out hgz.size)
      have OZ := Lib.hid hz
      clear hz hgz O3 K3 X3 Y3
      go_wp2_with fail
      go_roundw
      case rel => exact ⟨d, D ++ T, by omega, YZ, HD2, KZ, ZZ, OZ⟩
      case measure =>
        obtain ⟨ya, yc, hyv⟩ := YZ.out.1.slice
        subst hyv
        simpa using hdl
end Go.Proofs.YtcfheljkefceeaaDoor
