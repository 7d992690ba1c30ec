/- Package b64's Raw. -/
import Derived.Test.YtdhhlcgmkkpldaaGreatDoorBxF
set_option linter.unusedSimpArgs false
set_option linter.unusedVariables false
namespace Go.Proofs.YtdhhlcgmkkpldaaGreatDoor
open Go.ChangeShapes Go.WideShapes Go.ChangeAt Go.RowKit
open Bx
theorem len_le {a b c : B} (h : a ++ b = c) : a.length ≤ c.length := by rw [← h, List.length_append]; omega
theorem raw_le (b : B) : (raw b).length ≤ 2 * b.length + 4 := by rw [raw_len]; omega
set_option maxRecDepth 100000 in
set_option maxHeartbeats 4000000 in
theorem raw_any (v : Value) (l : B) (w : World) (hR : BRd v l w) (hl : l.length ≤ 1000000) : Calls Tryz.prog 56 #[v] w fun e w' => e = .returned (sV (raw l)) ∧ Kept w w' := by
  obtain ⟨a, c, hv⟩ := hR.slice
  have HB := Lib.hid (BOld.of hR)
  have hle := raw_le l
  have HLE := Lib.hid (show (raw l).length ≤ 2000004 by omega)
  clear hR hle
  subst hv
  go_enter Tryz.func56, Tryz.ntmps56
  go_wp2_with fail
  go_loopw [0, 3] (fun vb vm wr => ∃ (r D : B), r.length ≤ l.length ∧ Hid (BOld w.heap.size vb r wr) ∧ Hid (D ++ raw r = raw l) ∧ Hid (Kept w wr) ∧ Hid (OwnB w.heap.size vm D wr)) (fun vb _ _ => match vb with | .slice _ n _ => n | _ => 0)
  case atStart => exact ⟨l, [], Nat.le_refl _, HB, Lib.hid rfl, Lib.hid (Kept.refl w), Lib.hid (OwnB.nil _ _)⟩
  case round =>
    obtain ⟨r, D, hr, hB, hD, hK, hO⟩ := hrel
    obtain ⟨ta, tc, htv⟩ := own_slice hO.out
    have hDl := len_le hD.out
    have hDl := Nat.le_trans hDl HLE.out
    have hsz := hK.out.size
    subst htv
    by_cases hne : r = []
    · obtain ⟨ra, rc, hrv⟩ := hB.out.1.slice
      have HF := Lib.hid (show D = raw l by rw [← hD.out, hne]; simp [raw])
      have hr0 : r.length = 0 := by rw [hne]; rfl
      subst hrv
      have hcv := hO.out.rd.conv
      clear hD hB hO hne
      rw [hr0]
      go_wp2
      go_ret
      exact ⟨by rw [HF.out]; rfl, hK.out⟩
    · have hpos := List.length_pos_iff.2 hne
      obtain ⟨g, o, rc, hrv⟩ : ∃ g o c, u0 = .slice (some ⟨g, o, none⟩) r.length c := by
        obtain ⟨x, hx⟩ : ∃ x, r[0]? = some x := ⟨_, List.getElem?_eq_getElem hpos⟩
        obtain ⟨g, o, c, h, _⟩ := hB.out.1.at hx
        exact ⟨g, o, c, h⟩
      have HNE := Lib.hid hne
      have hgl := hB.out.2 hne g (by rw [hrv]; rfl)
      subst hrv
      have hposI : (0 : Int) < r.length := by omega
      have HC := Lib.hid (cut_any g o 3 rc r wr hB.out.1 hne (by decide) (by decide) (by unfold maxLen; omega))
      have HFB := Lib.hid (hB.out.1.full (min 3 r.length) (Nat.min_le_right _ _))
      have ht3 : (r.take 3).length = min 3 r.length := by simp
      have ht1 : 1 ≤ (r.take 3).length := by rw [ht3]; omega
      have ht2 : (r.take 3).length ≤ 3 := by rw [ht3]; omega
      have htt : r.take (min 3 r.length) = r.take 3 := by
        rcases Nat.le_total 3 r.length with q | q
        · rw [Nat.min_eq_left q]
        · rw [Nat.min_eq_right q, List.take_length, List.take_of_length_le q]
      rw [htt, ← ht3] at HFB
      have HD2 := Lib.hid (show (D ++ raw (r.take 3)) ++ raw (r.drop 3) = raw l by rw [← hD.out, raw_cut r, List.append_assoc])
      have hdl : (r.drop 3).length < r.length := by simp; omega
      have hrl := raw_le (r.take 3)
      clear hne hD hB ht3 htt
      generalize r.take 3 = t at *
      generalize r.drop 3 = d at *
      go_wp2_with fail
      refine HC.out.mono ?_
      rintro e x ⟨yv, rfl, k1, hy, hyo⟩
      have K1 := Lib.hid (hK.out.trans k1)
      have O1 := Lib.hid (hO.out.kept k1)
      have F1 := Lib.hid (HFB.out.kept k1)
      have Y1 := Lib.hid (show BOld w.heap.size yv d x from ⟨hy.kept k1, fun _ g' hg' => by rw [hyo] at hg'; cases hg'; exact hgl⟩)
      clear hK hO HFB HC hy hyo k1
      go_wp2_with fail
      refine (four_any g o t x ht1 ht2 F1.out).mono ?_
      rintro e y ⟨xv, rfl, hx, k2⟩
      have K2 := Lib.hid (K1.out.trans k2)
      have O2 := Lib.hid (O1.out.kept k2)
      have X2 := Lib.hid hx
      have Y2 := Lib.hid (Y1.out.kept k2)
      obtain ⟨xa, xc, hxv⟩ := hx.slice
      subst hxv
      have hszy := K2.out.size
      clear hx k2 K1 O1 F1 Y1
      generalize raw t = T at *
      go_wp2_with (at_builtin; refine wpList_sliceB rfl _ _ rfl w.heap.size (.slice ta D.length tc) (.slice xa T.length xc) D T rfl O2.out rfl X2.out (by omega) hszy ?_)
      intro v' z hz hgz
      have KZ := Lib.hid (kept_row K2.out hgz (fun g hg => (World.ownsRow.lt O2.out g hg).1))
      have YZ := Lib.hid (Y2.out.grow hgz (fun g hg => (World.ownsRow.lt O2.out g hg).1))
      have OZ := Lib.hid hz
      clear hz hgz O2 K2 X2 Y2
      go_wp2_with fail
      go_roundw
      case rel => exact ⟨d, D ++ T, by omega, YZ, HD2, KZ, OZ⟩
      case measure =>
        obtain ⟨ya, yc, hyv⟩ := YZ.out.1.slice
        subst hyv
        simpa using hdl
end Go.Proofs.YtdhhlcgmkkpldaaGreatDoor
