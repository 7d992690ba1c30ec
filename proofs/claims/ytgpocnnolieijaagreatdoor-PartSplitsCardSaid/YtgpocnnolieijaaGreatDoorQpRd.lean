/- The document's own Decode. -/
import Derived.Test.YtgpocnnolieijaaGreatDoorQpRb
import Derived.Test.YtgpocnnolieijaaGreatDoorMgO
set_option linter.unusedSimpArgs false
set_option linter.unusedVariables false
namespace Go.Proofs.YtgpocnnolieijaaGreatDoor.Qp
open Go.ChangeShapes Go.WideShapes Go.ChangeAt Go.RowKit
section
variable {l : B} {i : Nat} {c d e : UInt8}
theorem fst_crlf (hc : l[i]? = some c) (hd : l[i + 1]? = some d) (h : c.toNat = 13) (h2 : d.toNat = 10) : fst (l.drop i) = some (10, 2) := by
  rw [drop_cons hc, drop_cons hd]
  unfold fst
  simp only
  rw [if_neg (by omega), if_pos h, if_pos h2]
theorem fst_crx (hc : l[i]? = some c) (hd : l[i + 1]? = some d) (h : c.toNat = 13) (h2 : ¬ d.toNat = 10) : fst (l.drop i) = none := by
  rw [drop_cons hc, drop_cons hd]
  unfold fst
  simp only
  rw [if_neg (by omega), if_pos h, if_neg h2]
theorem fst_cre (hc : l[i]? = some c) (hl : l.length ≤ i + 1) (h : c.toNat = 13) : fst (l.drop i) = none := by
  rw [drop_cons hc, List.drop_eq_nil_of_le hl]
  unfold fst
  simp only
  rw [if_neg (by omega), if_pos h]
theorem fst_yes (hc : l[i]? = some c) (h : ¬ c.toNat = 61) (h2 : c.toNat = 9 ∨ 32 ≤ c.toNat ∧ c.toNat ≤ 126) : fst (l.drop i) = some (c, 1) := by
  rw [drop_cons hc, fst_lit h (by omega), if_pos]
  unfold isB isS
  simp only [decide_eq_true_eq]
  omega
theorem fst_no (hc : l[i]? = some c) (h : ¬ c.toNat = 61) (h1 : ¬ c.toNat = 13) (h2 : ¬ (c.toNat = 9 ∨ 32 ≤ c.toNat ∧ c.toNat ≤ 126)) : fst (l.drop i) = none := by
  rw [drop_cons hc, fst_lit h h1, if_neg]
  unfold isB isS
  simp only [decide_eq_true_eq]
  omega
theorem fst_two (hc : l[i]? = some c) (hd : l[i + 1]? = some d) (he : l[i + 2]? = some e) (h : c.toNat = 61) : fst (l.drop i) = (dg d).bind fun x => (dg e).map fun y => (UInt8.ofNat (16 * x + y), 3) := by
  rw [drop_cons hc, drop_cons hd, drop_cons he]
  unfold fst
  simp only
  rw [if_pos h]
theorem fst_short (hc : l[i]? = some c) (hl : l.length ≤ i + 2) (h : c.toNat = 61) : fst (l.drop i) = none := by
  rw [drop_cons hc, fst_eq h]
  have hr : (l.drop (i + 1)).length ≤ 1 := by simp; omega
  generalize l.drop (i + 1) = r at *
  match r, hr with
  | [], _ => rfl
  | [a], _ => rfl
theorem soft_two (hc : l[i]? = some c) (hd : l[i + 1]? = some d) (he : l[i + 2]? = some e) (h : c.toNat = 61) : soft (l.drop i) = decide (d.toNat = 13 ∧ e.toNat = 10) := by
  obtain rfl : c = 61 := UInt8.toNat_inj.1 (by rw [h]; rfl)
  rw [drop_cons hc, drop_cons hd, drop_cons he]
  unfold soft
  refine decide_eq_decide.2 ⟨fun q => ?_, fun q => ?_⟩
  · simp only [List.take_succ_cons, List.take_zero, List.cons.injEq, and_true, true_and] at q
    rw [q.1, q.2]; exact ⟨rfl, rfl⟩
  · rw [show d = 13 from UInt8.toNat_inj.1 (by rw [q.1]; rfl), show e = 10 from UInt8.toNat_inj.1 (by rw [q.2]; rfl)]
    rfl
theorem soft_short (hl : l.length ≤ i + 2) : soft (l.drop i) = false := by
  unfold soft
  refine decide_eq_false (fun q => ?_)
  have := congrArg List.length q
  simp at this
  omega
theorem soft_no (hc : l[i]? = some c) (h : ¬ c.toNat = 61) : soft (l.drop i) = false := by
  rw [drop_cons hc]; exact soft_ne h
theorem drop_ne (hc : l[i]? = some c) : l.drop i ≠ [] := by rw [drop_cons hc]; simp
/-- one piece more -/
theorem dec_more {D : B} {x : UInt8} {k : Nat} (hs : soft (l.drop i) = false) (hf : fst (l.drop i) = some (x, k)) (hD : (dec (l.drop i)).map (D ++ ·) = dec l) : (dec (l.drop (i + k))).map ((D ++ [x]) ++ ·) = dec l := by
  rw [← hD, dec_some1 hs hf, List.drop_drop]
theorem dec_fail {D : B} (hc : l[i]? = some c) (hs : soft (l.drop i) = false) (hf : fst (l.drop i) = none) (hD : (dec (l.drop i)).map (D ++ ·) = dec l) : dec l = none := by
  rw [← hD, dec_none (drop_ne hc) hs hf]; rfl
theorem dec_skip {D : B} (hs : soft (l.drop i) = true) (hD : (dec (l.drop i)).map (D ++ ·) = dec l) : (dec (l.drop (i + 3))).map (D ++ ·) = dec l := by
  rw [← hD, dec_soft hs, List.drop_drop]
end
set_option maxRecDepth 100000 in
set_option maxHeartbeats 4000000 in
theorem rdecode_any (v : Value) (l : B) (w : World) (hR : BRd v l w) (hl : l.length ≤ 1000000) : Calls Tryz.prog 49 #[v] w fun e w' => ∃ xv, e = .returned xv ∧ DecR w.heap.size l xv w' ∧ Kept w w' := by
  obtain ⟨a, c, hv⟩ := hR.slice
  have HR := Lib.hid hR
  clear hR
  subst hv
  go_enter Tryz.func49, Tryz.ntmps49
  go_wp2_with fail
  go_loopw [4, 5] (fun vt vi wr => ∃ (i : Nat) (D : B), i ≤ l.length ∧ D.length ≤ i ∧ vi = .int .i64 i ∧ Hid ((dec (l.drop i)).map (D ++ ·) = dec l) ∧ Hid (Kept w wr) ∧ Hid (OwnB w.heap.size vt D wr)) (fun _ vi _ => l.length - (intOf vi).toNat)
  case atStart => exact ⟨0, [], Nat.zero_le _, Nat.zero_le _, rfl, Lib.hid (by simp), Lib.hid (Kept.refl w), Lib.hid (OwnB.nil _ _)⟩
  case round =>
    obtain ⟨i, D, hi, hDi, rfl, hD, hK, hO⟩ := hrel
    rename_i vt wr
    obtain ⟨ta, tc, htv⟩ := own_slice hO.out
    have hsz := hK.out.size
    subst htv
    by_cases hlt : i < l.length
    · have hltI : (i : Int) < l.length := by omega
      obtain ⟨x, hx⟩ : ∃ x, l[i]? = some x := ⟨_, List.getElem?_eq_getElem hlt⟩
      have HX := Lib.hid hx
      have hRw := HR.out.kept hK.out
      obtain ⟨g, o, cp, hv', hcp, cell⟩ := hRw.at hx
      cases hv'
      have HW := Lib.hid hRw
      clear hx hRw
      by_cases h13 : (x.toNat : Int) = 13
      · rw [h13] at cell
        have hs := soft_no HX.out (by omega : ¬ x.toNat = 61)
        by_cases h2 : (i : Int) + 1 < l.length
        · obtain ⟨d, hd⟩ : ∃ d, l[i + 1]? = some d := ⟨_, List.getElem?_eq_getElem (by omega)⟩
          obtain ⟨g2, o2, cp2, hv2, _, c1⟩ := HW.out.at hd
          cases hv2
          by_cases h10 : (d.toNat : Int) = 10
          · rw [h10] at c1
            have HE := Lib.hid (dec_more hs (fst_crlf HX.out hd (by omega) (by omega)) hD.out)
            clear hs hd hD
            have kx : Kept wr (wr.alloc (.cells #[.int .u8 10] 5)) := (Kept.refl wr).alloc _
            have OX := Lib.hid (hO.out.kept kx)
            have KX := Lib.hid (hK.out.trans kx)
            have hcx : (wr.alloc (.cells #[.int .u8 10] 5)).cell? ⟨wr.heap.size, 0, none⟩ = some (.int .u8 10) := (Kept.refl _).new 0 rfl
            have hszx := KX.out.size
            clear kx hK hO
            go_upto_region 7 with (fail)
            go_wp2_with (at_builtin; refine wpList_byteB rfl _ _ rfl w.heap.size (.slice ta D.length tc) D 10 wr.heap.size rfl OX.out rfl hcx (by omega) hszx ?_)
            intro v' z hz hgz
            have KZ := Lib.hid (kept_row KX.out hgz (fun g hg => (World.ownsRow.lt OX.out g hg).1))
            have OZ := Lib.hid hz
            have HDL := Lib.hid (show (D ++ [10]).length = D.length + 1 by simp)
            clear hz hgz OX KX hcx
            generalize D ++ [10] = D2 at *
            go_wp2_with fail
            go_roundw
            case rel => exact ⟨i + 2, D2, by omega, by have := HDL.out; omega, by go_num, HE, KZ, OZ⟩
            case measure => simp [intOf]; omega
          · have HF := Lib.hid (dec_fail HX.out hs (fst_crx HX.out hd (by omega) (by omega)) hD.out)
            clear hs hd hD
            go_wp2_with fail
            go_ret2
            refine ⟨_, rfl, ⟨.slice none 0 0, ?_, ?_⟩, hK.out⟩
            · rw [HF.out]; exact OwnB.nil _ _
            · rw [dE_none HF.out]; rfl
        · have HF := Lib.hid (dec_fail HX.out hs (fst_cre HX.out (by omega) (by omega)) hD.out)
          clear hs hD
          go_wp2_with fail
          go_ret2
          refine ⟨_, rfl, ⟨.slice none 0 0, ?_, ?_⟩, hK.out⟩
          · rw [HF.out]; exact OwnB.nil _ _
          · rw [dE_none HF.out]; rfl
      by_cases h61 : (x.toNat : Int) = 61
      · rw [h61] at cell
        by_cases h2 : (l.length : Int) ≤ (i : Int) + 2
        · have HF := Lib.hid (dec_fail HX.out (soft_short (by omega)) (fst_short HX.out (by omega) (by omega)) hD.out)
          clear hD
          go_wp2_with fail
          go_ret2
          refine ⟨_, rfl, ⟨.slice none 0 0, ?_, ?_⟩, hK.out⟩
          · rw [HF.out]; exact OwnB.nil _ _
          · rw [dE_none HF.out]; rfl
        · obtain ⟨d, hd⟩ : ∃ d, l[i + 1]? = some d := ⟨_, List.getElem?_eq_getElem (by omega)⟩
          obtain ⟨e, he⟩ : ∃ e, l[i + 2]? = some e := ⟨_, List.getElem?_eq_getElem (by omega)⟩
          obtain ⟨g2, o2, cp2, hv2, _, c1⟩ := HW.out.at hd
          cases hv2
          obtain ⟨g3, o3, cp3, hv3, _, c2⟩ := HW.out.at he
          cases hv3
          have hs2 := soft_two HX.out hd he (by omega)
          have hf2 := fst_two HX.out hd he (by omega)
          have h1I : (i : Int) + 1 < l.length := by omega
          have h2I : (i : Int) + 2 < l.length := by omega
          clear hd he
          go_wp2_with fail
          refine (digit_any d wr).mono ?_
          rintro e1 y1 ⟨rfl, rfl⟩
          go_wp2_with fail
          refine (digit_any e y1).mono ?_
          rintro e2 y2 ⟨rfl, rfl⟩
          by_cases hcr : (d.toNat : Int) = 13 ∧ (e.toNat : Int) = 10
          · have HE := Lib.hid (dec_skip (hs2.trans (decide_eq_true (by omega))) hD.out)
            rw [hcr.1] at c1
            rw [hcr.2] at c2
            clear hs2 hf2 hD hcr
            go_wp2_with fail
            go_roundw
            case rel => exact ⟨i + 3, D, by omega, by omega, by go_num, HE, hK, hO⟩
            case measure => simp [intOf]; omega
          · have hs := hs2.trans (decide_eq_false (by omega))
            have hcc : ((d.toNat : Int) == 13 && (e.toNat : Int) == 10) = false := by
              rw [Bool.and_eq_false_iff, beq_eq_false_iff_ne, beq_eq_false_iff_ne]; omega
            clear hs2
            cases hg : dg d with
            | none =>
              have HF := Lib.hid (dec_fail HX.out hs (by rw [hf2, hg]; rfl) hD.out)
              have hI : dgI d = -1 := by unfold dgI; rw [hg]
              clear hs hf2 hD hg
              rw [hI]
              by_cases h13' : (d.toNat : Int) = 13
              · have h10' : ((e.toNat : Int) == 10) = false := by rw [beq_eq_false_iff_ne]; omega
                rw [h13'] at c1
                clear hcr hcc
                go_wp2_with fail
                go_ret2
                refine ⟨_, rfl, ⟨.slice none 0 0, ?_, ?_⟩, hK.out⟩
                · rw [HF.out]; exact OwnB.nil _ _
                · rw [dE_none HF.out]; rfl
              · clear hcr hcc
                go_wp2_with fail
                go_ret2
                refine ⟨_, rfl, ⟨.slice none 0 0, ?_, ?_⟩, hK.out⟩
                · rw [HF.out]; exact OwnB.nil _ _
                · rw [dE_none HF.out]; rfl
            | some m =>
              have hm := dg_lt hg
              have h13' : ¬ (d.toNat : Int) = 13 := fun q => by
                have : d = 13 := UInt8.toNat_inj.1 (show d.toNat = 13 by omega)
                rw [this, show dg 13 = none by decide] at hg
                cases hg
              have hI : dgI d = m := by unfold dgI; rw [hg]
              cases hg2 : dg e with
              | none =>
                have HF := Lib.hid (dec_fail HX.out hs (by rw [hf2, hg, hg2]; rfl) hD.out)
                have hI2 : dgI e = -1 := by unfold dgI; rw [hg2]
                clear hs hf2 hD hg hg2 hcr hcc
                rw [hI, hI2]
                go_wp2_with fail
                go_ret2
                refine ⟨_, rfl, ⟨.slice none 0 0, ?_, ?_⟩, hK.out⟩
                · rw [HF.out]; exact OwnB.nil _ _
                · rw [dE_none HF.out]; rfl
              | some n =>
                have hn := dg_lt hg2
                have hI2 : dgI e = n := by unfold dgI; rw [hg2]
                have HE := Lib.hid (dec_more hs (by rw [hf2, hg, hg2]; rfl) hD.out)
                clear hs hf2 hD hg hg2 hcr hcc
                rw [hI, hI2]
                have hb := Lib.hid (show ((UInt8.ofNat (16 * m + n)).toNat : Int) = 16 * (m : Int) + n by rw [UInt8.toNat_ofNat']; omega)
                have m0 : ¬ (m : Int) < 0 := by omega
                have n0 : ¬ (n : Int) < 0 := by omega
                have mb : 16 * (m : Int) + n ≤ 255 := by omega
                generalize UInt8.ofNat (16 * m + n) = ch at *
                have kx : Kept y2 (y2.alloc (.cells #[.int .u8 (16 * (m : Int) + n)] 5)) := (Kept.refl y2).alloc _
                have OX := Lib.hid (hO.out.kept kx)
                have KX := Lib.hid (hK.out.trans kx)
                have hcx : (y2.alloc (.cells #[.int .u8 (16 * (m : Int) + n)] 5)).cell? ⟨y2.heap.size, 0, none⟩ = some (.int .u8 ch.toNat) := by
                  rw [hb.out]; exact (Kept.refl _).new 0 rfl
                have hszx := KX.out.size
                clear kx hK hO
                go_upto_region 21 with (fail)
                go_wp2_with (at_builtin; refine wpList_byteB rfl _ _ rfl w.heap.size (.slice ta D.length tc) D ch y2.heap.size rfl OX.out rfl hcx (by omega) hszx ?_)
                intro v' z hz hgz
                have KZ := Lib.hid (kept_row KX.out hgz (fun g hg => (World.ownsRow.lt OX.out g hg).1))
                have OZ := Lib.hid hz
                have HDL := Lib.hid (show (D ++ [ch]).length = D.length + 1 by simp)
                clear hz hgz OX KX hcx
                generalize D ++ [ch] = D2 at *
                go_wp2_with fail
                go_roundw
                case rel => exact ⟨i + 3, D2, by omega, by have := HDL.out; omega, by go_num, HE, KZ, OZ⟩
                case measure => simp [intOf]; omega
      · have hs := soft_no HX.out (by omega : ¬ x.toNat = 61)
        by_cases h9 : (x.toNat : Int) = 9
        · have HE := Lib.hid (dec_more hs (fst_yes HX.out (by omega) (by omega)) hD.out)
          clear hs hD
          obtain rfl : x = 9 := UInt8.toNat_inj.1 (show x.toNat = 9 by omega)
          rw [h9] at cell
          have kx : Kept wr (wr.alloc (.cells #[.int .u8 9] 5)) := (Kept.refl wr).alloc _
          have OX := Lib.hid (hO.out.kept kx)
          have KX := Lib.hid (hK.out.trans kx)
          have hcx : (wr.alloc (.cells #[.int .u8 9] 5)).cell? ⟨wr.heap.size, 0, none⟩ = some (.int .u8 9) := (Kept.refl _).new 0 rfl
          have hszx := KX.out.size
          clear kx hK hO
          go_upto_region 12 with (fail)
          go_wp2_with (at_builtin; refine wpList_byteB rfl _ _ rfl w.heap.size (.slice ta D.length tc) D 9 wr.heap.size rfl OX.out rfl hcx (by omega) hszx ?_)
          intro v' z hz hgz
          have KZ := Lib.hid (kept_row KX.out hgz (fun g hg => (World.ownsRow.lt OX.out g hg).1))
          have OZ := Lib.hid hz
          have HDL := Lib.hid (show (D ++ [9]).length = D.length + 1 by simp)
          clear hz hgz OX KX hcx
          generalize D ++ [9] = D2 at *
          go_wp2_with fail
          go_roundw
          case rel => exact ⟨i + 1, D2, by omega, by have := HDL.out; omega, by go_num, HE, KZ, OZ⟩
          case measure => simp [intOf]; omega
        by_cases h32 : (x.toNat : Int) < 32
        · have HF := Lib.hid (dec_fail HX.out hs (fst_no HX.out (by omega) (by omega) (by omega)) hD.out)
          clear hs hD
          go_wp2_with fail
          go_ret2
          refine ⟨_, rfl, ⟨.slice none 0 0, ?_, ?_⟩, hK.out⟩
          · rw [HF.out]; exact OwnB.nil _ _
          · rw [dE_none HF.out]; rfl
        by_cases h126 : 126 < (x.toNat : Int)
        · have HF := Lib.hid (dec_fail HX.out hs (fst_no HX.out (by omega) (by omega) (by omega)) hD.out)
          clear hs hD
          go_wp2_with fail
          go_ret2
          refine ⟨_, rfl, ⟨.slice none 0 0, ?_, ?_⟩, hK.out⟩
          · rw [HF.out]; exact OwnB.nil _ _
          · rw [dE_none HF.out]; rfl
        · have HE := Lib.hid (dec_more hs (fst_yes HX.out (by omega) (by omega)) hD.out)
          clear hs hD
          have kx : Kept wr (wr.alloc (.cells #[.int .u8 x.toNat] 5)) := (Kept.refl wr).alloc _
          have OX := Lib.hid (hO.out.kept kx)
          have KX := Lib.hid (hK.out.trans kx)
          have hcx : (wr.alloc (.cells #[.int .u8 x.toNat] 5)).cell? ⟨wr.heap.size, 0, none⟩ = some (.int .u8 x.toNat) := (Kept.refl _).new 0 rfl
          have hszx := KX.out.size
          clear kx hK hO
          go_upto_region 12 with (fail)
          go_wp2_with (at_builtin; refine wpList_byteB rfl _ _ rfl w.heap.size (.slice ta D.length tc) D x wr.heap.size rfl OX.out rfl hcx (by omega) hszx ?_)
          intro v' z hz hgz
          have KZ := Lib.hid (kept_row KX.out hgz (fun g hg => (World.ownsRow.lt OX.out g hg).1))
          have OZ := Lib.hid hz
          have HDL := Lib.hid (show (D ++ [x]).length = D.length + 1 by simp)
          clear hz hgz OX KX hcx
          generalize D ++ [x] = D2 at *
          go_wp2_with fail
          go_roundw
          case rel => exact ⟨i + 1, D2, by omega, by have := HDL.out; omega, by go_num, HE, KZ, OZ⟩
          case measure => simp [intOf]; omega
    · have hltI : ¬ (i : Int) < l.length := by omega
      have HF := Lib.hid (show dec l = some D by rw [← hD.out, List.drop_eq_nil_of_le (by omega), dec_nil]; simp)
      clear hD
      go_wp2
      go_ret2
      refine ⟨_, rfl, ⟨.slice ta D.length tc, ?_, ?_⟩, hK.out⟩
      · rw [HF.out]; exact hO.out
      · rw [dE_some HF.out]; rfl
end Go.Proofs.YtgpocnnolieijaaGreatDoor.Qp
