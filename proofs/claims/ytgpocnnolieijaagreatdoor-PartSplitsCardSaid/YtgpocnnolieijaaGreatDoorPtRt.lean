/- The document's answer for package part: Split: the walk. -/
import Derived.Test.YtgpocnnolieijaaGreatDoorPtRs
set_option linter.unusedSimpArgs false
set_option linter.unusedVariables false
namespace Go.Proofs.YtgpocnnolieijaaGreatDoor.Pt
open Go.ChangeShapes Go.WideShapes Go.ChangeAt Go.RowKit Go.Shelf
open Hd (SRd OwnS)
theorem spl_rno {b x : B} (h : rds x 9 b = none) : spl b x = none := by rw [spl_R, h]
theorem spl_rsome {b x r : B} {ks ls : List B} (h : rds x 9 b = some (ks.zip ls, r)) (hk : ks.length = ls.length) : spl b x = if (r = 45 :: 45 :: (x ++ [45, 45, 13, 10]) ∧ okJ ks ls = true) ∧ (x = b0 ∧ jB ks ls = b) then some (ks.zip ls) else none := by
  have ho : okJ ks ls = okP (ks.zip ls) := by unfold okJ; rw [decide_eq_true hk, Bool.true_and]
  rw [spl_R, h, ho]
  simp only
  by_cases h1 : okP (ks.zip ls) = true
  · rw [(j_yes (ho.trans h1)).1]
  · rw [if_neg (fun h => h1 h.1.2), if_neg (fun h => h1 h.1.2)]
/-- how far the document's rounds have come -/
def Rw (x b : B) (i m : Nat) (ks ls : List B) : Prop := ks.length = m ∧ ls.length = m ∧ m ≤ 9 ∧ rds x 9 b = (rds x (9 - m) (b.drop i)).map fun z => (ks.zip ls ++ z.1, z.2)
theorem Rw.stop {x b : B} {i m : Nat} {ks ls : List B} (h : Rw x b i m ks ls) (hs : 9 ≤ m ∨ (45 :: 45 :: (x ++ [13, 10])).isPrefixOf (b.drop i) = false) : rds x 9 b = some (ks.zip ls, b.drop i) := by
  obtain ⟨h1, h2, h3, h4⟩ := h
  rw [h4]
  have : rds x (9 - m) (b.drop i) = some ([], b.drop i) := by
    rcases hs with hs | hs
    · rw [show 9 - m = 0 by omega]; rfl
    · cases h9 : 9 - m with
      | zero => rfl
      | succ f => rw [rds, if_neg (by rw [hs]; decide)]
  rw [this]; simp
theorem Rw.bad {x b : B} {i m : Nat} {ks ls : List B} (h : Rw x b i m ks ls) (hm : m ≤ 8) (hp : (45 :: 45 :: (x ++ [13, 10])).isPrefixOf (b.drop i) = true) (hi : Lib.index (b.drop (i + (x.length + 4))) (45 :: 45 :: x) = -1) : spl b x = none := by
  obtain ⟨h1, h2, h3, h4⟩ := h
  apply spl_rno
  rw [h4, show 9 - m = (8 - m) + 1 by omega, rds, if_pos hp, List.drop_drop, if_pos hi]; rfl
theorem Rw.no {x b : B} {i m j : Nat} {ks ls : List B} (h : Rw x b i m ks ls) (hm : m ≤ 8) (hp : (45 :: 45 :: (x ++ [13, 10])).isPrefixOf (b.drop i) = true) (hi : Lib.index (b.drop (i + (x.length + 4))) (45 :: 45 :: x) = j) (ho : one ((b.drop (i + (x.length + 4))).take j) = none) : spl b x = none := by
  obtain ⟨h1, h2, h3, h4⟩ := h
  apply spl_rno
  rw [h4, show 9 - m = (8 - m) + 1 by omega, rds, if_pos hp, List.drop_drop]
  simp only [hi]
  rw [if_neg (by omega), Int.toNat_natCast, ho]; rfl
theorem Rw.next {x b : B} {i m j : Nat} {ks ls : List B} (h : Rw x b i m ks ls) (hm : m ≤ 8) (hp : (45 :: 45 :: (x ++ [13, 10])).isPrefixOf (b.drop i) = true) (hi : Lib.index (b.drop (i + (x.length + 4))) (45 :: 45 :: x) = j) {t d : B} (ho : one ((b.drop (i + (x.length + 4))).take j) = some (t, d)) : Rw x b (i + (x.length + 4) + j) (m + 1) (ks ++ [t]) (ls ++ [d]) := by
  obtain ⟨h1, h2, h3, h4⟩ := h
  refine ⟨by simp [h1], by simp [h2], by omega, ?_⟩
  have hz : (ks ++ [t]).zip (ls ++ [d]) = ks.zip ls ++ [(t, d)] := by
    rw [List.zip_append (by omega)]; rfl
  rw [h4, show 9 - m = (8 - m) + 1 by omega, rds, if_pos hp, List.drop_drop]
  simp only [hi]
  rw [if_neg (by omega), Int.toNat_natCast, ho, List.drop_drop, hz, show 9 - (m + 1) = 8 - m by omega]
  cases rds x (8 - m) (b.drop (i + (x.length + 4) + j)) with
  | none => rfl
  | some z => simp
theorem pre_take {l p : B} (h : p.length ≤ l.length) : p.isPrefixOf l = (l.take p.length == p) := by
  rw [Bool.eq_iff_iff, beq_iff_eq, List.isPrefixOf_iff_prefix, List.prefix_iff_eq_take]
  exact eq_comm
theorem pre_short {l p : B} (h : l.length < p.length) : p.isPrefixOf l = false := by
  cases hq : p.isPrefixOf l with
  | false => rfl
  | true => have := (List.isPrefixOf_iff_prefix.1 hq).length_le; omega
set_option maxRecDepth 100000 in
set_option maxHeartbeats 8000000 in
theorem rsplit_any (v : Value) (b x : B) (w : World) (hR : BRd v b w) (hl : b.length ≤ 2000) (hx : x.length ≤ 900) :
    Calls Tryz.prog 15 #[v, sV x] w (SpR b x w) := by
  have hcv := hR.conv
  obtain ⟨va, vc, rfl⟩ := hR.slice
  have hxs : (ByteArray.mk x.toArray).size = x.length := List.size_toArray
  have hbs : (ByteArray.mk b.toArray).size = b.length := List.size_toArray
  have a1 : (⟨#[45, 45]⟩ ++ ⟨x.toArray⟩ : ByteArray) = ⟨(45 :: 45 :: x).toArray⟩ := Hd.app_mk [45, 45] x
  have a2 : (⟨(45 :: 45 :: x).toArray⟩ ++ ⟨#[13, 10]⟩ : ByteArray) = ⟨(45 :: 45 :: (x ++ [13, 10])).toArray⟩ := Hd.app_mk (45 :: 45 :: x) [13, 10]
  have a3 : (⟨(45 :: 45 :: x).toArray⟩ ++ ⟨#[45, 45, 13, 10]⟩ : ByteArray) = ⟨(45 :: 45 :: (x ++ [45, 45, 13, 10])).toArray⟩ := Hd.app_mk (45 :: 45 :: x) [45, 45, 13, 10]
  have a4 : (ByteArray.mk (45 :: 45 :: x).toArray).size = x.length + 2 := by rw [str_lit]; simp
  have a5 : (ByteArray.mk (45 :: 45 :: (x ++ [13, 10])).toArray).size = x.length + 4 := by rw [str_lit]; simp
  have HLn := Lib.hid (show (45 :: 45 :: (x ++ [13, 10]) : B).length = x.length + 4 by simp)
  have HQn := Lib.hid (show (45 :: 45 :: x : B).length = x.length + 2 ∧ (45 :: 45 :: x : B) ≠ [] by simp)
  have HNO := Lib.hid (fun (w' : World) h k => SpR.no (b := b) (x := x) (w := w) (w' := w') h k)
  have HRw0 := Lib.hid (show Rw x b 0 0 [] [] from ⟨rfl, rfl, by omega, by rw [List.drop_zero]; cases rds x (9 - 0) b with | none => rfl | some z => simp⟩)
  have HSt := Lib.hid (fun i m ks ls h h2 => Rw.stop (x := x) (b := b) (i := i) (m := m) (ks := ks) (ls := ls) h h2)
  have HBad := Lib.hid (fun i m ks ls h h2 h3 h4 => Rw.bad (x := x) (b := b) (i := i) (m := m) (ks := ks) (ls := ls) h h2 h3 h4)
  have HNo := Lib.hid (fun i m j ks ls h h2 h3 h4 h5 => Rw.no (x := x) (b := b) (i := i) (m := m) (j := j) (ks := ks) (ls := ls) h h2 h3 h4 h5)
  have HNx := Lib.hid (fun i m j ks ls t d h h2 h3 h4 h5 => Rw.next (x := x) (b := b) (i := i) (m := m) (j := j) (ks := ks) (ls := ls) (t := t) (d := d) h h2 h3 h4 h5)
  have HSm := Lib.hid (fun ks ls r h h2 => spl_rsome (b := b) (x := x) (ks := ks) (ls := ls) (r := r) h h2)
  clear hR
  generalize (45 :: 45 :: (x ++ [13, 10]) : B) = L at *
  generalize (45 :: 45 :: (x ++ [45, 45, 13, 10]) : B) = F at *
  generalize (45 :: 45 :: x : B) = Q at *
  obtain ⟨xl, hxl⟩ : ∃ xl, x.length = xl := ⟨_, rfl⟩
  rw [hxl] at hx hxs a4 a5 HLn HQn HBad HNo HNx
  go_enter Tryz.func15, Tryz.ntmps15
  go_wp2_with fail
  go_loopw [10, 11, 12, 13, 14, 15, 16] (fun vk vl vi _ _ _ _ wr => ∃ (i m : Nat) (ks ls : List B), i ≤ b.length ∧ vi = .int .i64 i ∧ Hid (Rw x b i m ks ls) ∧ Hid (OwnS w.heap.size vk ks wr) ∧ Hid (OwnLo w.heap.size vl ls wr) ∧ Hid (∀ k ∈ ks, k.length ≤ 4000) ∧ Hid (∀ d ∈ ls, d.length ≤ 2000) ∧ Hid (Kept w wr)) (fun _ _ vi _ _ _ _ _ => b.length - (intOf vi).toNat)
  case atStart => exact ⟨0, 0, [], [], Nat.zero_le _, rfl, HRw0, Lib.hid (OwnS.nil _ _), Lib.hid (OwnLo.nil _ _), Lib.hid (by simp), Lib.hid (by simp), Lib.hid (Kept.refl w)⟩
  case round =>
    obtain ⟨i, m, ks, ls, hi, rfl, hW, hS, hL, hB1, hB2, hK⟩ := hrel
    obtain ⟨ka, kc, hkv⟩ := own_slice hS.out
    obtain ⟨la, lc, hlv⟩ := hL.out.slice
    subst hkv
    subst hlv
    obtain rfl : m = ls.length := hW.out.2.1.symm
    by_cases h8 : (ls.length : Int) ≤ 8
    · obtain ⟨i2, hi2⟩ : ∃ i2, i + (xl + 4) = i2 := ⟨_, rfl⟩
      have e1 : (i : Int) + ((xl : Int) + 4) = (i2 : Int) := by omega
      by_cases h9 : (i2 : Int) ≤ b.length
      · have hsl := Hd.cut_both b i i2 (by omega) (by omega)
        have HPT := Lib.hid (pre_take (l := b.drop i) (p := L) (by rw [List.length_drop, HLn.out]; omega))
        rw [HLn.out] at HPT
        rw [List.drop_take, show i2 - i = xl + 4 by omega] at hsl
        have HI2 := Lib.hid hi2
        clear hi2
        generalize hTT : (b.drop i).take (xl + 4) = T at *
        cases hT : (T == L) with
        | true =>
          have HP := Lib.hid (HPT.out.trans hT)
          have HAt := Lib.hid (at_any b Q i2 wr HQn.out.2 (by omega) (by omega) (by rw [HQn.out.1]; omega))
          have hroom := Lib.index_room (b.drop i2) Q
          have hge := Lib.index_ge (b.drop i2) Q
          have HBd := Lib.hid (fun (h : Lib.index (b.drop i2) Q = -1) => HBad.out i _ ks ls hW.out (by omega) HP.out (by rw [HI2.out]; exact h))
          have HNn := Lib.hid (fun (j : Nat) (h : Lib.index (b.drop i2) Q = j) => HNo.out i _ j ks ls hW.out (by omega) HP.out (by rw [HI2.out]; exact h))
          have HNt := Lib.hid (fun (j : Nat) (t d : B) (h : Lib.index (b.drop i2) Q = j) => HNx.out i _ j ks ls t d hW.out (by omega) HP.out (by rw [HI2.out]; exact h))
          rw [HI2.out] at HNn HNt
          unfold atV at HAt
          rw [HQn.out.1, List.length_drop] at hroom
          clear hTT HPT HSt HBad HNo HNx HRw0 HLn HSm
          by_cases hix : Lib.index (b.drop i2) Q = -1
          · have HZ := Lib.hid (HNO.out wr (HBd.out hix) hK.out)
            rw [if_pos hix] at HAt
            clear hroom hge hix HBd HNn HNt HNO
            go_wp2_with fail
            refine HAt.out.mono ?_
            rintro e z ⟨rfl, hz⟩
            have hz' := hz.symm
            subst hz'
            go_wp2
            go_ret3
            exact HZ.out
          · obtain ⟨j, hj⟩ : ∃ j : Nat, Lib.index (b.drop i2) Q = j := ⟨(Lib.index (b.drop i2) Q).toNat, by omega⟩
            rw [hj] at hroom
            have hjr := hroom (by omega)
            rw [if_neg hix, hj] at HAt
            obtain ⟨n2, hn2⟩ : ∃ n2, i2 + j = n2 := ⟨_, rfl⟩
            rw [show (j : Int) + (i2 : Int) = (n2 : Int) by omega] at HAt
            have hn2b : n2 ≤ b.length := by omega
            have hsl2 := Hd.cut_both b i2 n2 (by omega) hn2b
            rw [List.drop_take, show n2 - i2 = j by omega] at hsl2
            have HO := Lib.hid (one_any ((b.drop i2).take j) wr (by simp; omega))
            have HNn2 := Lib.hid (HNn.out j hj)
            have HNt2 := Lib.hid (fun t d => HNt.out j t d hj)
            have hUl : ((b.drop i2).take j).length ≤ 2000 := by simp; omega
            have HN2 := Lib.hid hn2
            rw [hn2] at HNt2
            have hlt2 : i < n2 := by have := HI2.out; omega
            have hnn : ¬ (n2 : Int) < 0 := by omega
            clear hroom hge hix hj HBd HNn HNt hn2 hjr
            generalize (b.drop i2).take j = U at *
            go_wp2_with fail
            refine HAt.out.mono ?_
            rintro e z ⟨rfl, hz⟩
            have hz' := hz.symm
            subst hz'
            clear HAt hz
            go_wp2_with fail
            refine HO.out.mono ?_
            rintro e z ⟨t, d, dv, rfl, hdo, hgp, htl, hdl, kz⟩
            have KZ := Lib.hid (hK.out.trans kz)
            have SZ := Lib.hid (OwnS.kept hS.out kz)
            have LZ := Lib.hid (hL.out.kept kz)
            have DZ := Lib.hid (show OwnB w.heap.size dv d z from OwnB.mono' hdo hK.out.size)
            clear kz hdo hK hS hL HO
            obtain ⟨da, dc, hdv⟩ := own_slice DZ.out
            cases ho : one U with
            | none =>
              have HZ := Lib.hid (HNO.out z (HNn2.out ho) KZ.out)
              subst hdv
              clear ho hgp HNn2 HNt2 HNO
              rw [show (none : Option (B × B)).isSome = false from rfl]
              go_wp2
              go_ret3
              exact HZ.out
            | some pr =>
              obtain rfl := hgp _ ho
              have HW2 := Lib.hid (HNt2.out t d ho)
              clear ho hgp HNn2 HNt2 HNO hW
              rw [show (some (t, d) : Option (B × B)).isSome = true from rfl]
              have hszz := KZ.out.size
              subst hdv
              have hkl : ks.length ≤ 10000000 := by have := HW2.out.1; simp at this; omega
              have ka := (Kept.refl z).alloc (.cells #[sV t] 9)
              have c0 := (Kept.refl (z.alloc (.cells #[sV t] 9))).new 0 (v := sV t) rfl
              have KA1 := Lib.hid (KZ.out.trans ka)
              have SA := Lib.hid (OwnS.kept SZ.out ka)
              have LA := Lib.hid (LZ.out.kept ka)
              have DA := Lib.hid (OwnB.kept DZ.out ka)
              have hBA := KA1.out.size
              clear ka KZ SZ LZ DZ
              go_wp2_with (at_builtin; refine Hd.wpList_pushS rfl _ _ rfl w.heap.size _ ks t z.heap.size rfl SA.out rfl c0 hkl hBA ?_)
              intro v1 z1 hz hgz
              have S1 := Lib.hid hz
              have L1 := Lib.hid (LA.out.beside SA.out hgz)
              have D1 := Lib.hid (OwnB.beside DA.out SA.out hgz)
              have KB := Lib.hid (kept_row KA1.out hgz (fun r hr => (World.ownsRow.lt SA.out r hr).1))
              clear hz hgz KA1 SA LA DA c0
              have kb := (Kept.refl z1).alloc (.cells #[.slice da d.length dc] 26)
              have c0 := (Kept.refl (z1.alloc (.cells #[.slice da d.length dc] 26))).new 0 (v := .slice da d.length dc) rfl
              have KC := Lib.hid (KB.out.trans kb)
              have SC := Lib.hid (OwnS.kept S1.out kb)
              have LC := Lib.hid (L1.out.kept kb)
              have DC := Lib.hid (OwnB.kept D1.out kb)
              have hBC := KC.out.size
              clear kb KB S1 L1 D1
              go_upto_region 16 with (fail)
              go_wp2_with (at_builtin; refine wpList_pushLo rfl _ _ rfl w.heap.size _ ls d _ z1.heap.size rfl LC.out rfl c0 DC.out (by omega) hBC ?_)
              intro v2 z2 hz hgz
              have L2 := Lib.hid hz
              have S2 := Lib.hid (OwnS.beside SC.out LC.out hgz)
              have K2 := Lib.hid (kept_row KC.out hgz (fun r hr => (LC.out.lt r hr).1))
              have HB3 := Lib.hid (show ∀ k ∈ ks ++ [t], k.length ≤ 4000 from fun k hk => by
                rcases List.mem_append.1 hk with hk | hk
                · exact hB1.out k hk
                · simp at hk; subst hk; exact htl)
              have HB4 := Lib.hid (show ∀ c ∈ ls ++ [d], c.length ≤ 2000 from fun k hk => by
                rcases List.mem_append.1 hk with hk | hk
                · exact hB2.out k hk
                · simp at hk; subst hk; omega)
              clear hz hgz KC SC LC DC c0 hB1 hB2
              go_wp2_with fail
              go_roundw
              case rel => exact ⟨n2, _, _, _, hn2b, by first | rfl | go_num, HW2, S2, L2, HB3, HB4, K2⟩
              case measure => simp [intOf]; omega
        | false =>
          have HP := Lib.hid (HPT.out.trans hT)
          have HE := Lib.hid (HSm.out ks ls (b.drop i) (HSt.out i _ ks ls hW.out (Or.inr HP.out)) hW.out.1)
          have HJ := Lib.hid (rjoin_any _ _ ks ls wr hS.out.rd hL.out.rd (fun k hk => by have := hB1.out k hk; omega) (fun d hd => by have := hB2.out d hd; omega))
          have SK := Lib.hid hS.out
          have LK := Lib.hid hL.out
          have HKL := Lib.hid hW.out.1
          have hcf := Hd.cut_from b i i rfl hi
          clear hW hS hL hB1 hB2 HSt HBad HNo HNx HRw0 HLn HQn HSm
          generalize b.drop i = R at *
          go_wp2_with fail
          refine HJ.out.mono ?_
          rintro e y2 ⟨jv, rfl, hjo, k2⟩
          have K2 := Lib.hid (hK.out.trans k2)
          have S2 := Lib.hid (OwnS.kept SK.out k2)
          have L2 := Lib.hid (LK.out.kept k2)
          have hcj := hjo.rd.conv
          have HNO2 := Lib.hid (fun h => HNO.out y2 h K2.out)
          obtain ⟨ja, jc, hjv⟩ := own_slice hjo
          clear k2 HJ SK LK hjo hK HNO
          cases hRF : (R == F) with
          | false =>
            have HZ := Lib.hid (HE.out.trans (if_neg (fun h => by rw [beq_eq_false_iff_ne] at hRF; exact hRF h.1.1)))
            subst hjv
            generalize jB ks ls = J at *
            generalize jX ks ls = jx at *
            generalize jE ks ls = je at *
            clear HE
            go_wp2
            go_ret3
            exact HNO2.out HZ.out
          | true =>
            have HRF := Lib.hid hRF
            cases hok : okJ ks ls with
            | false =>
              obtain ⟨e1, e2, e3⟩ := j_no (ks := ks) (ls := ls) (by rw [hok]; decide)
              have HZ := Lib.hid (HE.out.trans (if_neg (fun h => by rw [hok] at h; cases h.1.2)))
              rw [e3]
              subst hjv
              generalize jB ks ls = J at *
              generalize jX ks ls = jx at *
              clear hok e1 e2 e3 HE
              go_wp2
              go_ret3
              exact HNO2.out HZ.out
            | true =>
              obtain ⟨e1, e2, e3⟩ := j_yes hok
              have HOK := Lib.hid hok
              rw [e3, e2]
              subst hjv
              generalize jB ks ls = J at *
              clear hok e1 e2 e3
              by_cases hxb : b0 = x
              · have HXB := Lib.hid hxb
                have hxq : (b0 == x) = true := by rw [beq_iff_eq]; exact hxb
                clear hxb
                generalize b0 = x0 at *
                cases hj : (J == b) with
                | false =>
                  have HZ := Lib.hid (HE.out.trans (if_neg (fun h => by have := h.2.2; rw [beq_eq_false_iff_ne] at hj; exact hj this)))
                  clear HE
                  go_wp2
                  go_ret3
                  exact HNO2.out HZ.out
                | true =>
                  have HZ := Lib.hid (HE.out.trans (if_pos ⟨⟨by have := HRF.out; rwa [beq_iff_eq] at this, HOK.out⟩, HXB.out.symm, by rwa [beq_iff_eq] at hj⟩))
                  clear HE
                  go_wp2
                  go_ret3
                  exact ⟨_, _, ks, ls, by unfold sE; rw [HZ.out]; rfl, S2.out, L2.out, Or.inl ⟨HZ.out, by have := HKL.out; omega⟩, K2.out⟩
              · have hxq : (b0 == x) = false := beq_eq_false_iff_ne.2 hxb
                have HZ := Lib.hid (HE.out.trans (if_neg (fun h => hxb h.2.1.symm)))
                clear hxb HE
                generalize b0 = x0 at *
                go_wp2
                go_ret3
                exact HNO2.out HZ.out
      · have HP := Lib.hid (show L.isPrefixOf (b.drop i) = false from pre_short (by rw [List.length_drop, HLn.out]; omega))
        have HE := Lib.hid (HSm.out ks ls (b.drop i) (HSt.out i _ ks ls hW.out (Or.inr HP.out)) hW.out.1)
        have HJ := Lib.hid (rjoin_any _ _ ks ls wr hS.out.rd hL.out.rd (fun k hk => by have := hB1.out k hk; omega) (fun d hd => by have := hB2.out d hd; omega))
        have SK := Lib.hid hS.out
        have LK := Lib.hid hL.out
        have HKL := Lib.hid hW.out.1
        have hcf := Hd.cut_from b i i rfl hi
        clear hW hS hL hB1 hB2 HSt HBad HNo HNx HRw0 HLn HQn HSm
        generalize b.drop i = R at *
        go_wp2_with fail
        refine HJ.out.mono ?_
        rintro e y2 ⟨jv, rfl, hjo, k2⟩
        have K2 := Lib.hid (hK.out.trans k2)
        have S2 := Lib.hid (OwnS.kept SK.out k2)
        have L2 := Lib.hid (LK.out.kept k2)
        have hcj := hjo.rd.conv
        have HNO2 := Lib.hid (fun h => HNO.out y2 h K2.out)
        obtain ⟨ja, jc, hjv⟩ := own_slice hjo
        clear k2 HJ SK LK hjo hK HNO
        cases hRF : (R == F) with
        | false =>
          have HZ := Lib.hid (HE.out.trans (if_neg (fun h => by rw [beq_eq_false_iff_ne] at hRF; exact hRF h.1.1)))
          subst hjv
          generalize jB ks ls = J at *
          generalize jX ks ls = jx at *
          generalize jE ks ls = je at *
          clear HE
          go_wp2
          go_ret3
          exact HNO2.out HZ.out
        | true =>
          have HRF := Lib.hid hRF
          cases hok : okJ ks ls with
          | false =>
            obtain ⟨e1, e2, e3⟩ := j_no (ks := ks) (ls := ls) (by rw [hok]; decide)
            have HZ := Lib.hid (HE.out.trans (if_neg (fun h => by rw [hok] at h; cases h.1.2)))
            rw [e3]
            subst hjv
            generalize jB ks ls = J at *
            generalize jX ks ls = jx at *
            clear hok e1 e2 e3 HE
            go_wp2
            go_ret3
            exact HNO2.out HZ.out
          | true =>
            obtain ⟨e1, e2, e3⟩ := j_yes hok
            have HOK := Lib.hid hok
            rw [e3, e2]
            subst hjv
            generalize jB ks ls = J at *
            clear hok e1 e2 e3
            by_cases hxb : b0 = x
            · have HXB := Lib.hid hxb
              have hxq : (b0 == x) = true := by rw [beq_iff_eq]; exact hxb
              clear hxb
              generalize b0 = x0 at *
              cases hj : (J == b) with
              | false =>
                have HZ := Lib.hid (HE.out.trans (if_neg (fun h => by have := h.2.2; rw [beq_eq_false_iff_ne] at hj; exact hj this)))
                clear HE
                go_wp2
                go_ret3
                exact HNO2.out HZ.out
              | true =>
                have HZ := Lib.hid (HE.out.trans (if_pos ⟨⟨by have := HRF.out; rwa [beq_iff_eq] at this, HOK.out⟩, HXB.out.symm, by rwa [beq_iff_eq] at hj⟩))
                clear HE
                go_wp2
                go_ret3
                exact ⟨_, _, ks, ls, by unfold sE; rw [HZ.out]; rfl, S2.out, L2.out, Or.inl ⟨HZ.out, by have := HKL.out; omega⟩, K2.out⟩
            · have hxq : (b0 == x) = false := beq_eq_false_iff_ne.2 hxb
              have HZ := Lib.hid (HE.out.trans (if_neg (fun h => hxb h.2.1.symm)))
              clear hxb HE
              generalize b0 = x0 at *
              go_wp2
              go_ret3
              exact HNO2.out HZ.out
    · have h8' : 9 ≤ ls.length := by omega
      have H8 := Lib.hid h8'
      clear h8'
      have HE := Lib.hid (HSm.out ks ls (b.drop i) (HSt.out i _ ks ls hW.out (Or.inl H8.out)) hW.out.1)
      have HJ := Lib.hid (rjoin_any _ _ ks ls wr hS.out.rd hL.out.rd (fun k hk => by have := hB1.out k hk; omega) (fun d hd => by have := hB2.out d hd; omega))
      have SK := Lib.hid hS.out
      have LK := Lib.hid hL.out
      have HKL := Lib.hid hW.out.1
      have hcf := Hd.cut_from b i i rfl hi
      clear hW hS hL hB1 hB2 HSt HBad HNo HNx HRw0 HLn HQn HSm
      generalize b.drop i = R at *
      go_wp2_with fail
      refine HJ.out.mono ?_
      rintro e y2 ⟨jv, rfl, hjo, k2⟩
      have K2 := Lib.hid (hK.out.trans k2)
      have S2 := Lib.hid (OwnS.kept SK.out k2)
      have L2 := Lib.hid (LK.out.kept k2)
      have hcj := hjo.rd.conv
      have HNO2 := Lib.hid (fun h => HNO.out y2 h K2.out)
      obtain ⟨ja, jc, hjv⟩ := own_slice hjo
      clear k2 HJ SK LK hjo hK HNO
      cases hRF : (R == F) with
      | false =>
        have HZ := Lib.hid (HE.out.trans (if_neg (fun h => by rw [beq_eq_false_iff_ne] at hRF; exact hRF h.1.1)))
        subst hjv
        generalize jB ks ls = J at *
        generalize jX ks ls = jx at *
        generalize jE ks ls = je at *
        clear HE
        go_wp2
        go_ret3
        exact HNO2.out HZ.out
      | true =>
        have HRF := Lib.hid hRF
        cases hok : okJ ks ls with
        | false =>
          obtain ⟨e1, e2, e3⟩ := j_no (ks := ks) (ls := ls) (by rw [hok]; decide)
          have HZ := Lib.hid (HE.out.trans (if_neg (fun h => by rw [hok] at h; cases h.1.2)))
          rw [e3]
          subst hjv
          generalize jB ks ls = J at *
          generalize jX ks ls = jx at *
          clear hok e1 e2 e3 HE
          go_wp2
          go_ret3
          exact HNO2.out HZ.out
        | true =>
          obtain ⟨e1, e2, e3⟩ := j_yes hok
          have HOK := Lib.hid hok
          rw [e3, e2]
          subst hjv
          generalize jB ks ls = J at *
          clear hok e1 e2 e3
          by_cases hxb : b0 = x
          · have HXB := Lib.hid hxb
            have hxq : (b0 == x) = true := by rw [beq_iff_eq]; exact hxb
            clear hxb
            generalize b0 = x0 at *
            cases hj : (J == b) with
            | false =>
              have HZ := Lib.hid (HE.out.trans (if_neg (fun h => by have := h.2.2; rw [beq_eq_false_iff_ne] at hj; exact hj this)))
              clear HE
              go_wp2
              go_ret3
              exact HNO2.out HZ.out
            | true =>
              have HZ := Lib.hid (HE.out.trans (if_pos ⟨⟨by have := HRF.out; rwa [beq_iff_eq] at this, HOK.out⟩, HXB.out.symm, by rwa [beq_iff_eq] at hj⟩))
              clear HE
              go_wp2
              go_ret3
              exact ⟨_, _, ks, ls, by unfold sE; rw [HZ.out]; rfl, S2.out, L2.out, Or.inl ⟨HZ.out, by have := HKL.out; omega⟩, K2.out⟩
          · have hxq : (b0 == x) = false := beq_eq_false_iff_ne.2 hxb
            have HZ := Lib.hid (HE.out.trans (if_neg (fun h => hxb h.2.1.symm)))
            clear hxb HE
            generalize b0 = x0 at *
            go_wp2
            go_ret3
            exact HNO2.out HZ.out
end Go.Proofs.YtgpocnnolieijaaGreatDoor.Pt
