/- Several texts of this seat, one behind the other. -/
import Derived.Test.YtgpocnnolieijaaGreatDoorMgH
import Derived.Lib.SlBytesConst
import Derived.Test.YtgpocnnolieijaaGreatDoorRows
import Derived.Handed
import Derived.ChangeSame
import Derived.Shelf.Vars
import Derived.OpenShut
import Derived.ChangeMaps5
import Derived.Carry
import Derived.ChangeSlices
/- The document's answer for package head: a header's lines, all lines; are lists the same. -/
set_option linter.unusedSimpArgs false
set_option linter.unusedVariables false
namespace Go.Proofs.YtgpocnnolieijaaGreatDoor.Hd
open Go.ChangeShapes Go.WideShapes Go.ChangeAt Go.RowKit Go.Shelf
theorem norow_m {B0 : Nat} {v : Value} {l : B} {w : World} (h : OwnM B0 v l w) : NoRow 9 w v.ownBlock := fun r hr c hc => by
  obtain ⟨cs, fz, hk⟩ := h.kind r hr
  rw [hk] at hc
  cases hc
set_option maxRecDepth 100000 in
set_option maxHeartbeats 4000000 in
theorem rline_any (h : Hdr) (w : World) (hn : h.1.length ≤ 100000000) (ht : h.2.length ≤ 100000000) :
    Calls Tryz.prog 53 #[hV h] w fun e w' => ∃ xv, e = .returned (.tuple #[xv, .int .i64 (lE h)]) ∧ OwnM w.heap.size xv ((line h).getD []) w' ∧ Kept w w' := by
  obtain ⟨n, t⟩ := h
  simp only at hn ht
  have hts : (ByteArray.mk t.toArray).size = t.length := List.size_toArray
  have k0 := (Kept.refl w).alloc (.cells #[sV n, sV t] 68)
  have c0 := (Kept.refl (w.alloc (.cells #[sV n, sV t] 68))).new 0 (v := sV n) rfl
  have c1 := (Kept.refl (w.alloc (.cells #[sV n, sV t] 68))).new 1 (v := sV t) rfl
  have HN := Lib.hid (fun w => rname_any n w (by unfold maxLen; omega))
  go_enter Tryz.func53, Tryz.ntmps53
  go_upto_region 1 with (fail)
  generalize w.alloc (.cells #[sV n, sV t] 68) = x0 at *
  go_wp2_with fail
  refine (HN.out _).mono ?_
  rintro e x1 ⟨rfl, rfl⟩
  have K1 := Lib.hid k0
  clear HN k0
  cases hnm : nam n with
  | false =>
    have HK := Lib.hid (show okH (n, t) = false by unfold okH; rw [hnm]; rfl)
    clear hnm
    go_wp2
    go_ret2
    exact ⟨_, by rw [lE_no HK.out]; rfl, by rw [line_no HK.out]; exact OwnM.nil _ _, K1.out⟩
  | true =>
    by_cases hlen : 4000 < (t.length : Int)
    · have HK := Lib.hid (show okH (n, t) = false by unfold okH; rw [hnm, decide_eq_false (show ¬ t.length ≤ 4000 by omega)]; rfl)
      clear hnm
      go_wp2
      go_ret2
      exact ⟨_, by rw [lE_no HK.out]; rfl, by rw [line_no HK.out]; exact OwnM.nil _ _, K1.out⟩
    · have HK := Lib.hid (show okH (n, t) = true by unfold okH; rw [hnm, decide_eq_true (show t.length ≤ 4000 by omega)]; rfl)
      have HL := Lib.hid (show lnH (n, t) = ((wds t).foldl stL (n ++ [58], (n ++ [58]).length)).1 ++ [13, 10] by
        rw [← fil_fold, lnH_parts]; unfold bdy; simp)
      have hnl := (nam_all hnm).2.2
      have happ : (⟨n.toArray⟩ ++ ⟨#[58]⟩ : ByteArray) = ⟨(n ++ [58]).toArray⟩ := app_mk n [58]
      have hPl : (n ++ [58]).length ≤ 41 := by simp; omega
      obtain ⟨cp, x2, hcv, hk2, hO2⟩ := to_own (n ++ [58]) x1 (by omega)
      have e1 := hk2.yes c1
      have K2 := Lib.hid (K1.out.trans hk2)
      have O2 := Lib.hid (hO2.mono K1.out.size)
      have HWs := Lib.hid (fun w => rwords_any t w (by omega))
      have hsum := sumW_wds t
      have hwl := (sumW_len (wds t)).2
      have hwn := (sumW_len (wds t)).1
      have hwm : ∀ x ∈ wds t, x.length ≤ 76003 := fun x hx => by have := hwl x hx; omega
      have hwc : (wds t).length ≤ 76003 := by omega
      clear hnm hk2 hO2 hwl hwn hsum
      generalize wds t = ws at *
      generalize n ++ [58] = P at *
      go_upto_region 5 with (fail)
      clear hcv c0 c1
      go_wp2_with fail
      refine (HWs.out _).mono ?_
      rintro e x3 ⟨vs, rfl, hS, k3⟩
      have S3 := Lib.hid hS
      obtain ⟨sa, sc, hsv⟩ := own_slice hS
      subst hsv
      have K3 := Lib.hid (K2.out.trans k3)
      have O3 := Lib.hid (O2.out.kept k3)
      clear hS k3 e1 HWs O2 K2 K1
      go_wp2_with fail
      go_loopw [5, 6, 8] (fun vm vk vi wr => ∃ i : Nat, i ≤ ws.length ∧ vi = .int .i64 i ∧ vk = .int .i64 (((ws.take i).foldl stL (P, P.length)).2 : Nat) ∧ Hid (Kept w wr) ∧ Hid (OwnS x2.heap.size (.slice sa ws.length sc) ws wr) ∧ Hid (OwnM w.heap.size vm ((ws.take i).foldl stL (P, P.length)).1 wr)) (fun _ _ vi _ => ws.length - (intOf vi).toNat)
      case atStart => exact ⟨0, Nat.zero_le _, rfl, rfl, K3, S3, O3⟩
      case round =>
        obtain ⟨i, hi, rfl, rfl, hK, hK3, hO⟩ := hrel
        have hb := stL_len 76003 (ws.take i) (P, P.length) (fun x hx => hwm x (List.mem_of_mem_take hx))
        have hkl : (ws.take i).length ≤ 76003 := by simp; omega
        have hb1 : ((ws.take i).foldl stL (P, P.length)).1.length ≤ 41 + 76003 * 76006 := Nat.le_trans hb.1 (Nat.add_le_add hPl (Nat.mul_le_mul_right _ hkl))
        have hb2 : ((ws.take i).foldl stL (P, P.length)).2 ≤ 76200 := by have := hb.2; simp only at this; omega
        clear hb hkl
        have hsz := hK.out.size
        by_cases hlt : i < ws.length
        · have hltI : (i : Int) < ws.length := by omega
          obtain ⟨tw, htw⟩ : ∃ tw, ws[i]? = some tw := ⟨_, List.getElem?_eq_getElem hlt⟩
          obtain ⟨g, o, c, hv', hcp, cell⟩ := (OwnS.rd hK3.out).at htw
          injection hv' with ea _ ec
          subst ea ec
          have HS := Lib.hid (stL_take (P, P.length) htw)
          have htl := hwm tw (List.mem_of_getElem? htw)
          have hws : (ByteArray.mk tw.toArray).size = tw.length := List.size_toArray
          have happw : (⟨#[32]⟩ ++ ⟨tw.toArray⟩ : ByteArray) = ⟨([32] ++ tw).toArray⟩ := app_mk [32] tw
          have hwl1 : ([32] ++ tw).length = 1 + tw.length := by simp; omega
          have HTW := Lib.hid htw
          clear htw
          generalize (ws.take i).foldl stL (P, P.length) = s at *
          obtain ⟨l, kk⟩ := s
          simp only at hb1 hb2 hO
          obtain ⟨va, vc, hvv⟩ := hO.out.slice
          subst hvv
          by_cases hlong : 76 < kk + 1 + tw.length
          · have hlI : (76 : Int) < (kk : Int) + 1 + tw.length := by omega
            have HQ := Lib.hid (show stL (l, kk) tw = ((l ++ [13, 10]) ++ ([32] ++ tw), 1 + tw.length) from stL_yes hlong)
            clear hlong
            generalize [32] ++ tw = sw at *
            have k5 := (Kept.refl wr).alloc (.cells #[.int .u8 13, .int .u8 10] 5)
            have hbx := Lib.hid (brd_new wr [13, 10] 5 #[.int .u8 13, .int .u8 10] rfl 2 (Nat.le_refl 2) (0, 0))
            have K5 := Lib.hid (hK.out.trans k5)
            have S5 := Lib.hid (OwnS.kept hK3.out k5)
            have O5 := Lib.hid (hO.out.kept k5)
            have hsz5 := K5.out.size
            clear hK hK3 hO k5
            go_upto_region 11 with (fail)
            go_wp2_with (at_builtin; refine wpList_sliceM rfl _ _ rfl w.heap.size _ _ l [13, 10] rfl O5.out rfl hbx.out (by simp; omega) hsz5 ?_)
            intro v6 y hy hgy hnb
            have K6 := Lib.hid (kept_row K5.out hgy (fun g hg => (O5.out.lt g hg).1))
            have S6 := Lib.hid (show OwnS x2.heap.size _ ws y from own_keep S5.out hgy (norow_m O5.out))
            obtain ⟨g6, o6, c6, hv6, hcp6, cell6⟩ := (OwnS.rd S6.out).at HTW.out
            injection hv6 with ea _ ec
            have hq := Option.some.inj ea
            injection hq with e1 e2
            subst e1 e2 ec
            have O6 := Lib.hid hy
            obtain ⟨va6, vc6, hv6⟩ := hy.slice
            have hl6 : (l ++ [13, 10]).length ≤ 43 + 76003 * 76006 := by simp; omega
            have hsz6 := K6.out.size
            clear hy hgy hnb K5 S5 O5 hbx cell
            generalize l ++ [13, 10] = l6 at *
            subst hv6
            go_upto_region 13 with (fail)
            go_wp2_with (at_builtin; refine wpList_strM rfl _ _ rfl w.heap.size _ l6 sw rfl O6.out rfl (by omega) hsz6 ?_)
            intro v7 y7 hy hgy hnb
            have K7 := Lib.hid (kept_row K6.out hgy (fun g hg => (O6.out.lt g hg).1))
            have S7 := Lib.hid (show OwnS x2.heap.size _ ws y7 from own_keep S6.out hgy (norow_m O6.out))
            obtain ⟨g7, o7, c7, hv7, hcp7, cell7⟩ := (OwnS.rd S7.out).at HTW.out
            injection hv7 with ea _ ec
            have hq := Option.some.inj ea
            injection hq with e1 e2
            subst e1 e2 ec
            have O7 := Lib.hid (show OwnM w.heap.size v7 ((ws.take (i + 1)).foldl stL (P, P.length)).1 y7 by rw [HS.out, HQ.out]; exact hy)
            have hk7 : ((ws.take (i + 1)).foldl stL (P, P.length)).2 = 1 + tw.length := by rw [HS.out, HQ.out]
            clear hy hgy hnb K6 S6 O6 cell6
            go_wp2_with fail
            go_roundw
            case rel => exact ⟨i + 1, hlt, by go_num, by rw [hk7]; go_num, K7, S7, O7⟩
            case measure => simp [intOf]; omega
          · have hlI : ¬ (76 : Int) < (kk : Int) + 1 + tw.length := by omega
            have HQ := Lib.hid (show stL (l, kk) tw = (l ++ ([32] ++ tw), kk + 1 + tw.length) from stL_no hlong)
            clear hlong
            generalize [32] ++ tw = sw at *
            go_upto_region 13 with (fail)
            go_wp2_with (at_builtin; refine wpList_strM rfl _ _ rfl w.heap.size _ l sw rfl hO.out rfl (by omega) hsz ?_)
            intro v7 y7 hy hgy hnb
            have K7 := Lib.hid (kept_row hK.out hgy (fun g hg => (hO.out.lt g hg).1))
            have S7 := Lib.hid (show OwnS x2.heap.size _ ws y7 from own_keep hK3.out hgy (norow_m hO.out))
            obtain ⟨g7, o7, c7, hv7, hcp7, cell7⟩ := (OwnS.rd S7.out).at HTW.out
            injection hv7 with ea _ ec
            have hq := Option.some.inj ea
            injection hq with e1 e2
            subst e1 e2 ec
            have O7 := Lib.hid (show OwnM w.heap.size v7 ((ws.take (i + 1)).foldl stL (P, P.length)).1 y7 by rw [HS.out, HQ.out]; exact hy)
            have hk7 : ((ws.take (i + 1)).foldl stL (P, P.length)).2 = kk + 1 + tw.length := by rw [HS.out, HQ.out]
            clear hy hgy hnb hK hK3 hO cell
            go_wp2_with fail
            go_roundw
            case rel => exact ⟨i + 1, hlt, by go_num, by rw [hk7]; go_num, K7, S7, O7⟩
            case measure => simp [intOf]; omega
        · have hltI : ¬ (i : Int) < ws.length := by omega
          obtain rfl : i = ws.length := by omega
          rw [List.take_length] at hO hb1
          rw [List.take_length]
          generalize ws.foldl stL (P, P.length) = s at *
          obtain ⟨l, kk⟩ := s
          simp only at hb1 hO HL
          obtain ⟨va, vc, hvv⟩ := hO.out.slice
          subst hvv
          have k5 := (Kept.refl wr).alloc (.cells #[.int .u8 13, .int .u8 10] 5)
          have hbx := Lib.hid (brd_new wr [13, 10] 5 #[.int .u8 13, .int .u8 10] rfl 2 (Nat.le_refl 2) (0, 0))
          have K5 := Lib.hid (hK.out.trans k5)
          have O5 := Lib.hid (hO.out.kept k5)
          have hsz5 := K5.out.size
          clear hK hK3 hO k5
          go_wp2_with (at_builtin; refine wpList_sliceM rfl _ _ rfl w.heap.size _ _ l [13, 10] rfl O5.out rfl hbx.out (by simp; omega) hsz5 ?_)
          intro v6 y hy hgy hnb
          have K6 := Lib.hid (kept_row K5.out hgy (fun g hg => (O5.out.lt g hg).1))
          obtain ⟨va6, vc6, hv6⟩ := hy.slice
          have O6 := Lib.hid hy
          clear hy hgy hnb K5 O5 hbx
          generalize l ++ [13, 10] = l6 at *
          subst hv6
          go_wp2
          go_ret2
          exact ⟨_, by rw [lE_ok HK.out]; rfl, by rw [line_lnH HK.out, Option.getD_some, HL.out]; exact O6.out, K6.out⟩
end Go.Proofs.YtgpocnnolieijaaGreatDoor.Hd
/- The document's answer for package head: all lines; are lists the same; are headers few. -/
set_option linter.unusedSimpArgs false
set_option linter.unusedVariables false
namespace Go.Proofs.YtgpocnnolieijaaGreatDoor.Hd
open Go.ChangeShapes Go.WideShapes Go.ChangeAt Go.RowKit Go.Shelf
set_option maxRecDepth 100000 in
set_option maxHeartbeats 4000000 in
theorem rall_any (v : Value) (l : List Hdr) (w : World) (hR : HRd v l w) (hb : ∀ h ∈ l, h.1.length ≤ 100000000 ∧ h.2.length ≤ 100000000) :
    Calls Tryz.prog 42 #[v] w fun e w' => ∃ xv, e = .returned (.tuple #[xv, .int .i64 (aE l)]) ∧ OwnM w.heap.size xv ((all l).getD []) w' ∧ Kept w w' := by
  obtain ⟨va, vc, hvv⟩ := hR.slice
  subst hvv
  have HR := Lib.hid hR
  have HB := Lib.hid hb
  clear hR hb
  by_cases hlong : 50 < l.length
  · have hlI : (50 : Int) < l.length := by omega
    have HQ := Lib.hid (aE_long hlong)
    go_enter Tryz.func42, Tryz.ntmps42
    go_wp2
    go_ret2
    exact ⟨_, by rw [HQ.out.1]; rfl, by rw [HQ.out.2]; exact OwnM.nil _ _, Kept.refl _⟩
  · have hlI : ¬ (50 : Int) < l.length := by omega
    go_enter Tryz.func42, Tryz.ntmps42
    go_wp2_with fail
    go_loopw [4, 5, 6, 7] (fun vm vi _ _ wr => ∃ i : Nat, i ≤ l.length ∧ vi = .int .i64 i ∧ Hid (∀ j y, j < i → l[j]? = some y → okH y = true) ∧ Hid (Kept w wr) ∧ Hid (OwnM w.heap.size vm (lns (l.take i)) wr)) (fun _ vi _ _ _ => l.length - (intOf vi).toNat)
    case atStart => exact ⟨0, Nat.zero_le _, rfl, Lib.hid (fun j y h => absurd h (Nat.not_lt_zero _)), Lib.hid (Kept.refl w), Lib.hid (OwnM.nil _ _)⟩
    case round =>
      obtain ⟨i, hi, rfl, hA, hK, hO⟩ := hrel
      obtain ⟨ta, tc, htv⟩ := hO.out.slice
      have hll : (lns (l.take i)).length ≤ 4000000 := by
        have := lns_len 76046 (l.take i) (fun h hh => by
          obtain ⟨j, hj, rfl⟩ := List.mem_iff_getElem.1 hh
          rw [List.getElem_take]
          exact lnH_big (hA.out j _ (by simp at hj; omega) (List.getElem?_eq_getElem (by simp at hj; omega))))
        have h2 : (l.take i).length * 76046 ≤ 50 * 76046 := Nat.mul_le_mul_right _ (by simp; omega)
        omega
      by_cases hlt : i < l.length
      · have hltI : (i : Int) < l.length := by omega
        obtain ⟨x, hx⟩ : ∃ x, l[i]? = some x := ⟨_, List.getElem?_eq_getElem hlt⟩
        obtain ⟨g, o, c, hv', hcp, c0, c1⟩ := (HR.out.kept hK.out).at hx
        obtain ⟨xn, xt⟩ := x
        simp only at c0 c1
        injection hv' with ea _ ec
        subst ea ec
        have HX := Lib.hid hx
        have HN := Lib.hid (lns_take hx)
        obtain ⟨hb1, hb2⟩ := HB.out _ (List.mem_of_getElem? hx)
        simp only at hb1 hb2
        have hsz := hK.out.size
        clear hx
        generalize lns (l.take i) = D at *
        subst htv
        go_wp2_with fail
        refine (rline_any (xn, xt) _ hb1 hb2).mono ?_
        rintro e z ⟨xv, rfl, hxo, kz⟩
        have KZ := Lib.hid (hK.out.trans kz)
        have OZ := Lib.hid (hO.out.kept kz)
        clear c0 c1 kz hK hO
        cases hk : okH (xn, xt) with
        | false =>
          have HQ := Lib.hid (aE_bad hlong HX.out hk)
          rw [lE_no hk]
          obtain ⟨xa, xc, hxv⟩ := hxo.slice
          subst hxv
          clear hxo hk
          go_wp2
          go_ret2
          exact ⟨_, by rw [HQ.out.1]; rfl, by rw [HQ.out.2]; exact OwnM.nil _ _, KZ.out⟩
        | true =>
          have HA2 := Lib.hid (allh_take hA.out HX.out hk)
          rw [line_lnH hk, Option.getD_some] at hxo
          rw [lE_ok hk]
          have hlb := lnH_big hk
          have HXO := Lib.hid hxo.rd
          obtain ⟨xa, xc, hxv⟩ := hxo.slice
          clear hxo hk
          generalize lnH (xn, xt) = ln at *
          subst hxv
          have hszz := KZ.out.size
          go_wp2_with (at_builtin; refine wpList_sliceM rfl _ _ rfl w.heap.size _ _ D ln rfl OZ.out rfl HXO.out (by omega) hszz ?_)
          intro v4 z4 hz hgz hnb
          have K4 := Lib.hid (kept_row KZ.out hgz (fun g hg => (OZ.out.lt g hg).1))
          have O4 := Lib.hid (show OwnM w.heap.size v4 (lns (l.take (i + 1))) z4 by rw [HN.out]; exact hz)
          clear hz hgz hnb OZ KZ HXO
          go_wp2_with fail
          go_roundw
          case rel => exact ⟨i + 1, hlt, by go_num, HA2, K4, O4⟩
          case measure => simp [intOf]; omega
      · have hltI : ¬ (i : Int) < l.length := by omega
        obtain rfl : i = l.length := by omega
        rw [List.take_length] at hO hll htv
        have hok := allh_end hA.out
        have hkA : okA l = true := by unfold okA; rw [Bool.and_eq_true, List.all_eq_true]; exact ⟨hok, by simp; omega⟩
        have HQ := Lib.hid (And.intro (aE_ok hkA) (all_lnA hkA))
        have HD := Lib.hid (show lnA l = lns l ++ [13, 10] from rfl)
        clear hok hkA hA
        generalize lns l = D at *
        subst htv
        have k5 := (Kept.refl wr).alloc (.cells #[.int .u8 13, .int .u8 10] 5)
        have hbx := Lib.hid (brd_new wr [13, 10] 5 #[.int .u8 13, .int .u8 10] rfl 2 (Nat.le_refl 2) (0, 0))
        have K5 := Lib.hid (hK.out.trans k5)
        have O5 := Lib.hid (hO.out.kept k5)
        have hszz := K5.out.size
        clear k5 hK hO
        go_wp2_with (at_builtin; refine wpList_sliceM rfl _ _ rfl w.heap.size _ _ D [13, 10] rfl O5.out rfl hbx.out (by simp; omega) hszz ?_)
        intro v4 z4 hz hgz hnb
        have K4 := Lib.hid (kept_row K5.out hgz (fun g hg => (O5.out.lt g hg).1))
        obtain ⟨a4, c4, hv4⟩ := hz.slice
        have O4 := Lib.hid hz
        clear hz hgz hnb
        generalize D ++ [13, 10] = D2 at *
        subst hv4
        go_wp2
        go_ret2
        exact ⟨_, by rw [HQ.out.1]; rfl, by rw [HQ.out.2, Option.getD_some, HD.out]; exact O4.out, K4.out⟩
/-! are lists the same -/
theorem take_eq {α : Type} {l l' : List α} {i : Nat} {a b : α} (h : l.take i = l'.take i) (ha : l[i]? = some a) (hb : l'[i]? = some b) (he : a = b) : l.take (i + 1) = l'.take (i + 1) := by
  rw [List.take_add_one, List.take_add_one, h, ha, hb, he]
theorem take_ne {α : Type} {l l' : List α} {i : Nat} {a b : α} (ha : l[i]? = some a) (hb : l'[i]? = some b) (he : a ≠ b) : l ≠ l' := fun e => by
  rw [e, hb] at ha
  cases ha
  exact he rfl
set_option maxRecDepth 100000 in
theorem eq_hdr (a b : Hdr) (w : World) : (Op.equalIn 10000 68 (hV a) (hV b)).run Tryz.prog w = .ok (a == b) w := by
  have h1 : Tryz.prog.stoodInHeld 68 = false := by kernel_rfl
  rw [run_equalIn_struct w 9999 68 _ _ (by simp [go_sem]) h1]
  simp [go_sem]
  obtain ⟨a1, a2⟩ := a
  obtain ⟨b1, b2⟩ := b
  by_cases h1 : a1 = b1
  · by_cases h2 : a2 = b2
    · simp [h1, h2]
    · simp [h1, h2]
  · simp [h1]
theorem neq_hdr (a b : Hdr) (w : World) : (binOp .neq 68 (hV a) (hV b)).run Tryz.prog w = .ok (.bool (!(a == b))) w := by
  rw [run_neq_struct, eq_hdr]; rfl
theorem eql_hdr (a b : Hdr) (w : World) : (binOp .eql 68 (hV a) (hV b)).run Tryz.prog w = .ok (.bool (a == b)) w := by
  rw [run_eql_struct, eq_hdr]; rfl
def SmP {α : Type} [DecidableEq α] (l l' : List α) (w : World) (e : Ending) (w' : World) : Prop := e = .returned (.bool (decide (l = l'))) ∧ Kept w w'
end Go.Proofs.YtgpocnnolieijaaGreatDoor.Hd
/- The chapter's examples; are headers few. -/
set_option linter.unusedSimpArgs false
set_option linter.unusedVariables false
namespace Go.Proofs.YtgpocnnolieijaaGreatDoor.Hd
open Go.ChangeShapes Go.WideShapes Go.ChangeAt Go.RowKit Go.Shelf
theorem ex_cod : cod [195, 169] = [[61, 63, 117, 116, 102, 45, 56, 63, 66, 63, 119, 54, 107, 61, 63, 61]] := by
  rw [cod_more (by decide), show prt [195, 169] = 2 from rfl, show ([195, 169] : B).drop 2 = [] from rfl, cod_nil, show ([195, 169] : B).take 2 = [195, 169] from rfl]
  decide +kernel
theorem ex_line : line ([83, 117, 98, 106, 101, 99, 116], [195, 169]) = some [83, 117, 98, 106, 101, 99, 116, 58, 32, 61, 63, 117, 116, 102, 45, 56, 63, 66, 63, 119, 54, 107, 61, 63, 61, 13, 10] := by
  rw [line_lnH (by decide)]
  unfold lnH bdy wds
  rw [if_neg (by decide), ex_cod]
  rfl
theorem ex_to : line ([84, 111], [97, 32, 98]) = some [84, 111, 58, 32, 97, 32, 98, 13, 10] := by
  rw [line_lnH (by decide)]
  unfold lnH bdy wds
  rw [if_pos (by decide)]
  rfl
theorem ex_read : red [84, 111, 58, 32, 97, 32, 98, 13, 10] = some ([84, 111], [97, 32, 98]) := red_iff.2 ex_to
/-- are they few -/
def fewB (l : List Hdr) (most : Int) : Bool := decide ((l.length : Int) ≤ most) && l.all fun h => decide (h.1.length ≤ 100) && decide (h.2.length ≤ 600)
theorem few_long {l : List Hdr} {most : Int} (h : most < l.length) : fewB l most = false := by
  unfold fewB
  rw [decide_eq_false (by omega)]; rfl
theorem few_bad {l : List Hdr} {most : Int} {i : Nat} {x : Hdr} (hx : l[i]? = some x) (h : 100 < x.1.length ∨ 600 < x.2.length) : fewB l most = false := by
  unfold fewB
  rw [Bool.and_eq_false_iff]
  refine Or.inr ?_
  rw [List.all_eq_false]
  refine ⟨x, List.mem_of_getElem? hx, ?_⟩
  simp only [Bool.and_eq_true, decide_eq_true_eq]
  omega
theorem few_yes {l : List Hdr} {most : Int} (h : ¬ most < l.length) (hx : ∀ j y, j < l.length → l[j]? = some y → y.1.length ≤ 100 ∧ y.2.length ≤ 600) : fewB l most = true := by
  unfold fewB
  rw [decide_eq_true (by omega), Bool.true_and, List.all_eq_true]
  intro x hm
  obtain ⟨i, hi, rfl⟩ := List.mem_iff_getElem.1 hm
  have := hx i _ hi (List.getElem?_eq_getElem hi)
  simp only [Bool.and_eq_true, decide_eq_true_eq]
  exact this
theorem few_bd {l : List Hdr} {most : Int} (h : fewB l most = true) : (l.length : Int) ≤ most ∧ ∀ x ∈ l, x.1.length ≤ 100 ∧ x.2.length ≤ 600 := by
  unfold fewB at h
  rw [Bool.and_eq_true, List.all_eq_true] at h
  exact ⟨by simpa using h.1, fun x hx => by have := h.2 x hx; simpa using this⟩
end Go.Proofs.YtgpocnnolieijaaGreatDoor.Hd
/- What the arguments of package head's laws read as; that they read so behind the call. -/
set_option linter.unusedSimpArgs false
set_option linter.unusedVariables false
namespace Go.Proofs.YtgpocnnolieijaaGreatDoor
open Go.ChangeShapes Go.WideShapes Go.ChangeAt Go.RowKit
open Hd
theorem env_of {W : World} (hS : W.ShapedOpen Tryz.prog) : Env W :=
  cell_of_shapedOpen_int (g := 0) (t := 3) (zero := #[.int .i64 0]) hS (of_decide_eq_true (by kernel_rfl)) (by kernel_rfl) (by kernel_rfl) (by kernel_rfl) (by kernel_rfl) Tryz.underlying3
/-- as the kit's builder over 'laid', the world's shape handed on -/
theorem handed_shaped {H : Type} {enc : TypeId × Value → H} {a : Assume} {C : Checked} {os : Os} {f : FuncId} {fn : Func} {s : ChangeSpec} {conds : List PathCond} {apart fresh handsOn again : Bool} {X : World → Array Value → Prop}
    (hX : ∀ (w w' : World) (args : Array Value), w.heap = w'.heap → X w args → X w' args)
    (own : ownKnob C.prog.godebug = none) (started : os.Started) (noInit : C.prog.inits.idxOf? f = none) (hfn : C.prog.funcs[f]? = some fn)
    (witness : ∃ (w : World) (tape : Tape) (i : Input), w.os = os ∧ (w.forCall tape i).Shaped C.prog ∧ i.vars = [] ∧ Input.okWide C.prog (w.forCall tape i) .any w.heap.size f i ∧
      ((s.pre enc C.prog fn conds apart (w.forCall tape i).memory i.args ∧ X (w.forCall tape i).memory i.args) ∧ sizedMet enc C.prog fn (OpenSpec.ofChange s) apart (w.forCall tape i).memory i.args) ∧ a.holds C.prog (lone (Frame.enter C.prog f i.args .normal) [] (w.forCall tape i)))
    (contract : ∀ (W : World) (base : Nat) (args : Array Value) (ds gs : List (DataW H)) (before : List MemPlace),
      (∀ (j : Nat) t v, fn.params[j]? = some t → args[j]? = some v → Value.okWide C.prog W .any base t v) →
      DataW.Whole enc C.prog fn.params.toList s.vars apart W args.toList ds gs before → X W args → W.ShapedOpen C.prog →
      Calls C.prog f args W fun e W' => ∃ v, e = .returned v ∧ s.post enc C.prog fn apart fresh handsOn again W args v W') :
    ReturnsInHanded a C os f .any (fun w args => (s.pre enc C.prog fn conds apart w args ∧ X w args) ∧ sizedMet enc C.prog fn (OpenSpec.ofChange s) apart w args) (s.post enc C.prog fn apart fresh handsOn again) := by
  refine returnsInHanded_of_calls own started noInit witness ?_
  intro w tape i _ hshape _ hok hpre hholds
  obtain ⟨_, _, _, fn', hfn', _, _, _, _, hval⟩ := hok
  have e : fn' = fn := Option.some.inj (hfn'.symm.trans hfn)
  subst e
  obtain ⟨⟨⟨ds, gs, before, hw, hc⟩, hx⟩, hz⟩ := hpre
  have hw' := DataW.Whole.of_heap (w' := w.forCall tape i) (by rfl) hw
  refine (contract (w.forCall tape i) w.heap.size i.args ds gs before hval hw' (hX _ _ _ (by rfl) hx) hshape).mono fun e W' ⟨v, he, hp⟩ => ?_
  subst he
  exact ChangeSpec.post_blind hp
theorem toList_mk (s : ByteArray) : ⟨s.data.toList.toArray⟩ = s := by simp
variable {H : Type} {enc : TypeId × Value → H} {w : World} {base : Nat} {spare : Nat → Bool} {held : Bool}
theorem cellsB1 : Tryz.prog.cellsOf 5 = 1 := by kernel_rfl
theorem laidOutB8 : laidOutB Tryz.prog = true := by kernel_rfl
set_option maxRecDepth 100000 in
theorem open_brd {n : Nat} {c : Value} {x : DataW H × List MemPlace} (h : DataW.trod enc Tryz.prog w base spare held n 26 [c] = some x) : ∃ l, BRd c l w ∧ l.length ≤ maxLen := by
  rcases open_ints Tryz.underlying26 Tryz.underlying5 cellsB1 h with ⟨hc, _⟩ | ⟨a, len, cap, zs, hc, hb, hl, hm, hlen, hx, hcell, hwf⟩
  · obtain rfl : c = .slice none 0 0 := by simpa using hc
    exact ⟨[], ⟨none, 0, rfl, fun _ => rfl, fun h => absurd rfl h⟩, Nat.zero_le _⟩
  · obtain rfl : c = .slice (some a) len cap := by simpa using hc
    have hz : len ≤ zs.length := by rw [hlen]; split <;> omega
    have hlz : ((zs.take len).map fun z => UInt8.ofNat z.toNat).length = len := by rw [List.length_map, List.length_take, Nat.min_eq_left hz]
    refine ⟨(zs.take len).map fun z => UInt8.ofNat z.toNat, ⟨some a, cap, by rw [hlz], fun e => (by cases e), fun hne => ?_⟩, by rw [hlz]; omega⟩
    have h0 : 0 < len := by
      rcases Nat.eq_zero_or_pos len with q | q
      · exact absurd (List.length_eq_zero_iff.1 (hlz.trans q)) hne
      · exact q
    have hlt := hcell 0 (by omega)
    obtain ⟨b, o, sp⟩ := a
    have hspot : sp = none := by simpa [Addr.add] using World.cell?_spot hlt
    subst hspot
    refine ⟨b, o, rfl, by rw [hlz]; exact hl, fun i y hy => ?_⟩
    have hi : i < len := by
      have := (List.getElem?_eq_some_iff.1 hy).1
      rwa [hlz] at this
    have hz2 : zs[i]? = some (zs.getD i 0) := by
      rw [List.getD_eq_getElem?_getD, List.getElem?_eq_getElem (by omega)]; rfl
    rw [List.getElem?_map, List.getElem?_take, if_pos hi, hz2] at hy
    simp only [Option.map_some, Option.some.injEq] at hy
    have hw := hwf _ (List.mem_of_getElem? hz2)
    have hb : 0 ≤ zs.getD i 0 ∧ zs.getD i 0 ≤ 255 := by simpa [Lit.wf, IntKind.min, IntKind.max, IntKind.signed, IntKind.bits] using hw
    have hq := hcell i (by omega)
    rw [Addr.add_lit] at hq
    rw [hq, ← hy, UInt8.toNat_ofNat']
    congr 2
    omega
set_option maxRecDepth 100000 in
theorem open_bytes8 {r : Reach} {b0 : Nat} {v : Value} {d : DataW H} {p : List MemPlace}
    (hval : Value.okWide Tryz.prog w r b0 26 v) (h : DataW.Trod enc Tryz.prog w base spare held 26 v d p) : ∃ l, BRd v l w ∧ l.length ≤ maxLen := by
  obtain ⟨ad, len, cap, rfl⟩ := okWide_slice Tryz.underlying26 hval
  obtain ⟨fuel, hf⟩ := h
  exact open_brd (show DataW.trod enc Tryz.prog w base spare held fuel 26 [Value.slice ad len cap] = some (d, p) from hf)
/-- an argument reads behind the call as it did -/
theorem shut_bytes8 {W W' : World} {v : Value} {d : DataW H} {ps before : List MemPlace} (h : DataW.Trod enc Tryz.prog W 0 (fun _ => true) true 26 v d ps) (k : Kept W W') (hlt : ∀ x ∈ before, x.block < W.heap.size) (hsub : ∀ x ∈ ps, x ∈ before) {sp : Nat → Bool} (hsp : ∀ p ∈ before, sp p.block = true) :
    DataW.Trod enc Tryz.prog W' 0 sp true 26 v d ps :=
  WideElems.Trod_stays laidOutB8 (by kernel_rfl) (of_decide_eq_true (by kernel_rfl)) h (fun x hx => (k.below (Nat.le_refl _)).same (hlt x (hsub x hx))) (fun x hx => hsp x (hsub x hx))
theorem cellsIs : Tryz.prog.cellsOf 9 = 1 := by kernel_rfl
theorem cellsH2 : Tryz.prog.cellsOf 68 = 2 := by kernel_rfl
theorem list2 {α : Type} {l : List α} (h : l.length = 2) : ∃ a b, l = [a, b] := by
  match l, h with
  | [a, b], _ => exact ⟨a, b, rfl⟩
/-- one cell of a row -/
theorem cells_at {g o n : Nat} {cs : List Value} (h : w.cells? base ⟨g, o, none⟩ n = some cs) {i : Nat} {v : Value} (hi : cs[i]? = some v) : w.cell? ⟨g, o + i, none⟩ = some v := by
  obtain ⟨_, hl, q⟩ := World.cells?_some h
  have hn : i < n := by rw [← hl]; exact (List.getElem?_eq_some_iff.1 hi).1
  have := q i hn
  rwa [Addr.add_lit, hi] at this
theorem cells_spot {a : Addr} {n : Nat} {cs : List Value} (h : w.cells? base a n = some cs) (hn : 0 < n) : a.spot = none := by
  obtain ⟨_, hl, q⟩ := World.cells?_some h
  have h0 := q 0 hn
  rw [Addr.add_zero'] at h0
  obtain ⟨v, hv⟩ : ∃ v, cs[0]? = some v := by
    cases cs with
    | nil => simp at hl; omega
    | cons v l => exact ⟨v, rfl⟩
  exact World.cell?_spot (h0.trans hv)
/-- a list made of what each place has -/
theorem mk_list {α : Type} : ∀ (n : Nat) (P : Nat → α → Prop), (∀ i, i < n → ∃ x, P i x) → ∃ l : List α, l.length = n ∧ ∀ (i : Nat) (x : α), l[i]? = some x → P i x
  | 0, P, _ => ⟨[], rfl, fun i x h => by simp at h⟩
  | n + 1, P, h => by
    obtain ⟨x, hx⟩ := h 0 (by omega)
    obtain ⟨l, hl, hp⟩ := mk_list n (fun i => P (i + 1)) (fun i hi => h (i + 1) (by omega))
    refine ⟨x :: l, by simp [hl], fun i y hy => ?_⟩
    cases i with
    | zero =>
      simp only [List.getElem?_cons_zero, Option.some.injEq] at hy
      subst hy; exact hx
    | succ i => exact hp i y (by simpa using hy)
/-- a header's texts are no longer than a slice may be -/
def SmH (h : Hdr) : Prop := h.1.length ≤ maxLen ∧ h.2.length ≤ maxLen
set_option maxRecDepth 100000 in
theorem open_hdr2 {n : Nat} {cs : List Value} {x : DataW H × List MemPlace} (h : DataW.trod enc Tryz.prog w base spare held n 68 cs = some x) : ∃ e : Hdr, cs = [sV e.1, sV e.2] ∧ SmH e := by
  obtain ⟨xs, m, rfl, hx, hl, hlen, hel⟩ := DataW.trod_struct Tryz.underlying68 h
  rw [cellsH2] at hl
  obtain ⟨c0, c1, rfl⟩ := list2 hl
  obtain ⟨x0, x1, rfl⟩ := list2 (show xs.length = 2 from hlen)
  have e0 : DataW.trod enc Tryz.prog w base spare held m 9 (([c0, c1].drop 0).take (Tryz.prog.cellsOf 9)) = some x0 := hel 0 _ rfl
  have e1 : DataW.trod enc Tryz.prog w base spare held m 9 (([c0, c1].drop 1).take (Tryz.prog.cellsOf 9)) = some x1 := hel 1 _ rfl
  rw [cellsIs] at e0 e1
  obtain ⟨s0, q0, _, z0⟩ := DataW.trod_string Tryz.underlying9 (show DataW.trod enc Tryz.prog w base spare held m 9 [c0] = some x0 from e0)
  obtain ⟨s1, q1, _, z1⟩ := DataW.trod_string Tryz.underlying9 (show DataW.trod enc Tryz.prog w base spare held m 9 [c1] = some x1 from e1)
  cases q0; cases q1
  have hz : ∀ s : ByteArray, s.data.toList.length = s.size := fun s => by rw [Array.length_toList]; rfl
  exact ⟨(s0.data.toList, s1.data.toList), by simp only [sV, toList_mk], (by show s0.data.toList.length ≤ maxLen; rw [hz]; exact z0), (by show s1.data.toList.length ≤ maxLen; rw [hz]; exact z1)⟩
set_option maxRecDepth 100000 in
theorem open_hdrs {n : Nat} {c : Value} {x : DataW H × List MemPlace} (h : DataW.trod enc Tryz.prog w base spare held n 65 [c] = some x) : ∃ l, HRd c l w ∧ l.length ≤ maxLen ∧ ∀ x ∈ l, SmH x := by
  rcases DataW.trod_slice Tryz.underlying65 h with ⟨hc, _⟩ | ⟨a, len, cap, elems, rest, m, _, hc, _, hb, hl, hm, hlen, hel, _, _⟩
  · obtain rfl : c = .slice none 0 0 := by simpa using hc
    exact ⟨[], ⟨none, 0, rfl, fun h => absurd rfl h⟩, Nat.zero_le _, fun _ hx => (by cases hx)⟩
  · obtain rfl : c = .slice (some a) len cap := by simpa using hc
    rw [cellsH2] at hel
    have each : ∀ i, i < len → ∃ t : Hdr, a.spot = none ∧ SmH t ∧ w.cell? ⟨a.block, a.off + i * 2, none⟩ = some (sV t.1) ∧ w.cell? ⟨a.block, a.off + i * 2 + 1, none⟩ = some (sV t.2) := by
      intro i hi
      have h1 := hel i hi
      rw [List.getElem?_eq_getElem (by omega), Option.bind_eq_some_iff] at h1
      obtain ⟨cs, hcs, ht⟩ := h1
      obtain ⟨t, rfl, hsm⟩ := open_hdr2 ht
      have h2 := hel 0 (by omega)
      rw [List.getElem?_eq_getElem (by omega), Option.bind_eq_some_iff, Nat.zero_mul, Addr.add_zero'] at h2
      obtain ⟨cs0, hcs0, _⟩ := h2
      have hs := cells_spot hcs0 (by omega)
      obtain ⟨g, o, sp⟩ := a
      cases hs
      rw [Addr.add_lit] at hcs
      exact ⟨t, rfl, hsm, cells_at hcs (i := 0) rfl, cells_at hcs (i := 1) rfl⟩
    obtain ⟨al, hal, hp⟩ := mk_list len _ each
    refine ⟨al, ⟨some a, cap, by rw [hal], fun hne => ?_⟩, by omega, fun x hx => ?_⟩
    · obtain ⟨t0, ht0⟩ : ∃ t, al[0]? = some t := by
        cases al with
        | nil => exact absurd rfl hne
        | cons t l => exact ⟨t, rfl⟩
      have hs := (hp 0 t0 ht0).1
      obtain ⟨g, o, sp⟩ := a
      cases hs
      exact ⟨g, o, rfl, by omega, fun i t ht => (hp i t ht).2.2⟩
    · obtain ⟨i, hi⟩ := List.getElem?_of_mem hx
      exact (hp i x hi).2.1
set_option maxRecDepth 100000 in
theorem open_header8 {r : Reach} {b0 : Nat} {v : Value} {d : DataW H} {p : List MemPlace}
    (hval : Value.okWide Tryz.prog w r b0 68 v) (h : DataW.Trod enc Tryz.prog w base spare held 68 v d p) : ∃ e : Hdr, v = hV e ∧ SmH e := by
  obtain ⟨cs, rfl⟩ : ∃ cs, v = .agg cs := by
    unfold Value.okWide at hval
    simp only [Tryz.underlying68] at hval
    obtain ⟨cs, hv, _⟩ := hval
    exact ⟨cs, hv⟩
  clear hval
  obtain ⟨fuel, hf⟩ := h
  obtain ⟨e, he, hs⟩ := open_hdr2 hf
  obtain ⟨l⟩ := cs
  refine ⟨e, ?_, hs⟩
  have hl : l = [sV e.1, sV e.2] := he
  rw [hl]
set_option maxRecDepth 100000 in
theorem open_headers8 {r : Reach} {b0 : Nat} {v : Value} {d : DataW H} {p : List MemPlace}
    (hval : Value.okWide Tryz.prog w r b0 65 v) (h : DataW.Trod enc Tryz.prog w base spare held 65 v d p) : ∃ l, HRd v l w ∧ l.length ≤ maxLen ∧ ∀ x ∈ l, SmH x := by
  obtain ⟨ad, len, cap, rfl⟩ := okWide_slice Tryz.underlying65 hval
  obtain ⟨fuel, hf⟩ := h
  exact open_hdrs (show DataW.trod enc Tryz.prog w base spare held fuel 65 [Value.slice ad len cap] = some (d, p) from hf)
theorem shut_header8 {W W' : World} {v : Value} {d : DataW H} {ps before : List MemPlace} (h : DataW.Trod enc Tryz.prog W 0 (fun _ => true) true 68 v d ps) (k : Kept W W') (hlt : ∀ x ∈ before, x.block < W.heap.size) (hsub : ∀ x ∈ ps, x ∈ before) {sp : Nat → Bool} (hsp : ∀ p ∈ before, sp p.block = true) :
    DataW.Trod enc Tryz.prog W' 0 sp true 68 v d ps :=
  WideElems.Trod_stays laidOutB8 (by kernel_rfl) (of_decide_eq_true (by kernel_rfl)) h (fun x hx => (k.below (Nat.le_refl _)).same (hlt x (hsub x hx))) (fun x hx => hsp x (hsub x hx))
theorem shut_headers8 {W W' : World} {v : Value} {d : DataW H} {ps before : List MemPlace} (h : DataW.Trod enc Tryz.prog W 0 (fun _ => true) true 65 v d ps) (k : Kept W W') (hlt : ∀ x ∈ before, x.block < W.heap.size) (hsub : ∀ x ∈ ps, x ∈ before) {sp : Nat → Bool} (hsp : ∀ p ∈ before, sp p.block = true) :
    DataW.Trod enc Tryz.prog W' 0 sp true 65 v d ps :=
  WideElems.Trod_stays laidOutB8 (by kernel_rfl) (of_decide_eq_true (by kernel_rfl)) h (fun x hx => (k.below (Nat.le_refl _)).same (hlt x (hsub x hx))) (fun x hx => hsp x (hsub x hx))
end Go.Proofs.YtgpocnnolieijaaGreatDoor
