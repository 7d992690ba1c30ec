/- The document's answer for package head: a header's lines, all lines; are lists the same. -/
import Derived.Test.YtdhhlcgmkkpldaaGreatDoorHdRb
set_option linter.unusedSimpArgs false
set_option linter.unusedVariables false
namespace Go.Proofs.YtdhhlcgmkkpldaaGreatDoor.Hd
open Go.ChangeShapes Go.WideShapes Go.ChangeAt Go.RowKit Go.Shelf
theorem norow_m {B0 : Nat} {v : Value} {l : B} {w : World} (h : OwnM B0 v l w) : NoRow 9 w v.ownBlock := fun r hr c hc => by
  obtain ⟨cs, fz, hk⟩ := h.kind r hr
  rw [hk] at hc
  cases hc
set_option maxRecDepth 100000 in
set_option maxHeartbeats 4000000 in
theorem rline_any (h : Hdr) (w : World) (hn : h.1.length ≤ 100000000) (ht : h.2.length ≤ 100000000) :
    Calls Tryz.prog 15 #[hV h] w fun e w' => ∃ xv, e = .returned (.tuple #[xv, .int .i64 (lE h)]) ∧ OwnM w.heap.size xv ((line h).getD []) w' ∧ Kept w w' := by
  obtain ⟨n, t⟩ := h
  simp only at hn ht
  have hts : (ByteArray.mk t.toArray).size = t.length := List.size_toArray
  have k0 := (Kept.refl w).alloc (.cells #[sV n, sV t] 25)
  have c0 := (Kept.refl (w.alloc (.cells #[sV n, sV t] 25))).new 0 (v := sV n) rfl
  have c1 := (Kept.refl (w.alloc (.cells #[sV n, sV t] 25))).new 1 (v := sV t) rfl
  have HN := Lib.hid (fun w => rname_any n w (by unfold maxLen; omega))
  go_enter Tryz.func15, Tryz.ntmps15
  go_upto_region 1 with (fail)
  generalize w.alloc (.cells #[sV n, sV t] 25) = x0 at *
  go_wp2_with fail
  refine (HN.out _).mono ?_
  rintro e x1 ⟨rfl, rfl⟩
  have K1 := Lib.hid k0
  clear HN k0
  cases hnm : nam n with
  | false =>
    have HK := Lib.hid (show okH (n, t) = false by unfold okH; rw [hnm]; rfl)
    clear hnm
    go_wp2
    go_ret2
    exact ⟨_, by rw [lE_no HK.out]; rfl, by rw [line_no HK.out]; exact OwnM.nil _ _, K1.out⟩
  | true =>
    by_cases hlen : 4000 < (t.length : Int)
    · have HK := Lib.hid (show okH (n, t) = false by unfold okH; rw [hnm, decide_eq_false (show ¬ t.length ≤ 4000 by omega)]; rfl)
      clear hnm
      go_wp2
      go_ret2
      exact ⟨_, by rw [lE_no HK.out]; rfl, by rw [line_no HK.out]; exact OwnM.nil _ _, K1.out⟩
    · have HK := Lib.hid (show okH (n, t) = true by unfold okH; rw [hnm, decide_eq_true (show t.length ≤ 4000 by omega)]; rfl)
      have HL := Lib.hid (show lnH (n, t) = ((wds t).foldl stL (n ++ [58], (n ++ [58]).length)).1 ++ [13, 10] by
        rw [← fil_fold, lnH_parts]; unfold bdy; simp)
      have hnl := (nam_all hnm).2.2
      have happ : (⟨n.toArray⟩ ++ ⟨#[58]⟩ : ByteArray) = ⟨(n ++ [58]).toArray⟩ := app_mk n [58]
      have hPl : (n ++ [58]).length ≤ 41 := by simp; omega
      obtain ⟨cp, x2, hcv, hk2, hO2⟩ := to_own (n ++ [58]) x1 (by omega)
      have e1 := hk2.yes c1
      have K2 := Lib.hid (K1.out.trans hk2)
      have O2 := Lib.hid (hO2.mono K1.out.size)
      have HWs := Lib.hid (fun w => rwords_any t w (by omega))
      have hsum := sumW_wds t
      have hwl := (sumW_len (wds t)).2
      have hwn := (sumW_len (wds t)).1
      have hwm : ∀ x ∈ wds t, x.length ≤ 76003 := fun x hx => by have := hwl x hx; omega
      have hwc : (wds t).length ≤ 76003 := by omega
      clear hnm hk2 hO2 hwl hwn hsum
      generalize wds t = ws at *
      generalize n ++ [58] = P at *
      go_upto_region 5 with (fail)
      clear hcv c0 c1
      go_wp2_with fail
      refine (HWs.out _).mono ?_
      rintro e x3 ⟨vs, rfl, hS, k3⟩
      have S3 := Lib.hid hS
      obtain ⟨sa, sc, hsv⟩ := own_slice hS
      subst hsv
      have K3 := Lib.hid (K2.out.trans k3)
      have O3 := Lib.hid (O2.out.kept k3)
      clear hS k3 e1 HWs O2 K2 K1
      go_wp2_with fail
      go_loopw [5, 6, 8] (fun vm vk vi wr => ∃ i : Nat, i ≤ ws.length ∧ vi = .int .i64 i ∧ vk = .int .i64 (((ws.take i).foldl stL (P, P.length)).2 : Nat) ∧ Hid (Kept w wr) ∧ Hid (OwnS x2.heap.size (.slice sa ws.length sc) ws wr) ∧ Hid (OwnM w.heap.size vm ((ws.take i).foldl stL (P, P.length)).1 wr)) (fun _ _ vi _ => ws.length - (intOf vi).toNat)
      case atStart => exact ⟨0, Nat.zero_le _, rfl, rfl, K3, S3, O3⟩
      case round =>
        obtain ⟨i, hi, rfl, rfl, hK, hK3, hO⟩ := hrel
        have hb := stL_len 76003 (ws.take i) (P, P.length) (fun x hx => hwm x (List.mem_of_mem_take hx))
        have hkl : (ws.take i).length ≤ 76003 := by simp; omega
        have hb1 : ((ws.take i).foldl stL (P, P.length)).1.length ≤ 41 + 76003 * 76006 := Nat.le_trans hb.1 (Nat.add_le_add hPl (Nat.mul_le_mul_right _ hkl))
        have hb2 : ((ws.take i).foldl stL (P, P.length)).2 ≤ 76200 := by have := hb.2; simp only at this; omega
        clear hb hkl
        have hsz := hK.out.size
        by_cases hlt : i < ws.length
        · have hltI : (i : Int) < ws.length := by omega
          obtain ⟨tw, htw⟩ : ∃ tw, ws[i]? = some tw := ⟨_, List.getElem?_eq_getElem hlt⟩
          obtain ⟨g, o, c, hv', hcp, cell⟩ := (OwnS.rd hK3.out).at htw
          injection hv' with ea _ ec
          subst ea ec
          have HS := Lib.hid (stL_take (P, P.length) htw)
          have htl := hwm tw (List.mem_of_getElem? htw)
          have hws : (ByteArray.mk tw.toArray).size = tw.length := List.size_toArray
          have happw : (⟨#[32]⟩ ++ ⟨tw.toArray⟩ : ByteArray) = ⟨([32] ++ tw).toArray⟩ := app_mk [32] tw
          have hwl1 : ([32] ++ tw).length = 1 + tw.length := by simp; omega
          have HTW := Lib.hid htw
          clear htw
          generalize (ws.take i).foldl stL (P, P.length) = s at *
          obtain ⟨l, kk⟩ := s
          simp only at hb1 hb2 hO
          obtain ⟨va, vc, hvv⟩ := hO.out.slice
          subst hvv
          by_cases hlong : 76 < kk + 1 + tw.length
          · have hlI : (76 : Int) < (kk : Int) + 1 + tw.length := by omega
            have HQ := Lib.hid (show stL (l, kk) tw = ((l ++ [13, 10]) ++ ([32] ++ tw), 1 + tw.length) from stL_yes hlong)
            clear hlong
            generalize [32] ++ tw = sw at *
            have k5 := (Kept.refl wr).alloc (.cells #[.int .u8 13, .int .u8 10] 5)
            have hbx := Lib.hid (brd_new wr [13, 10] 5 #[.int .u8 13, .int .u8 10] rfl 2 (Nat.le_refl 2) (0, 0))
            have K5 := Lib.hid (hK.out.trans k5)
            have S5 := Lib.hid (OwnS.kept hK3.out k5)
            have O5 := Lib.hid (hO.out.kept k5)
            have hsz5 := K5.out.size
            clear hK hK3 hO k5
            go_upto_region 11 with (fail)
            go_wp2_with (at_builtin; refine wpList_sliceM rfl _ _ rfl w.heap.size _ _ l [13, 10] rfl O5.out rfl hbx.out (by simp; omega) hsz5 ?_)
            intro v6 y hy hgy hnb
            have K6 := Lib.hid (kept_row K5.out hgy (fun g hg => (O5.out.lt g hg).1))
            have S6 := Lib.hid (show OwnS x2.heap.size _ ws y from own_keep S5.out hgy (norow_m O5.out))
            obtain ⟨g6, o6, c6, hv6, hcp6, cell6⟩ := (OwnS.rd S6.out).at HTW.out
            injection hv6 with ea _ ec
            have hq := Option.some.inj ea
            injection hq with e1 e2
            subst e1 e2 ec
            have O6 := Lib.hid hy
            obtain ⟨va6, vc6, hv6⟩ := hy.slice
            have hl6 : (l ++ [13, 10]).length ≤ 43 + 76003 * 76006 := by simp; omega
            have hsz6 := K6.out.size
            clear hy hgy hnb K5 S5 O5 hbx cell
            generalize l ++ [13, 10] = l6 at *
            subst hv6
            go_upto_region 13 with (fail)
            go_wp2_with (at_builtin; refine wpList_strM rfl _ _ rfl w.heap.size _ l6 sw rfl O6.out rfl (by omega) hsz6 ?_)
            intro v7 y7 hy hgy hnb
            have K7 := Lib.hid (kept_row K6.out hgy (fun g hg => (O6.out.lt g hg).1))
            have S7 := Lib.hid (show OwnS x2.heap.size _ ws y7 from own_keep S6.out hgy (norow_m O6.out))
            obtain ⟨g7, o7, c7, hv7, hcp7, cell7⟩ := (OwnS.rd S7.out).at HTW.out
            injection hv7 with ea _ ec
            have hq := Option.some.inj ea
            injection hq with e1 e2
            subst e1 e2 ec
            have O7 := Lib.hid (show OwnM w.heap.size v7 ((ws.take (i + 1)).foldl stL (P, P.length)).1 y7 by rw [HS.out, HQ.out]; exact hy)
            have hk7 : ((ws.take (i + 1)).foldl stL (P, P.length)).2 = 1 + tw.length := by rw [HS.out, HQ.out]
            clear hy hgy hnb K6 S6 O6 cell6
            go_wp2_with fail
            go_roundw
            case rel => exact ⟨i + 1, hlt, by go_num, by rw [hk7]; go_num, K7, S7, O7⟩
            case measure => simp [intOf]; omega
          · have hlI : ¬ (76 : Int) < (kk : Int) + 1 + tw.length := by omega
            have HQ := Lib.hid (show stL (l, kk) tw = (l ++ ([32] ++ tw), kk + 1 + tw.length) from stL_no hlong)
            clear hlong
            generalize [32] ++ tw = sw at *
            go_upto_region 13 with (fail)
            go_wp2_with (at_builtin; refine wpList_strM rfl _ _ rfl w.heap.size _ l sw rfl hO.out rfl (by omega) hsz ?_)
            intro v7 y7 hy hgy hnb
            have K7 := Lib.hid (kept_row hK.out hgy (fun g hg => (hO.out.lt g hg).1))
            have S7 := Lib.hid (show OwnS x2.heap.size _ ws y7 from own_keep hK3.out hgy (norow_m hO.out))
            obtain ⟨g7, o7, c7, hv7, hcp7, cell7⟩ := (OwnS.rd S7.out).at HTW.out
            injection hv7 with ea _ ec
            have hq := Option.some.inj ea
            injection hq with e1 e2
            subst e1 e2 ec
            have O7 := Lib.hid (show OwnM w.heap.size v7 ((ws.take (i + 1)).foldl stL (P, P.length)).1 y7 by rw [HS.out, HQ.out]; exact hy)
            have hk7 : ((ws.take (i + 1)).foldl stL (P, P.length)).2 = kk + 1 + tw.length := by rw [HS.out, HQ.out]
            clear hy hgy hnb hK hK3 hO cell
            go_wp2_with fail
            go_roundw
            case rel => exact ⟨i + 1, hlt, by go_num, by rw [hk7]; go_num, K7, S7, O7⟩
            case measure => simp [intOf]; omega
        · have hltI : ¬ (i : Int) < ws.length := by omega
          obtain rfl : i = ws.length := by omega
          rw [List.take_length] at hO hb1
          rw [List.take_length]
          generalize ws.foldl stL (P, P.length) = s at *
          obtain ⟨l, kk⟩ := s
          simp only at hb1 hO HL
          obtain ⟨va, vc, hvv⟩ := hO.out.slice
          subst hvv
          have k5 := (Kept.refl wr).alloc (.cells #[.int .u8 13, .int .u8 10] 5)
          have hbx := Lib.hid (brd_new wr [13, 10] 5 #[.int .u8 13, .int .u8 10] rfl 2 (Nat.le_refl 2) (0, 0))
          have K5 := Lib.hid (hK.out.trans k5)
          have O5 := Lib.hid (hO.out.kept k5)
          have hsz5 := K5.out.size
          clear hK hK3 hO k5
          go_wp2_with (at_builtin; refine wpList_sliceM rfl _ _ rfl w.heap.size _ _ l [13, 10] rfl O5.out rfl hbx.out (by simp; omega) hsz5 ?_)
          intro v6 y hy hgy hnb
          have K6 := Lib.hid (kept_row K5.out hgy (fun g hg => (O5.out.lt g hg).1))
          obtain ⟨va6, vc6, hv6⟩ := hy.slice
          have O6 := Lib.hid hy
          clear hy hgy hnb K5 O5 hbx
          generalize l ++ [13, 10] = l6 at *
          subst hv6
          go_wp2
          go_ret2
          exact ⟨_, by rw [lE_ok HK.out]; rfl, by rw [line_lnH HK.out, Option.getD_some, HL.out]; exact O6.out, K6.out⟩
end Go.Proofs.YtdhhlcgmkkpldaaGreatDoor.Hd
