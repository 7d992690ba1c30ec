import Derived.Test.YtjlpkgipdkjfhaaGreatDoorRr
import Derived.Test.YtjlpkgipdkjfhaaGreatDoorTb
import Derived.Test.YtjlpkgipdkjfhaaGreatDoorQpRc
import Derived.OwnWalk
set_option linter.unusedSimpArgs false
set_option linter.unusedVariables false
namespace Go.Proofs.YtjlpkgipdkjfhaaGreatDoor.Bk.Pt
open Go.ChangeShapes Go.WideShapes Go.ChangeAt Go.RowKit Go.Shelf
open Hd (SRd OwnM lnA)
theorem map_take {ls : List B} {i : Nat} {b : B} (h : ls[i]? = some b) : (ls.map (Qp.enc 0)).take (i + 1) = (ls.map (Qp.enc 0)).take i ++ [Qp.enc 0 b] := by
  rw [List.take_add_one, map_at h]; rfl
def RjR (ks ls : List B) (w : World) (e : Ending) (w' : World) : Prop := ∃ xv, e = .returned (.tuple #[xv, sV (jX ks ls), iV (jE ks ls)]) ∧ OwnB w.heap.size xv (jB ks ls) w' ∧ Kept w w'
theorem RjR.no {ks ls : List B} {w w' : World} (h : ¬ okJ ks ls = true) (k : Kept w w') : RjR ks ls w (.returned (.tuple #[.slice none 0 0, sV [], iV 1])) w' := by
  obtain ⟨e1, e2, e3⟩ := j_no h
  exact ⟨_, by rw [e2, e3], by rw [e1]; exact OwnB.nil _ _, k⟩
set_option maxRecDepth 100000 in
set_option maxHeartbeats 8000000 in
theorem rjoin_any (kv lv : Value) (ks ls : List B) (w : World) (hk : SRd kv ks w) (hl : LRd lv ls w) (hkb : ∀ k ∈ ks, k.length ≤ 1000000) (hlb : ∀ b ∈ ls, b.length ≤ 100000) :
    Calls Tryz.prog 31 #[kv, lv] w (RjR ks ls w) := by
  obtain ⟨ka, kc, rfl⟩ := hk.slice
  obtain ⟨la, lc, rfl⟩ := hl.slice
  have HK := Lib.hid hk
  have HL := Lib.hid hl
  have HKB := Lib.hid hkb
  have HLB := Lib.hid hlb
  clear hk hl hkb hlb
  have HNO := Lib.hid (fun (w' : World) h k => RjR.no (ks := ks) (ls := ls) (w := w) (w' := w') h k)
  have HIFF := Lib.hid (okJ_iff (ks := ks) (ls := ls))
  by_cases h1 : (ks.length : Int) = ls.length
  case neg =>
    have HQ := Lib.hid (fun (w' : World) k => HNO.out w' (fun h => by have := (HIFF.out.1 h).1; omega) k)
    go_enter Tryz.func31, Tryz.ntmps31
    go_wp2
    go_ret3
    exact HQ.out _ (Kept.refl _)
  by_cases h2 : (ls.length : Int) < 1
  case pos =>
    have HQ := Lib.hid (fun (w' : World) k => HNO.out w' (fun h => by have := (HIFF.out.1 h).2.1; omega) k)
    rw [show ks.length = ls.length by omega]
    clear h1
    generalize ls.length = n at h2 ⊢
    go_enter Tryz.func31, Tryz.ntmps31
    go_wp2
    go_ret3
    exact HQ.out _ (Kept.refl _)
  by_cases h3 : (8 : Int) < ls.length
  case pos =>
    have HQ := Lib.hid (fun (w' : World) k => HNO.out w' (fun h => by have := (HIFF.out.1 h).2.1; omega) k)
    rw [show ks.length = ls.length by omega]
    clear h1
    generalize ls.length = n at h2 h3 ⊢
    go_enter Tryz.func31, Tryz.ntmps31
    go_wp2
    go_ret3
    exact HQ.out _ (Kept.refl _)
  obtain ⟨n, hn⟩ : ∃ n, n = ls.length := ⟨_, rfl⟩
  have hkn : ks.length = n := by omega
  rw [hkn, ← hn]
  rw [← hn] at h2 h3
  have HN := Lib.hid hn
  have HKN := Lib.hid hkn
  clear h1 hn hkn
  have hn8 : n ≤ 8 := by omega
  go_enter Tryz.func31, Tryz.ntmps31
  go_wp2_with fail
  go_loopw [7, 8, 9] (fun vc vi _ wr => ∃ i : Nat, i ≤ n ∧ vi = .int .i64 i ∧ Hid (∀ j k, j < i → ks[j]? = some k → kd k = true) ∧ Hid (OwnLs w.heap.size vc ((ls.map (Qp.enc 0)).take i) wr) ∧ Hid (Kept w wr)) (fun _ vi _ _ => n - (intOf vi).toNat)
  case atStart => exact ⟨0, Nat.zero_le _, rfl, Lib.hid (fun j k h => by omega), Lib.hid (OwnLs.nil _ _), Lib.hid (Kept.refl w)⟩
  case round =>
    obtain ⟨i, hi, rfl, hA, hO, hK⟩ := hrel
    by_cases hlt : i < n
    · have hltI : (i : Int) < n := by omega
      obtain ⟨k, hk⟩ : ∃ k, ks[i]? = some k := ⟨_, List.getElem?_eq_getElem (by have := HKN.out; omega)⟩
      obtain ⟨d, hd⟩ : ∃ d, ls[i]? = some d := ⟨_, List.getElem?_eq_getElem (by have := HN.out; omega)⟩
      obtain ⟨g, o, c, hv, hc, c0⟩ := (HK.out.kept hK.out).at hk
      obtain ⟨g2, o2, c2, x, hv2, hc2, d0, hx⟩ := (HL.out.kept hK.out).at hd
      rw [HKN.out] at hv hc
      rw [← HN.out] at hv2 hc2
      cases hv
      cases hv2
      have HC := Lib.hid (fun w => rkind_any k w (by have := HKB.out k (List.mem_of_getElem? hk); omega))
      have HX := Lib.hid hk
      have HMT := Lib.hid (map_take hd)
      have HXR := Lib.hid hx
      have hdl := HLB.out d (List.mem_of_getElem? hd)
      have HEn := Lib.hid (fun v w h => Qp.rencode_any v d w h (by omega))
      obtain ⟨xa, xc, rfl⟩ := hx.slice
      clear hk hd hx
      go_wp2_with fail
      refine (HC.out _).mono ?_
      rintro e y ⟨rfl, hy⟩
      have hy' := hy.symm
      subst hy'
      clear HC hy
      cases hq : kd k with
      | false =>
        have HQ := Lib.hid (HNO.out wr (fun h => by have := (HIFF.out.1 h).2.2 k (List.mem_of_getElem? HX.out); rw [hq] at this; cases this) hK.out)
        clear hq
        go_wp2
        go_ret3
        exact HQ.out
      | true =>
        have HA2 := Lib.hid (show ∀ j k, j < i + 1 → ks[j]? = some k → kd k = true from fun j k' hj hk' => by
          by_cases e : j = i
          · subst e; rw [HX.out] at hk'; cases hk'; exact hq
          · exact hA.out j k' (by omega) hk')
        clear hq
        go_wp2_with fail
        refine (HEn.out _ _ HXR.out).mono ?_
        rintro e y ⟨cv, rfl, hco, ky⟩
        have KY := Lib.hid (hK.out.trans ky)
        have OY := Lib.hid (hO.out.kept ky)
        have CO := Lib.hid hco
        obtain ⟨ca, cc, hcv⟩ := own_slice hco
        obtain ⟨va, vc', hvv⟩ := hO.out.slice
        have hszy := KY.out.size
        have hml : ((ls.map (Qp.enc 0)).take i).length ≤ 10000000 := by simp; omega
        subst hcv
        subst hvv
        clear ky hco hO hK HEn HXR c0 d0
        generalize (ls.map (Qp.enc 0)).take i = done at *
        generalize Qp.enc 0 d = cd at *
        have kb := (Kept.refl y).alloc (.cells #[.slice ca cd.length cc] 25)
        have e0 := (Kept.refl (y.alloc (.cells #[.slice ca cd.length cc] 25))).new 0 (v := .slice ca cd.length cc) rfl
        have KC := Lib.hid (KY.out.trans kb)
        have OC := Lib.hid (OY.out.kept kb)
        have CC := Lib.hid (OwnB.kept CO.out kb)
        have hBC : w.heap.size ≤ (y.alloc (.cells #[.slice ca cd.length cc] 25)).heap.size := Nat.le_trans hszy kb.size
        clear kb KY OY CO
        go_wp2_with (at_builtin; refine wpList_pushL rfl _ _ rfl w.heap.size _ done cd _ y.heap.size rfl OC.out rfl e0 CC.out.rd (OC.out.apart CC.out) hml hBC ?_)
        intro v2 z2 hz hgz
        have O2 := Lib.hid (show OwnLs w.heap.size v2 ((ls.map (Qp.enc 0)).take (i + 1)) z2 by rw [HMT.out]; exact hz)
        have K2 := Lib.hid (kept_row KC.out hgz (fun r hr => (OC.out.lt r hr).1))
        clear hz hgz KC OC CC e0
        go_wp2_with fail
        go_roundw
        case rel => exact ⟨i + 1, hlt, by go_num, HA2, O2, K2⟩
        case measure => simp [intOf]; omega
    · obtain rfl : i = n := by omega
      have hltI : ¬ (i : Int) < i := by omega
      rw [List.take_of_length_le (by rw [List.length_map]; have := HN.out; omega)] at hO
      have HOK := Lib.hid (HIFF.out.2 ⟨by rw [HKN.out, HN.out], by have := HN.out; omega, fun k hk => by
        obtain ⟨j, hj, rfl⟩ := List.mem_iff_getElem.1 hk
        exact hA.out j _ (by have := HKN.out; omega) (List.getElem?_eq_getElem hj)⟩)
      have hml : (ls.map (Qp.enc 0)).length = i := by rw [List.length_map]; exact HN.out.symm
      have HBd := Lib.hid (rboundary_any _ _ wr hO.out.rd (fun b hb => by
        obtain ⟨a, ha, rfl⟩ := List.mem_map.1 hb
        have h1 := Qp.enc_len a 0
        have h2 := HLB.out a ha
        omega) (by
        have h1 := sum_enc 100000 ls HLB.out
        have h2 : ls.length * (6 * 100000) ≤ 8 * (6 * 100000) := Nat.mul_le_mul_right _ (by have := HN.out; omega)
        omega) (by omega))
      rw [bdy_enc] at HBd
      have HCR := Lib.hid hO.out.rd
      obtain ⟨va, vc', hvv⟩ := hO.out.slice
      rw [hml] at hvv
      subst hvv
      clear hA HIFF HNO hO hml
      go_wp2_with fail
      refine HBd.out.mono ?_
      rintro e y ⟨rfl, hy⟩
      have hy' := hy.symm
      subst hy'
      clear HBd hy
      have hw0 := hK.out.size
      obtain ⟨hkl8, _, hkds⟩ := okJ_iff.1 HOK.out
      have HPE := Lib.hid (pre_end hkl8)
      have HKD := Lib.hid hkds
      clear hkds
      go_wp2_with fail
      obtain ⟨w5, hw5⟩ : ∃ w5, w5 = wr := ⟨_, rfl⟩
      subst hw5
      have a1 : (⟨#[45, 45]⟩ ++ ⟨b0.toArray⟩ : ByteArray) = ⟨([45, 45] ++ b0).toArray⟩ := Hd.app_mk [45, 45] b0
      have a2 : (⟨([45, 45] ++ b0).toArray⟩ ++ ⟨#[13, 10]⟩ : ByteArray) = ⟨([45, 45] ++ b0 ++ [13, 10]).toArray⟩ := Hd.app_mk ([45, 45] ++ b0) [13, 10]
      have a5 : (⟨([45, 45] ++ b0).toArray⟩ ++ ⟨#[45, 45, 13, 10]⟩ : ByteArray) = ⟨([45, 45] ++ b0 ++ [45, 45, 13, 10]).toArray⟩ := Hd.app_mk ([45, 45] ++ b0) [45, 45, 13, 10]
      have a3 : (ByteArray.mk b0.toArray).size = 3 := rfl
      have a4 : (ByteArray.mk ([45, 45] ++ b0).toArray).size = 5 := rfl
      have hPl : ([45, 45] ++ b0 ++ [13, 10]).length = 7 := rfl
      have hFl : ([45, 45] ++ b0 ++ [45, 45, 13, 10]).length = 9 := rfl
      have HPE2 := Lib.hid (show pre ks ls ls.length ++ ([45, 45] ++ b0 ++ [45, 45, 13, 10]) = joined (ks.zip ls) by rw [← HPE.out]; simp)
      have HPX := Lib.hid (show ∀ k c : B, pcX b0 k c = ([45, 45] ++ b0 ++ [13, 10]) ++ (lnA (hds k) ++ (c ++ [13, 10])) from fun k c => rfl)
      generalize [45, 45] ++ b0 ++ [13, 10] = P at *
      generalize [45, 45] ++ b0 ++ [45, 45, 13, 10] = F at *
      generalize [45, 45] ++ b0 = P0 at *
      have HYES := Lib.hid (j_yes HOK.out)
      clear HPE HOK
      go_loopw [11, 12] (fun vo vi y => ∃ j : Nat, j ≤ i ∧ vi = .int .i64 j ∧ Hid (OwnB w5.heap.size vo (pre ks ls j) y) ∧ Hid (Kept w5 y) ∧ Hid ((pre ks ls j).length ≤ j * 20000000)) (fun _ vi _ => i - (intOf vi).toNat)
      case atStart => exact ⟨0, Nat.zero_le _, rfl, Lib.hid (OwnB.nil _ _), Lib.hid (Kept.refl _), Lib.hid (by simp [pre])⟩
      case round =>
        obtain ⟨j, hj, rfl, hO, hK5, hLn⟩ := hrel
        have hj20 : j * 20000000 ≤ 8 * 20000000 := Nat.mul_le_mul_right _ (by omega)
        have hlen := hLn.out
        have hszj : w5.heap.size ≤ wr.heap.size := hK5.out.size
        obtain ⟨oa, oc, hov⟩ := own_slice hO.out
        subst hov
        by_cases hlt : j < i
        · have hltI : (j : Int) < i := by omega
          obtain ⟨k, hk⟩ : ∃ k, ks[j]? = some k := ⟨_, List.getElem?_eq_getElem (by have := HKN.out; omega)⟩
          obtain ⟨d, hd⟩ : ∃ d, ls[j]? = some d := ⟨_, List.getElem?_eq_getElem (by have := HN.out; omega)⟩
          obtain ⟨g, o, c, hv, hc, cw⟩ := HK.out.at hk
          have c0 := hK5.out.yes (hK.out.yes cw)
          obtain ⟨g2, o2, c2, x, hv2, hc2, d0, hx⟩ := HCR.out.at (map_at hd)
          rw [HKN.out] at hv hc
          rw [List.length_map, ← HN.out] at hv2 hc2
          cases hv
          cases hv2
          have hkl := (kd_mem (HKD.out k (List.mem_of_getElem? hk))).2
          have hel := Qp.enc_len d 0
          have hdl := HLB.out d (List.mem_of_getElem? hd)
          have HPn := Lib.hid (pre_next hk hd)
          have HHd := Lib.hid (fun w => rheaders_any k w (by omega))
          have hLl := hds_len (k := k) (by omega)
          have HXR := Lib.hid hx
          obtain ⟨xa, xc, rfl⟩ := hx.slice
          have HPX2 := Lib.hid (HPX.out k (Qp.enc 0 d))
          have K5 := Lib.hid hK5.out
          have hcl2 : (Qp.enc 0 d).length ≤ 600000 := by omega
          clear hk hd hx hel hdl
          generalize Qp.enc 0 d = cd at *
          generalize lnA (hds k) = L at *
          generalize pre ks ls j = D at *
          have hDl : D.length ≤ 160000000 := by omega
          go_wp2_with (at_builtin; refine wpList_strB rfl _ _ rfl w5.heap.size _ D P rfl hO.out rfl (by omega) hszj ?_)
          intro v1 z1 hz1 hg1
          have K1 := Lib.hid (kept_row K5.out hg1 (fun r hr => (World.ownsRow.lt hO.out r hr).1))
          have c1 := K1.out.yes (hK.out.yes cw)
          have hD1 : (D ++ P).length ≤ 160000007 := by simp; omega
          obtain ⟨D1, hDD⟩ : ∃ D1, D ++ P = D1 := ⟨_, rfl⟩
          rw [hDD] at hz1 hD1
          have HD1 := Lib.hid hDD
          have O1 := Lib.hid hz1
          obtain ⟨va1, vc1, hv1⟩ := own_slice hz1
          subst hv1
          clear hz1 hg1 hDD c0 hO hK5
          go_wp2_with fail
          refine (HHd.out _).mono ?_
          rintro e z2 ⟨hv, rfl, hh, k2⟩
          have K2 := Lib.hid (K1.out.trans k2)
          have O2 := Lib.hid (O1.out.kept k2)
          have LR := Lib.hid hh.rd
          obtain ⟨ha, hc', hhv⟩ := hh.slice
          subst hhv
          have hsz2 := K2.out.size
          clear hh k2 K1 O1 HHd c1
          go_wp2_with (at_builtin; refine wpList_sliceB rfl _ _ rfl w5.heap.size _ _ D1 L rfl O2.out rfl LR.out (by omega) hsz2 ?_)
          intro v2 z3 hz3 hg3
          have K3 := Lib.hid (kept_row K2.out hg3 (fun r hr => (World.ownsRow.lt O2.out r hr).1))
          have hD2 : (D1 ++ L).length ≤ 161000007 := by simp; omega
          obtain ⟨D2, hDD⟩ : ∃ D2, D1 ++ L = D2 := ⟨_, rfl⟩
          rw [hDD] at hz3 hD2
          have HD2 := Lib.hid hDD
          have O3 := Lib.hid hz3
          obtain ⟨va2, vc2, hv2⟩ := own_slice hz3
          subst hv2
          have d3 := K3.out.yes d0
          have XR3 := Lib.hid (HXR.out.kept K3.out)
          have hsz3 := K3.out.size
          clear hz3 hg3 hDD LR O2 K2 d0
          go_upto_region 18 with (fail)
          go_wp2_with (at_builtin; refine wpList_sliceB rfl _ _ rfl w5.heap.size _ _ D2 cd rfl O3.out rfl XR3.out (by omega) hsz3 ?_)
          intro v3 z4 hz4 hg4
          have K4 := Lib.hid (kept_row K3.out hg4 (fun r hr => (World.ownsRow.lt O3.out r hr).1))
          have hD3 : (D2 ++ cd).length ≤ 162000007 := by simp; omega
          obtain ⟨D3, hDD⟩ : ∃ D3, D2 ++ cd = D3 := ⟨_, rfl⟩
          rw [hDD] at hz4 hD3
          have HD3 := Lib.hid hDD
          have O4 := Lib.hid hz4
          obtain ⟨va3, vc3, hv3⟩ := own_slice hz4
          subst hv3
          clear hz4 hg4 hDD XR3 O3 K3 d3
          have kb := (Kept.refl z4).alloc (.cells #[.int .u8 13, .int .u8 10] 5)
          have KB := Lib.hid (K4.out.trans kb)
          have OB := Lib.hid (O4.out.kept kb)
          have RB := Lib.hid (brd_new z4 [13, 10] 5 #[.int .u8 13, .int .u8 10] rfl 2 (Nat.le_refl 2) (0, 0))
          have hszb := KB.out.size
          clear kb K4 O4
          go_upto_region 19 with (fail)
          go_wp2_with (at_builtin; refine wpList_sliceB rfl _ _ rfl w5.heap.size _ _ D3 [13, 10] rfl OB.out rfl RB.out (by simp; omega) hszb ?_)
          intro v4 z5 hz5 hg5
          have KZ := Lib.hid (kept_row KB.out hg5 (fun r hr => (World.ownsRow.lt OB.out r hr).1))
          have HFin := Lib.hid (show D3 ++ [13, 10] = pre ks ls (j + 1) by rw [HPn.out, HPX2.out, ← HD3.out, ← HD2.out, ← HD1.out]; simp)
          have OZ := Lib.hid (show OwnB w5.heap.size v4 (pre ks ls (j + 1)) z5 by rw [← HFin.out]; exact hz5)
          have HLn := Lib.hid (show (pre ks ls (j + 1)).length ≤ (j + 1) * 20000000 by
            rw [← HFin.out, ← HD3.out, ← HD2.out, ← HD1.out]
            simp only [List.length_append, List.length_cons, List.length_nil]
            omega)
          clear hz5 hg5 KB OB RB
          go_wp2_with fail
          go_roundw
          case rel => exact ⟨j + 1, hlt, by go_num, OZ, KZ, HLn⟩
          case measure => simp [intOf]; omega
        · obtain rfl : j = i := by omega
          have hltI : ¬ (j : Int) < j := by omega
          have HJ := Lib.hid (show pre ks ls j ++ F = joined (ks.zip ls) by rw [HN.out]; exact HPE2.out)
          have hDl : (pre ks ls j).length ≤ 160000000 := by omega
          generalize pre ks ls j = D at *
          go_wp2_with (at_builtin; refine wpList_strB rfl _ _ rfl w5.heap.size _ D F rfl hO.out rfl (by omega) hszj ?_)
          intro v1 z1 hz1 hg1
          have K1 := Lib.hid (hK.out.trans (kept_row hK5.out hg1 (fun r hr => (World.ownsRow.lt hO.out r hr).1)))
          rw [HJ.out] at hz1
          have O1 := Lib.hid (own_mono hz1 hw0)
          obtain ⟨va1, vc1, hv1⟩ := own_slice hz1
          clear hz1 hg1
          generalize joined (ks.zip ls) = J at *
          subst hv1
          go_wp2
          go_ret3
          exact ⟨_, by rw [HYES.out.2.1, HYES.out.2.2]; rfl, by rw [HYES.out.1]; exact O1.out, K1.out⟩
end Go.Proofs.YtjlpkgipdkjfhaaGreatDoor.Bk.Pt
