import Derived.Test.YtjlpkgipdkjfhaaGreatDoorPtGu
import Derived.Test.YtjlpkgipdkjfhaaGreatDoorTb
set_option linter.unusedSimpArgs false
set_option linter.unusedVariables false
namespace Go.Proofs.YtjlpkgipdkjfhaaGreatDoor.Bk.Pt
open Go.ChangeShapes Go.WideShapes Go.ChangeAt Go.RowKit Go.Shelf
open Hd (SRd OwnS)
def GU (b x : B) (ks ls : List B) : Prop := ∀ l, gue b x = some l → l = ks.zip ls ∧ ks.length = ls.length
theorem GU.no {b x : B} {ks ls : List B} (h : gue b x = none) : GU b x ks ls := fun l hl => by rw [h] at hl; cases hl
def GuR (b x : B) (w : World) (e : Ending) (w' : World) : Prop := ∃ (kv lv : Value) (ks ls : List B), e = .returned (.tuple #[kv, lv, .bool (gue b x).isSome]) ∧ OwnS w.heap.size kv ks w' ∧ OwnLo w.heap.size lv ls w' ∧ GU b x ks ls ∧ (∀ k ∈ ks, k.length ≤ 4000) ∧ (∀ d ∈ ls, d.length ≤ 1000000) ∧ Kept w w'
set_option maxRecDepth 100000 in
set_option maxHeartbeats 4000000 in
theorem guess_any (v : Value) (b x : B) (w : World) (hR : BRd v b w) (hE : Env w) (hl : b.length ≤ 1000000) (hx : x.length ≤ 900) (hcap : ∀ a n c, v = .slice a n c → c ≤ 9223372036854775807) :
    Calls Tryz.prog 48 #[v, sV x] w (GuR b x w) := by
  obtain ⟨va, vc, rfl⟩ := hR.slice
  have hxs : (ByteArray.mk x.toArray).size = x.length := List.size_toArray
  have a1 : (⟨#[45, 45]⟩ ++ ⟨x.toArray⟩ : ByteArray) = ⟨(45 :: 45 :: x).toArray⟩ := Hd.app_mk [45, 45] x
  obtain ⟨cp, y, hcv, ky, hy⟩ := to_bytes (45 :: 45 :: x) w
  have HSP := Lib.hid (splitN_any _ _ b (45 :: 45 :: x) y (hR.kept ky) hy (hE.kept ky) (by simp) (by simp; omega) (by omega) hcap)
  have KY := Lib.hid ky
  have HE := Lib.hid hE
  have HG := Lib.hid (show gue b x = if (Lib.splitK (45 :: 45 :: x) 0 (min 10 (b.length + 1) - 1) b).length < 3 then none else gPs ((Lib.splitK (45 :: 45 :: x) 0 (min 10 (b.length + 1) - 1) b).tail.dropLast) from rfl)
  have hpl := splitK_len (45 :: 45 :: x) (min 10 (b.length + 1) - 1) b
  have hpm := splitK_many (45 :: 45 :: x) (min 10 (b.length + 1) - 1) b
  have hxl : (45 :: 45 :: x : B).length = x.length + 2 := by simp
  rw [hxl] at hcv HSP
  clear hR hE ky hy hxl
  generalize hPP : Lib.splitK (45 :: 45 :: x) 0 (min 10 (b.length + 1) - 1) b = P at *
  have hpm9 : P.length ≤ 10 := by omega
  have HPL := Lib.hid (show ∀ p ∈ P.tail.dropLast, p.length ≤ 1000000 from fun p hp => by
    have := hpl p (List.mem_of_mem_tail (List.dropLast_subset _ hp)); omega)
  clear hPP hpl hpm
  generalize hq : (45 :: 45 :: x : B) = q at *
  clear hq
  obtain ⟨B0, hB⟩ : ∃ B0, w.heap.size = B0 := ⟨_, rfl⟩
  rw [hB] at hcv HSP
  have HB := Lib.hid hB
  clear hB
  go_enter Tryz.func48, Tryz.ntmps48
  go_wp2_with fail
  refine HSP.out.mono ?_
  rintro e y1 ⟨pv, rfl, hp, k1⟩
  have K1 := Lib.hid (KY.out.trans k1)
  have HP := Lib.hid hp
  obtain ⟨pa, pc', rfl⟩ := hp.slice
  clear k1 hp HSP KY hcv a1
  by_cases h3 : (P.length : Int) < 3
  · have HQ := Lib.hid (HG.out.trans (if_pos (by omega)))
    generalize P.length = n at *
    go_wp2
    go_ret3
    exact ⟨_, _, [], [], by rw [HQ.out]; rfl, OwnS.nil _ _, OwnLo.nil _ _, GU.no HQ.out, by simp, by simp, K1.out⟩
  · have HQ := Lib.hid (HG.out.trans (if_neg (by omega)))
    obtain ⟨g, o, c, p0, hv, hc, hp1, hp0⟩ := HP.out.at (i := 0) (b := P[0]'(by omega)) (List.getElem?_eq_getElem (by omega))
    clear hp0 hp1
    cases hv
    have HM := Lib.hid (mid_run g o P.length pc' P y1 HP.out (by omega) hc)
    have hml : P.tail.dropLast.length = P.length - 1 - 1 := by simp
    generalize P.tail.dropLast = M at *
    have hc1 : ¬ pc' = 1 := by omega
    have HML := Lib.hid hml
    have hM8 : M.length ≤ 8 := by omega
    clear hml HP HG
    generalize P.length = n at *
    go_upto_region 5 with (fail)
    generalize n - 1 - 1 = m at *
    clear hc hc1 h3
    have hm8 : m ≤ 8 := by have := HML.out; omega
    have hB01 : B0 ≤ y1.heap.size := by have := K1.out.size; have := HB.out; omega
    generalize hB1 : y1.heap.size = B1 at *
    have HB1 := Lib.hid hB1
    clear hB1
    go_loopw [4, 5, 9, 10, 11, 12, 27] (fun vk vl _ _ _ _ vi wr => ∃ (i : Nat) (ks ls : List B), i ≤ m ∧ vi = .int .i64 i ∧ Hid (ks.length = i ∧ ls.length = i) ∧ Hid (OwnS B1 vk ks wr) ∧ Hid (OwnLo B1 vl ls wr) ∧ Hid (gPs M = (gPs (M.drop i)).map (fun r => ks.zip ls ++ r)) ∧ Hid (∀ k ∈ ks, k.length ≤ 4000) ∧ Hid (∀ d ∈ ls, d.length ≤ 1000000) ∧ Hid (Kept y1 wr)) (fun _ _ _ _ _ _ vi _ => m - (intOf vi).toNat)
    case atStart => exact ⟨0, [], [], Nat.zero_le _, rfl, Lib.hid ⟨rfl, rfl⟩, Lib.hid (OwnS.nil _ _), Lib.hid (OwnLo.nil _ _), Lib.hid (by rw [List.drop_zero]; simp), Lib.hid (by simp), Lib.hid (by simp), Lib.hid (Kept.refl _)⟩
    case round =>
      obtain ⟨i, ks, ls, hi, rfl, hKL, hS, hL, hG, hB1, hB2, hK1⟩ := hrel
      by_cases hlt : i < m
      · have hltI : (i : Int) < m := by omega
        obtain ⟨p, hp⟩ : ∃ p, M[i]? = some p := ⟨_, List.getElem?_eq_getElem (by have := HML.out; omega)⟩
        obtain ⟨g', o', c', xv, hv, hc', c0, hxr⟩ := (HM.out.kept hK1.out).at hp
        rw [HML.out] at hv hc'
        cases hv
        have HX := Lib.hid hxr
        have hpl := HPL.out p (List.mem_of_getElem? hp)
        have HGD := Lib.hid (gPs_drop hp)
        obtain ⟨xa, xc, rfl⟩ := hxr.slice
        have HGP := Lib.hid (guessPart_any _ p _ HX.out (HE.out.kept (K1.out.trans hK1.out)) hpl)
        clear hp hxr
        go_wp2_with fail
        refine HGP.out.mono ?_
        rintro e z ⟨t, d, dv, rfl, hdo, hgp, htl, hdl, kz⟩
        have KZ1 := Lib.hid (hK1.out.trans kz)
        have SZ := Lib.hid (hS.out.kept kz)
        have LZ := Lib.hid (hL.out.kept kz)
        have DZ := Lib.hid (show OwnB B1 dv d z from OwnB.mono' hdo (by have := hK1.out.size; have := HB1.out; omega))
        clear kz hdo hK1 hS hL c0 HGP
        cases hgo : gP p with
        | none =>
          have HZ := Lib.hid (show gue b x = none by rw [HQ.out, hG.out, HGD.out, hgo]; rfl)
          obtain ⟨da, dc, hdv⟩ := own_slice DZ.out
          subst hdv
          clear hgo hgp hG HGD
          rw [show (none : Option (B × B)).isSome = false from rfl]
          go_wp2
          go_ret3
          exact ⟨_, _, [], [], by rw [HZ.out]; rfl, OwnS.nil _ _, OwnLo.nil _ _, GU.no HZ.out, by simp, by simp, K1.out.trans KZ1.out⟩
        | some pr =>
          obtain rfl := hgp _ hgo
          have HG2 := Lib.hid (show gPs M = (gPs (M.drop (i + 1))).map (fun r => (ks ++ [t]).zip (ls ++ [d]) ++ r) by
            have hz : (ks ++ [t]).zip (ls ++ [d]) = ks.zip ls ++ [(t, d)] := by
              rw [List.zip_append (by have := hKL.out; omega)]; rfl
            rw [hG.out, HGD.out, hgo, hz]
            cases gPs (M.drop (i + 1)) with
            | none => rfl
            | some r => simp)
          clear hgo hgp hG HGD
          rw [show (some (t, d) : Option (B × B)).isSome = true from rfl]
          have hszz : B1 ≤ z.heap.size := by have := KZ1.out.size; have := HB1.out; omega
          obtain ⟨kva, kvc, hkv⟩ := own_slice SZ.out
          obtain ⟨lva, lvc, hlv⟩ := LZ.out.slice
          obtain ⟨da, dc, hdv⟩ := own_slice DZ.out
          subst hkv
          subst hlv
          subst hdv
          have ka := (Kept.refl z).alloc (.cells #[sV t] 9)
          have c0 := (Kept.refl (z.alloc (.cells #[sV t] 9))).new 0 (v := sV t) rfl
          have KA1 := Lib.hid (KZ1.out.trans ka)
          have SA := Lib.hid (OwnS.kept SZ.out ka)
          have LA := Lib.hid (LZ.out.kept ka)
          have DA := Lib.hid (OwnB.kept DZ.out ka)
          have hBA : B1 ≤ (z.alloc (.cells #[sV t] 9)).heap.size := Nat.le_trans hszz ka.size
          clear ka KZ1 SZ LZ DZ
          go_wp2_with (at_builtin; go_loud (refine Hd.wpList_pushS rfl _ _ rfl B1 _ ks t z.heap.size rfl SA.out rfl c0 (by have := hKL.out; omega) hBA ?_))
          intro v1 z1 hz hgz
          have S1 := Lib.hid hz
          have L1 := Lib.hid (LA.out.beside SA.out hgz)
          have D1 := Lib.hid (OwnB.beside DA.out SA.out hgz)
          have KB := Lib.hid (kept_row KA1.out hgz (fun r hr => by have := (World.ownsRow.lt SA.out r hr).1; have := HB1.out; omega))
          have hB1' : B1 ≤ z1.heap.size := Nat.le_trans hBA hgz.size
          clear hz hgz KA1 SA LA DA c0
          have kb := (Kept.refl z1).alloc (.cells #[.slice da d.length dc] 25)
          have c0 := (Kept.refl (z1.alloc (.cells #[.slice da d.length dc] 25))).new 0 (v := .slice da d.length dc) rfl
          have KC := Lib.hid (KB.out.trans kb)
          have SC := Lib.hid (OwnS.kept S1.out kb)
          have LC := Lib.hid (L1.out.kept kb)
          have DC := Lib.hid (OwnB.kept D1.out kb)
          have hBC : B1 ≤ (z1.alloc (.cells #[.slice da d.length dc] 25)).heap.size := Nat.le_trans hB1' kb.size
          clear kb KB S1 L1 D1
          go_upto_region 11 with (fail)
          go_wp2_with (at_builtin; refine wpList_pushLo rfl _ _ rfl B1 _ ls d _ z1.heap.size rfl LC.out rfl c0 DC.out (by have := hKL.out; omega) hBC ?_)
          intro v2 z2 hz hgz
          have L2 := Lib.hid hz
          have S2 := Lib.hid (OwnS.beside SC.out LC.out hgz)
          have K2 := Lib.hid (kept_row KC.out hgz (fun r hr => by have := (LC.out.lt r hr).1; have := HB1.out; omega))
          have HKL2 := Lib.hid (show (ks ++ [t]).length = i + 1 ∧ (ls ++ [d]).length = i + 1 by have := hKL.out; simp; omega)
          have HB3 := Lib.hid (show ∀ k ∈ ks ++ [t], k.length ≤ 4000 from fun k hk => by
            rcases List.mem_append.1 hk with hk | hk
            · exact hB1.out k hk
            · simp at hk; subst hk; exact htl)
          have HB4 := Lib.hid (show ∀ c ∈ ls ++ [d], c.length ≤ 1000000 from fun k hk => by
            rcases List.mem_append.1 hk with hk | hk
            · exact hB2.out k hk
            · simp at hk; subst hk; omega)
          clear hz hgz KC SC LC DC c0
          go_wp2_with fail
          go_roundw
          case rel => exact ⟨i + 1, _, _, hlt, by go_num, HKL2, S2, L2, HG2, HB3, HB4, K2⟩
          case measure => simp [intOf]; omega
      · obtain rfl : i = m := by omega
        have hltI : ¬ (i : Int) < i := by omega
        have HZ := Lib.hid (show gue b x = some (ks.zip ls) by
          rw [HQ.out, hG.out, List.drop_eq_nil_of_le (by have := HML.out; omega)]
          simp [gPs])
        obtain ⟨kva, kvc, hkv⟩ := own_slice hS.out
        obtain ⟨lva, lvc, hlv⟩ := hL.out.slice
        subst hkv
        subst hlv
        go_wp2
        go_ret3
        exact ⟨_, _, ks, ls, by rw [HZ.out]; rfl, own_mono hS.out (by have := HB.out; omega), hL.out.mono (by have := HB.out; omega), fun l hl => by rw [HZ.out] at hl; cases hl; exact ⟨rfl, by have := hKL.out; omega⟩, hB1.out, hB2.out, K1.out.trans hK1.out⟩
end Go.Proofs.YtjlpkgipdkjfhaaGreatDoor.Bk.Pt
