import Derived.Test.YtjlpkgipdkjfhaaGreatDoorTb
import Derived.Deep.CutRange
import Derived.Deep.CutBlock
import Derived.OwnWalk
import Derived.Deep.QuietTactic
import Derived.BigQuiet
set_option linter.unusedSimpArgs false
set_option linter.unusedVariables false
namespace Go.Proofs.YtjlpkgipdkjfhaaGreatDoor.Bk.Pt
open Go.ChangeShapes Go.WideShapes Go.ChangeAt Go.RowKit Go.Shelf
open Hd (SRd)
theorem run_mkL (n : Nat) (h : n ≤ 8) (W : World) : (Instr.makeSlice 43 (.int .i64 (n : Int)) (.int .i64 (n : Int))).run Tryz.prog W = .ok (.slice (some ⟨W.heap.size, 0, none⟩) n n) (W.alloc (.cells (madeCells #[.slice none 0 0] n) 25)) := by
  obtain ⟨i0, hi, hz0, hz1, hz2⟩ := info_parts infoL
  have := run_make (P := Tryz.prog) W 43 25 i0 _ Tryz.underlying43 hi hz0 .i64 .i64 (n : Int) (n : Int) (by omega) (Int.le_refl _) (by rw [hz2]; omega) (by omega)
  rw [hz1, show (Value.slice none 0 0).cells = #[Value.slice none 0 0] from rfl] at this
  simpa using this
theorem Cod.new {w y : World} {ls : List B} {n : Nat} (h : Kept w y) (hn : n = ls.length) : Cod w y.heap.size ls 0 (y.alloc (.cells (madeCells #[.slice none 0 0] n) 25)) :=
  ⟨h.alloc _, h.size, (madeCells #[.slice none 0 0] n).toList, by rw [Array.toArray_toList]; exact World.alloc_heap_new y _, by rw [Array.length_toList, size_madeCells]; exact hn, fun j b hj => by omega⟩
set_option maxRecDepth 100000 in
set_option maxHeartbeats 4000000 in
theorem join_any (kv lv : Value) (ks ls : List B) (w : World) (hk : SRd kv ks w) (hl : LRd lv ls w) (hE : Env w) (hkb : ∀ k ∈ ks, k.length ≤ 140737488351232) (hlb : ∀ b ∈ ls, b.length ≤ 40000000) :
    Calls Tryz.prog 49 #[kv, lv] w fun e w' => ∃ xv, e = .returned (.tuple #[xv, sV (jX ks ls), iV (jE ks ls)]) ∧ OwnB w.heap.size xv (jB ks ls) w' ∧ Kept w w' := by
  obtain ⟨ka, kc, rfl⟩ := hk.slice
  obtain ⟨la, lc, rfl⟩ := hl.slice
  have HK := Lib.hid hk
  have HL := Lib.hid hl
  have HE := Lib.hid hE
  have HKB := Lib.hid hkb
  have HLB := Lib.hid hlb
  clear hk hl hE hkb hlb
  have HNO := Lib.hid (fun h => j_no (ks := ks) (ls := ls) h)
  have HYES := Lib.hid (fun h => j_yes (ks := ks) (ls := ls) h)
  have HIFF := Lib.hid (okJ_iff (ks := ks) (ls := ls))
  by_cases h1 : (ks.length : Int) = ls.length
  case neg =>
    have HQ := Lib.hid (HNO.out (fun h => by have := (HIFF.out.1 h).1; omega))
    go_enter Tryz.func49, Tryz.ntmps49
    go_wp2
    go_ret3
    exact ⟨_, by rw [HQ.out.2.1, HQ.out.2.2]; rfl, by rw [HQ.out.1]; exact OwnB.nil _ _, Kept.refl _⟩
  by_cases h2 : (ls.length : Int) = 0
  case pos =>
    have HQ := Lib.hid (HNO.out (fun h => by have := (HIFF.out.1 h).2.1; omega))
    rw [show ks.length = ls.length by omega]
    have h1' : (ls.length : Int) = ls.length := rfl
    clear h1
    rw [show ls.length = 0 by omega]
    go_enter Tryz.func49, Tryz.ntmps49
    go_wp2
    go_ret3
    exact ⟨_, by rw [HQ.out.2.1, HQ.out.2.2]; rfl, by rw [HQ.out.1]; exact OwnB.nil _ _, Kept.refl _⟩
  by_cases h3 : (8 : Int) < ls.length
  case pos =>
    have HQ := Lib.hid (HNO.out (fun h => by have := (HIFF.out.1 h).2.1; omega))
    rw [show ks.length = ls.length by omega]
    clear h1
    generalize ls.length = n at h2 h3 ⊢
    have h2' : ((n : Int) == 0) = false := beq_eq_false_iff_ne.2 h2
    go_enter Tryz.func49, Tryz.ntmps49
    go_wp2
    go_ret3
    exact ⟨_, by rw [HQ.out.2.1, HQ.out.2.2]; rfl, by rw [HQ.out.1]; exact OwnB.nil _ _, Kept.refl _⟩
  obtain ⟨n, hn⟩ : ∃ n, n = ls.length := ⟨_, rfl⟩
  have hkn : ks.length = n := by omega
  rw [hkn, ← hn]
  rw [← hn] at h2 h3
  have HN := Lib.hid hn
  have HKN := Lib.hid hkn
  clear h1 hn hkn
  have h2' : ((n : Int) == 0) = false := beq_eq_false_iff_ne.2 h2
  go_enter Tryz.func49, Tryz.ntmps49
  go_wp2_with fail
  go_loopw [8, 30] (fun _ vi wr => ∃ i : Nat, i ≤ n ∧ vi = .int .i64 i ∧ Hid (∀ j k, j < i → ks[j]? = some k → kd k = true) ∧ Hid (Kept w wr)) (fun _ vi _ => n - (intOf vi).toNat)
  case atStart => exact ⟨0, Nat.zero_le _, rfl, Lib.hid (fun j k h => by omega), Lib.hid (Kept.refl w)⟩
  case round =>
    obtain ⟨i, hi, rfl, hA, hK⟩ := hrel
    by_cases hlt : i < n
    · have hltI : (i : Int) < n := by omega
      obtain ⟨k, hk⟩ : ∃ k, ks[i]? = some k := ⟨_, List.getElem?_eq_getElem (by have := HKN.out; omega)⟩
      obtain ⟨g, o, c, hv, hc, c0⟩ := (HK.out.kept hK.out).at hk
      rw [HKN.out] at hv hc
      cases hv
      have HC := Lib.hid (fun w => isKind_any k w (HKB.out k (List.mem_of_getElem? hk)))
      have HX := Lib.hid hk
      clear hk
      go_wp2_with fail
      refine (HC.out _).mono ?_
      rintro e y ⟨rfl, ky⟩
      have KY := Lib.hid (hK.out.trans ky)
      clear ky HC c0 hK
      cases hq : kd k with
      | false =>
        have HQ := Lib.hid (HNO.out (fun h => by have := (HIFF.out.1 h).2.2 k (List.mem_of_getElem? HX.out); rw [hq] at this; cases this))
        clear hq
        go_wp2
        go_ret3
        exact ⟨_, by rw [HQ.out.2.1, HQ.out.2.2]; rfl, by rw [HQ.out.1]; exact OwnB.nil _ _, KY.out⟩
      | true =>
        have HA2 := Lib.hid (show ∀ j k, j < i + 1 → ks[j]? = some k → kd k = true from fun j k' hj hk' => by
          by_cases e : j = i
          · subst e; rw [HX.out] at hk'; cases hk'; exact hq
          · exact hA.out j k' (by omega) hk')
        clear hq
        go_wp2
        go_roundw
        case rel => exact ⟨i + 1, hlt, by go_num, HA2, KY⟩
        case measure => simp [intOf]; omega
    · obtain rfl : i = n := by omega
      have hltI : ¬ (i : Int) < i := by omega
      have hmk := fun W => run_mkL i (by omega) W
      have C0 := Lib.hid (Cod.new (ls := ls) hK.out HN.out)
      have HOK := Lib.hid (HIFF.out.2 ⟨by rw [HKN.out, HN.out], by have := HN.out; omega, fun k hk => by
        obtain ⟨j, hj, rfl⟩ := List.mem_iff_getElem.1 hk
        exact hA.out j _ (by have := HKN.out; omega) (List.getElem?_eq_getElem hj)⟩)
      clear hK hA HIFF HNO
      go_upto_region 10 with (fail)
      generalize wr.alloc (.cells (madeCells #[.slice none 0 0] i) 25) = y0 at *
      generalize wr.heap.size = c at *
      clear hmk
      have hi8 : i ≤ 8 := by omega
      clear h3 h2 h2' hltI hi hlt
      go_wp2_with fail
      go_loopw [10, 11, 43] (fun _ _ vi y => ∃ j : Nat, j ≤ i ∧ vi = .int .i64 j ∧ Hid (Cod w c ls j y)) (fun _ _ vi _ => i - (intOf vi).toNat)
      case atStart => exact ⟨0, Nat.zero_le _, rfl, C0⟩
      case round =>
        obtain ⟨j, hj, rfl, hC⟩ := hrel
        by_cases hlt : j < i
        · have hltI : (j : Int) < i := by omega
          obtain ⟨b, hb⟩ : ∃ b, ls[j]? = some b := ⟨_, List.getElem?_eq_getElem (by have := HN.out; omega)⟩
          obtain ⟨g, o, cc, x, hv, hc, c0, hx⟩ := (HL.out.kept hC.out.1).at hb
          rw [← HN.out] at hv hc
          cases hv
          have HX := Lib.hid hx
          obtain ⟨xa, xc, rfl⟩ := hx.slice
          have HB := Lib.hid hb
          have HEn := Lib.hid (fun w hR => Qp.encode_any (.slice xa b.length xc) b w hR (by have := HLB.out b (List.mem_of_getElem? hb); omega))
          clear hb hx
          go_wp2_with fail
          refine (HEn.out _ HX.out).mono ?_
          rintro e y ⟨xv, rfl, hxo, ky⟩
          obtain ⟨p0, hp0⟩ := (hC.out.kept ky).cell (j := j) (by have := HN.out; omega)
          have hf0 := (hC.out.kept ky).frz j
          have CN := Lib.hid (Cod.put (hC.out.kept ky) HB.out hxo)
          obtain ⟨va, vc, hvv⟩ := own_slice hxo
          generalize (Qp.enc 0 b).length = bl at *
          subst hvv
          clear hxo ky hC c0
          go_wp2
          go_roundw
          case rel => exact ⟨j + 1, hlt, by go_num, CN⟩
          case measure => simp [intOf]; omega
        · obtain rfl : j = i := by omega
          have hltI : ¬ (j : Int) < j := by omega
          have CR := Lib.hid (hC.out.rd HN.out)
          have KC := Lib.hid hC.out.1
          have HBd := Lib.hid (boundary_any _ _ _ CR.out (HE.out.kept KC.out) (Or.inl (by rw [free_enc]; omega)) (by
            have h1 := sum_enc 40000000 ls HLB.out
            have h2 : ls.length * (6 * 40000000) ≤ 8 * (6 * 40000000) := Nat.mul_le_mul_right _ (by have := HN.out; omega)
            omega) (by rw [List.length_map]; have := HN.out; omega))
          rw [bdy_enc] at HBd
          clear hC
          go_wp2_with fail
          refine HBd.out.mono ?_
          rintro e y1 ⟨rfl, k1⟩
          have K1 := Lib.hid (KC.out.trans k1)
          have HW := Lib.hid (show WrI y1 y1.heap.size (.slice none 0 0) [] b0 (y1.alloc (.cells #[.slice none 0 0, sV b0] 116)) from ⟨(Kept.refl y1).alloc _, Nat.le_refl _, World.alloc_heap_new y1 _, OwnB.nil _ _⟩)
          have CR1 := Lib.hid (CR.out.kept k1)
          obtain ⟨hkl8, _, hkds⟩ := okJ_iff.1 HOK.out
          have HPs := Lib.hid (pairs_any y1 y1.heap.size _ _ _ ks ls j _ (HK.out.kept K1.out) CR1.out (HE.out.kept K1.out) HW.out HKN.out HN.out.symm hi8 (fun k hk => by have := (kd_mem (hkds k hk)).2; omega) HLB.out)
          rw [HKN.out] at HPs
          have HPE := Lib.hid (pre_end hkl8)
          have hKS := K1.out.size
          clear k1 HBd CR CR1 hkds KC
          go_upto_region 16 with (fail)
          generalize y1.alloc (.cells #[.slice none 0 0, sV b0] 116) = y2 at *
          generalize hbq : y1.heap.size = bq at *
          go_wp2_with fail
          refine HPs.out.mono ?_
          rintro e y3 ⟨rfl, ⟨mv3, hw3⟩, hpl0⟩
          have hpl : (pre ks ls j).length ≤ 90000000000000 := by omega
          clear hpl0
          have HEd := Lib.hid (end_any y1 bq mv3 _ b0 y3 hw3 (by decide) hpl)
          rw [HN.out, HPE.out] at HEd
          clear HPs hw3
          go_wp2_with fail
          refine HEd.out.mono ?_
          rintro e y4 ⟨rfl, mv4, hw4⟩
          have d0 := hw4.c0
          have d1 := hw4.c1
          have KF := Lib.hid (K1.out.trans hw4.1)
          have OF := Lib.hid (own_mono hw4.2.2.2 (by have := K1.out.size; exact this))
          obtain ⟨ma, mc, hmv⟩ := own_slice hw4.2.2.2
          have HQ := Lib.hid (HYES.out HOK.out)
          clear hw4 HEd
          generalize joined (ks.zip ls) = J at *
          subst hmv
          go_wp2
          go_quiet (fail)
          go_wp2
          go_ret3
          exact ⟨_, by rw [HQ.out.2.1, HQ.out.2.2]; rfl, by rw [HQ.out.1]; exact OwnB.kept (show OwnB w.heap.size _ J y4 from OF.out) ((Kept.refl _).drewN _), KF.out.drewN _⟩
end Go.Proofs.YtjlpkgipdkjfhaaGreatDoor.Bk.Pt
