/- Package reply: Write, Read. -/
import Derived.Test.YtdfmnjoklehifaaDoorRpW
import Derived.Test.YtdfmnjoklehifaaDoorRpU
set_option linter.unusedSimpArgs false
set_option linter.unusedVariables false
namespace Go.Proofs.YtdfmnjoklehifaaDoor.Bk.Rp
open Go.ChangeShapes Go.WideShapes Go.ChangeAt Go.RowKit Go.Shelf
/-- what is written, so many lines having been -/
def outW (x : Rep) (i : Nat) : B := if i < x.2.1.length then pend x.1 (x.2.1.take i) else wr x
theorem outW_zero {x : Rep} (h : x.2.1 ≠ []) : outW x 0 = [] := by unfold outW; rw [if_pos (List.length_pos_iff.2 h)]; rfl
theorem outW_end (x : Rep) : outW x x.2.1.length = wr x := by unfold outW; rw [if_neg (by omega)]
theorem outW_step {x : Rep} {i : Nat} {t : B} (ht : x.2.1[i]? = some t) : outW x (i + 1) = outW x i ++ ln x.1 (decide (i + 1 = x.2.1.length)) t := by
  have hi := (List.getElem?_eq_some_iff.1 ht).1
  unfold outW
  rw [if_pos hi]
  by_cases h : i + 1 < x.2.1.length
  · rw [if_pos h, List.take_add_one, ht, decide_eq_false (by omega)]
    simp only [Option.toList_some]
    rw [pend_app, pend_one]
  · rw [if_neg h, decide_eq_true (by omega)]
    unfold wr
    have e1 : x.2.1.dropLast = x.2.1.take i := by rw [List.dropLast_eq_take]; congr 1; omega
    have e2 : x.2.1.getLastD [] = t := by
      rw [List.getLastD_eq_getLast?, List.getLast?_eq_getElem?, show x.2.1.length - 1 = i by omega, ht]; rfl
    rw [e1, e2]
theorem outW_le {x : Rep} (h : okR x = true) (i : Nat) : (outW x i).length ≤ 600 * (i + 1) + 60000 := by
  obtain ⟨h1, h2, h3, h4, h5⟩ := okR_iff.1 h
  have hs : ∀ l : List B, (∀ t ∈ l, okT t = true) → (pend x.1 l).length ≤ 512 * l.length := fun l hl => by rw [pend_len h1]; exact sumL_le hl
  unfold outW
  split
  · have := hs (x.2.1.take i) (fun t ht => h4 t (List.mem_of_mem_take ht))
    have e : (x.2.1.take i).length ≤ i := by simp; omega
    omega
  · unfold wr
    have h6 := hs x.2.1.dropLast (fun t ht => h4 t (List.dropLast_subset _ ht))
    have h7 := ln_len h1 true (x.2.1.getLastD [])
    have h8 : (x.2.1.getLastD []).length ≤ 506 := by
      rw [List.getLastD_eq_getLast?, List.getLast?_eq_some_getLast h2]
      exact (okT_iff.1 (h4 _ (List.getLast_mem h2))).1
    simp at h6
    rw [List.length_append, h7]; omega
theorem ln_bytes (a t : B) (s : UInt8) : (⟨a.toArray⟩ : ByteArray) ++ ⟨#[s]⟩ ++ ⟨t.toArray⟩ ++ ⟨#[13, 10]⟩ = ⟨(a ++ s :: t ++ [13, 10]).toArray⟩ := by
  apply ByteArray.ext
  simp [ByteArray.data_append]
def wE (x : Rep) : Int := if okR x = true then 0 else 1
def wB (x : Rep) : B := if okR x = true then wr x else []
set_option maxRecDepth 100000 in
set_option maxHeartbeats 4000000 in
theorem write_any (x : Rep) (lv : Value) (w : World) (hE : EX w) (hL : SRd lv x.2.1 w) (hll : x.2.1.length ≤ maxLen) :
    Calls Tryd.prog 10 #[repV x lv] w fun e w' => ∃ v, e = .returned (.tuple #[v, iV (wE x)]) ∧ BRd v (wB x) w' ∧ Kept w w' := by
  obtain ⟨la, lc, rfl⟩ := hL.slice
  have K0 := Lib.hid ((Kept.refl w).alloc (.cells #[iV x.1, .slice la x.2.1.length lc, iV x.2.2.1, iV x.2.2.2.1, iV x.2.2.2.2] 25))
  have X0 := Lib.hid (R5.new w x (.slice la x.2.1.length lc))
  have E0 := Lib.hid (hE.kept K0.out)
  have L0 := Lib.hid (hL.kept K0.out)
  have HM := Lib.hid (may_any x (.slice la x.2.1.length lc) _ E0.out L0.out hll)
  clear hE hL
  have hwx : wE x = if okR x = true then 0 else 1 := rfl
  have hbx : wB x = if okR x = true then wr x else [] := rfl
  cases hok : okR x with
  | false =>
    rw [hok] at HM hwx hbx
    rw [hwx, hbx]
    simp only [Bool.false_eq_true, if_false]
    clear hwx hbx hok
    obtain ⟨x0, x1, x2, x3, x4⟩ := X0.out.cs
    go_enter Tryd.func10, Tryd.ntmps10
    go_upto_region 1 with (fail)
    generalize w.alloc (.cells #[iV x.1, .slice la x.2.1.length lc, iV x.2.2.1, iV x.2.2.2.1, iV x.2.2.2.2] 25) = W0 at *
    go_wp2_with fail
    refine HM.out.mono ?_
    rintro e w1 ⟨rfl, k1⟩
    go_wp2
    go_ret2
    exact ⟨_, rfl, OwnB.rd (OwnB.nil 0 _), K0.out.trans k1⟩
  | true =>
    rw [hok] at HM hwx hbx
    rw [hwx, hbx]
    simp only [if_true]
    have HOK := Lib.hid hok
    have h1 := (okR_iff.1 hok).1
    have h2 := (okR_iff.1 hok).2.1
    have h3 := (okR_iff.1 hok).2.2.1
    have HW0 := Lib.hid (outW_zero h2)
    have HWE := Lib.hid (outW_end x)
    have HST := Lib.hid (fun i t ht => outW_step (x := x) (i := i) (t := t) ht)
    have HLE := Lib.hid (fun i => outW_le hok i)
    obtain ⟨c, hc⟩ : ∃ c : Nat, x.1 = c := ⟨x.1.toNat, by have := okC_iff.1 h1; omega⟩
    have hcb : c ≤ 599 := by have := okC_iff.1 h1; omega
    have HI := Lib.hid (show ∀ w, EX w → Calls Tryd.prog 22 #[iV x.1] w fun e w' => e = .returned (sV (Lib.decDigits c)) ∧ Kept w w' from fun w hE => by rw [hc]; exact itoa_any c w hE (by omega))
    have HOT := Lib.hid (show ∀ (i : Nat) (t : B), x.2.1[i]? = some t → t.length ≤ 506 from fun i t ht => (okT_iff.1 ((okR_iff.1 hok).2.2.2.1 t (List.mem_of_getElem? ht))).1)
    have HLN := Lib.hid (show ∀ l t, ln x.1 l t = Lib.decDigits c ++ sgn l :: t ++ [13, 10] from fun l t => by unfold ln lb; rw [hc, Int.toNat_natCast])
    have hdl : (Lib.decDigits c).length = 3 := by
      have := dec_len3 h1
      rwa [hc, Int.toNat_natCast] at this
    have hls0 : 0 < x.2.1.length := List.length_pos_iff.2 h2
    generalize hO : outW x = out at *
    clear hO hwx hbx hok h1 h2 HOK
    obtain ⟨WR, hWR⟩ : ∃ W, W = wr x := ⟨_, rfl⟩
    rw [← hWR] at HWE ⊢
    clear hWR
    have h3' : x.2.1.length ≤ 100 := h3
    have hdl2 : (Lib.decDigits c).length ≤ 3 := by omega
    generalize Lib.decDigits c = dc at *
    clear hc hcb h3 hdl hll
    obtain ⟨x0, x1, x2, x3, x4⟩ := X0.out.cs
    go_enter Tryd.func10, Tryd.ntmps10
    go_upto_region 1 with (fail)
    generalize w.alloc (.cells #[iV x.1, .slice la x.2.1.length lc, iV x.2.2.1, iV x.2.2.2.1, iV x.2.2.2.2] 25) = W0 at *
    go_wp2_with fail
    refine HM.out.mono ?_
    rintro e w1 ⟨rfl, k1⟩
    have X1 := Lib.hid (X0.out.kept k1)
    have E1 := Lib.hid (E0.out.kept k1)
    have L1 := Lib.hid (L0.out.kept k1)
    have K1 := Lib.hid (K0.out.trans k1)
    clear x0 x1 x2 x3 x4 k1 HM
    obtain ⟨x0, x1, x2, x3, x4⟩ := X1.out.cs
    obtain ⟨n, hnn⟩ : ∃ n, n = w.heap.size := ⟨_, rfl⟩
    rw [← hnn] at X1 x0 x1 x2 x3 x4 ⊢
    clear hnn x0 x2 x3 x4
    go_wp2_with fail
    clear x1
    go_loopw [4, 14] (fun v vi wr => ∃ i : Nat, i ≤ x.2.1.length ∧ vi = .int .i64 i ∧ Hid (OwnB w1.heap.size v (out i) wr) ∧ Hid (Kept w1 wr)) (fun _ vi _ => x.2.1.length - (intOf vi).toNat)
    case atStart => exact ⟨0, Nat.zero_le _, rfl, Lib.hid (by rw [HW0.out]; exact OwnB.nil _ _), Lib.hid (Kept.refl _)⟩
    case round =>
      obtain ⟨i, hi, rfl, hO, hK⟩ := hrel
      obtain ⟨va, vc, hv⟩ := own_slice hO.out
      subst hv
      by_cases hlt : i < x.2.1.length
      · have hltI : (i : Int) < x.2.1.length := by omega
        obtain ⟨t, ht⟩ : ∃ t, x.2.1[i]? = some t := ⟨_, List.getElem?_eq_getElem hlt⟩
        obtain ⟨g, o, cp, hv, hcp, p0⟩ := (L1.out.kept hK.out).at ht
        injection hv with e1 _ e3
        subst e1 e3
        have ht5 := HOT.out i t ht
        have hts : (ByteArray.mk t.toArray).size = t.length := List.size_toArray
        have hds : (ByteArray.mk dc.toArray).size = dc.length := List.size_toArray
        obtain ⟨x0, x1, x2, x3, x4⟩ := (X1.out.kept hK.out).cs
        have HS := Lib.hid (HST.out i t ht)
        have hle := HLE.out i
        clear ht x2 x3 x4
        by_cases hlast : i + 1 = x.2.1.length
        · have hb : ((i : Int) == (x.2.1.length : Int) - 1) = true := by rw [beq_iff_eq]; omega
          rw [decide_eq_true hlast, HLN.out] at HS
          go_wp2_with fail
          refine (HI.out _ (E1.out.kept hK.out)).mono ?_
          rintro e w2 ⟨rfl, k2⟩
          have O2 := Lib.hid (OwnB.kept hO.out k2)
          have K2 := Lib.hid (hK.out.trans k2)
          have hB2 := K2.out.size
          clear k2 p0 x0 x1
          go_wp2_with (at_builtin; refine wpList_strB rfl _ _ rfl w1.heap.size _ (out i) (dc ++ sgn true :: t ++ [13, 10]) rfl O2.out (congrArg Value.string (ln_bytes dc t 32)) (by simp; omega) hB2 ?_)
          intro v' w3 hz hg
          have K3 := Lib.hid (kept_row K2.out hg (fun r hr => (World.ownsRow.lt O2.out r hr).1))
          have O3 := Lib.hid (show OwnB w1.heap.size v' (out (i + 1)) w3 by rw [HS.out]; simpa only [List.append_assoc, List.cons_append] using hz)
          clear hz hg hb
          go_wp2_with fail
          go_roundw
          · exact ⟨i + 1, hlt, by push_cast; rfl, O3, K3⟩
          · simp only [intOf]
            omega
        · have hb : ((i : Int) == (x.2.1.length : Int) - 1) = false := by rw [beq_eq_false_iff_ne]; omega
          rw [decide_eq_false hlast, HLN.out] at HS
          go_wp2_with fail
          refine (HI.out _ (E1.out.kept hK.out)).mono ?_
          rintro e w2 ⟨rfl, k2⟩
          have O2 := Lib.hid (OwnB.kept hO.out k2)
          have K2 := Lib.hid (hK.out.trans k2)
          have hB2 := K2.out.size
          clear k2 p0 x0 x1
          go_wp2_with (at_builtin; refine wpList_strB rfl _ _ rfl w1.heap.size _ (out i) (dc ++ sgn false :: t ++ [13, 10]) rfl O2.out (congrArg Value.string (ln_bytes dc t 45)) (by simp; omega) hB2 ?_)
          intro v' w3 hz hg
          have K3 := Lib.hid (kept_row K2.out hg (fun r hr => (World.ownsRow.lt O2.out r hr).1))
          have O3 := Lib.hid (show OwnB w1.heap.size v' (out (i + 1)) w3 by rw [HS.out]; simpa only [List.append_assoc, List.cons_append] using hz)
          clear hz hg hb
          go_wp2_with fail
          go_roundw
          · exact ⟨i + 1, hlt, by push_cast; rfl, O3, K3⟩
          · simp only [intOf]
            omega
      · have hii : i = x.2.1.length := by omega
        have hltI : ¬((i : Int) < x.2.1.length) := by omega
        have HO := Lib.hid (show OwnB w1.heap.size _ WR _ by rw [← HWE.out, ← hii]; exact hO.out)
        have KF := Lib.hid (K1.out.trans hK.out)
        clear hO hii
        go_wp2_with fail
        go_ret2
        exact ⟨_, rfl, OwnB.rd HO.out, KF.out⟩
end Go.Proofs.YtdfmnjoklehifaaDoor.Bk.Rp
