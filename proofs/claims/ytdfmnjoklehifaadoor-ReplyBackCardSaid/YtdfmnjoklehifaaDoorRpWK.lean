/- The law ReplyBack, walked. -/
import Derived.Test.YtdfmnjoklehifaaDoorRpWM
set_option linter.unusedSimpArgs false
set_option linter.unusedVariables false
namespace Go.Proofs.YtdfmnjoklehifaaDoor.Bk.Rp
open Go.ChangeShapes Go.WideShapes Go.ChangeAt Go.RowKit Go.Shelf
set_option maxRecDepth 100000 in
set_option maxHeartbeats 4000000 in
theorem few_any (x : Rep) (lv : Value) (w : World) (hL : SRd lv x.2.1 w) :
    Calls Tryd.prog 9 #[repV x lv] w fun e w' => ∃ z, e = .returned (.bool z) ∧ Kept w w' := by
  obtain ⟨la, lc, rfl⟩ := hL.slice
  have K0 := Lib.hid ((Kept.refl w).alloc (.cells #[iV x.1, .slice la x.2.1.length lc, iV x.2.2.1, iV x.2.2.2.1, iV x.2.2.2.2] 25))
  have X0 := Lib.hid (R5.new w x (.slice la x.2.1.length lc))
  have L0 := Lib.hid (hL.kept K0.out)
  clear hL
  obtain ⟨x0, x1, x2, x3, x4⟩ := X0.out.cs
  clear x0 x2 x3 x4
  by_cases hb : 120 < x.2.1.length
  · have hbI : (120 : Int) < x.2.1.length := by omega
    go_enter Tryd.func9, Tryd.ntmps9
    go_upto_region 1 with (fail)
    generalize w.alloc (.cells #[iV x.1, .slice la x.2.1.length lc, iV x.2.2.1, iV x.2.2.2.1, iV x.2.2.2.2] 25) = W0 at *
    go_wp2
    go_ret
    first | exact ⟨_, rfl, K0.out⟩ | exact ⟨by first | exact Or.inl rfl | exact Or.inr rfl, K0.out⟩
  · have hbI : ¬ (120 : Int) < x.2.1.length := by omega
    go_enter Tryd.func9, Tryd.ntmps9
    go_upto_region 1 with (fail)
    generalize w.alloc (.cells #[iV x.1, .slice la x.2.1.length lc, iV x.2.2.1, iV x.2.2.2.1, iV x.2.2.2.2] 25) = W0 at *
    generalize w.heap.size = n at *
    go_wp2_with fail
    go_loopw [3] (fun vi wr' => ∃ i : Nat, i ≤ x.2.1.length ∧ vi = .int .i64 i ∧ Hid (Kept W0 wr')) (fun vi _ => x.2.1.length - (intOf vi).toNat)
    case atStart => exact ⟨0, Nat.zero_le _, rfl, Lib.hid (Kept.refl _)⟩
    case round =>
      obtain ⟨i, hi, rfl, hW⟩ := hrel
      replace x1 := hW.out.yes x1
      by_cases hlt : i < x.2.1.length
      · have hltI : (i : Int) < x.2.1.length := by omega
        obtain ⟨t, hu⟩ : ∃ u, x.2.1[i]? = some u := ⟨_, List.getElem?_eq_getElem hlt⟩
        obtain ⟨ga, oa, ca, hpa, hca, p0⟩ := (L0.out.kept hW.out).at hu
        injection hpa with ea _ ec
        subst ea ec
        have hts : (ByteArray.mk t.toArray).size = t.length := List.size_toArray
        clear hu
        by_cases ht : 600 < t.length
        · have htI : (600 : Int) < t.length := by omega
          go_wp2
          go_ret
          exact ⟨by first | exact Or.inl rfl | exact Or.inr rfl, K0.out.trans hW.out⟩
        · have htI : ¬ (600 : Int) < t.length := by omega
          go_wp2
          go_roundw
          case rel => exact ⟨i + 1, hlt, by go_num, hW⟩
          case measure => simp [intOf]; omega
      · have hltI : ¬ (i : Int) < x.2.1.length := by omega
        go_wp2
        go_ret
        exact ⟨by first | exact Or.inl rfl | exact Or.inr rfl, K0.out.trans hW.out⟩
theorem wr_len {x : Rep} (h : okR x = true) : (wr x).length ≤ 121000 := by
  have := outW_le h x.2.1.length
  rw [outW_end] at this
  have := (okR_iff.1 h).2.2.1
  omega
theorem flat_max : ∀ l : List Rep, (∀ x ∈ l, okR x = true) → (l.flatMap wr).length ≤ 121000 * l.length
  | [], _ => Nat.zero_le _
  | x :: l, h => by
    have h1 := wr_len (h x (by simp))
    have h2 := flat_max l (fun y hy => h y (by simp [hy]))
    rw [List.flatMap_cons, List.length_append, List.length_cons]; omega
theorem ok_step {l : List Rep} {i : Nat} {x : Rep} (h : ∀ y ∈ l.take i, okR y = true) (hx : l[i]? = some x) (ho : okR x = true) : ∀ y ∈ l.take (i + 1), okR y = true := by
  intro y hy
  rw [List.take_add_one, hx] at hy
  rcases List.mem_append.1 hy with hy | hy
  · exact h y hy
  · simp at hy; subst hy; exact ho
set_option maxRecDepth 100000 in
set_option maxHeartbeats 8000000 in
theorem back17_walk (v0 : Value) (l : List Rep) (w : World) (hE : EX w) (hV : RpRd v0 l w) (hM : ∀ x ∈ l, x.2.1.length ≤ maxLen) : Calls Tryd.prog 5 #[v0] w fun e w' => e = .returned (.bool true) ∧ Kept w w' := by
  have HE := Lib.hid hE
  have HW := Lib.hid (awake_any w hE)
  obtain ⟨xa, xc, rfl⟩ := hV.slice
  have HV := Lib.hid hV
  have HM := Lib.hid hM
  clear hE hV hM
  by_cases hl : 6 < l.length
  · have hlI : (6 : Int) < l.length := by omega
    go_enter Tryd.func5, Tryd.ntmps5
    go_wp2_with fail
    refine HW.out.mono ?_
    rintro e y ⟨rfl, k⟩
    have K := Lib.hid k
    clear k
    go_wp2
    go_ret
    exact ⟨rfl, K.out⟩
  · have hlI : ¬ (6 : Int) < l.length := by omega
    obtain ⟨out, hout⟩ : ∃ out : Nat → B, out = fun i => (l.take i).flatMap wr := ⟨_, rfl⟩
    have HO0 := Lib.hid (show out 0 = [] by rw [hout]; rfl)
    have HST := Lib.hid (show ∀ (i : Nat) (x : Rep), l[i]? = some x → out (i + 1) = out i ++ wr x from fun i x h => by rw [hout]; exact flat_step h)
    have HLE := Lib.hid (show ∀ (i : Nat), (∀ y ∈ l.take i, okR y = true) → (out i).length ≤ 726000 from fun i h => by
      have := flat_max (l.take i) h
      have h2 : (l.take i).length ≤ 6 := by simp; omega
      rw [hout]
      show ((l.take i).flatMap wr).length ≤ 726000
      omega)
    have HON := Lib.hid (show (∀ y ∈ l, okR y = true) → rdE (out l.length) = 0 ∧ rdR (out l.length) = l from fun h => by rw [hout]; simp only [List.take_length]; exact rd_wrs h)
    clear hout
    go_enter Tryd.func5, Tryd.ntmps5
    go_wp2_with fail
    refine HW.out.mono ?_
    rintro e w2 ⟨rfl, k1⟩
    have K := Lib.hid k1
    clear k1 HW
    go_wp2_with fail
    go_loopw [4, 5] (fun vo vi wr' => ∃ i : Nat, i ≤ l.length ∧ vi = .int .i64 i ∧ Hid (OwnB w2.heap.size vo (out i) wr') ∧ Hid (Kept w2 wr') ∧ Hid (∀ y ∈ l.take i, okR y = true)) (fun _ vi _ => l.length - (intOf vi).toNat)
    case atStart => exact ⟨0, Nat.zero_le _, rfl, Lib.hid (by rw [HO0.out]; exact OwnB.nil _ _), Lib.hid (Kept.refl _), Lib.hid (by simp)⟩
    case round =>
      obtain ⟨i, hi, rfl, hO, hK, hA⟩ := hrel
      obtain ⟨va, vc, hv⟩ := own_slice hO.out
      subst hv
      by_cases hlt : i < l.length
      · have hltI : (i : Int) < l.length := by omega
        obtain ⟨x, hu⟩ : ∃ u, l[i]? = some u := ⟨_, List.getElem?_eq_getElem hlt⟩
        have hxl := HM.out x (List.mem_of_getElem? hu)
        obtain ⟨ga, oa, ca, hpa, hca, lv, p0, p1, p2, p3, p4, pL⟩ := (HV.out.kept (K.out.trans hK.out)).at hu
        injection hpa with ea _ ec
        subst ea ec
        have HWr := Lib.hid (fun W (k : Kept _ W) => write_any x lv W (HE.out.kept (K.out.trans (hK.out.trans k))) (pL.kept k) hxl)
        have HFe := Lib.hid (fun W (k : Kept _ W) => few_any x lv W (pL.kept k))
        have HS := Lib.hid (HST.out i x hu)
        have HOS := Lib.hid (fun ho => ok_step hA.out hu ho)
        have hle := HLE.out i hA.out
        obtain ⟨la, lc, rfl⟩ := pL.slice
        have HP := Lib.hid (And.intro p0 (And.intro p1 (And.intro p2 (And.intro p3 p4))))
        clear hu pL
        go_wp2_with fail
        refine (HFe.out _ (Kept.refl _)).mono ?_
        rintro e w3 ⟨z, rfl, k3⟩
        have hp0 := k3.yes HP.out.1
        have hp1 := k3.yes HP.out.2.1
        have hp2 := k3.yes HP.out.2.2.1
        have hp3 := k3.yes HP.out.2.2.2.1
        have hp4 := k3.yes HP.out.2.2.2.2
        have KK := Lib.hid k3
        clear p0 p1 p2 p3 p4 k3
        go_wp2_with fail
        refine (HWr.out _ KK.out).mono ?_
        rintro e w4 ⟨ov, rfl, hov, k4⟩
        clear hp0 hp1 hp2 hp3 hp4
        obtain ⟨oa', oc', rfl⟩ := hov.slice
        have K4 := Lib.hid (hK.out.trans (KK.out.trans k4))
        cases z with
        | false =>
          clear hov k4
          go_wp2
          go_ret
          exact ⟨rfl, K.out.trans K4.out⟩
        | true =>
          cases hox : okR x with
          | false =>
            have hew : wE x = 1 := by unfold wE; rw [hox]; rfl
            rw [hew]
            clear hov k4 hox hew
            go_wp2
            go_ret
            exact ⟨rfl, K.out.trans K4.out⟩
          | true =>
            have hew : wE x = 0 := by unfold wE; rw [if_pos hox]
            have hbw : wB x = Rp.wr x := by unfold wB; rw [if_pos hox]
            have hwl := wr_len hox
            have HA2 := Lib.hid (HOS.out hox)
            rw [hew]
            rw [hbw] at hov ⊢
            have O4 := Lib.hid (OwnB.kept hO.out (KK.out.trans k4))
            have V4 := Lib.hid hov
            have hB4 := K4.out.size
            clear hov k4 hox hew hbw
            go_wp2_with (at_builtin; refine wpList_sliceB rfl _ _ rfl w2.heap.size _ _ (out i) (Rp.wr x) rfl O4.out rfl V4.out (by omega) hB4 ?_)
            intro v' w5 hz hg
            have K5 := Lib.hid (kept_row K4.out hg (fun r hr => (World.ownsRow.lt O4.out r hr).1))
            have O5 := Lib.hid (show OwnB w2.heap.size v' (out (i + 1)) w5 by rw [HS.out]; exact hz)
            clear hz hg
            go_wp2
            go_roundw
            case rel => exact ⟨i + 1, hlt, by go_num, O5, K5, HA2⟩
            case measure => simp [intOf]; omega
      · have hii : i = l.length := by omega
        have hltI : ¬ (i : Int) < l.length := by omega
        have hall : ∀ y ∈ l, okR y = true := by
          have := hA.out
          rwa [hii, List.take_length] at this
        have HRD := Lib.hid (fun W k => read_any (out i) (.slice va (out i).length vc) W ((OwnB.rd hO.out).kept k) (HE.out.kept (K.out.trans (hK.out.trans k))) (by have := HLE.out i hA.out; omega))
        rw [hii, (HON.out hall).1, (HON.out hall).2, ← hii] at HRD
        have HALL := Lib.hid hall
        have KF := Lib.hid (K.out.trans hK.out)
        clear hii hall
        go_wp2_with fail
        refine (HRD.out _ (Kept.refl _)).mono ?_
        rintro e w3 ⟨v3, rfl, hv3, k3⟩
        have HLs := Lib.hid (listT_any l (.slice xa l.length xc) v3 w3 (HV.out.kept (KF.out.trans k3)) hv3 (by omega) (fun x hx => by have := (okR_iff.1 (HALL.out x hx)).2.2.1; omega))
        have K3 := Lib.hid (KF.out.trans k3)
        obtain ⟨ya, yc, rfl⟩ := hv3.slice
        clear hv3 k3
        go_wp2_with fail
        refine HLs.out.mono ?_
        rintro e w4 ⟨rfl, k4⟩
        have K4 := Lib.hid (K3.out.trans k4)
        clear k4
        go_wp2
        go_ret
        exact ⟨rfl, K4.out⟩
end Go.Proofs.YtdfmnjoklehifaaDoor.Bk.Rp
