/- The laws ReplyMay and ReplyBack, walked. -/
import Derived.Test.YtdfmnjoklehifaaDoorRpSm
set_option linter.unusedSimpArgs false
set_option linter.unusedVariables false
namespace Go.Proofs.YtdfmnjoklehifaaDoor.Bk.Rp
open Go.ChangeShapes Go.WideShapes Go.ChangeAt Go.RowKit Go.Shelf
theorem rdE_two {b : B} (h : rdE b ≠ 0) : rdE b = 2 ∧ rdR b = [] := by
  constructor
  · unfold rdE at h ⊢
    split
    · rename_i q; rw [if_pos q] at h; exact absurd rfl h
    · rfl
  · unfold rdR; rw [if_neg h]
theorem rd_ok {b : B} (h : rdE b = 0) : (∀ x ∈ rdR b, okR x = true) ∧ (rdR b).flatMap wr = b := by
  have e : rdR b = (run 0 [] b).2 := by unfold rdR; rw [if_pos h]
  rw [e]
  obtain ⟨h1, h2⟩ := run_back _ b (Nat.le_refl _) 0 [] (okS_nil _)
  refine ⟨h1, ?_⟩
  unfold rdE at h
  split at h
  · rename_i q
    obtain ⟨s, hs, hl⟩ := q
    obtain ⟨_, _, _, h3⟩ := h2 s hs
    obtain ⟨e1, e2⟩ := left_zero.1 hl
    rw [e1, e2] at h3
    simpa [pend] using h3.symm
  · cases h
theorem flat_step {l : List Rep} {i : Nat} {x : Rep} (h : l[i]? = some x) : (l.take (i + 1)).flatMap wr = (l.take i).flatMap wr ++ wr x := by
  rw [List.take_add_one, h, List.flatMap_append]; simp
theorem flat_le (l : List Rep) (i : Nat) : ((l.take i).flatMap wr).length ≤ (l.flatMap wr).length := by
  have := congrArg (fun l => (l.flatMap wr).length) (List.take_append_drop i l)
  simp only [List.flatMap_append, List.length_append] at this
  omega
theorem wr_pos (x : Rep) : 0 < (wr x).length := by
  unfold wr; rw [List.length_append]
  have : 0 < (ln x.1 true (x.2.1.getLastD [])).length := by unfold ln; simp
  omega
theorem flat_n : ∀ l : List Rep, l.length ≤ (l.flatMap wr).length
  | [] => Nat.le_refl _
  | x :: l => by
    have := flat_n l
    have := wr_pos x
    rw [List.flatMap_cons, List.length_append, List.length_cons]; omega
set_option maxRecDepth 100000 in
set_option maxHeartbeats 8000000 in
theorem may17_walk (v0 : Value) (b : B) (w : World) (hE : EX w) (hA : BRd v0 b w) : Calls Tryd.prog 7 #[v0] w fun e w' => e = .returned (.bool true) ∧ Kept w w' := by
  have HE := Lib.hid hE
  have HW := Lib.hid (awake_any w hE)
  obtain ⟨aa, ac, rfl⟩ := hA.slice
  have HA := Lib.hid hA
  clear hE hA
  by_cases hl : 3000 < b.length
  · have hlI : (3000 : Int) < b.length := by omega
    go_enter Tryd.func7, Tryd.ntmps7
    go_wp2_with fail
    refine HW.out.mono ?_
    rintro e y ⟨rfl, k⟩
    have K := Lib.hid k
    clear k
    go_wp2
    go_ret
    exact ⟨rfl, K.out⟩
  · have hlI : ¬ (3000 : Int) < b.length := by omega
    have HR := Lib.hid (fun W k => read_any b (.slice aa b.length ac) W (HA.out.kept k) (HE.out.kept k) (by omega))
    by_cases he : rdE b = 0
    case neg =>
      obtain ⟨e2, e3⟩ := rdE_two he
      rw [e2, e3] at HR
      clear he e2 e3
      go_enter Tryd.func7, Tryd.ntmps7
      go_wp2_with fail
      refine HW.out.mono ?_
      rintro e w1 ⟨rfl, k1⟩
      go_wp2_with fail
      refine (HR.out w1 k1).mono ?_
      rintro e w2 ⟨v, rfl, hv, k2⟩
      obtain ⟨xa, xc, rfl⟩ := hv.slice
      have K := Lib.hid (k1.trans k2)
      clear hv k1 k2
      go_wp2_with fail
      go_ret
      exact ⟨rfl, K.out⟩
    case pos =>
      obtain ⟨hok, hfl⟩ := rd_ok he
      rw [he] at HR
      generalize rdR b = rs at *
      have HOK := Lib.hid hok
      have HFL := Lib.hid hfl
      have hn : rs.length ≤ 3000 := by have := flat_n rs; rw [hfl] at this; omega
      obtain ⟨out, hout⟩ : ∃ out : Nat → B, out = fun i => (rs.take i).flatMap wr := ⟨_, rfl⟩
      have HO0 := Lib.hid (show out 0 = [] by rw [hout]; rfl)
      have HON := Lib.hid (show out rs.length = b by rw [hout]; simp only [List.take_length]; exact hfl)
      have HST := Lib.hid (show ∀ (i : Nat) (x : Rep), rs[i]? = some x → out (i + 1) = out i ++ wr x from fun i x h => by rw [hout]; exact flat_step h)
      have HLE := Lib.hid (show ∀ (i : Nat), (out i).length ≤ 3000 from fun i => by have := flat_le rs i; rw [hfl] at this; rw [hout]; exact Nat.le_trans this (by omega))
      clear hok hfl he hout
      go_enter Tryd.func7, Tryd.ntmps7
      go_wp2_with fail
      refine HW.out.mono ?_
      rintro e w1 ⟨rfl, k1⟩
      go_wp2_with fail
      refine (HR.out w1 k1).mono ?_
      rintro e w2 ⟨v, rfl, hv, k2⟩
      obtain ⟨xa, xc, rfl⟩ := hv.slice
      have K := Lib.hid (k1.trans k2)
      have HV := Lib.hid hv
      clear hv k1 k2 HW HR
      go_wp2_with fail
      go_loopw [6, 7] (fun vo vi wr' => ∃ i : Nat, i ≤ rs.length ∧ vi = .int .i64 i ∧ Hid (OwnB w2.heap.size vo (out i) wr') ∧ Hid (Kept w2 wr')) (fun _ vi _ => rs.length - (intOf vi).toNat)
      case atStart => exact ⟨0, Nat.zero_le _, rfl, Lib.hid (by rw [HO0.out]; exact OwnB.nil _ _), Lib.hid (Kept.refl _)⟩
      case round =>
        obtain ⟨i, hi, rfl, hO, hK⟩ := hrel
        obtain ⟨va, vc, hv⟩ := own_slice hO.out
        subst hv
        by_cases hlt : i < rs.length
        · have hltI : (i : Int) < rs.length := by omega
          obtain ⟨x, hu⟩ : ∃ u, rs[i]? = some u := ⟨_, List.getElem?_eq_getElem hlt⟩
          have hox := HOK.out x (List.mem_of_getElem? hu)
          have hxl : x.2.1.length ≤ maxLen := by have := (okR_iff.1 hox).2.2.1; unfold maxLen; omega
          obtain ⟨ga, oa, ca, hpa, hca, lv, p0, p1, p2, p3, p4, pL⟩ := (HV.out.kept hK.out).at hu
          injection hpa with ea _ ec
          subst ea ec
          have HWr := Lib.hid (fun W (k : Kept _ W) => write_any x lv W (HE.out.kept (K.out.trans (hK.out.trans k))) (pL.kept k) hxl)
          have HMa := Lib.hid (fun W (k : Kept _ W) => may_any x lv W (HE.out.kept (K.out.trans (hK.out.trans k))) (pL.kept k) hxl)
          have hew : wE x = 0 := by unfold wE; rw [if_pos hox]
          have hbw : wB x = Rp.wr x := by unfold wB; rw [if_pos hox]
          rw [hew, hbw] at HWr
          rw [hox] at HMa
          have HS := Lib.hid (HST.out i x hu)
          have hle : (out i).length + (Rp.wr x).length ≤ 3000 := by
            have h1 := HLE.out (i + 1)
            rw [HS.out, List.length_append] at h1
            omega
          obtain ⟨la, lc, rfl⟩ := pL.slice
          have HP := Lib.hid (And.intro p0 (And.intro p1 (And.intro p2 (And.intro p3 p4))))
          clear hox hew hbw hu pL
          go_wp2_with fail
          refine (HWr.out _ (Kept.refl _)).mono ?_
          rintro e w3 ⟨ov, rfl, hov, k3⟩
          obtain ⟨oa', oc', rfl⟩ := hov.slice
          have HOV := Lib.hid hov
          have K3 := Lib.hid (hK.out.trans k3)
          have hp0 := k3.yes HP.out.1
          have hp1 := k3.yes HP.out.2.1
          have hp2 := k3.yes HP.out.2.2.1
          have hp3 := k3.yes HP.out.2.2.2.1
          have hp4 := k3.yes HP.out.2.2.2.2
          have KK := Lib.hid k3
          clear p0 p1 p2 p3 p4 hov k3
          go_wp2_with fail
          refine (HMa.out _ KK.out).mono ?_
          rintro e w4 ⟨rfl, k4⟩
          have O4 := Lib.hid (OwnB.kept hO.out (KK.out.trans k4))
          have V4 := Lib.hid (HOV.out.kept k4)
          have K4 := Lib.hid (K3.out.trans k4)
          have hB4 := K4.out.size
          clear hp0 hp1 hp2 hp3 hp4 k4
          go_wp2_with (at_builtin; refine wpList_sliceB rfl _ _ rfl w2.heap.size _ _ (out i) (Rp.wr x) rfl O4.out rfl V4.out (by omega) hB4 ?_)
          intro v' w5 hz hg
          have K5 := Lib.hid (kept_row K4.out hg (fun r hr => (World.ownsRow.lt O4.out r hr).1))
          have O5 := Lib.hid (show OwnB w2.heap.size v' (out (i + 1)) w5 by rw [HS.out]; exact hz)
          clear hz hg
          go_wp2
          go_roundw
          case rel => exact ⟨i + 1, hlt, by go_num, O5, K5⟩
          case measure => simp [intOf]; omega
        · have hii : i = rs.length := by omega
          have hltI : ¬ (i : Int) < rs.length := by omega
          have hob : out i = b := by rw [hii]; exact HON.out
          rw [hob] at hO ⊢
          have HC := (OwnB.rd hO.out).conv
          have HD := (HA.out.kept (K.out.trans hK.out)).conv
          have KF := Lib.hid (K.out.trans hK.out)
          clear hO hii hob
          go_wp2
          go_ret
          exact ⟨rfl, KF.out⟩
end Go.Proofs.YtdfmnjoklehifaaDoor.Bk.Rp
