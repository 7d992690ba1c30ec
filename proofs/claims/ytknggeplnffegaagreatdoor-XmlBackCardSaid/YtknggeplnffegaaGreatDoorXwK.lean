/- The law XmlBack, walked. -/
import Derived.Test.YtknggeplnffegaaGreatDoorXpL
import Derived.Test.YtknggeplnffegaaGreatDoorXwB
import Derived.Test.YtknggeplnffegaaGreatDoorXwF
set_option linter.unusedVariables false
namespace Go.Proofs.YtknggeplnffegaaGreatDoor
open Go.ChangeShapes Go.WideShapes Go.ChangeAt Go.RowKit
open En Xm
def NoT (m : List Tk) (i : Nat) : Prop := ∀ (j : Nat) (a b : Tk), j + 1 < i → m[j]? = some a → m[j + 1]? = some b → ¬ (a.1 = 2 ∧ b.1 = 2)
theorem NoT.next {m : List Tk} {i : Nat} {a b : Tk} (h : NoT m i) (hi : 1 ≤ i) (ha : m[i - 1]? = some a) (hb : m[i]? = some b) (hn : ¬ (a.1 = 2 ∧ b.1 = 2)) : NoT m (i + 1) := by
  intro j x y hj hx hy
  by_cases q : j + 1 < i
  · exact h j x y q hx hy
  · obtain rfl : j + 1 = i := by omega
    rw [Nat.add_sub_cancel] at ha
    rw [ha] at hx; rw [hb] at hy
    cases hx; cases hy
    exact hn
theorem NoT.all {m : List Tk} {i : Nat} (h : NoT m i) (hi : m.length ≤ i) : nAdj m = true :=
  nAdj_at fun j a b ha hb => h j a b (by have := (List.getElem?_eq_some_iff.1 hb).1; omega) ha hb
set_option maxRecDepth 100000 in
set_option maxHeartbeats 8000000 in
theorem back8_walk (v : Value) (l : List Tk) (v' : Value) (doc : B) (w : World) (h : TkRd v l w) (hl : l.length ≤ maxLen) (hB : BRd v' doc w) (hd : doc.length ≤ maxLen) (hE : EX w.heap.size w) :
    Calls Tryz.prog 5 #[v, v'] w fun e w' => e = .returned (.bool true) ∧ Kept w w' := by
  have HL := Lib.hid hl
  clear hl
  unfold maxLen at hd
  obtain ⟨a, c, hv⟩ := h.slice
  obtain ⟨g, c', hv'⟩ := hB.slice
  subst hv hv'
  have H := Lib.hid h; have HB := Lib.hid hB; have HE := Lib.hid hE
  clear h hB hE
  go_enter Tryz.func5, Tryz.ntmps5
  go_wp2_with fail
  refine (awake8_any w HE.out).mono ?_
  rintro e x1 ⟨rfl, k1⟩
  have K1 := Lib.hid k1
  clear k1
  go_wp2_with fail
  refine (few_any _ l x1 (H.out.kept K1.out) HL.out).mono ?_
  rintro e x2 ⟨b1, rfl, k2, hb1⟩
  have K2 := Lib.hid (K1.out.trans k2)
  have B1 := Lib.hid hb1
  clear k2 hb1 K1
  cases b1 with
  | false =>
    go_wp2
    go_ret
    exact ⟨rfl, K2.out⟩
  | true =>
  by_cases hs2 : 2000 < (doc.length : Int)
  · go_wp2
    go_ret
    exact ⟨rfl, K2.out⟩
  have hdl : doc.length ≤ 2000 := by omega
  have FL := Lib.hid (B1.out rfl)
  have AL := Lib.hid (Fw.at FL.out (by omega))
  have FD := Lib.hid (tok_fw doc)
  clear B1
  go_wp2_with fail
  refine (write_any _ l x2 (H.out.kept K2.out) (small_fw FL.out (by omega)) ((HE.out.kept K2.out).mono K2.out.size)).mono ?_
  rintro e x3 ⟨k3, v3, rfl, hv3⟩
  have K3 := Lib.hid (K2.out.trans k3)
  by_cases hq : tok (wrAll l) = (l, 0)
  · rw [wri_yes hq] at hv3 ⊢
    have hwl := (tok_ok hq).2.2
    obtain ⟨a3, c3, hv3'⟩ := hv3.slice
    subst hv3'
    have PT := Lib.hid (ptokens_any a3 (wrAll l).length c3 (wrAll l) x3 ((HE.out.kept K3.out).mono K3.out.size) rfl (fun _ => hv3.conv))
    rw [hq] at PT
    clear hq hv3 k3 K2
    generalize wrAll l = wl at *
    go_wp2_with fail
    refine PT.out.mono ?_
    rintro e x4 ⟨k4, v4, rfl, hT⟩
    have K4 := Lib.hid (K3.out.trans k4)
    have T4 := Lib.hid hT.rd
    obtain ⟨a4, c4, hv4⟩ := hT.rd.slice
    subst hv4
    clear k4 hT PT K3
    go_wp2_with fail
    refine (psame_any _ _ l l x4 (H.out.kept K4.out) T4.out AL.out.1 AL.out.1 AL.out.2 AL.out.2).mono ?_
    rintro e x5 ⟨rfl, k5⟩
    rw [decide_eq_true rfl]
    have K5 := Lib.hid (K4.out.trans k5)
    clear k5 T4 K4
    go_wp2_with fail
    refine (ptokens_any g doc.length c' doc x5 ((HE.out.kept K5.out).mono K5.out.size) rfl (fun _ => (HB.out.kept K5.out).conv)).mono ?_
    rintro e z1 ⟨q1, u1, rfl, hT⟩
    have Q1 := Lib.hid (K5.out.trans q1)
    have TZ := Lib.hid hT.rd
    obtain ⟨ma, mc, hmv⟩ := hT.rd.slice
    subst hmv
    clear q1 hT K5 HB
    by_cases hz : (tok doc).2 = 0
    · have htk : tok doc = ((tok doc).1, 0) := by rw [← hz]
      have HWR := Lib.hid (fun q => tok_wr htk (by omega) q)
      have hne : ((tok doc).2 != 0) = false := by simp [hz]
      clear htk
      generalize (tok doc).1 = m at *
      generalize (tok doc).2 = ee at *
      subst hz
      clear hne
      have AM := Lib.hid (Fw.at FD.out (by omega))
      have hml := AM.out.1
      go_wp2_with fail
      go_loopw [13] (fun vi wr => ∃ i : Nat, 1 ≤ i ∧ vi = .int .i64 i ∧ i ≤ m.length + 1 ∧ Hid (Kept w wr) ∧ Hid (Kept z1 wr) ∧ Hid (NoT m i)) (fun vi _ => m.length + 1 - (intOf vi).toNat)
      case atStart => exact ⟨1, Nat.le_refl _, rfl, by omega, Q1, Lib.hid (Kept.refl _), Lib.hid (fun j a b hj => by omega)⟩
      case round =>
        obtain ⟨i, hi1, rfl, hi2, hK, hKz, hN⟩ := hrel
        by_cases hlt : i < m.length
        · have hltI : (i : Int) < m.length := by omega
          obtain ⟨t, ht⟩ : ∃ t, m[i]? = some t := ⟨_, List.getElem?_eq_getElem hlt⟩
          obtain ⟨p, hp⟩ : ∃ t, m[i - 1]? = some t := ⟨_, List.getElem?_eq_getElem (by omega)⟩
          obtain ⟨-, g1, o1, xx, ha1, hc1, d0, d1, d2, d3, hx⟩ := (TZ.out.kept hKz.out).at ht
          obtain ⟨-, g2, o2, yy, ha2, hc2, e0, e1, e2, e3, hy⟩ := (TZ.out.kept hKz.out).at hp
          subst ha1
          injection ha2 with ha2
          injection ha2 with ha3 ha4
          subst ha3 ha4
          have HNX := Lib.hid (fun q => NoT.next hN.out hi1 hp ht q)
          have hnl : ((i : Int) - 1) = ((i - 1 : Nat) : Int) := by omega
          clear ht hp d1 d2 d3 e1 e2 e3 hx hy hN
          by_cases hk : t.1 = 2
          · rw [hk] at d0
            by_cases hk2 : p.1 = 2
            · rw [hk2] at e0
              go_wp2
              go_ret
              exact ⟨rfl, hK.out⟩
            · have hb2 : (p.1 == 2) = false := by simp [hk2]
              have HN2 := Lib.hid (HNX.out (fun q => hk2 q.1))
              clear HNX
              go_wp2
              go_roundw
              case rel => exact ⟨i + 1, by omega, by go_num, by omega, hK, hKz, HN2⟩
              case measure => simp [intOf]; omega
          · have hb1 : (t.1 == 2) = false := by simp [hk]
            have HN2 := Lib.hid (HNX.out (fun q => hk q.2))
            clear HNX
            go_wp2
            go_roundw
            case rel => exact ⟨i + 1, by omega, by go_num, by omega, hK, hKz, HN2⟩
            case measure => simp [intOf]; omega
        · have hltI : ¬ (i : Int) < m.length := by omega
          have hq2 := HWR.out (hN.out.all (by omega))
          have HQ := Lib.hid hq2
          have hwm := (tok_ok hq2).2.2
          have HY := Lib.hid (wri_yes hq2)
          clear hq2 hN HWR
          go_wp2_with fail
          refine (write_any _ m wr (TZ.out.kept hKz.out) (small_fw FD.out (by omega)) ((HE.out.kept hK.out).mono hK.out.size)).mono ?_
          rintro e z3 ⟨q3, u3, rfl, hv3⟩
          rw [HY.out] at hv3 ⊢
          obtain ⟨a6, c6, hu3⟩ := hv3.slice
          subst hu3
          have Q3 := Lib.hid (hK.out.trans q3)
          have TM := Lib.hid ((TZ.out.kept hKz.out).kept q3)
          have PT2 := Lib.hid (ptokens_any a6 (wrAll m).length c6 (wrAll m) z3 ((HE.out.kept Q3.out).mono Q3.out.size) rfl (fun _ => hv3.conv))
          rw [HQ.out] at PT2
          clear HQ HY hv3 q3 hK hKz TZ
          generalize wrAll m = wm at *
          go_wp2_with fail
          refine PT2.out.mono ?_
          rintro e z4 ⟨q4, u4, rfl, hT4⟩
          have Q4 := Lib.hid (Q3.out.trans q4)
          have TM4 := Lib.hid (TM.out.kept q4)
          have T4 := Lib.hid hT4.rd
          obtain ⟨a7, c7, hu4⟩ := hT4.rd.slice
          subst hu4
          clear q4 hT4 PT2 Q3 TM
          go_wp2_with fail
          refine (psame_any _ _ m m z4 TM4.out T4.out AM.out.1 AM.out.1 AM.out.2 AM.out.2).mono ?_
          rintro e z5 ⟨rfl, q5⟩
          rw [decide_eq_true rfl]
          have Q5 := Lib.hid (Q4.out.trans q5)
          clear q5 TM4 T4 Q4
          go_wp2
          go_ret
          exact ⟨rfl, Q5.out⟩
    · have hne : ((tok doc).2 != 0) = true := by simp [hz]
      have hl0 := tok_er (b := doc) (l := (tok doc).1) (e := (tok doc).2) rfl hz
      rw [hl0]
      generalize (tok doc).2 = ee at *
      clear hl0
      go_wp2
      go_ret
      exact ⟨rfl, Q1.out⟩
  · rw [wri_no hq] at hv3 ⊢
    obtain ⟨a3, c3, hv3'⟩ := hv3.slice
    subst hv3'
    clear hq hv3 k3 K2
    go_wp2_with fail
    refine (ptokens_any g doc.length c' doc x3 ((HE.out.kept K3.out).mono K3.out.size) rfl (fun _ => (HB.out.kept K3.out).conv)).mono ?_
    rintro e z1 ⟨q1, u1, rfl, hT⟩
    have Q1 := Lib.hid (K3.out.trans q1)
    have TZ := Lib.hid hT.rd
    obtain ⟨ma, mc, hmv⟩ := hT.rd.slice
    subst hmv
    clear q1 hT K3 HB
    by_cases hz : (tok doc).2 = 0
    · have htk : tok doc = ((tok doc).1, 0) := by rw [← hz]
      have HWR := Lib.hid (fun q => tok_wr htk (by omega) q)
      have hne : ((tok doc).2 != 0) = false := by simp [hz]
      clear htk
      generalize (tok doc).1 = m at *
      generalize (tok doc).2 = ee at *
      subst hz
      clear hne
      have AM := Lib.hid (Fw.at FD.out (by omega))
      have hml := AM.out.1
      go_wp2_with fail
      go_loopw [13] (fun vi wr => ∃ i : Nat, 1 ≤ i ∧ vi = .int .i64 i ∧ i ≤ m.length + 1 ∧ Hid (Kept w wr) ∧ Hid (Kept z1 wr) ∧ Hid (NoT m i)) (fun vi _ => m.length + 1 - (intOf vi).toNat)
      case atStart => exact ⟨1, Nat.le_refl _, rfl, by omega, Q1, Lib.hid (Kept.refl _), Lib.hid (fun j a b hj => by omega)⟩
      case round =>
        obtain ⟨i, hi1, rfl, hi2, hK, hKz, hN⟩ := hrel
        by_cases hlt : i < m.length
        · have hltI : (i : Int) < m.length := by omega
          obtain ⟨t, ht⟩ : ∃ t, m[i]? = some t := ⟨_, List.getElem?_eq_getElem hlt⟩
          obtain ⟨p, hp⟩ : ∃ t, m[i - 1]? = some t := ⟨_, List.getElem?_eq_getElem (by omega)⟩
          obtain ⟨-, g1, o1, xx, ha1, hc1, d0, d1, d2, d3, hx⟩ := (TZ.out.kept hKz.out).at ht
          obtain ⟨-, g2, o2, yy, ha2, hc2, e0, e1, e2, e3, hy⟩ := (TZ.out.kept hKz.out).at hp
          subst ha1
          injection ha2 with ha2
          injection ha2 with ha3 ha4
          subst ha3 ha4
          have HNX := Lib.hid (fun q => NoT.next hN.out hi1 hp ht q)
          have hnl : ((i : Int) - 1) = ((i - 1 : Nat) : Int) := by omega
          clear ht hp d1 d2 d3 e1 e2 e3 hx hy hN
          by_cases hk : t.1 = 2
          · rw [hk] at d0
            by_cases hk2 : p.1 = 2
            · rw [hk2] at e0
              go_wp2
              go_ret
              exact ⟨rfl, hK.out⟩
            · have hb2 : (p.1 == 2) = false := by simp [hk2]
              have HN2 := Lib.hid (HNX.out (fun q => hk2 q.1))
              clear HNX
              go_wp2
              go_roundw
              case rel => exact ⟨i + 1, by omega, by go_num, by omega, hK, hKz, HN2⟩
              case measure => simp [intOf]; omega
          · have hb1 : (t.1 == 2) = false := by simp [hk]
            have HN2 := Lib.hid (HNX.out (fun q => hk q.2))
            clear HNX
            go_wp2
            go_roundw
            case rel => exact ⟨i + 1, by omega, by go_num, by omega, hK, hKz, HN2⟩
            case measure => simp [intOf]; omega
        · have hltI : ¬ (i : Int) < m.length := by omega
          have hq2 := HWR.out (hN.out.all (by omega))
          have HQ := Lib.hid hq2
          have hwm := (tok_ok hq2).2.2
          have HY := Lib.hid (wri_yes hq2)
          clear hq2 hN HWR
          go_wp2_with fail
          refine (write_any _ m wr (TZ.out.kept hKz.out) (small_fw FD.out (by omega)) ((HE.out.kept hK.out).mono hK.out.size)).mono ?_
          rintro e z3 ⟨q3, u3, rfl, hv3⟩
          rw [HY.out] at hv3 ⊢
          obtain ⟨a6, c6, hu3⟩ := hv3.slice
          subst hu3
          have Q3 := Lib.hid (hK.out.trans q3)
          have TM := Lib.hid ((TZ.out.kept hKz.out).kept q3)
          have PT2 := Lib.hid (ptokens_any a6 (wrAll m).length c6 (wrAll m) z3 ((HE.out.kept Q3.out).mono Q3.out.size) rfl (fun _ => hv3.conv))
          rw [HQ.out] at PT2
          clear HQ HY hv3 q3 hK hKz TZ
          generalize wrAll m = wm at *
          go_wp2_with fail
          refine PT2.out.mono ?_
          rintro e z4 ⟨q4, u4, rfl, hT4⟩
          have Q4 := Lib.hid (Q3.out.trans q4)
          have TM4 := Lib.hid (TM.out.kept q4)
          have T4 := Lib.hid hT4.rd
          obtain ⟨a7, c7, hu4⟩ := hT4.rd.slice
          subst hu4
          clear q4 hT4 PT2 Q3 TM
          go_wp2_with fail
          refine (psame_any _ _ m m z4 TM4.out T4.out AM.out.1 AM.out.1 AM.out.2 AM.out.2).mono ?_
          rintro e z5 ⟨rfl, q5⟩
          rw [decide_eq_true rfl]
          have Q5 := Lib.hid (Q4.out.trans q5)
          clear q5 TM4 T4 Q4
          go_wp2
          go_ret
          exact ⟨rfl, Q5.out⟩
    · have hne : ((tok doc).2 != 0) = true := by simp [hz]
      have hl0 := tok_er (b := doc) (l := (tok doc).1) (e := (tok doc).2) rfl hz
      rw [hl0]
      generalize (tok doc).2 = ee at *
      clear hl0
      go_wp2
      go_ret
      exact ⟨rfl, Q1.out⟩
end Go.Proofs.YtknggeplnffegaaGreatDoor
