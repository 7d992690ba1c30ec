/- Package xml: Same. -/
import Derived.Test.YtknggeplnffegaaGreatDoorXmV
set_option linter.unusedVariables false
namespace Go.Proofs.YtknggeplnffegaaGreatDoor
open Go.ChangeShapes Go.WideShapes Go.ChangeAt Go.RowKit
open En Xm
set_option maxRecDepth 100000 in
set_option maxHeartbeats 2000000 in
theorem pequal_any (v v' : Value) (l l' : List Atr) (w : World) (h : AtRd v l w) (h' : AtRd v' l' w) (hl : l.length ≤ 1000000) (hl' : l'.length ≤ 1000000) :
    Calls Tryz.prog 45 #[v, v'] w (SmP l l' w) := by
  obtain ⟨a, c, hv⟩ := h.slice
  obtain ⟨a', c', hv'⟩ := h'.slice
  subst hv hv'
  by_cases hlen : l.length = l'.length
  · have HL := Lib.hid hlen
    rw [← hlen] at h' ⊢
    clear hl' hlen
    go_enter Tryz.func45, Tryz.ntmps45
    go_wp2_with fail
    go_loopw [13] (fun vi wr => ∃ i : Nat, i ≤ l.length ∧ vi = .int .i64 i ∧ Hid (Kept w wr) ∧ Hid (AtRd (.slice a l.length c) l wr) ∧ Hid (AtRd (.slice a' l.length c') l' wr) ∧ Hid (l.take i = l'.take i)) (fun vi _ => l.length - (intOf vi).toNat)
    case atStart => exact ⟨0, Nat.zero_le _, rfl, Lib.hid (Kept.refl w), Lib.hid h, Lib.hid h', Lib.hid rfl⟩
    case round =>
      obtain ⟨i, hi, rfl, hK, hA, hB, hT⟩ := hrel
      clear h h'
      by_cases hlt : i < l.length
      · have hltI : (i : Int) < l.length := by omega
        obtain ⟨u, hu⟩ : ∃ u, l[i]? = some u := ⟨_, List.getElem?_eq_getElem hlt⟩
        obtain ⟨u', hu'⟩ : ∃ u', l'[i]? = some u' := ⟨_, List.getElem?_eq_getElem (by rw [← HL.out]; exact hlt)⟩
        obtain ⟨-, ga, oa, hpa, hca, f0, f1⟩ := hA.out.at hu
        obtain ⟨-, gb, ob, hpb, hcb, g0, g1⟩ := hB.out.at hu'
        subst hpa hpb
        have hneq := neq_atr u u'
        have HU := Lib.hid (fun (q : u ≠ u') => take_ne hu hu' q)
        have HUT := Lib.hid (fun (q : u = u') => take_eq hT.out hu hu' q)
        clear hu hu' hT
        by_cases huu : u = u'
        · have bu : (u == u') = true := by simp [huu]
          have HN2 := Lib.hid (HUT.out huu)
          rw [bu] at hneq
          clear huu bu
          go_upto_region 6 with (fail)
          go_quiet (fail)
          obtain ⟨W2, hW2, K2, A2, B2⟩ : ∃ W2, W2 = wr.drewN nq ∧ Hid (Kept w W2) ∧ Hid (AtRd (.slice (some ⟨ga, oa, none⟩) l.length c) l W2) ∧ Hid (AtRd (.slice (some ⟨gb, ob, none⟩) l.length c') l' W2) := ⟨_, rfl, Lib.hid (hK.out.drewN _), Lib.hid (hA.out.kept ((Kept.refl wr).drewN _)), Lib.hid (hB.out.kept ((Kept.refl wr).drewN _))⟩
          rw [← hW2]
          clear hW2
          clear hK hA hB f0 f1 g0 g1
          go_wp2
          go_roundw
          case rel => exact ⟨i + 1, hlt, by go_num, K2, A2, B2, HN2⟩
          case measure => simp [intOf]; omega
        · have bu : (u == u') = false := by simp [huu]
          rw [bu] at hneq
          have hbad : l ≠ l' := HU.out huu
          clear huu bu
          go_upto_region 6 with (fail)
          go_quiet (fail)
          have Z := Lib.hid (show SmP l l' w (.returned (.bool false)) (wr.drewN nq) from SmP.no hbad (hK.out.drewN nq))
          clear hK hA hB f0 f1 g0 g1
          go_wp2
          go_ret
          exact Z.out
      · have hltI : ¬ (i : Int) < l.length := by omega
        have Z := Lib.hid (show SmP l l' w (.returned (.bool true)) wr from SmP.yes (by
          have := hT.out
          rw [List.take_of_length_le (by omega), List.take_of_length_le (by rw [← HL.out]; omega)] at this
          exact this) hK.out)
        clear hA hB hT hK
        go_wp2
        go_ret
        exact Z.out
  · have hne : ((l.length : Int) != l'.length) = true := by simp; omega
    have hne2 : ¬ (l.length : Int) = l'.length := by omega
    have Z := Lib.hid (show SmP l l' w (.returned (.bool false)) w from SmP.no (fun e => hlen (by rw [e])) (Kept.refl w))
    clear h h' hlen
    go_enter Tryz.func45, Tryz.ntmps45
    go_wp2
    go_ret
    exact Z.out
abbrev tkV (t : Tk) (x : Value) : Value := .agg #[iV t.1, sV t.2.1, sV t.2.2.1, x]
def PsP (t t' : Tk) (w : World) (e : Ending) (w' : World) : Prop := e = .returned (.bool (decide (t = t'))) ∧ Kept w w'
set_option maxRecDepth 100000 in
set_option maxHeartbeats 2000000 in
theorem psame1_any (t t' : Tk) (x x' : Value) (w : World) (h : AtRd x t.2.2.2 w) (h' : AtRd x' t'.2.2.2 w) (hl : t.2.2.2.length ≤ 1000000) (hl' : t'.2.2.2.length ≤ 1000000) :
    Calls Tryz.prog 30 #[tkV t x, tkV t' x'] w (PsP t t' w) := by
  obtain ⟨pa, ca, hxs⟩ := h.slice
  obtain ⟨pb, cb, hxs'⟩ := h'.slice
  obtain ⟨k1, n1, s1, al1⟩ := t
  obtain ⟨k2, n2, s2, al2⟩ := t'
  simp only at h h' hl hl' hxs hxs'
  have k0 := ((Kept.refl w).alloc (.cells #[iV k1, sV n1, sV s1, x] 38)).alloc (.cells #[iV k2, sV n2, sV s2, x'] 38)
  subst hxs hxs'
  have K0 := Lib.hid k0
  have HA := Lib.hid (h.kept k0)
  have HB := Lib.hid (h'.kept k0)
  clear h h' k0
  by_cases hk : k1 = k2
  · by_cases hn : n1 = n2
    · by_cases hs : s1 = s2
      · subst hk hn hs
        have bk : (k1 == k1) = true := by simp
        have bn : (n1 == n1) = true := by simp
        have bs : (s1 == s1) = true := by simp
        go_enter Tryz.func30, Tryz.ntmps30
        go_wp2_with fail
        refine (pequal_any _ _ al1 al2 _ HA.out HB.out hl hl').mono ?_
        rintro e w1 ⟨rfl, k1'⟩
        have K1 := Lib.hid (K0.out.trans k1')
        have HD := Lib.hid (show decide (((k1, n1, s1, al1) : Tk) = (k1, n1, s1, al2)) = decide (al1 = al2) by rw [decide_eq_decide]; simp)
        clear k1' HA HB K0
        generalize decide (al1 = al2) = q at *
        go_wp2
        go_ret
        exact ⟨by rw [HD.out]; rfl, K1.out⟩
      · have bs : (s1 == s2) = false := by simp [hs]
        subst hk hn
        have bk : (k1 == k1) = true := by simp
        have bn : (n1 == n1) = true := by simp
        have HD := Lib.hid (show decide (((k1, n1, s1, al1) : Tk) = (k1, n1, s2, al2)) = false by rw [decide_eq_false_iff_not]; intro q; rw [Prod.mk.injEq, Prod.mk.injEq, Prod.mk.injEq] at q; exact hs q.2.2.1)
        clear HA HB hs
        go_enter Tryz.func30, Tryz.ntmps30
        go_wp2
        go_ret
        exact ⟨by rw [HD.out]; rfl, K0.out⟩
    · have bn : (n1 == n2) = false := by simp [hn]
      subst hk
      have bk : (k1 == k1) = true := by simp
      have HD := Lib.hid (show decide (((k1, n1, s1, al1) : Tk) = (k1, n2, s2, al2)) = false by rw [decide_eq_false_iff_not]; intro q; rw [Prod.mk.injEq, Prod.mk.injEq] at q; exact hn q.2.1)
      clear HA HB hn
      go_enter Tryz.func30, Tryz.ntmps30
      go_wp2
      go_ret
      exact ⟨by rw [HD.out]; rfl, K0.out⟩
  · have bk : (k1 == k2) = false := by simp [hk]
    have HD := Lib.hid (show decide (((k1, n1, s1, al1) : Tk) = (k2, n2, s2, al2)) = false by rw [decide_eq_false_iff_not]; intro q; rw [Prod.mk.injEq] at q; exact hk q.1)
    clear HA HB hk
    go_enter Tryz.func30, Tryz.ntmps30
    go_wp2
    go_ret
    exact ⟨by rw [HD.out]; rfl, K0.out⟩
set_option maxRecDepth 100000 in
set_option maxHeartbeats 4000000 in
theorem peqf_any (v v' : Value) (l l' : List Tk) (w : World) (h : TkRd v l w) (h' : TkRd v' l' w) (hl : l.length ≤ 1000000) (hl' : l'.length ≤ 1000000) (hla : ∀ t ∈ l, t.2.2.2.length ≤ 1000000) (hlb : ∀ t ∈ l', t.2.2.2.length ≤ 1000000) :
    Calls Tryz.prog 29 #[v, v', .func (.func 30) #[] #[]] w (SmP l l' w) := by
  obtain ⟨a, c, hv⟩ := h.slice
  obtain ⟨a', c', hv'⟩ := h'.slice
  subst hv hv'
  by_cases hlen : l.length = l'.length
  · have HL := Lib.hid hlen
    rw [← hlen] at h' ⊢
    clear hl' hlen
    go_enter Tryz.func29, Tryz.ntmps29
    go_wp2_with fail
    go_loopw [17] (fun vi wr => ∃ i : Nat, i ≤ l.length ∧ vi = .int .i64 i ∧ Hid (Kept w wr) ∧ Hid (TkRd (.slice a l.length c) l wr) ∧ Hid (TkRd (.slice a' l.length c') l' wr) ∧ Hid (l.take i = l'.take i)) (fun vi _ => l.length - (intOf vi).toNat)
    case atStart => exact ⟨0, Nat.zero_le _, rfl, Lib.hid (Kept.refl w), Lib.hid h, Lib.hid h', Lib.hid rfl⟩
    case round =>
      obtain ⟨i, hi, rfl, hK, hA, hB, hT⟩ := hrel
      clear h h'
      by_cases hlt : i < l.length
      · have hltI : (i : Int) < l.length := by omega
        obtain ⟨t, ht⟩ : ∃ t, l[i]? = some t := ⟨_, List.getElem?_eq_getElem hlt⟩
        obtain ⟨t', ht'⟩ : ∃ t', l'[i]? = some t' := ⟨_, List.getElem?_eq_getElem (by rw [← HL.out]; exact hlt)⟩
        obtain ⟨-, g, o, x, ha, hc, d0, d1, d2, d3, hx⟩ := hA.out.at ht
        obtain ⟨-, g', o', x', ha', hc', e0, e1, e2, e3, hx'⟩ := hB.out.at ht'
        obtain ⟨pa, ca, hxs⟩ := hx.slice
        obtain ⟨pb, cb, hxs'⟩ := hx'.slice
        have hall := hla t (List.mem_of_getElem? ht)
        have hall' := hlb t' (List.mem_of_getElem? ht')
        have HN := Lib.hid (fun (q : t ≠ t') => take_ne ht ht' q)
        have HTT := Lib.hid (fun (q : t = t') => take_eq hT.out ht ht' q)
        subst ha ha' hxs hxs'
        have ka := (Kept.refl wr).alloc (.cells #[iV t.1, sV t.2.1, sV t.2.2.1, .slice pa t.2.2.2.length ca] 38)
        have kb := ka.alloc (.cells #[iV t'.1, sV t'.2.1, sV t'.2.2.1, .slice pb t'.2.2.2.length cb] 38)
        have e0' := ka.yes e0
        have e1' := ka.yes e1
        have e2' := ka.yes e2
        have e3' := ka.yes e3
        have hs1 : (wr.alloc (.cells #[iV t.1, sV t.2.1, sV t.2.2.1, .slice pa t.2.2.2.length ca] 38)).heap.size = wr.heap.size + 1 := by simp
        have Qa := Lib.hid ((tq_new wr t (.slice pa t.2.2.2.length ca)).kept ((Kept.refl _).alloc (.cells #[iV t'.1, sV t'.2.1, sV t'.2.2.1, .slice pb t'.2.2.2.length cb] 38)))
        have Qb : Hid (Tq (wr.heap.size + 1) t' (.slice pb t'.2.2.2.length cb) ((wr.alloc (.cells #[iV t.1, sV t.2.1, sV t.2.2.1, .slice pa t.2.2.2.length ca] 38)).alloc (.cells #[iV t'.1, sV t'.2.1, sV t'.2.2.1, .slice pb t'.2.2.2.length cb] 38))) := Lib.hid (by rw [← hs1]; exact tq_new _ t' _)
        have K1 := Lib.hid (hK.out.trans kb)
        have A1 := Lib.hid (hA.out.kept kb)
        have B1 := Lib.hid (hB.out.kept kb)
        have X1 := Lib.hid (hx.kept kb)
        have X1' := Lib.hid (hx'.kept kb)
        clear ht ht' hT ka kb hs1 hA hB hK hx hx' e0 e1 e2 e3
        go_upto_region 7 with (fail)
        generalize (wr.alloc (.cells #[iV t.1, sV t.2.1, sV t.2.2.1, .slice pa t.2.2.2.length ca] 38)).alloc (.cells #[iV t'.1, sV t'.2.1, sV t'.2.2.1, .slice pb t'.2.2.2.length cb] 38) = W1 at *
        obtain ⟨q0, q1, q2, q3⟩ := Qa.out.cs
        obtain ⟨r0, r1, r2, r3⟩ := Qb.out.cs
        clear d0 d1 d2 d3 e0' e1' e2' e3'
        go_wp2_with fail
        refine (psame1_any t t' _ _ _ X1.out X1'.out hall hall').mono ?_
        rintro e w2 ⟨rfl, k2⟩
        have K2 := Lib.hid (K1.out.trans k2)
        have A2 := Lib.hid (A1.out.kept k2)
        have B2 := Lib.hid (B1.out.kept k2)
        clear k2 K1 A1 B1 X1 X1' Qa Qb q0 q1 q2 q3 r0 r1 r2 r3
        by_cases htt : t = t'
        · rw [decide_eq_true htt]
          have HN2 := Lib.hid (HTT.out htt)
          clear htt HN HTT
          go_wp2
          go_roundw
          case rel => exact ⟨i + 1, hlt, by go_num, K2, A2, B2, HN2⟩
          case measure => simp [intOf]; omega
        · rw [decide_eq_false htt]
          have Z := Lib.hid (show SmP l l' w (.returned (.bool false)) w2 from SmP.no (HN.out htt) K2.out)
          clear htt HN HTT K2 A2 B2
          go_wp2
          go_ret
          exact Z.out
      · have hltI : ¬ (i : Int) < l.length := by omega
        have Z := Lib.hid (show SmP l l' w (.returned (.bool true)) wr from SmP.yes (by
          have := hT.out
          rw [List.take_of_length_le (by omega), List.take_of_length_le (by rw [← HL.out]; omega)] at this
          exact this) hK.out)
        clear hA hB hT hK
        go_wp2
        go_ret
        exact Z.out
  · have hne : ((l.length : Int) != l'.length) = true := by simp; omega
    have hne2 : ¬ (l.length : Int) = l'.length := by omega
    have Z := Lib.hid (show SmP l l' w (.returned (.bool false)) w from SmP.no (fun e => hlen (by rw [e])) (Kept.refl w))
    clear h h' hlen
    go_enter Tryz.func29, Tryz.ntmps29
    go_wp2
    go_ret
    exact Z.out
theorem psame_any (v v' : Value) (l l' : List Tk) (w : World) (h : TkRd v l w) (h' : TkRd v' l' w) (hl : l.length ≤ 1000000) (hl' : l'.length ≤ 1000000) (hla : ∀ t ∈ l, t.2.2.2.length ≤ 1000000) (hlb : ∀ t ∈ l', t.2.2.2.length ≤ 1000000) :
    Calls Tryz.prog 20 #[v, v'] w (SmP l l' w) := by
  have HE := Lib.hid (peqf_any v v' l l' w h h' hl hl' hla hlb)
  obtain ⟨a, c, hv⟩ := h.slice
  obtain ⟨a', c', hv'⟩ := h'.slice
  subst hv hv'
  clear h h' hla hlb
  go_enter Tryz.func20, Tryz.ntmps20
  go_wp2_with fail
  refine HE.out.mono ?_
  rintro e w1 ⟨rfl, k1⟩
  have K1 := Lib.hid k1
  have HZ := Lib.hid (fun (e : Ending) (he : e = .returned (.bool (decide (l = l')))) => show SmP l l' w e w1 from ⟨he, k1⟩)
  clear k1 HE
  generalize decide (l = l') = q at *
  go_wp2
  go_ret
  exact HZ.out _ rfl
end Go.Proofs.YtknggeplnffegaaGreatDoor
