/- PartMore: one more body, behind the others, changes nothing of what stands ahead of the end. -/
import Derived.Test.YtgpocnnolieijaaGreatDoorPtCp
import Derived.Test.YtgpocnnolieijaaGreatDoorPtSm
import Derived.Test.YtgpocnnolieijaaGreatDoorPtWB
import Derived.Test.YtgpocnnolieijaaGreatDoorQpRc
set_option linter.unusedSimpArgs false
set_option linter.unusedVariables false
namespace Go.Proofs.YtgpocnnolieijaaGreatDoor.Pt
open Go.ChangeShapes Go.WideShapes Go.ChangeAt Go.RowKit Go.Shelf
open Hd (SRd OwnS lnA lns)
def preJ (l : List (B × B)) : B := l.flatMap fun p => dl ++ pc p
theorem joined_app : ∀ l m : List (B × B), joined (l ++ m) = preJ l ++ joined m
  | [], m => rfl
  | x :: l, m => by
    have := joined_app l m
    rw [List.cons_append, joined, this]
    unfold preJ
    rw [List.flatMap_cons]
    simp only [List.append_assoc]
theorem joined_end (l : List (B × B)) : joined l = preJ l ++ (dl ++ fin) := by
  have := joined_app l []
  rwa [List.append_nil] at this
theorem joined_more (l : List (B × B)) (p : B × B) : joined (l ++ [p]) = preJ l ++ (dl ++ (pc p ++ (dl ++ fin))) := by
  rw [joined_app]; rfl
/-- what the law looks at -/
structure Mo (J K : B) (n : Nat) (z : B) : Prop where
  j : J.length = n + 9
  k : n + 5 + z.length < K.length
  up : K.length ≤ 1000000
  same : K.take n = J.take n
  cut : (K.drop n).take 5 = dl
theorem pc_len (p : B × B) : (Qp.enc 0 p.2).length + 4 ≤ (pc p).length := by
  unfold pc
  simp only [List.length_append, List.length_cons, List.length_nil]
  omega
theorem mo_of {L : List (B × B)} {p : B × B} (h : (joined (L ++ [p])).length ≤ 1000000) : Mo (joined L) (joined (L ++ [p])) (preJ L).length (Qp.enc 0 p.2) where
  j := by rw [joined_end, List.length_append]; rfl
  k := by
    have := pc_len p
    rw [joined_more]
    simp only [List.length_append]
    rw [show dl.length = 5 from rfl]
    omega
  up := h
  same := by rw [joined_more, joined_end, List.take_left, List.take_left]
  cut := by rw [joined_more, List.drop_left]; rfl
theorem zip_more {ks ls : List B} {k b : B} (h : ks.length = ls.length) : (ks ++ [k]).zip (ls ++ [b]) = ks.zip ls ++ [(k, b)] := by
  rw [List.zip_append h]; rfl
theorem rd_cons {v : Value} {l : B} {w : World} (h : BRd v l w) (hl : 0 < l.length) : ∃ g o c, v = .slice (some ⟨g, o, none⟩) l.length c ∧ l.length ≤ c := by
  obtain ⟨a, c, rfl⟩ := h.slice
  obtain ⟨_, h1, _, h2⟩ := BRd.parts h
  obtain ⟨g, o, rfl, _⟩ := h1 hl
  exact ⟨g, o, c, rfl, h2⟩
theorem cut_rd {g o m c : Nat} {l : B} {w : World} (h : BRd (.slice (some ⟨g, o, none⟩) m c) l w) (n : Nat) (hn : n ≤ l.length) : BRd (.slice (some ⟨g, o, none⟩) n c) (l.take n) w := by
  have := h.sub 0 n (Nat.zero_le _) hn
  simpa using this
set_option maxRecDepth 100000 in
set_option maxHeartbeats 8000000 in
theorem more15_walk (kv lv : Value) (ks ls : List B) (k : B) (bv : Value) (b : B) (w : World) (hk : SRd kv ks w) (hl : LRd lv ls w) (hb : BRd bv b w) (hE : Env w)
    (hkn : ks.length ≤ 1048576) (hln : ls.length ≤ 1048576) (hkb : ∀ x ∈ ks, x.length ≤ 1048576) (hlb : ∀ x ∈ ls, x.length ≤ 1048576) (hkl : k.length ≤ 1048576) (hbl : b.length ≤ 1048576) :
    Calls Tryz.prog 7 #[kv, lv, sV k, bv] w fun e w' => e = .returned (.bool true) ∧ Kept w w' := by
  obtain ⟨ka, kc, rfl⟩ := hk.slice
  obtain ⟨la, lc, rfl⟩ := hl.slice
  obtain ⟨ba, bc, rfl⟩ := hb.slice
  have HK := Lib.hid hk
  have HL := Lib.hid hl
  have HB := Lib.hid hb
  have HE := Lib.hid hE
  have HKB := Lib.hid hkb
  have HLB := Lib.hid hlb
  have HKL := Lib.hid hkl
  have HA := Lib.hid (awake15_any w hE)
  have K0 := Lib.hid (Kept.refl w)
  clear hk hl hb hE hkb hlb hkl
  go_enter Tryz.func7, Tryz.ntmps7
  go_wp2_with fail
  refine HA.out.mono ?_
  rintro e x1 ⟨rfl, k1⟩
  have K1 := Lib.hid k1
  have K1s := k1.size
  clear k1 HA
  go_upto_region 2 with (fail)
  go_wp2_with (at_builtin; refine wpList_copyS rfl _ _ rfl w.heap.size _ ks rfl rfl (HK.out.kept (K0.out.trans K1.out)) (by omega) K1s ?_)
  intro vS1 zS1 hz hgz
  have SS1 := Lib.hid hz
  have KS1 := Lib.hid (kept_row K1.out hgz (fun r hr => by cases hr))
  have sS1 := KS1.out.size
  clear hz hgz
  have kb := (Kept.refl zS1).alloc (.cells #[sV k] 9)
  have c0 := (Kept.refl (zS1.alloc (.cells #[sV k] 9))).new 0 (v := sV k) rfl
  have KT1 := Lib.hid (KS1.out.trans kb)
  have ST1 := Lib.hid (OwnS.kept SS1.out kb)
  have sT1 := Nat.le_trans sS1 kb.size
  clear kb KS1 SS1
  go_wp2_with (at_builtin; refine Hd.wpList_pushS rfl _ _ rfl w.heap.size _ ks k zS1.heap.size rfl ST1.out rfl c0 (by omega) sT1 ?_)
  intro vK1 zK1 hz hgz
  have SK1 := Lib.hid hz
  have KK1 := Lib.hid (kept_row KT1.out hgz (fun r hr => (World.ownsRow.lt ST1.out r hr).1))
  have sK1 := KK1.out.size
  clear hz hgz c0 KT1 ST1 sS1 sT1
  go_wp2_with (at_builtin; refine wpList_copyL rfl _ _ rfl w.heap.size _ ls rfl rfl (HL.out.kept (K0.out.trans KK1.out)) (by omega) sK1 ?_)
  intro vL1 zL1 hz hgz
  have LL1 := Lib.hid hz
  have SL1 := Lib.hid (show OwnS _ _ _ _ from own_keep SK1.out hgz NoRow.none)
  have KL1 := Lib.hid (kept_row KK1.out hgz (fun r hr => by cases hr))
  have sL1 := KL1.out.size
  clear hz hgz SK1 KK1 sK1
  have kb := (Kept.refl zL1).alloc (.cells #[.slice ba b.length bc] 26)
  have c0 := (Kept.refl (zL1.alloc (.cells #[.slice ba b.length bc] 26))).new 0 (v := .slice ba b.length bc) rfl
  have KM1 := Lib.hid (KL1.out.trans kb)
  have SM1 := Lib.hid (OwnS.kept SL1.out kb)
  have LM1 := Lib.hid (LL1.out.kept kb)
  have sM1 := Nat.le_trans sL1 kb.size
  clear kb KL1 SL1 LL1
  go_wp2_with (at_builtin; refine wpList_pushL rfl _ _ rfl w.heap.size _ ls b _ zL1.heap.size rfl LM1.out rfl c0 (HB.out.kept (K0.out.trans KM1.out)) (apart_old (HB.out.kept K0.out) LM1.out (Nat.le_refl _)) (by omega) sM1 ?_)
  intro vM1 zM1 hz hgz
  have LQ1 := Lib.hid hz
  have SQ1 := Lib.hid (OwnS.besideL SM1.out LM1.out hgz)
  have KQ1 := Lib.hid (kept_row KM1.out hgz (fun r hr => (LM1.out.lt r hr).1))
  have sQ1 := KQ1.out.size
  clear hz hgz c0 KM1 SM1 LM1 sL1 sM1
  have HKB2 := Lib.hid (show ∀ x ∈ ks ++ [k], x.length ≤ 1048576 from fun x hx => by
    rcases List.mem_append.1 hx with hx | hx
    · exact HKB.out x hx
    · simp at hx; subst hx; exact HKL.out)
  have HLB2 := Lib.hid (show ∀ x ∈ ls ++ [b], x.length ≤ 1048576 from fun x hx => by
    rcases List.mem_append.1 hx with hx | hx
    · exact HLB.out x hx
    · simp at hx; subst hx; exact hbl)
  have HZM := Lib.hid (fun h => zip_more (ks := ks) (ls := ls) (k := k) (b := b) h)
  have HF := Lib.hid (few_any vK1 vM1 (ks ++ [k]) (ls ++ [b]) zM1 SQ1.out.rd LQ1.out.rd)
  have HJ := Lib.hid (join_any _ _ ks ls zM1 (HK.out.kept KQ1.out) (HL.out.kept KQ1.out) (HE.out.kept KQ1.out) (fun x hx => by have := HKB.out x hx; omega) (fun x hx => by have := HLB.out x hx; omega))
  clear SQ1 LQ1
  go_wp2_with fail
  refine HF.out.mono ?_
  rintro e x2 ⟨rfl, hx2⟩
  have hx2' := hx2.symm
  subst hx2'
  clear hx2 HF
  go_wp2_with fail
  refine HJ.out.mono ?_
  rintro e y1 ⟨bv1, rfl, hb1, k2⟩
  have KY := Lib.hid (KQ1.out.trans k2)
  have KR := Lib.hid (Kept.refl y1)
  have HB1 := Lib.hid hb1
  clear HJ hb1 k2 KQ1
  go_upto_region 4 with (fail)
  go_wp2_with (at_builtin; refine wpList_copyS rfl _ _ rfl y1.heap.size _ ks rfl rfl (HK.out.kept (KY.out.trans KR.out)) (by omega) (Nat.le_refl _) ?_)
  intro vS2 zS2 hz hgz
  have SS2 := Lib.hid hz
  have KS2 := Lib.hid (kept_row KR.out hgz (fun r hr => by cases hr))
  have sS2 := KS2.out.size
  clear hz hgz
  have kb := (Kept.refl zS2).alloc (.cells #[sV k] 9)
  have c0 := (Kept.refl (zS2.alloc (.cells #[sV k] 9))).new 0 (v := sV k) rfl
  have KT2 := Lib.hid (KS2.out.trans kb)
  have ST2 := Lib.hid (OwnS.kept SS2.out kb)
  have sT2 := Nat.le_trans sS2 kb.size
  clear kb KS2 SS2
  go_wp2_with (at_builtin; refine Hd.wpList_pushS rfl _ _ rfl y1.heap.size _ ks k zS2.heap.size rfl ST2.out rfl c0 (by omega) sT2 ?_)
  intro vK2 zK2 hz hgz
  have SK2 := Lib.hid hz
  have KK2 := Lib.hid (kept_row KT2.out hgz (fun r hr => (World.ownsRow.lt ST2.out r hr).1))
  have sK2 := KK2.out.size
  clear hz hgz c0 KT2 ST2 sS2 sT2
  go_wp2_with (at_builtin; refine wpList_copyL rfl _ _ rfl y1.heap.size _ ls rfl rfl (HL.out.kept (KY.out.trans KK2.out)) (by omega) sK2 ?_)
  intro vL2 zL2 hz hgz
  have LL2 := Lib.hid hz
  have SL2 := Lib.hid (show OwnS _ _ _ _ from own_keep SK2.out hgz NoRow.none)
  have KL2 := Lib.hid (kept_row KK2.out hgz (fun r hr => by cases hr))
  have sL2 := KL2.out.size
  clear hz hgz SK2 KK2 sK2
  have kb := (Kept.refl zL2).alloc (.cells #[.slice ba b.length bc] 26)
  have c0 := (Kept.refl (zL2.alloc (.cells #[.slice ba b.length bc] 26))).new 0 (v := .slice ba b.length bc) rfl
  have KM2 := Lib.hid (KL2.out.trans kb)
  have SM2 := Lib.hid (OwnS.kept SL2.out kb)
  have LM2 := Lib.hid (LL2.out.kept kb)
  have sM2 := Nat.le_trans sL2 kb.size
  clear kb KL2 SL2 LL2
  go_wp2_with (at_builtin; refine wpList_pushL rfl _ _ rfl y1.heap.size _ ls b _ zL2.heap.size rfl LM2.out rfl c0 (HB.out.kept (KY.out.trans KM2.out)) (apart_old (HB.out.kept KY.out) LM2.out (Nat.le_refl _)) (by omega) sM2 ?_)
  intro vM2 zM2 hz hgz
  have LQ2 := Lib.hid hz
  have SQ2 := Lib.hid (OwnS.besideL SM2.out LM2.out hgz)
  have KQ2 := Lib.hid (kept_row KM2.out hgz (fun r hr => (LM2.out.lt r hr).1))
  have sQ2 := KQ2.out.size
  clear hz hgz c0 KM2 SM2 LM2 sL2 sM2
  have HJ := Lib.hid (join_any vK2 vM2 (ks ++ [k]) (ls ++ [b]) zM2 SQ2.out.rd LQ2.out.rd (HE.out.kept (KY.out.trans KQ2.out)) (fun x hx => by have := HKB2.out x hx; omega) (fun x hx => by have := HLB2.out x hx; omega))
  clear SQ2 LQ2
  go_wp2_with fail
  refine HJ.out.mono ?_
  rintro e y2 ⟨bv2, rfl, hb2, k3⟩
  have K2 := Lib.hid (KY.out.trans (KQ2.out.trans k3))
  have C1 := Lib.hid (OwnB.kept HB1.out (KQ2.out.trans k3))
  have C2 := Lib.hid hb2
  clear HJ hb2 k3 KQ2 HB1 KY KR
  obtain ⟨FW, hFW⟩ : ∃ FW, few (ks ++ [k]) (ls ++ [b]) = FW := ⟨_, rfl⟩
  rw [hFW]
  cases FW with
  | false =>
    clear C1 C2 HZM HKB2 HLB2 hFW
    generalize jX ks ls = X1
    generalize jE ks ls = E1
    generalize jX (ks ++ [k]) (ls ++ [b]) = X2
    generalize jE (ks ++ [k]) (ls ++ [b]) = E2
    go_wp2
    go_ret
    exact ⟨rfl, K2.out⟩
  | true =>
    obtain ⟨⟨hk10, hl10⟩, hkB, hlB⟩ := few_iff.1 hFW
    have HLb := Lib.hid hlB
    have hb3 : b.length ≤ 300 := hlB b (by simp)
    clear hkB hlB hFW HKB2 HLB2
    cases hok : okJ ks ls with
    | false =>
      obtain ⟨e1, e2, e3⟩ := j_no (ks := ks) (ls := ls) (by rw [hok]; decide)
      rw [e2, e3]
      clear e1 e2 e3 hok C1 C2 HZM HLb
      generalize jX (ks ++ [k]) (ls ++ [b]) = X2
      generalize jE (ks ++ [k]) (ls ++ [b]) = E2
      go_wp2
      go_ret
      exact ⟨rfl, K2.out⟩
    | true =>
      obtain ⟨e1, e2, e3⟩ := j_yes hok
      rw [e2, e3]
      rw [e1] at C1
      clear e1 e2 e3
      cases hok2 : okJ (ks ++ [k]) (ls ++ [b]) with
      | false =>
        obtain ⟨e1, e2, e3⟩ := j_no (ks := ks ++ [k]) (ls := ls ++ [b]) (by rw [hok2]; decide)
        rw [e2, e3]
        clear e1 e2 e3 hok hok2 C1 C2 HZM HLb
        generalize b0 = x0
        go_wp2
        go_ret
        exact ⟨rfl, K2.out⟩
      | true =>
        obtain ⟨e1, e2, e3⟩ := j_yes hok2
        rw [e2, e3]
        rw [e1] at C2
        clear e1 e2 e3
        by_cases h6 : (6 : Int) < ls.length
        · clear hok hok2 C1 C2 HZM HLb
          generalize b0 = x0
          have bu : (x0 == x0) = true := by simp
          go_wp2
          go_ret
          exact ⟨rfl, K2.out⟩
        have hzl := HZM.out (okJ_iff.1 hok).1
        have hKl := zip_small hok2 HLb.out
        rw [hzl] at C2 hKl
        have HM := Lib.hid (mo_of (L := ks.zip ls) (p := (k, b)) (by omega))
        have HEn := Lib.hid (fun y (kk : Kept w y) => Qp.rencode_any (.slice ba b.length bc) b y (HB.out.kept kk) (by omega))
        clear hok hok2 HZM HLb hzl hKl
        dsimp only at HM
        generalize joined (ks.zip ls) = J at *
        generalize joined (ks.zip ls ++ [(k, b)]) = K at *
        generalize (preJ (ks.zip ls)).length = n at *
        generalize Qp.enc 0 b = z at *
        obtain ⟨g1, o1, c1, rfl, hc1⟩ := rd_cons C1.out.rd (by have := HM.out.j; omega)
        obtain ⟨g2, o2, c2, rfl, hc2⟩ := rd_cons C2.out.rd (by have := HM.out.k; omega)
        have hx0s : (ByteArray.mk b0.toArray).size = 3 := rfl
        have bu : (b0 == b0) = true := by decide
        have hj := HM.out.j
        have hk := HM.out.k
        have hu := HM.out.up
        have V1 := Lib.hid (fun m => (cut_rd C1.out.rd n (by omega)).kept ((Kept.refl y2).drewN m))
        have V2 := Lib.hid (fun m => (cut_rd C2.out.rd n (by omega)).kept ((Kept.refl y2).drewN m))
        rw [HM.out.same] at V2
        rw [hj]
        rw [hj] at hc1
        generalize J.take n = T at *
        generalize hKK : K.length = kl at *
        have HKK := Lib.hid hKK
        clear hKK hj
        have e1 : IntKind.i64.wrap ((n : Int) + 9 - 3) = n + 6 := by rw [IntKind.wrap_i64]; omega
        have e2 : IntKind.i64.wrap ((n : Int) + 6 - 6) = n := by rw [IntKind.wrap_i64]; omega
        have ha : (⟨#[45, 45]⟩ ++ ⟨b0.toArray⟩ : ByteArray) = ⟨dl.toArray⟩ := Hd.app_mk [45, 45] b0
        have bd : (dl == dl) = true := by decide
        generalize b0 = x0 at *
        have e3 : IntKind.i64.wrap ((n : Int) + 2) = n + 2 := by rw [IntKind.wrap_i64]; omega
        have e4 : IntKind.i64.wrap ((n : Int) + 2 + 3) = n + 5 := by rw [IntKind.wrap_i64]; omega
        have n0 : ¬ (n : Int) < 0 := by omega
        have nk : ¬ (kl : Int) < n + 5 := by omega
        have nc1 : (n : Int) ≤ c1 := by omega
        have nc2 : (n : Int) ≤ c2 := by omega
        have hcv1 := fun m => (V1.out m).conv
        have hcv2 := fun m => (V2.out m).conv
        have bt : (T == T) = true := by simp
        go_upto_region 8 with (fail)
        go_quiet (fail)
        have K3 := Lib.hid (K2.out.drewN nq)
        have C3 := Lib.hid (OwnB.kept C2.out ((Kept.refl y2).drewN nq))
        clear hcv1 hcv2 V1 V2 C1 C2 K2 nc1 nc2 e4 nk bt
        generalize y2.drewN nq = y3 at *
        have HE1 := Lib.hid (HEn.out y3 K3.out)
        clear HEn
        go_wp2_with fail
        refine HE1.out.mono ?_
        rintro e y4 ⟨zv, rfl, hz, kz⟩
        obtain ⟨za, zc, rfl⟩ := own_slice hz
        have K4 := Lib.hid (K3.out.trans kz)
        obtain ⟨n5, hn5⟩ : ∃ n5, n + 5 = n5 := ⟨_, rfl⟩
        have hcv3 := ((OwnB.kept C3.out kz).rd.sub n n5 (by omega) (by have := HKK.out; omega)).conv
        rw [show (K.take n5).drop n = dl by rw [List.drop_take, show n5 - n = 5 by omega]; exact HM.out.cut] at hcv3
        have e4 : IntKind.i64.wrap ((n : Int) + 2 + 3) = n5 := by rw [IntKind.wrap_i64]; omega
        have e5 : IntKind.i64.wrap ((n : Int) + z.length) = (n : Int) + z.length := by rw [IntKind.wrap_i64]; omega
        have q1 : (n : Int) ≤ n5 := by omega
        have q2 : (n5 : Int) ≤ c2 := by omega
        have q3 : ¬ c2 = n := by omega
        have q4 : (n : Int) + z.length < kl := by omega
        clear hz kz HE1 C3 K3 hn5 HM HKK
        generalize dl = D at *
        go_wp2
        go_ret
        exact ⟨rfl, K4.out⟩
end Go.Proofs.YtgpocnnolieijaaGreatDoor.Pt
