/- The law IdentKnown, walked. -/
import Derived.Test.YtpkkpjonlogliaaDoorIdL
import Derived.Deep.CutBlock
set_option linter.unusedSimpArgs false
set_option linter.unusedVariables false
namespace Go.Proofs.YtpkkpjonlogliaaDoor
open Go.ChangeShapes Go.WideShapes Go.ChangeAt Go.RowKit
open En Idn
theorem sm_upN {n m : Nat} {e : Ent} (h : Sm5 n e) (hn : n ≤ m) : Sm5 m e := ⟨by have := h.1; omega, by have := h.2.1; omega, by have := h.2.2.1; omega, by have := h.2.2.2; omega⟩
theorem eql_ent (a b : Ent) (w : World) : (binOp .eql 28 (entV a) (entV b)).run Tryd.prog w = .ok (.bool (a == b)) w := by
  rw [run_eql_struct, eq_ent]; rfl
theorem fr_mem {l : List Ent} {K : List B} {e : Ent} (h : e ∈ fr K l) : e ∈ l := (fr_sub l K).subset h
set_option maxRecDepth 100000 in
set_option maxHeartbeats 16000000 in
theorem known10_walk (vk : Value) (K : List B) (v : Value) (l : List Ent) (w : World) (hk : TxRd vk K w) (hkl : K.length ≤ maxLen) (hks : ∀ s ∈ K, s.length ≤ maxLen) (h : EnRd v l w) (hll : l.length ≤ maxLen) (hE : Env w) :
    Calls Tryd.prog 5 #[vk, v] w fun e w' => e = .returned (.bool true) ∧ Kept w w' := by
  have HE := Lib.hid hE
  have TK := Lib.hid hk
  have HL := Lib.hid h
  have HKS := Lib.hid hks
  have HFew := Lib.hid (fun x (k : Kept w x) => few_any v l 30 x (h.kept k) hll)
  have HFP := Lib.hid (fun (q : decide (FewP 30 l) = true) => of_decide_eq_true q)
  obtain ⟨ak, ck, hvk⟩ := hk.slice
  obtain ⟨al, cl, hvl⟩ := h.slice
  subst hvk hvl
  unfold maxLen at hkl hll
  clear hE hk h hks
  generalize decide (FewP 30 l) = fw at *
  go_enter Tryd.func5, Tryd.ntmps5
  go_wp2_with fail
  refine (iawake_any w HE.out).mono ?_
  rintro e x1 ⟨rfl, k1⟩
  have K1 := Lib.hid k1
  clear k1
  go_wp2_with fail
  refine (HFew.out _ K1.out).mono ?_
  rintro e x2 ⟨rfl, hx2⟩
  subst hx2
  clear HFew
  cases hfw : fw with
  | false =>
    go_wp2
    go_ret
    exact ⟨rfl, K1.out⟩
  | true =>
  obtain ⟨hf1, hf2⟩ := HFP.out hfw
  have HSm := Lib.hid hf2
  clear HFP hfw hf2
  by_cases g2 : (30 : Int) < K.length
  · go_wp2
    go_ret
    exact ⟨rfl, K1.out⟩
  have HF := Lib.hid (fun x (k : Kept w x) => fresh_any _ K _ l x (HE.out.kept k) (TK.out.kept k) (by omega) HKS.out (HL.out.kept k) (fun e he => sm_upN (HSm.out e he) (by omega)) (by omega))
  have HKey := Lib.hid (fun x (k : Kept w x) (e : Ent) (he : e ∈ l) => key_any e x (HE.out.kept k) (sm_upN (HSm.out e he) (by omega)))
  have HKL := Lib.hid (fun (e : Ent) (he : e ∈ l) => key_len (HSm.out e he))
  have hfl := fr_len l K
  have HFM := Lib.hid (fun (e : Ent) (he : e ∈ fr K l) => fr_mem he)
  have HAp := Lib.hid (fun (i : Nat) (a : Ent) (h : (fr K l)[i]? = some a) => fr_apart l K i a h)
  have HAll := Lib.hid (fun (a : Ent) (h : a ∈ l) => fr_all l K a h)
  have HSub := Lib.hid (fr_sub l K)
  have HAg := Lib.hid (fr_again l K)
  have HF2 := Lib.hid (fun x (k : Kept w x) (va : Value) (ha : TxRd va (K ++ (fr K l).map key) x) => fresh_any va (K ++ (fr K l).map key) (.slice al l.length cl) l x (HE.out.kept k) ha (by rw [List.length_append, List.length_map]; omega) (fun s hs => by
    rcases List.mem_append.1 hs with q | q
    · exact HKS.out s q
    · rw [List.mem_map] at q
      obtain ⟨e, he, rfl⟩ := q
      have := HKL.out e (HFM.out e he)
      unfold maxLen; omega) (HL.out.kept k) (fun e he => sm_upN (HSm.out e he) (by omega)) (by omega))
  unfold FrP at HF HF2
  rw [HAg.out] at HF2
  generalize fr K l = F at *
  clear HAg
  obtain ⟨i1, hi1, hx0, hx1, hx2⟩ := info_parts infoS
  go_wp2_with fail
  refine (HF.out _ K1.out).mono ?_
  rintro e x3 ⟨vf, rfl, hO, k3⟩
  have K3 := Lib.hid (K1.out.trans k3)
  have O3 := Lib.hid hO
  obtain ⟨af, cf, hvf⟩ := hO.slice
  subst hvf
  have R3 := Lib.hid hO.rd
  clear hO k3 HF
  go_wp2_with (at_builtin; refine wpl_copyT rfl _ _ rfl rfl _ K rfl (TK.out.kept K3.out) (by omega) ?_; intro va xa hA hga)
  have ka := kept_row (Kept.refl x3) hga (fun g e => by cases e)
  have RA := Lib.hid (R3.out.kept ka)
  have KA := Lib.hid (K3.out.trans ka)
  have hws := K3.out.size
  have OA := Lib.hid (show OwnS x3.heap.size va (K ++ (F.take 0).map key) xa by simpa using hA)
  have KX := Lib.hid ka
  clear hA hga ka O3
  go_loopw [8, 9] (fun va vi wr => ∃ i : Nat, vi = .int .i64 i ∧ i ≤ F.length ∧ Hid (OwnS x3.heap.size va (K ++ (F.take i).map key) wr) ∧ Hid (Kept x3 wr)) (fun _ vi _ => F.length - (intOf vi).toNat)
  case atStart => exact ⟨0, rfl, Nat.zero_le _, OA, KX⟩
  case round =>
    obtain ⟨i, rfl, hi, hA, hKw⟩ := hrel
    by_cases hlt : i < F.length
    · have hltI : (i : Int) < F.length := by omega
      obtain ⟨e, hei⟩ : ∃ e, F[i]? = some e := ⟨_, List.getElem?_eq_getElem hlt⟩
      have hmem := HFM.out e (List.mem_of_getElem? hei)
      have HK2 := Lib.hid (HKey.out wr (K3.out.trans hKw.out) e hmem)
      have hkle := HKL.out e hmem
      have hnot := HAp.out i e hei
      have HT := Lib.hid (show K ++ (F.take (i + 1)).map key = (K ++ (F.take i).map key) ++ [key e] by rw [map_step hei, List.append_assoc])
      have hsl : (K ++ (F.take i).map key).length ≤ 100 := by rw [List.length_append, List.length_map, List.length_take]; omega
      obtain ⟨-, g, o, rfl, hc, p0, p1, p2, p3, p4⟩ := (R3.out.kept hKw.out).at hei
      have HD := Lib.hid (show decide (key e ∈ K ++ (F.take i).map key) = false from decide_eq_false hnot)
      clear hei hmem hnot
      generalize hS1 : K ++ (F.take (i + 1)).map key = S1 at *
      have HS1 := Lib.hid hS1
      clear hS1
      generalize K ++ (F.take i).map key = S0 at *
      generalize key e = x at *
      obtain ⟨a1, a2, a3, a4, a5⟩ := e
      simp only at p0 p1 p2 p3 p4
      go_wp2_with fail
      refine HK2.out.mono ?_
      rintro r y1 ⟨rfl, k1⟩
      have A1 := Lib.hid (hA.out.kept k1)
      have KY := Lib.hid (hKw.out.trans k1)
      clear hA hKw k1 p0 p1 p2 p3 p4 HK2
      obtain ⟨aa, ca, hva⟩ := A1.out.slice
      subst hva
      have HH := Lib.hid (rhas_any _ S0 x y1 A1.out.rd (by omega))
      rw [HD.out] at HH
      go_wp2_with fail
      refine HH.out.mono ?_
      rintro r y2 ⟨rfl, hy2⟩
      subst hy2
      have ka := (Kept.refl y1).alloc (.cells #[sV x] 9)
      have A3 := Lib.hid (A1.out.kept ka)
      have KY3 := Lib.hid (KY.out.trans ka)
      clear HH ka A1 KY
      go_wp2_with (at_builtin; refine wpList_append_own _ rfl _ _ 22 rfl x3.heap.size 9 i1 _ 1 16 Tryd.underlying22 hi1 hx0 hx1 hx2 rfl (by decide) _ _ _ rfl A3.out ⟨y1.heap.size, 0, none⟩ 1 1 [sV x] rfl rfl (tx_news y1 x) (tx_one x) (by unfold maxLen; omega) (by omega) KY3.out.size ?_; intro v7 w7 hown hgrow _)
      have K7 := Lib.hid (kept_row KY3.out hgrow (fun g hg => (World.ownsRow.lt A3.out g hg).1))
      have A7 := Lib.hid (show OwnS x3.heap.size v7 S1 w7 by rw [HT.out]; exact OwnS.snoc hown)
      clear hown hgrow KY3 A3
      go_wp2
      go_roundw
      case rel => exact ⟨i + 1, by go_num, hlt, Lib.hid (by rw [HS1.out]; exact A7.out), K7⟩
      case measure => simp [intOf]; omega
    · have hltI : ¬ (i : Int) < F.length := by omega
      have HH := hA.out
      rw [List.take_of_length_le (by omega)] at HH
      obtain ⟨aa, ca, hva⟩ := HH.slice
      subst hva
      have TA := Lib.hid HH.rd
      have hcl := (by rw [List.length_append, List.length_map] : (K ++ F.map key).length = K.length + F.length)
      have KB := Lib.hid (K3.out.trans hKw.out)
      have R4 := Lib.hid (R3.out.kept hKw.out)
      clear hA hKw HH HAp R3 RA KX OA KA
      have hcl2 : (K ++ F.map key).length ≤ 100 := by omega
      generalize hAL : K ++ F.map key = AL at *
      have HALq := Lib.hid hAL
      clear hAL hcl
      obtain ⟨wB, rfl⟩ : ∃ z, z = wr := ⟨wr, rfl⟩
      go_wp2_with fail
      go_loopw [12, 13] (fun va vi wx => ∃ i j : Nat, vi = .int .i64 i ∧ va = .int .i64 j ∧ i ≤ l.length ∧ j ≤ F.length ∧ Hid (List.Sublist (F.drop j) (l.drop i)) ∧ Hid (Kept wB wx)) (fun _ vi _ => l.length - (intOf vi).toNat)
      case atStart => exact ⟨0, 0, rfl, rfl, Nat.zero_le _, Nat.zero_le _, Lib.hid (by simpa using HSub.out), Lib.hid (Kept.refl wB)⟩
      case round =>
        obtain ⟨i, j, rfl, rfl, hi, hj, hS, hKx⟩ := hrel
        by_cases hlt : i < l.length
        · have hltI : (i : Int) < l.length := by omega
          obtain ⟨e, hei⟩ : ∃ e, l[i]? = some e := ⟨_, List.getElem?_eq_getElem hlt⟩
          have hmem := List.mem_of_getElem? hei
          have hei2 := Lib.hid hei
          obtain ⟨-, g, o, rfl, hc, p0, p1, p2, p3, p4⟩ := (HL.out.kept (KB.out.trans hKx.out)).at hei
          by_cases hjl : j < F.length
          · have hjI : (j : Int) < F.length := by omega
            obtain ⟨e', hej⟩ : ∃ e', F[j]? = some e' := ⟨_, List.getElem?_eq_getElem hjl⟩
            obtain ⟨-, g', o', rfl, hc', r0, r1, r2, r3, r4⟩ := (R4.out.kept hKx.out).at hej
            have heql := eql_ent e e'
            by_cases hee : e = e'
            · have be : (e == e') = true := by simp [hee]
              have HS2 := Lib.hid (sub_hit hS.out hei (by rw [hee]; exact hej))
              rw [be] at heql
              clear be hee hej hS hei
              obtain ⟨a1, a2, a3, a4, a5⟩ := e
              obtain ⟨b1, b2, b3, b4, b5⟩ := e'
              simp only at p0 p1 p2 p3 p4 r0 r1 r2 r3 r4
              go_upto_region 19 with (fail)
              go_quiet (fail)
              go_upto_region 21 with (fail)
              have KX := Lib.hid (hKx.out.drewN nq)
              have hel := HL.out.kept (KB.out.trans KX.out)
              obtain ⟨-, g2, o2, hgo, hc2, q0, q1, q2, q3, q4⟩ := hel.at hei2.out
              cases hgo
              have HK2 := Lib.hid (HKey.out _ (KB.out.trans KX.out) _ hmem)
              have HD := Lib.hid (decide_eq_true (HAll.out _ hmem))
              clear hKx p0 p1 p2 p3 p4 r0 r1 r2 r3 r4 heql hmem
              generalize wr.drewN nq = wz at *
              generalize key (a1, a2, a3, a4, a5) = x at *
              simp only at q0 q1 q2 q3 q4
              go_wp2_with fail
              refine HK2.out.mono ?_
              rintro r y1 ⟨rfl, k1⟩
              have KY := Lib.hid (KX.out.trans k1)
              clear KX k1 q0 q1 q2 q3 q4 HK2
              have HH := Lib.hid (rhas_any _ AL x y1 (TA.out.kept KY.out) (by omega))
              rw [HD.out] at HH
              go_wp2_with fail
              refine HH.out.mono ?_
              rintro r y2 ⟨rfl, hy2⟩
              subst hy2
              clear HH
              go_wp2
              go_roundw
              case rel => exact ⟨i + 1, j + 1, by go_num, by go_num, hlt, by omega, HS2, KY⟩
              case measure => simp [intOf]; omega
            · have be : (e == e') = false := by simp [hee]
              have HS2 := Lib.hid (sub_miss hS.out hei (by rw [hej]; exact fun q => hee (Option.some.inj q).symm))
              rw [be] at heql
              clear be hee hej hS hei
              obtain ⟨a1, a2, a3, a4, a5⟩ := e
              obtain ⟨b1, b2, b3, b4, b5⟩ := e'
              simp only at p0 p1 p2 p3 p4 r0 r1 r2 r3 r4
              go_upto_region 19 with (fail)
              go_quiet (fail)
              go_upto_region 21 with (fail)
              have KX := Lib.hid (hKx.out.drewN nq)
              have hel := HL.out.kept (KB.out.trans KX.out)
              obtain ⟨-, g2, o2, hgo, hc2, q0, q1, q2, q3, q4⟩ := hel.at hei2.out
              cases hgo
              have HK2 := Lib.hid (HKey.out _ (KB.out.trans KX.out) _ hmem)
              have HD := Lib.hid (decide_eq_true (HAll.out _ hmem))
              clear hKx p0 p1 p2 p3 p4 r0 r1 r2 r3 r4 heql hmem
              generalize wr.drewN nq = wz at *
              generalize key (a1, a2, a3, a4, a5) = x at *
              simp only at q0 q1 q2 q3 q4
              go_wp2_with fail
              refine HK2.out.mono ?_
              rintro r y1 ⟨rfl, k1⟩
              have KY := Lib.hid (KX.out.trans k1)
              clear KX k1 q0 q1 q2 q3 q4 HK2
              have HH := Lib.hid (rhas_any _ AL x y1 (TA.out.kept KY.out) (by omega))
              rw [HD.out] at HH
              go_wp2_with fail
              refine HH.out.mono ?_
              rintro r y2 ⟨rfl, hy2⟩
              subst hy2
              clear HH
              go_wp2
              go_roundw
              case rel => exact ⟨i + 1, j, by go_num, by go_num, hlt, by omega, HS2, KY⟩
              case measure => simp [intOf]; omega
          · have hjI : ¬ (j : Int) < F.length := by omega
            have HS2 := Lib.hid (sub_miss hS.out hei (by rw [List.getElem?_eq_none (by omega)]; simp))
            clear hS hei
            obtain ⟨a1, a2, a3, a4, a5⟩ := e
            simp only at p0 p1 p2 p3 p4
            go_upto_region 19 with (fail)
            go_quiet (fail)
            go_upto_region 21 with (fail)
            have KX := Lib.hid (hKx.out.drewN nq)
            have hel := HL.out.kept (KB.out.trans KX.out)
            obtain ⟨-, g2, o2, hgo, hc2, q0, q1, q2, q3, q4⟩ := hel.at hei2.out
            cases hgo
            have HK2 := Lib.hid (HKey.out _ (KB.out.trans KX.out) _ hmem)
            have HD := Lib.hid (decide_eq_true (HAll.out _ hmem))
            clear hKx p0 p1 p2 p3 p4 hmem
            generalize wr.drewN nq = wz at *
            generalize key (a1, a2, a3, a4, a5) = x at *
            simp only at q0 q1 q2 q3 q4
            go_wp2_with fail
            refine HK2.out.mono ?_
            rintro r y1 ⟨rfl, k1⟩
            have KY := Lib.hid (KX.out.trans k1)
            clear KX k1 q0 q1 q2 q3 q4 HK2
            have HH := Lib.hid (rhas_any _ AL x y1 (TA.out.kept KY.out) (by omega))
            rw [HD.out] at HH
            go_wp2_with fail
            refine HH.out.mono ?_
            rintro r y2 ⟨rfl, hy2⟩
            subst hy2
            clear HH
            go_wp2
            go_roundw
            case rel => exact ⟨i + 1, j, by go_num, by go_num, hlt, by omega, HS2, KY⟩
            case measure => simp [intOf]; omega
        · have hltI : ¬ (i : Int) < l.length := by omega
          have hje := sub_end hS.out (by omega) hj
          subst hje
          have HH := Lib.hid (HF2.out wr (KB.out.trans hKx.out) _ (TA.out.kept hKx.out))
          have KX := Lib.hid (KB.out.trans hKx.out)
          clear hS hKx
          go_wp2_with fail
          refine HH.out.mono ?_
          rintro r y1 ⟨v', rfl, hO5, k5⟩
          obtain ⟨a', c', hv'⟩ := hO5.slice
          rw [show ([] : List Ent).length = 0 from rfl] at hv'
          subst hv'
          have K5 := Lib.hid (KX.out.trans k5)
          clear hO5 k5 KX HH
          go_wp2
          go_ret
          exact ⟨by simp, K5.out⟩
end Go.Proofs.YtpkkpjonlogliaaDoor
