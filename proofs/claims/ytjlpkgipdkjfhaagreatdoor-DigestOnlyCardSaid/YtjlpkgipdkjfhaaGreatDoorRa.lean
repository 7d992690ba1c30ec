import Derived.Test.YtjlpkgipdkjfhaaGreatDoorHdRa
import Derived.Test.YtjlpkgipdkjfhaaGreatDoorHd
import Derived.BigQuiet
set_option linter.unusedVariables false
set_option linter.unusedSimpArgs false
namespace Go.Proofs.YtjlpkgipdkjfhaaGreatDoor.Bk.Hd
open Go.ChangeShapes Go.WideShapes Go.ChangeAt Go.RowKit Go.Shelf
open Bx (raw)
def cutF (c : UInt8) (cur : List UInt8) : List UInt8 → List (List UInt8)
  | [] => [cur]
  | b :: r => if b = c then cur :: cutF c [] r else cutF c (cur ++ [b]) r
theorem cutF_eq (c : UInt8) : ∀ (l cur : List UInt8), c ∉ cur → cutF c cur l = splt c (cur ++ l)
  | [], cur, h => by rw [cutF, List.append_nil, splt_none cur h]
  | b :: r, cur, h => by
    rw [cutF]
    by_cases hb : b = c
    · subst hb
      rw [if_pos rfl, splt_app cur r h, cutF_eq b r [] (by simp)]; rfl
    · rw [if_neg hb, cutF_eq c r (cur ++ [b]) (by simp; exact ⟨h, fun e => hb e.symm⟩)]
      simp
theorem cutF_splt (c : UInt8) (l : List UInt8) : cutF c [] l = splt c l := cutF_eq c l [] (by simp)
theorem cutF_step {c : UInt8} {cur l : List UInt8} {k : Nat} {b : UInt8} (h : l[k]? = some b) : cutF c cur (l.drop k) = if b = c then cur :: cutF c [] (l.drop (k + 1)) else cutF c (cur ++ [b]) (l.drop (k + 1)) := by
  have : l.drop k = b :: l.drop (k + 1) := by
    obtain ⟨hk, rfl⟩ := List.getElem?_eq_some_iff.1 h
    exact List.drop_eq_getElem_cons hk
  rw [this, cutF]
theorem stretch_snoc {l : List UInt8} {i k : Nat} {b : UInt8} (hi : i ≤ k) (h : l[k]? = some b) : (l.drop i).take (k + 1 - i) = (l.drop i).take (k - i) ++ [b] := by
  rw [show k + 1 - i = (k - i) + 1 by omega, List.take_add_one, List.getElem?_drop, show i + (k - i) = k by omega, h]; rfl
theorem stretch_end {c : UInt8} {l : List UInt8} {i k : Nat} (hk : k = l.length) : cutF c ((l.drop i).take (k - i)) (l.drop k) = [(l.drop i).take (k - i)] := by
  rw [show l.drop k = [] from List.drop_eq_nil_of_le (by omega), cutF]
set_option maxRecDepth 100000 in
set_option maxHeartbeats 4000000 in
theorem rsplit_any (c : UInt8) (l : B) (w : World) (hl : l.length ≤ 1000000) : Calls Tryz.prog 75 #[sV l, .int .u8 c.toNat] w fun e w' => ∃ v, e = .returned v ∧ OwnS w.heap.size v (splt c l) w' ∧ Kept w w' := by
  have hsz : (ByteArray.mk l.toArray).size = l.length := List.size_toArray
  go_enter Tryz.func75, Tryz.ntmps75
  go_wp2_with fail
  go_loopw [5, 6, 7] (fun a i j y => ∃ (k s : Nat) (done : List B), s ≤ k ∧ k ≤ l.length + 1 ∧ i = .int .i64 s ∧ j = .int .i64 k ∧ done.length ≤ k ∧ Hid (k ≤ l.length → splt c l = done ++ cutF c ((l.drop s).take (k - s)) (l.drop k)) ∧ Hid (k = l.length + 1 → splt c l = done) ∧ Hid (OwnS w.heap.size a done y) ∧ Hid (Kept w y)) (fun _ _ j _ => l.length + 1 - (intOf j).toNat)
  case atStart => exact ⟨0, 0, [], Nat.le_refl _, by omega, rfl, rfl, by simp, Lib.hid (fun _ => by simp [cutF_splt]), Lib.hid (fun e => by omega), Lib.hid (OwnS.nil _ _), Lib.hid (Kept.refl _)⟩
  case round =>
    obtain ⟨k, s, done, hsk, hk, rfl, rfl, hdl, hc, hce, hO, hK⟩ := hrel
    obtain ⟨va, vc, hvv⟩ := own_slice hO.out
    subst hvv
    by_cases hle : k ≤ l.length
    · have hcb := cut_both l s k hsk hle
      rw [List.drop_take] at hcb
      have hkp : (Kept.refl wr).alloc (.cells #[sV ((l.drop s).take (k - s))] 9) = (Kept.refl wr).alloc (.cells #[sV ((l.drop s).take (k - s))] 9) := rfl
      have hal := (Kept.refl wr).alloc (.cells #[sV ((l.drop s).take (k - s))] 9)
      have hc1 := (Kept.refl (wr.alloc (.cells #[sV ((l.drop s).take (k - s))] 9))).new 0 (v := sV ((l.drop s).take (k - s))) rfl
      have O1 := Lib.hid (OwnS.kept hO.out hal)
      have K1 := Lib.hid (hK.out.trans hal)
      have hB1 := K1.out.size
      clear hkp hal
      by_cases hend : k = l.length
      · have hkI : (k : Int) = l.length := by omega
        have HC := Lib.hid (show splt c l = done ++ [(l.drop s).take (k - s)] by rw [hc.out hle, stretch_end hend])
        clear hc hce
        generalize (l.drop s).take (k - s) = pc at *
        subst hend
        clear hkI
        go_wp2_with (at_builtin; refine wpList_pushS rfl _ _ rfl w.heap.size _ done pc wr.heap.size rfl O1.out rfl hc1 (by omega) hB1 ?_)
        intro v4 y hy hgy
        have K4 := Lib.hid (kept_row K1.out hgy (fun g hg => (World.ownsRow.lt O1.out g hg).1))
        have O4 := Lib.hid hy
        clear hy hgy O1 K1 hc1 hB1
        go_wp2_with fail
        go_roundw
        case rel => exact ⟨l.length + 1, l.length + 1, done ++ [pc], Nat.le_refl _, Nat.le_refl _, by go_num, by go_num, by simp; omega, Lib.hid (fun h => by omega), Lib.hid (fun _ => HC.out), O4, K4⟩
        case measure => simp [intOf]
      · have hlt : k < l.length := by omega
        obtain ⟨b, hb⟩ : ∃ b, l[k]? = some b := ⟨_, List.getElem?_eq_getElem hlt⟩
        have hat := byte_at l k b hb
        have hI : ¬ (k : Int) = (l.length : Int) := by omega
        have hIb : ((k : Int) == (l.length : Int)) = false := beq_eq_false_iff_ne.2 hI
        have hcc := hc.out hle
        rw [cutF_step hb] at hcc
        have HSN := Lib.hid (stretch_snoc hsk hb)
        by_cases hbc : b = c
        · rw [if_pos hbc] at hcc
          have HC := Lib.hid hcc
          have hbI : (b.toNat : Int) = (c.toNat : Int) := by rw [hbc]
          have HCz := Lib.hid (show (l.drop (k + 1)).take (k + 1 - (k + 1)) = [] by simp)
          clear hc hce hcc hb hbc hend HSN
          generalize (l.drop s).take (k - s) = pc at *
          go_wp2_with (at_builtin; refine wpList_pushS rfl _ _ rfl w.heap.size _ done pc wr.heap.size rfl O1.out rfl hc1 (by omega) hB1 ?_)
          intro v4 y hy hgy
          have K4 := Lib.hid (kept_row K1.out hgy (fun g hg => (World.ownsRow.lt O1.out g hg).1))
          have O4 := Lib.hid hy
          clear hy hgy O1 K1 hc1 hB1
          go_wp2_with fail
          go_roundw
          case rel => exact ⟨k + 1, k + 1, done ++ [pc], Nat.le_refl _, by omega, by go_num, by go_num, by simp; omega, Lib.hid (fun h => by rw [HC.out, HCz.out]; simp), Lib.hid (fun h => by omega), O4, K4⟩
          case measure => simp [intOf]; omega
        · rw [if_neg hbc, ← HSN.out] at hcc
          have HC := Lib.hid hcc
          have hbI : ¬ (b.toNat : Int) = (c.toNat : Int) := fun e => hbc (UInt8.toNat_inj.1 (by omega))
          have hbB : ((b.toNat : Int) == (c.toNat : Int)) = false := beq_eq_false_iff_ne.2 hbI
          clear hc hce hcc hb hbc hend O1 K1 hc1 hB1 hcb
          go_wp2
          go_roundw
          case rel => exact ⟨k + 1, s, done, by omega, by omega, by go_num, by go_num, by omega, Lib.hid (fun h => HC.out), Lib.hid (fun h => by omega), hO, hK⟩
          case measure => simp [intOf]; omega
    · have HC := Lib.hid (hce.out (by omega))
      have hI : ¬ (k : Int) ≤ l.length := by omega
      clear hc hce
      go_wp2
      go_ret
      rw [HC.out]
      exact ⟨_, rfl, hO.out, hK.out⟩
set_option maxRecDepth 100000 in
set_option maxHeartbeats 4000000 in
theorem rwords_any (s : B) (w : World) (hl : s.length ≤ 200000) : Calls Tryz.prog 110 #[sV s] w fun e w' => ∃ v, e = .returned v ∧ OwnS w.heap.size v (wds s) w' ∧ Kept w w' := by
  have HP := Lib.hid (rplain_any s w (by unfold maxLen; omega))
  have HW := Lib.hid (show wds s = if pln s = true then splt 32 s else cod s from rfl)
  have hsum := sumW_wds s
  have hcl := (sumW_len (wds s)).1
  have hcl2 : (wds s).length ≤ 4000000 := by omega
  clear hsum hcl
  generalize wds s = ws at *
  cases hp : pln s with
  | true =>
    rw [hp] at HP HW
    have HZ := Lib.hid (HW.out.trans (if_pos rfl))
    have HS := Lib.hid (fun w => rsplit_any 32 s w (by omega))
    rw [← HZ.out] at HS
    go_enter Tryz.func110, Tryz.ntmps110
    go_wp2_with fail
    refine HP.out.mono ?_
    rintro e x1 ⟨rfl, rfl⟩
    go_wp2_with fail
    refine (HS.out _).mono ?_
    rintro e x2 ⟨v, rfl, hv, k2⟩
    obtain ⟨va, vc, hvv⟩ := own_slice hv
    subst hvv
    have HV := Lib.hid hv
    clear hv
    go_wp2
    go_ret
    exact ⟨_, rfl, HV.out, k2⟩
  | false =>
    rw [hp] at HP HW
    have HZ := Lib.hid (HW.out.trans (if_neg (by decide)))
    clear HW hp
    rw [HZ.out] at hcl2 ⊢
    go_enter Tryz.func110, Tryz.ntmps110
    go_wp2_with fail
    refine HP.out.mono ?_
    rintro e x1 ⟨rfl, rfl⟩
    go_wp2_with fail
    go_loopw [0, 4, 5] (fun v0 v4 _ wr => ∃ (k : Nat) (r : B), v0 = sV r ∧ Hid (cod r = (cod s).drop k) ∧ k ≤ (cod s).length ∧ r.length ≤ s.length ∧ Hid (OwnS x1.heap.size v4 ((cod s).take k) wr) ∧ Hid (Kept x1 wr)) (fun v0 _ _ _ => match v0 with | .string x => x.size | _ => 0)
    case atStart => exact ⟨0, s, rfl, Lib.hid rfl, Nat.zero_le _, Nat.le_refl _, Lib.hid (OwnS.nil _ _), Lib.hid (Kept.refl _)⟩
    case round =>
      obtain ⟨k, r, rfl, hS, hk, hrl, hO, hK⟩ := hrel
      have hsz : (ByteArray.mk r.toArray).size = r.length := List.size_toArray
      obtain ⟨va, vc, hvv⟩ := own_slice hO.out
      by_cases he : r = []
      · have HE := Lib.hid (show (cod s).take k = cod s by
          have h := hS.out
          rw [he, cod_nil] at h
          have := List.drop_eq_nil_iff.1 h.symm
          exact List.take_of_length_le this)
        rw [HE.out] at hO hvv
        subst hvv
        have hr0 : ¬ (0 : Int) < r.length := by rw [he]; decide
        clear hS he
        go_wp2
        go_ret
        exact ⟨_, rfl, hO.out, hK.out⟩
      · have hr0 : (0 : Int) < r.length := by have := List.length_pos_iff.2 he; omega
        obtain ⟨h1, h2⟩ := cod_step hS.out he
        have hp1 := prt_pos he
        have hp3 := prt_le r
        have hp2 := prt_45 r
        have HPt := Lib.hid (rpart_any r wr (by unfold maxLen; omega))
        have hct := cut_to r (prt r) hp3
        have hcf := cut_from r (prt r) (prt r) rfl hp3
        have hrn : (r.drop (prt r)).length < r.length := by simp; omega
        obtain ⟨cp, w1, hcv, hk1, hR1⟩ := to_bytes (r.take (prt r)) wr
        have hpl : (r.take (prt r)).length ≤ 45 := by simp; omega
        have HRw := Lib.hid (rraw_any _ (r.take (prt r)) w1 hR1 (by omega))
        have hrl2 := Bx.raw_len (r.take (prt r))
        have hrl3 : (raw (r.take (prt r))).length ≤ 60 := by rw [hrl2]; omega
        rw [show code (r.take (prt r)) = (opn ++ raw (r.take (prt r))) ++ cls by unfold code; rw [List.append_assoc]] at h1
        have happ1 : (⟨#[61, 63, 117, 116, 102, 45, 56, 63, 66, 63]⟩ ++ ⟨(raw (r.take (prt r))).toArray⟩ : ByteArray) = ⟨(opn ++ raw (r.take (prt r))).toArray⟩ := app_mk opn _
        have happ2 : (⟨(opn ++ raw (r.take (prt r))).toArray⟩ ++ ⟨#[63, 61]⟩ : ByteArray) = ⟨((opn ++ raw (r.take (prt r))) ++ cls).toArray⟩ := app_mk _ cls
        have hl1 : (opn ++ raw (r.take (prt r))).length ≤ 70 := by rw [List.length_append]; have : opn.length = 10 := rfl; omega
        have HT := Lib.hid h1
        have HN := Lib.hid h2
        have HTk := Lib.hid (show (cod s).take (k + 1) = (cod s).take k ++ [(opn ++ raw (r.take (prt r))) ++ cls] by rw [List.take_add_one, h1]; rfl)
        have hdl : ((cod s).take k).length ≤ 4000000 := by simp; omega
        clear h1 h2 hS he hrl2 hR1
        generalize prt r = n at *
        generalize r.take n = p at *
        generalize (opn ++ raw p) ++ cls = cw at *
        generalize opn ++ raw p = c1 at *
        generalize raw p = rp at *
        generalize r.drop n = q at *
        generalize (cod s).take k = done at *
        subst hvv
        go_wp2_with fail
        refine HPt.out.mono ?_
        rintro e w2 ⟨rfl, rfl⟩
        go_wp2_with fail
        refine HRw.out.mono ?_
        rintro e w3 ⟨rfl, k3⟩
        have hal := (Kept.refl w3).alloc (.cells #[sV cw] 9)
        have hc1 := (Kept.refl (w3.alloc (.cells #[sV cw] 9))).new 0 (v := sV cw) rfl
        have K1 := Lib.hid (((hK.out.trans hk1).trans k3).trans hal)
        have O1 := Lib.hid (OwnS.kept (OwnS.kept (OwnS.kept hO.out hk1) k3) hal)
        have hB1 := K1.out.size
        clear hal hcv hk1 k3 HPt HRw hO hK
        go_wp2_with (at_builtin; refine wpList_pushS rfl _ _ rfl x1.heap.size _ done cw w3.heap.size rfl O1.out rfl hc1 (by omega) hB1 ?_)
        intro v4 y hy hgy
        have K4 := Lib.hid (kept_row K1.out hgy (fun g hg => (World.ownsRow.lt O1.out g hg).1))
        have O4 := Lib.hid (show OwnS x1.heap.size v4 ((cod s).take (k + 1)) y by rw [HTk.out]; exact hy)
        have hkl : k + 1 ≤ (cod s).length := (List.getElem?_eq_some_iff.1 HT.out).1
        clear hy hgy O1 K1 hc1 hB1
        go_wp2_with fail
        go_roundw
        case rel => exact ⟨k + 1, q, rfl, HN, hkl, by omega, O4, K4⟩
        case measure => show (ByteArray.mk q.toArray).size < (ByteArray.mk r.toArray).size; rw [str_lit, str_lit]; exact hrn
end Go.Proofs.YtjlpkgipdkjfhaaGreatDoor.Bk.Hd
namespace Go.Proofs.YtjlpkgipdkjfhaaGreatDoor.Bk.Hd
open Go.ChangeShapes Go.WideShapes Go.ChangeAt Go.RowKit Go.Shelf
theorem norow_m {B0 : Nat} {v : Value} {l : B} {w : World} (h : OwnM B0 v l w) : NoRow 9 w v.ownBlock := fun r hr c hc => by
  obtain ⟨cs, fz, hk⟩ := h.kind r hr
  rw [hk] at hc
  cases hc
set_option maxRecDepth 100000 in
set_option maxHeartbeats 4000000 in
theorem rline_any (h : Hdr) (w : World) (hn : h.1.length ≤ 100000000) (ht : h.2.length ≤ 100000000) :
    Calls Tryz.prog 71 #[hV h] w fun e w' => ∃ xv, e = .returned (.tuple #[xv, .int .i64 (lE h)]) ∧ OwnM w.heap.size xv ((line h).getD []) w' ∧ Kept w w' := by
  obtain ⟨n, t⟩ := h
  simp only at hn ht
  have hts : (ByteArray.mk t.toArray).size = t.length := List.size_toArray
  have k0 := (Kept.refl w).alloc (.cells #[sV n, sV t] 41)
  have c0 := (Kept.refl (w.alloc (.cells #[sV n, sV t] 41))).new 0 (v := sV n) rfl
  have c1 := (Kept.refl (w.alloc (.cells #[sV n, sV t] 41))).new 1 (v := sV t) rfl
  have HN := Lib.hid (fun w => rname_any n w (by unfold maxLen; omega))
  go_enter Tryz.func71, Tryz.ntmps71
  go_upto_region 1 with (fail)
  generalize w.alloc (.cells #[sV n, sV t] 41) = x0 at *
  go_wp2_with fail
  refine (HN.out _).mono ?_
  rintro e x1 ⟨rfl, rfl⟩
  have K1 := Lib.hid k0
  clear HN k0
  cases hnm : nam n with
  | false =>
    have HK := Lib.hid (show okH (n, t) = false by unfold okH; rw [hnm]; rfl)
    clear hnm
    go_wp2
    go_ret2
    exact ⟨_, by rw [lE_no HK.out]; rfl, by rw [line_no HK.out]; exact OwnM.nil _ _, K1.out⟩
  | true =>
    by_cases hlen : 4000 < (t.length : Int)
    · have HK := Lib.hid (show okH (n, t) = false by unfold okH; rw [hnm, decide_eq_false (show ¬ t.length ≤ 4000 by omega)]; rfl)
      clear hnm
      go_wp2
      go_ret2
      exact ⟨_, by rw [lE_no HK.out]; rfl, by rw [line_no HK.out]; exact OwnM.nil _ _, K1.out⟩
    · have HK := Lib.hid (show okH (n, t) = true by unfold okH; rw [hnm, decide_eq_true (show t.length ≤ 4000 by omega)]; rfl)
      have HL := Lib.hid (show lnH (n, t) = ((wds t).foldl stL (n ++ [58], (n ++ [58]).length)).1 ++ [13, 10] by
        rw [← fil_fold, lnH_parts]; unfold bdy; simp)
      have hnl := (nam_all hnm).2.2
      have happ : (⟨n.toArray⟩ ++ ⟨#[58]⟩ : ByteArray) = ⟨(n ++ [58]).toArray⟩ := app_mk n [58]
      have hPl : (n ++ [58]).length ≤ 41 := by simp; omega
      obtain ⟨cp, x2, hcv, hk2, hO2⟩ := to_own (n ++ [58]) x1 (by omega)
      have e1 := hk2.yes c1
      have K2 := Lib.hid (K1.out.trans hk2)
      have O2 := Lib.hid (hO2.mono K1.out.size)
      have HWs := Lib.hid (fun w => rwords_any t w (by omega))
      have hsum := sumW_wds t
      have hwl := (sumW_len (wds t)).2
      have hwn := (sumW_len (wds t)).1
      have hwm : ∀ x ∈ wds t, x.length ≤ 76003 := fun x hx => by have := hwl x hx; omega
      have hwc : (wds t).length ≤ 76003 := by omega
      clear hnm hk2 hO2 hwl hwn hsum
      generalize wds t = ws at *
      generalize n ++ [58] = P at *
      go_upto_region 5 with (fail)
      clear hcv c0 c1
      go_wp2_with fail
      refine (HWs.out _).mono ?_
      rintro e x3 ⟨vs, rfl, hS, k3⟩
      have S3 := Lib.hid hS
      obtain ⟨sa, sc, hsv⟩ := own_slice hS
      subst hsv
      have K3 := Lib.hid (K2.out.trans k3)
      have O3 := Lib.hid (O2.out.kept k3)
      clear hS k3 e1 HWs O2 K2 K1
      go_wp2_with fail
      go_loopw [5, 6, 8] (fun vm vk vi wr => ∃ i : Nat, i ≤ ws.length ∧ vi = .int .i64 i ∧ vk = .int .i64 (((ws.take i).foldl stL (P, P.length)).2 : Nat) ∧ Hid (Kept w wr) ∧ Hid (OwnS x2.heap.size (.slice sa ws.length sc) ws wr) ∧ Hid (OwnM w.heap.size vm ((ws.take i).foldl stL (P, P.length)).1 wr)) (fun _ _ vi _ => ws.length - (intOf vi).toNat)
      case atStart => exact ⟨0, Nat.zero_le _, rfl, rfl, K3, S3, O3⟩
      case round =>
        obtain ⟨i, hi, rfl, rfl, hK, hK3, hO⟩ := hrel
        have hb := stL_len 76003 (ws.take i) (P, P.length) (fun x hx => hwm x (List.mem_of_mem_take hx))
        have hkl : (ws.take i).length ≤ 76003 := by simp; omega
        have hb1 : ((ws.take i).foldl stL (P, P.length)).1.length ≤ 41 + 76003 * 76006 := Nat.le_trans hb.1 (Nat.add_le_add hPl (Nat.mul_le_mul_right _ hkl))
        have hb2 : ((ws.take i).foldl stL (P, P.length)).2 ≤ 76200 := by have := hb.2; simp only at this; omega
        clear hb hkl
        have hsz := hK.out.size
        by_cases hlt : i < ws.length
        · have hltI : (i : Int) < ws.length := by omega
          obtain ⟨tw, htw⟩ : ∃ tw, ws[i]? = some tw := ⟨_, List.getElem?_eq_getElem hlt⟩
          obtain ⟨g, o, c, hv', hcp, cell⟩ := (OwnS.rd hK3.out).at htw
          injection hv' with ea _ ec
          subst ea ec
          have HS := Lib.hid (stL_take (P, P.length) htw)
          have htl := hwm tw (List.mem_of_getElem? htw)
          have hws : (ByteArray.mk tw.toArray).size = tw.length := List.size_toArray
          have happw : (⟨#[32]⟩ ++ ⟨tw.toArray⟩ : ByteArray) = ⟨([32] ++ tw).toArray⟩ := app_mk [32] tw
          have hwl1 : ([32] ++ tw).length = 1 + tw.length := by simp; omega
          have HTW := Lib.hid htw
          clear htw
          generalize (ws.take i).foldl stL (P, P.length) = s at *
          obtain ⟨l, kk⟩ := s
          simp only at hb1 hb2 hO
          obtain ⟨va, vc, hvv⟩ := hO.out.slice
          subst hvv
          by_cases hlong : 76 < kk + 1 + tw.length
          · have hlI : (76 : Int) < (kk : Int) + 1 + tw.length := by omega
            have HQ := Lib.hid (show stL (l, kk) tw = ((l ++ [13, 10]) ++ ([32] ++ tw), 1 + tw.length) from stL_yes hlong)
            clear hlong
            generalize [32] ++ tw = sw at *
            have k5 := (Kept.refl wr).alloc (.cells #[.int .u8 13, .int .u8 10] 5)
            have hbx := Lib.hid (brd_new wr [13, 10] 5 #[.int .u8 13, .int .u8 10] rfl 2 (Nat.le_refl 2) (0, 0))
            have K5 := Lib.hid (hK.out.trans k5)
            have S5 := Lib.hid (OwnS.kept hK3.out k5)
            have O5 := Lib.hid (hO.out.kept k5)
            have hsz5 := K5.out.size
            clear hK hK3 hO k5
            go_upto_region 11 with (fail)
            go_wp2_with (at_builtin; refine wpList_sliceM rfl _ _ rfl w.heap.size _ _ l [13, 10] rfl O5.out rfl hbx.out (by simp; omega) hsz5 ?_)
            intro v6 y hy hgy hnb
            have K6 := Lib.hid (kept_row K5.out hgy (fun g hg => (O5.out.lt g hg).1))
            have S6 := Lib.hid (show OwnS x2.heap.size _ ws y from own_keep S5.out hgy (norow_m O5.out))
            obtain ⟨g6, o6, c6, hv6, hcp6, cell6⟩ := (OwnS.rd S6.out).at HTW.out
            injection hv6 with ea _ ec
            have hq := Option.some.inj ea
            injection hq with e1 e2
            subst e1 e2 ec
            have O6 := Lib.hid hy
            obtain ⟨va6, vc6, hv6⟩ := hy.slice
            have hl6 : (l ++ [13, 10]).length ≤ 43 + 76003 * 76006 := by simp; omega
            have hsz6 := K6.out.size
            clear hy hgy hnb K5 S5 O5 hbx cell
            generalize l ++ [13, 10] = l6 at *
            subst hv6
            go_upto_region 13 with (fail)
            go_wp2_with (at_builtin; refine wpList_strM rfl _ _ rfl w.heap.size _ l6 sw rfl O6.out rfl (by omega) hsz6 ?_)
            intro v7 y7 hy hgy hnb
            have K7 := Lib.hid (kept_row K6.out hgy (fun g hg => (O6.out.lt g hg).1))
            have S7 := Lib.hid (show OwnS x2.heap.size _ ws y7 from own_keep S6.out hgy (norow_m O6.out))
            obtain ⟨g7, o7, c7, hv7, hcp7, cell7⟩ := (OwnS.rd S7.out).at HTW.out
            injection hv7 with ea _ ec
            have hq := Option.some.inj ea
            injection hq with e1 e2
            subst e1 e2 ec
            have O7 := Lib.hid (show OwnM w.heap.size v7 ((ws.take (i + 1)).foldl stL (P, P.length)).1 y7 by rw [HS.out, HQ.out]; exact hy)
            have hk7 : ((ws.take (i + 1)).foldl stL (P, P.length)).2 = 1 + tw.length := by rw [HS.out, HQ.out]
            clear hy hgy hnb K6 S6 O6 cell6
            go_wp2_with fail
            go_roundw
            case rel => exact ⟨i + 1, hlt, by go_num, by rw [hk7]; go_num, K7, S7, O7⟩
            case measure => simp [intOf]; omega
          · have hlI : ¬ (76 : Int) < (kk : Int) + 1 + tw.length := by omega
            have HQ := Lib.hid (show stL (l, kk) tw = (l ++ ([32] ++ tw), kk + 1 + tw.length) from stL_no hlong)
            clear hlong
            generalize [32] ++ tw = sw at *
            go_upto_region 13 with (fail)
            go_wp2_with (at_builtin; refine wpList_strM rfl _ _ rfl w.heap.size _ l sw rfl hO.out rfl (by omega) hsz ?_)
            intro v7 y7 hy hgy hnb
            have K7 := Lib.hid (kept_row hK.out hgy (fun g hg => (hO.out.lt g hg).1))
            have S7 := Lib.hid (show OwnS x2.heap.size _ ws y7 from own_keep hK3.out hgy (norow_m hO.out))
            obtain ⟨g7, o7, c7, hv7, hcp7, cell7⟩ := (OwnS.rd S7.out).at HTW.out
            injection hv7 with ea _ ec
            have hq := Option.some.inj ea
            injection hq with e1 e2
            subst e1 e2 ec
            have O7 := Lib.hid (show OwnM w.heap.size v7 ((ws.take (i + 1)).foldl stL (P, P.length)).1 y7 by rw [HS.out, HQ.out]; exact hy)
            have hk7 : ((ws.take (i + 1)).foldl stL (P, P.length)).2 = kk + 1 + tw.length := by rw [HS.out, HQ.out]
            clear hy hgy hnb hK hK3 hO cell
            go_wp2_with fail
            go_roundw
            case rel => exact ⟨i + 1, hlt, by go_num, by rw [hk7]; go_num, K7, S7, O7⟩
            case measure => simp [intOf]; omega
        · have hltI : ¬ (i : Int) < ws.length := by omega
          obtain rfl : i = ws.length := by omega
          rw [List.take_length] at hO hb1
          rw [List.take_length]
          generalize ws.foldl stL (P, P.length) = s at *
          obtain ⟨l, kk⟩ := s
          simp only at hb1 hO HL
          obtain ⟨va, vc, hvv⟩ := hO.out.slice
          subst hvv
          have k5 := (Kept.refl wr).alloc (.cells #[.int .u8 13, .int .u8 10] 5)
          have hbx := Lib.hid (brd_new wr [13, 10] 5 #[.int .u8 13, .int .u8 10] rfl 2 (Nat.le_refl 2) (0, 0))
          have K5 := Lib.hid (hK.out.trans k5)
          have O5 := Lib.hid (hO.out.kept k5)
          have hsz5 := K5.out.size
          clear hK hK3 hO k5
          go_wp2_with (at_builtin; refine wpList_sliceM rfl _ _ rfl w.heap.size _ _ l [13, 10] rfl O5.out rfl hbx.out (by simp; omega) hsz5 ?_)
          intro v6 y hy hgy hnb
          have K6 := Lib.hid (kept_row K5.out hgy (fun g hg => (O5.out.lt g hg).1))
          obtain ⟨va6, vc6, hv6⟩ := hy.slice
          have O6 := Lib.hid hy
          clear hy hgy hnb K5 O5 hbx
          generalize l ++ [13, 10] = l6 at *
          subst hv6
          go_wp2
          go_ret2
          exact ⟨_, by rw [lE_ok HK.out]; rfl, by rw [line_lnH HK.out, Option.getD_some, HL.out]; exact O6.out, K6.out⟩
set_option maxRecDepth 100000 in
set_option maxHeartbeats 4000000 in
theorem rall_any (v : Value) (l : List Hdr) (w : World) (hR : HRd v l w) (hb : ∀ h ∈ l, h.1.length ≤ 100000000 ∧ h.2.length ≤ 100000000) :
    Calls Tryz.prog 33 #[v] w fun e w' => ∃ xv, e = .returned (.tuple #[xv, .int .i64 (aE l)]) ∧ OwnM w.heap.size xv ((all l).getD []) w' ∧ Kept w w' := by
  obtain ⟨va, vc, hvv⟩ := hR.slice
  subst hvv
  have HR := Lib.hid hR
  have HB := Lib.hid hb
  clear hR hb
  by_cases hlong : 50 < l.length
  · have hlI : (50 : Int) < l.length := by omega
    have HQ := Lib.hid (aE_long hlong)
    go_enter Tryz.func33, Tryz.ntmps33
    go_wp2
    go_ret2
    exact ⟨_, by rw [HQ.out.1]; rfl, by rw [HQ.out.2]; exact OwnM.nil _ _, Kept.refl _⟩
  · have hlI : ¬ (50 : Int) < l.length := by omega
    go_enter Tryz.func33, Tryz.ntmps33
    go_wp2_with fail
    go_loopw [4, 5, 6, 7] (fun vm vi _ _ wr => ∃ i : Nat, i ≤ l.length ∧ vi = .int .i64 i ∧ Hid (∀ j y, j < i → l[j]? = some y → okH y = true) ∧ Hid (Kept w wr) ∧ Hid (OwnM w.heap.size vm (lns (l.take i)) wr)) (fun _ vi _ _ _ => l.length - (intOf vi).toNat)
    case atStart => exact ⟨0, Nat.zero_le _, rfl, Lib.hid (fun j y h => absurd h (Nat.not_lt_zero _)), Lib.hid (Kept.refl w), Lib.hid (OwnM.nil _ _)⟩
    case round =>
      obtain ⟨i, hi, rfl, hA, hK, hO⟩ := hrel
      obtain ⟨ta, tc, htv⟩ := hO.out.slice
      have hll : (lns (l.take i)).length ≤ 4000000 := by
        have := lns_len 76046 (l.take i) (fun h hh => by
          obtain ⟨j, hj, rfl⟩ := List.mem_iff_getElem.1 hh
          rw [List.getElem_take]
          exact lnH_big (hA.out j _ (by simp at hj; omega) (List.getElem?_eq_getElem (by simp at hj; omega))))
        have h2 : (l.take i).length * 76046 ≤ 50 * 76046 := Nat.mul_le_mul_right _ (by simp; omega)
        omega
      by_cases hlt : i < l.length
      · have hltI : (i : Int) < l.length := by omega
        obtain ⟨x, hx⟩ : ∃ x, l[i]? = some x := ⟨_, List.getElem?_eq_getElem hlt⟩
        obtain ⟨g, o, c, hv', hcp, c0, c1⟩ := (HR.out.kept hK.out).at hx
        obtain ⟨xn, xt⟩ := x
        simp only at c0 c1
        injection hv' with ea _ ec
        subst ea ec
        have HX := Lib.hid hx
        have HN := Lib.hid (lns_take hx)
        obtain ⟨hb1, hb2⟩ := HB.out _ (List.mem_of_getElem? hx)
        simp only at hb1 hb2
        have hsz := hK.out.size
        clear hx
        generalize lns (l.take i) = D at *
        subst htv
        go_wp2_with fail
        refine (rline_any (xn, xt) _ hb1 hb2).mono ?_
        rintro e z ⟨xv, rfl, hxo, kz⟩
        have KZ := Lib.hid (hK.out.trans kz)
        have OZ := Lib.hid (hO.out.kept kz)
        clear c0 c1 kz hK hO
        cases hk : okH (xn, xt) with
        | false =>
          have HQ := Lib.hid (aE_bad hlong HX.out hk)
          rw [lE_no hk]
          obtain ⟨xa, xc, hxv⟩ := hxo.slice
          subst hxv
          clear hxo hk
          go_wp2
          go_ret2
          exact ⟨_, by rw [HQ.out.1]; rfl, by rw [HQ.out.2]; exact OwnM.nil _ _, KZ.out⟩
        | true =>
          have HA2 := Lib.hid (allh_take hA.out HX.out hk)
          rw [line_lnH hk, Option.getD_some] at hxo
          rw [lE_ok hk]
          have hlb := lnH_big hk
          have HXO := Lib.hid hxo.rd
          obtain ⟨xa, xc, hxv⟩ := hxo.slice
          clear hxo hk
          generalize lnH (xn, xt) = ln at *
          subst hxv
          have hszz := KZ.out.size
          go_wp2_with (at_builtin; refine wpList_sliceM rfl _ _ rfl w.heap.size _ _ D ln rfl OZ.out rfl HXO.out (by omega) hszz ?_)
          intro v4 z4 hz hgz hnb
          have K4 := Lib.hid (kept_row KZ.out hgz (fun g hg => (OZ.out.lt g hg).1))
          have O4 := Lib.hid (show OwnM w.heap.size v4 (lns (l.take (i + 1))) z4 by rw [HN.out]; exact hz)
          clear hz hgz hnb OZ KZ HXO
          go_wp2_with fail
          go_roundw
          case rel => exact ⟨i + 1, hlt, by go_num, HA2, K4, O4⟩
          case measure => simp [intOf]; omega
      · have hltI : ¬ (i : Int) < l.length := by omega
        obtain rfl : i = l.length := by omega
        rw [List.take_length] at hO hll htv
        have hok := allh_end hA.out
        have hkA : okA l = true := by unfold okA; rw [Bool.and_eq_true, List.all_eq_true]; exact ⟨hok, by simp; omega⟩
        have HQ := Lib.hid (And.intro (aE_ok hkA) (all_lnA hkA))
        have HD := Lib.hid (show lnA l = lns l ++ [13, 10] from rfl)
        clear hok hkA hA
        generalize lns l = D at *
        subst htv
        have k5 := (Kept.refl wr).alloc (.cells #[.int .u8 13, .int .u8 10] 5)
        have hbx := Lib.hid (brd_new wr [13, 10] 5 #[.int .u8 13, .int .u8 10] rfl 2 (Nat.le_refl 2) (0, 0))
        have K5 := Lib.hid (hK.out.trans k5)
        have O5 := Lib.hid (hO.out.kept k5)
        have hszz := K5.out.size
        clear k5 hK hO
        go_wp2_with (at_builtin; refine wpList_sliceM rfl _ _ rfl w.heap.size _ _ D [13, 10] rfl O5.out rfl hbx.out (by simp; omega) hszz ?_)
        intro v4 z4 hz hgz hnb
        have K4 := Lib.hid (kept_row K5.out hgz (fun g hg => (O5.out.lt g hg).1))
        obtain ⟨a4, c4, hv4⟩ := hz.slice
        have O4 := Lib.hid hz
        clear hz hgz hnb
        generalize D ++ [13, 10] = D2 at *
        subst hv4
        go_wp2
        go_ret2
        exact ⟨_, by rw [HQ.out.1]; rfl, by rw [HQ.out.2, Option.getD_some, HD.out]; exact O4.out, K4.out⟩
end Go.Proofs.YtjlpkgipdkjfhaaGreatDoor.Bk.Hd
