/- The document's answer for package plain: lines, wrapped. -/
import Derived.Test.YtpkbcomdkamglaaGreatDoorPlRd
import Derived.Test.YtpkbcomdkamglaaGreatDoorPlWr
set_option linter.unusedSimpArgs false
set_option linter.unusedVariables false
namespace Go.Proofs.YtpkbcomdkamglaaGreatDoor.Pl
open Go.ChangeShapes Go.WideShapes Go.ChangeAt Go.RowKit
open En
/-- what may own a row: one block that there was, or a new one -/
def OwB (gA : Nat) (X : World) (v : Value) : Prop := ∀ g, v.ownBlock = some g → g = gA ∨ X.heap.size ≤ g
theorem owb_any (v : Value) (X : World) : ∃ gA, OwB gA X v ∧ ((∃ g, v.ownBlock = some g ∧ gA = g) ∨ X.heap.size ≤ gA) := by
  cases h : v.ownBlock with
  | none => exact ⟨X.heap.size, fun g e => (by rw [h] at e; cases e), Or.inr (Nat.le_refl _)⟩
  | some g => exact ⟨g, fun g2 e => by rw [h] at e; exact Or.inl (Option.some.inj e).symm, Or.inl ⟨g, rfl, rfl⟩⟩
theorem ob_grow {gA : Nat} {X y z : World} {v v' : Value} (hb : Ob gA X y) (hv : OwB gA X v) (hg : y.grownBy z v.ownBlock) (hv' : v'.ownBlock = v.ownBlock ∨ v'.ownBlock = some y.heap.size) : Ob gA X z ∧ OwB gA X v' := by
  have hs := hb.size
  have hs2 := hg.size
  refine ⟨⟨hg.os.trans hb.os, hg.tape.trans hb.tape, hg.output.trans hb.output, by omega, fun j hj hn => ?_⟩, fun g hgv => ?_⟩
  · rw [hg.block j (by omega) (fun e => by rcases hv j e.symm with h | h <;> omega), hb.block j hj hn]
  · rcases hv' with h | h
    · exact hv g (h ▸ hgv)
    · rw [h] at hgv
      cases hgv
      exact Or.inr (by omega)
theorem wpList_pushA {ops : Array Oper} {rest : List Oper} {op : Oper} {a : Act} {w : World} {Q : Exit → Act → World → Prop} (hg : op.guard = none) (sx x : Operand) (ho : op.op = .call { callee := .builtin .append, args := #[sx, x], argTypes := #[24, 24] })
    (B0 : Nat) (v : Value) (ls : List B) (t : B) (k : Nat) (hs : a.eval sx = v) (hO : OwnS B0 v ls w) (hx : a.eval x = .slice (some ⟨k, 0, none⟩) 1 1) (hc : w.cell? ⟨k, 0, none⟩ = some (sV t)) (hl : ls.length ≤ 1000000000) (hB : B0 ≤ w.heap.size)
    (h : ∀ v' w', OwnS B0 v' (ls ++ [t]) w' → w.grownBy w' v.ownBlock → (v'.ownBlock = v.ownBlock ∨ v'.ownBlock = some w.heap.size) → wpList Tryz.prog ops Q rest (a.put op.dst v') w') : wpList Tryz.prog ops Q (op :: rest) a w := by
  obtain ⟨i0, hi, hz0, hz1, hz2⟩ := info_parts infoS
  refine wpList_append_own_at w hg sx x 24 ho B0 9 i0 _ 1 16 Tryz.underlying24 hi hz0 hz1 hz2 rfl (by decide) v ls.length (ls.map sV) hs hO ⟨k, 0, none⟩ 1 1 [sV t] hx rfl (fun j u hj => ?_) (fun u hu => by simp at hu; subst hu; rfl) (by unfold maxLen; omega) (by omega) hB ?_
  · match j, hj with
    | 0, hj => simp at hj; subst hj; simpa [Addr.add] using hc
  · intro v' w' h2 h3 _ h5
    refine h v' w' ?_ h3 h5
    unfold OwnS
    rw [List.length_append, List.map_append]
    exact h2
theorem stp_ne {most : Int} {ws : List B} {k : Nat} (hw : ∀ w ∈ ws, w ≠ []) (h0 : 0 < k) (hk : k ≤ ws.length) : ((ws.take k).foldl (stp most) ([], [])).2 ≠ [] := by
  obtain ⟨j, rfl⟩ : ∃ j, k = j + 1 := ⟨k - 1, by omega⟩
  obtain ⟨t, ht⟩ : ∃ t, ws[j]? = some t := ⟨_, List.getElem?_eq_getElem (show j < ws.length by omega)⟩
  rw [stp_take ht]
  have := hw t (List.mem_of_getElem? ht)
  unfold stp
  split
  · exact this
  · simp only
    split
    · exact this
    · simp
set_option maxRecDepth 100000 in
set_option maxHeartbeats 8000000 in
theorem rwrap_any (l : B) (most : Int) (w : World) (hl : l.length ≤ 1000) :
    Calls Tryz.prog 8 #[.string ⟨l.toArray⟩, .int .i64 most] w fun e w' => ∃ v, e = .returned v ∧ OwnS w.heap.size v (wrp most l) w' ∧ Kept w w' := by
  by_cases hm : most < 1
  · have HR := Lib.hid (show wrp most l = [] by unfold wrp; rw [if_pos hm])
    go_enter Tryz.func8, Tryz.ntmps8
    go_wp2
    go_ret
    exact ⟨_, rfl, by rw [HR.out]; exact World.ownsRow_nil _ _ _ _, Kept.refl _⟩
  have HR := Lib.hid (show wrp most l = (splt 10 l).flatMap fun x => fil most (wds x) [] by unfold wrp; rw [if_neg hm])
  have hwl : ∀ t ∈ splt 10 l, t.length ≤ 1000 := fun t ht => by have := (splt_mem l t ht).2; omega
  have hwn := splt_len 10 l
  have hfb : ∀ t ∈ splt 10 l, (fil most (wds t) []).length ≤ 1002 := fun t ht => by
    have := hwl t ht
    have := wds_len t
    have := fil_len most (wds t) []
    omega
  have HS := Lib.hid (fun w => rsplit_any 10 l w (by omega))
  have hne := splt_ne 10 l
  generalize wrp most l = res at *
  generalize splt 10 l = ts at *
  go_enter Tryz.func8, Tryz.ntmps8
  go_wp2_with fail
  refine (HS.out _).mono ?_
  rintro e w1 ⟨vt, rfl, hvt, k1⟩
  have hts : 0 < ts.length := List.length_pos_iff.2 hne
  obtain ⟨g, cap, rfl, hc⟩ := OutS.at (show OutS w.heap.size vt ts w1 from hvt) hts
  have HC := Lib.hid hc
  have K1 := Lib.hid k1
  have hcap : ts.length ≤ cap := by
    rcases hvt.2 with ⟨h1, h2⟩ | ⟨g', cap', cur, h1, h2, h3, h4, _⟩
    · omega
    · injection h1 with e1 _ e3
      subst e3
      exact h4
  clear hvt hc k1 hne
  go_wp2_with fail
  go_loopw [6, 7] (fun vo vi wr => ∃ i : Nat, i ≤ ts.length ∧ vi = .int .i64 i ∧ Hid (OwnS w1.heap.size vo ((ts.take i).flatMap fun x => fil most (wds x) []) wr) ∧ Hid (Kept w1 wr)) (fun _ vi _ => ts.length - (intOf vi).toNat)
  case atStart => exact ⟨0, Nat.zero_le _, rfl, Lib.hid (World.ownsRow_nil _ _ _ _), Lib.hid (Kept.refl _)⟩
  case round =>
    obtain ⟨i, hi, rfl, hO, hK⟩ := hrel
    by_cases hlt : i < ts.length
    · have hltI : (i : Int) < ts.length := by omega
      obtain ⟨t, ht⟩ : ∃ t, ts[i]? = some t := ⟨_, List.getElem?_eq_getElem hlt⟩
      have htm := List.mem_of_getElem? ht
      have htl := hwl t htm
      have hc0 := hK.out.yes (HC.out i t ht)
      have HT := Lib.hid (wrp_take (fun x => fil most (wds x) []) ht)
      have hlb := flat_bd (fun x => fil most (wds x) []) 1002 (ts.take i) (fun x hx => hfb x (List.mem_of_mem_take hx))
      have HWd := Lib.hid (fun w => rwords_any t w htl)
      have hwne := wds_ne t
      have hwdl := wds_len t
      have hf := fil_fold most (wds t) [] []
      rw [List.nil_append] at hf
      have hwm : ∀ x ∈ wds t, x.length ≤ 1000 := fun x hx => by
        unfold wds at hx
        split at hx
        · cases hx
        · have := (splt_mem _ x hx).2
          have := tr_le t
          omega
      rw [List.length_take] at hlb
      generalize (ts.take i).flatMap (fun x => fil most (wds x) []) = o0 at *
      generalize fil most (wds t) [] = fl at *
      generalize wds t = ws at *
      have HF := Lib.hid hf
      have ho0 : o0.length ≤ 2000000 := by
        have q1 : min i ts.length * 1002 ≤ 1001 * 1002 := Nat.mul_le_mul_right _ (by omega)
        have q3 : 1001 * 1002 ≤ 2000000 := by decide
        omega
      clear hf hlb ht htm
      go_wp2_with fail
      refine (HWd.out _).mono ?_
      rintro e x2 ⟨vw, rfl, hvw, k2⟩
      obtain ⟨gA, hob, hgA⟩ := owb_any u6 x2
      obtain ⟨aw, cw, hvws⟩ := own_slice hvw
      subst hvws
      have HRd := Lib.hid (show ∀ (k : Nat) (x : B), ws[k]? = some x → ∃ gw, aw = some ⟨gw, 0, none⟩ ∧ ws.length ≤ cw ∧ gw ≠ gA ∧ gw < x2.heap.size ∧ x2.cell? ⟨gw, k, none⟩ = some (sV x) from fun k x hx => by
        have hk := (List.getElem?_eq_some_iff.1 hx).1
        rcases hvw.2 with ⟨h1, h2⟩ | ⟨gw, cap', cur, h1, h2, h3, h4, _⟩
        · omega
        · injection h1 with e1 _ e3
          subst e1 e3
          refine ⟨gw, rfl, h4, fun e => ?_, (Array.getElem?_eq_some_iff.1 h3).1, ?_⟩
          · rcases hgA with ⟨g', hg', hgg⟩ | hgA
            · have := (World.ownsRow.lt hO.out g' hg').2
              omega
            · have := (Array.getElem?_eq_some_iff.1 h3).1
              omega
          · obtain ⟨g2, c2, e2, hc2⟩ := OutS.at (show OutS wr.heap.size _ ws x2 from hvw) (show 0 < ws.length by omega)
            injection e2 with e21 _ _
            cases e21
            exact hc2 k x hx)
      have HOB := Lib.hid hob
      have O2 := Lib.hid (show OwnS w1.heap.size u6 (o0 ++ ((ws.take 0).foldl (stp most) ([], [])).1) x2 by
        rw [List.take_zero, List.foldl_nil, List.append_nil]; exact OwnS.kept hO.out k2)
      have K2 := Lib.hid (hK.out.trans k2)
      clear hvw hob hgA hO hK k2
      go_wp2_with fail
      go_loopw [6, 9, 10] (fun vo vm vk wq => ∃ k : Nat, k ≤ ws.length ∧ vk = .int .i64 k ∧ vm = .string ⟨((ws.take k).foldl (stp most) ([], [])).2.toArray⟩ ∧ Hid (OwnS w1.heap.size vo (o0 ++ ((ws.take k).foldl (stp most) ([], [])).1) wq) ∧ Hid (Ob gA x2 wq) ∧ Hid (OwB gA x2 vo) ∧ Hid (Kept w1 wq)) (fun _ _ vk _ => ws.length - (intOf vk).toNat)
      case atStart => exact ⟨0, Nat.zero_le _, rfl, rfl, O2, Lib.hid (Ob.refl _ _), HOB, K2⟩
      case round =>
        obtain ⟨k, hk, rfl, rfl, hO3, hB3, hW3, hK3⟩ := hrel
        have hbd := stp_bd most 1000 (ws.take k) ([], []) (fun z hz => hwm z (List.mem_of_mem_take hz))
        rw [List.length_take] at hbd
        have hmd : ((ws.take k).foldl (stp most) ([], [])).2.length ≤ 2000000 := by
          have q1 : min k ws.length * (1000 + 1) ≤ 1001 * (1000 + 1) := Nat.mul_le_mul_right _ (by omega)
          have q2 := hbd.2
          rw [List.length_nil, Nat.zero_add] at q2
          exact Nat.le_trans q2 (Nat.le_trans q1 (by decide))
        have hls : ((ws.take k).foldl (stp most) ([], [])).1.length ≤ 1001 := by have := hbd.1; simp only [List.length_nil] at this; omega
        clear hbd
        by_cases hlt2 : k < ws.length
        · have hlt2I : (k : Int) < ws.length := by omega
          obtain ⟨x, hx⟩ : ∃ x, ws[k]? = some x := ⟨_, List.getElem?_eq_getElem hlt2⟩
          have hxl := hwm x (List.mem_of_getElem? hx)
          obtain ⟨gw, rfl, hwc, hgne, hglt, hcx⟩ := HRd.out k x hx
          have hcw : wr.cell? ⟨gw, k, none⟩ = some (sV x) := by
            have := hB3.out.block gw hglt hgne
            unfold World.cell? at hcx ⊢
            rw [this]; exact hcx
          have HSt := Lib.hid (stp_take (most := most) hx)
          have hmne := fun h0 : 0 < k => stp_ne (most := most) hwne h0 hk
          have HCX := Lib.hid hcx
          clear hx hcx
          by_cases hk0 : k = 0
          · subst hk0
            have HQ := Lib.hid (show (ws.take (0 + 1)).foldl (stp most) ([], []) = ([], x) by
              rw [HSt.out, List.take_zero, List.foldl_nil]
              unfold stp
              rw [if_neg (fun h => h.1 rfl), if_pos rfl])
            have O4 := Lib.hid (show OwnS w1.heap.size u6 (o0 ++ ((ws.take (0 + 1)).foldl (stp most) ([], [])).1) wr by
              rw [HQ.out]; have := hO3.out; rw [List.take_zero, List.foldl_nil] at this; exact this)
            clear HSt hmne hO3
            generalize ((ws.take 0).foldl (stp most) ([], [])).2 = m0 at *
            go_wp2
            go_roundw
            case rel => exact ⟨0 + 1, hlt2, by go_num, by rw [HQ.out], O4, hB3, hW3, hK3⟩
            case measure => simp [intOf]; omega
          · have hkI : (0 : Int) < (k : Int) := by omega
            have hmd0 := hmne (by omega)
            generalize (ws.take k).foldl (stp most) ([], []) = s at *
            obtain ⟨ls, md⟩ := s
            simp only at hmd hls hmd0
            by_cases hlong : most < (md.length : Int) + 1 + x.length
            · have hnl : ¬ (md.length : Int) + 1 + x.length ≤ most := by omega
              have HQ := Lib.hid (show (ws.take (k + 1)).foldl (stp most) ([], []) = (ls ++ [md], x) by
                rw [HSt.out]
                unfold stp
                rw [if_pos ⟨hmd0, hlong⟩])
              have hal := (Kept.refl wr).alloc (.cells #[sV md] 9)
              have O4 := Lib.hid (OwnS.kept hO3.out hal)
              have B4 := Lib.hid (hB3.out.kept hal)
              have K4 := Lib.hid (hK3.out.trans hal)
              have hc4 := (Kept.refl (wr.alloc (.cells #[sV md] 9))).new 0 (v := sV md) rfl
              have hB4 := K4.out.size
              have hol : (o0 ++ (ls, md).1).length ≤ 3000000 := by simp; omega
              clear HSt hmne hal hO3 hB3 hK3
              generalize hoo : o0 ++ (ls, md).1 = oo at *
              go_upto_region 16 with (fail)
              go_wp2_with (at_builtin; refine wpList_pushA rfl _ _ rfl w1.heap.size u6 oo md wr.heap.size rfl O4.out rfl hc4 (by omega) hB4 ?_)
              intro v5 y hy hgy hob5
              obtain ⟨B5, W5⟩ := ob_grow B4.out hW3.out hgy (by rw [World.size_alloc]; exact hob5)
              have B5 := Lib.hid B5
              have W5 := Lib.hid W5
              have K5 := Lib.hid (kept_row K4.out hgy (fun g hg => (World.ownsRow.lt O4.out g hg).1))
              have O5 := Lib.hid (show OwnS w1.heap.size v5 (o0 ++ ((ws.take (k + 1)).foldl (stp most) ([], [])).1) y by
                rw [HQ.out]
                have e : o0 ++ (ls ++ [md], x).1 = oo ++ [md] := by rw [← hoo]; simp
                rw [e]; exact hy)
              have hcw5 : y.cell? ⟨gw, k, none⟩ = some (sV x) := by
                have hcx := HCX.out
                have := B5.out.block gw hglt hgne
                unfold World.cell? at hcx ⊢
                rw [this]; exact hcx
              clear hy hgy hob5 hoo hc4 hB4 O4 B4 K4
              go_wp2
              go_roundw
              case rel => exact ⟨k + 1, hlt2, by go_num, by rw [HQ.out], O5, B5, W5, K5⟩
              case measure => simp [intOf]; omega
            · have hnl : (md.length : Int) + 1 + x.length ≤ most := by omega
              have HQ := Lib.hid (show (ws.take (k + 1)).foldl (stp most) ([], []) = (ls, md ++ [32] ++ x) by
                rw [HSt.out]
                unfold stp
                rw [if_neg (fun h => hlong h.2), if_neg hmd0])
              have happ1 : (⟨md.toArray⟩ ++ ⟨#[32]⟩ : ByteArray) = ⟨(md ++ [32]).toArray⟩ := app_mk md [32]
              have happ2 : (⟨(md ++ [32]).toArray⟩ ++ ⟨x.toArray⟩ : ByteArray) = ⟨(md ++ [32] ++ x).toArray⟩ := app_mk (md ++ [32]) x
              have hl32 : (md ++ [32]).length ≤ 2000001 := by simp; omega
              have O4 := Lib.hid (show OwnS w1.heap.size u6 (o0 ++ ((ws.take (k + 1)).foldl (stp most) ([], [])).1) wr by rw [HQ.out]; exact hO3.out)
              clear HSt hmne hO3
              generalize md ++ [32] ++ x = m2 at *
              generalize md ++ [32] = m1 at *
              go_wp2
              go_roundw
              case rel => exact ⟨k + 1, hlt2, by go_num, by rw [HQ.out], O4, hB3, hW3, hK3⟩
              case measure => simp [intOf]; omega
        · obtain rfl : k = ws.length := by omega
          rw [List.take_length] at hO3 hmd hls ⊢
          have HF2 := Lib.hid (show o0 ++ fl = (o0 ++ (ws.foldl (stp most) ([], [])).1) ++ [(ws.foldl (stp most) ([], [])).2] by rw [HF.out]; simp)
          generalize ws.foldl (stp most) ([], []) = s at *
          obtain ⟨ls, md⟩ := s
          simp only at hmd hls HF2
          have hal := (Kept.refl wr).alloc (.cells #[sV md] 9)
          have O4 := Lib.hid (OwnS.kept hO3.out hal)
          have K4 := Lib.hid (hK3.out.trans hal)
          have hc4 := (Kept.refl (wr.alloc (.cells #[sV md] 9))).new 0 (v := sV md) rfl
          have hB4 := K4.out.size
          have hol : (o0 ++ (ls, md).1).length ≤ 3000000 := by simp; omega
          clear hal hO3 hB3 hK3 hW3
          generalize hoo : o0 ++ (ls, md).1 = oo at *
          go_upto_region 18 with (fail)
          go_wp2_with (at_builtin; refine wpList_pushS rfl _ _ rfl w1.heap.size u6 oo md wr.heap.size rfl O4.out rfl hc4 (by omega) hB4 ?_)
          intro v5 y hy hgy
          have K5 := Lib.hid (kept_row K4.out hgy (fun g hg => (World.ownsRow.lt O4.out g hg).1))
          have O5 := Lib.hid (show OwnS w1.heap.size v5 ((ts.take (i + 1)).flatMap fun x => fil most (wds x) []) y by
            rw [HT.out, HF2.out]
            exact hy)
          clear hy hgy hoo hc4 hB4 O4 K4
          go_wp2
          go_roundw
          case rel => exact ⟨i + 1, hlt, by go_num, O5, K5⟩
          case measure => simp [intOf]; omega
    · obtain rfl : i = ts.length := by omega
      rw [List.take_length, ← HR.out] at hO
      obtain ⟨ao, cp, hvo⟩ := own_slice hO.out
      have KK := K1.out.trans hK.out
      have HO2 := Lib.hid (own_mono hO.out K1.out.size)
      go_wp2
      go_ret
      exact ⟨_, rfl, HO2.out, KK⟩
end Go.Proofs.YtpkbcomdkamglaaGreatDoor.Pl
