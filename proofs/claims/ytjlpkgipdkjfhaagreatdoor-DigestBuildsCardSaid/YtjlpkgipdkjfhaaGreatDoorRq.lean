import Derived.Test.YtjlpkgipdkjfhaaGreatDoorRp
import Derived.Test.YtjlpkgipdkjfhaaGreatDoorPd
import Derived.Test.YtjlpkgipdkjfhaaGreatDoorPa
import Derived.Test.YtjlpkgipdkjfhaaGreatDoorPb
import Derived.Test.YtjlpkgipdkjfhaaGreatDoorRe
import Derived.Test.YtjlpkgipdkjfhaaGreatDoorDa
set_option linter.unusedVariables false
set_option linter.unusedSimpArgs false
namespace Go.Proofs.YtjlpkgipdkjfhaaGreatDoor.Pl
open Go.ChangeShapes Go.WideShapes Go.ChangeAt Go.RowKit
open En
def ofA (ps : List B) (i : Nat) : B := ((ps.take i).map lin).foldl addL []
theorem ofA_step {ps : List B} {i : Nat} {p : B} (h : ps[i]? = some p) : ofA ps (i + 1) = addL (ofA ps i) (lin p) := by
  unfold ofA
  rw [List.take_add_one, h, List.map_append, List.foldl_append]; rfl
theorem ofA_len (ps : List B) (i : Nat) (h : ∀ p ∈ ps, (lin p).length ≤ 200000) (hn : ps.length ≤ 100001) : (ofA ps i).length ≤ 20000300001 := by
  have h1 := fold_len 200000 ((ps.take i).map lin) [] (fun t ht => by
    rw [List.mem_map] at ht
    obtain ⟨p, hp, rfl⟩ := ht
    exact h p (List.mem_of_mem_take hp))
  rw [List.length_map, List.length_take, List.length_nil, Nat.zero_add] at h1
  have h2 : min i ps.length * (200000 + 1) ≤ 100001 * (200000 + 1) := Nat.mul_le_mul_right _ (by omega)
  exact Nat.le_trans h1 (Nat.le_trans h2 (by decide))
set_option maxRecDepth 100000 in
set_option maxHeartbeats 4000000 in
theorem rof_any (l : B) (w : World) (hl : l.length ≤ 100000) : Calls Tryz.prog 39 #[.string ⟨l.toArray⟩] w fun e w' => e = .returned (.string ⟨(ofP l).toArray⟩) ∧ Kept w w' := by
  have hm := pcs_mem l
  have hn := pcs_len l
  have hne := pc_ne [] l
  have HF := Lib.hid (show ofP l = ofA (pcs l) (pcs l).length by unfold ofA ofP; rw [List.take_length])
  have HP := Lib.hid (fun w => rpieces_any l w hl)
  have HB : ∀ p ∈ pcs l, (lin p).length ≤ 200000 := fun p hp => by have := lin_len p; have := hm p hp; omega
  rw [show pc [] l = pcs l from rfl] at hne
  generalize ofP l = z at *
  generalize pcs l = ps at *
  have HX := Lib.hid HB
  clear HB
  go_enter Tryz.func39, Tryz.ntmps39
  go_wp2_with fail
  refine (HP.out _).mono ?_
  rintro e w1 ⟨v, rfl, hv, k1⟩
  have hps : 0 < ps.length := List.length_pos_iff.2 hne
  obtain ⟨g, cap, rfl, hc⟩ := OutS.at (show OutS w.heap.size v ps w1 from hv) hps
  have HC := Lib.hid hc
  have K1 := Lib.hid k1
  have hcap : ps.length ≤ cap := by
    rcases hv.2 with ⟨h1, h2⟩ | ⟨g', cap', cur, h1, h2, h3, h4, _⟩
    · omega
    · injection h1 with e1 _ e3
      subst e3
      exact h4
  clear hv hc k1 hne
  go_wp2_with fail
  go_loopw [4, 5] (fun vt vi wr => ∃ i : Nat, i ≤ ps.length ∧ vi = .int .i64 i ∧ vt = .string ⟨(ofA ps i).toArray⟩ ∧ Hid (Kept w1 wr)) (fun _ vi _ => ps.length - (intOf vi).toNat)
  case atStart => exact ⟨0, Nat.zero_le _, rfl, rfl, Lib.hid (Kept.refl _)⟩
  case round =>
    obtain ⟨i, hi, rfl, rfl, hK⟩ := hrel
    by_cases hlt : i < ps.length
    · have hltI : (i : Int) < ps.length := by omega
      obtain ⟨p, hp⟩ : ∃ p, ps[i]? = some p := ⟨_, List.getElem?_eq_getElem hlt⟩
      have hpm := List.mem_of_getElem? hp
      have hpl := hm p hpm
      have hc0 := hK.out.yes (HC.out i p hp)
      have HN := Lib.hid (ofA_step hp)
      have hal := ofA_len ps i HX.out (by omega)
      have hll := HX.out p hpm
      have HL := Lib.hid (fun w => rloose_any p w (by omega))
      have HT := Lib.hid (fun w => rtrim_any (gone p).1 w (by have := gone_len _ p (Nat.le_refl _); omega))
      rw [show tr (gone p).1 = lin p from rfl] at HT
      generalize ofA ps i = acc at *
      generalize lin p = t at *
      generalize (gone p).1 = q at *
      go_wp2_with fail
      refine (HL.out _).mono ?_
      rintro e w2 ⟨rfl, k2⟩
      go_wp2_with fail
      refine (HT.out _).mono ?_
      rintro e w3 ⟨rfl, k3⟩
      have KK := Lib.hid ((hK.out.trans k2).trans k3)
      clear k2 k3 hK
      by_cases ht : t = []
      · subst ht
        have HD := Lib.hid (show ofA ps (i + 1) = acc by rw [HN.out]; rfl)
        clear HN
        go_wp2
        go_roundw
        case rel => exact ⟨i + 1, hlt, by go_num, by rw [HD.out], KK⟩
        case measure => simp [intOf]; omega
      · have hte : t.isEmpty = false := by cases t with
          | nil => exact absurd rfl ht
          | cons a r => rfl
        by_cases ha : acc = []
        · subst ha
          have HD := Lib.hid (show ofA ps (i + 1) = [] ++ t by rw [HN.out]; unfold addL; rw [if_neg ht, if_pos rfl]; rfl)
          have happ : (⟨([] : B).toArray⟩ ++ ⟨t.toArray⟩ : ByteArray) = ⟨([] ++ t : B).toArray⟩ := app_mk [] t
          have hbig : ¬ 9223372036854775807 < ([] : B).length + t.length := by simp; omega
          clear HN ht
          go_wp2
          go_roundw
          case rel => exact ⟨i + 1, hlt, by go_num, by rw [HD.out]; simp, KK⟩
          case measure => simp [intOf]; omega
        · have hae : acc.isEmpty = false := by cases acc with
            | nil => exact absurd rfl ha
            | cons a r => rfl
          have HD := Lib.hid (show ofA ps (i + 1) = acc ++ [10] ++ t by rw [HN.out]; unfold addL; rw [if_neg ht, if_neg ha])
          have happ1 : (⟨acc.toArray⟩ ++ ⟨#[10]⟩ : ByteArray) = ⟨(acc ++ [10]).toArray⟩ := app_mk acc [10]
          have happ2 : (⟨(acc ++ [10]).toArray⟩ ++ ⟨t.toArray⟩ : ByteArray) = ⟨(acc ++ [10] ++ t).toArray⟩ := app_mk (acc ++ [10]) t
          have hl10 : (acc ++ [10]).length ≤ 20000300002 := by simp; omega
          clear HN ht ha
          generalize acc ++ [10] ++ t = a2 at *
          generalize acc ++ [10] = a1 at *
          go_wp2
          go_roundw
          case rel => exact ⟨i + 1, hlt, by go_num, by rw [HD.out], KK⟩
          case measure => simp [intOf]; omega
    · obtain rfl : i = ps.length := by omega
      have KK := K1.out.trans hK.out
      go_wp2
      go_ret
      exact ⟨by rw [HF.out]; rfl, KK⟩
theorem rwords_any (l : B) (w : World) (hl : l.length ≤ 1000) : Calls Tryz.prog 76 #[.string ⟨l.toArray⟩] w fun e w' => ∃ v, e = .returned v ∧ OwnS w.heap.size v (wds l) w' ∧ Kept w w' := by
  have htl := tr_le l
  have HT := Lib.hid (fun w => rtrim_any l w (by omega))
  have HD := Lib.hid (show wds l = if tr l = [] then [] else splt 32 (tr l) from rfl)
  generalize tr l = t at *
  generalize wds l = z at *
  have HS := Lib.hid (fun w => rsplit_any 32 t w (by omega))
  go_enter Tryz.func76, Tryz.ntmps76
  go_wp2_with fail
  refine (HT.out _).mono ?_
  rintro e w1 ⟨rfl, k1⟩
  by_cases ht : t = []
  · subst ht
    have HZ := Lib.hid (show z = [] by rw [HD.out, if_pos rfl])
    clear HD
    go_wp2
    go_ret
    exact ⟨_, rfl, by rw [HZ.out]; exact World.ownsRow_nil _ _ _ _, k1⟩
  · have hte : t.isEmpty = false := by cases t with
      | nil => exact absurd rfl ht
      | cons a r => rfl
    have HZ := Lib.hid (show z = splt 32 t by rw [HD.out, if_neg ht])
    clear HD ht
    go_wp2_with fail
    refine (HS.out _).mono ?_
    rintro e w2 ⟨v, rfl, hv, k2⟩
    have hv2 : OwnS w.heap.size v (splt 32 t) w2 := own_mono (show OwnS w1.heap.size v (splt 32 t) w2 from hv) k1.size
    obtain ⟨ao, cp, rfl⟩ := own_slice hv2
    have HV := Lib.hid hv2
    have K2 := Lib.hid (k1.trans k2)
    clear hv hv2 k1 k2
    go_wp2
    go_ret
    exact ⟨_, rfl, by rw [HZ.out]; exact HV.out, K2.out⟩
def OwB (gA : Nat) (X : World) (v : Value) : Prop := ∀ g, v.ownBlock = some g → g = gA ∨ X.heap.size ≤ g
theorem owb_any (v : Value) (X : World) : ∃ gA, OwB gA X v ∧ ((∃ g, v.ownBlock = some g ∧ gA = g) ∨ X.heap.size ≤ gA) := by
  cases h : v.ownBlock with
  | none => exact ⟨X.heap.size, fun g e => (by rw [h] at e; cases e), Or.inr (Nat.le_refl _)⟩
  | some g => exact ⟨g, fun g2 e => by rw [h] at e; exact Or.inl (Option.some.inj e).symm, Or.inl ⟨g, rfl, rfl⟩⟩
theorem ob_grow {gA : Nat} {X y z : World} {v v' : Value} (hb : Ob gA X y) (hv : OwB gA X v) (hg : y.grownBy z v.ownBlock) (hv' : v'.ownBlock = v.ownBlock ∨ v'.ownBlock = some y.heap.size) : Ob gA X z ∧ OwB gA X v' := by
  have hs := hb.size
  have hs2 := hg.size
  refine ⟨⟨hg.os.trans hb.os, hg.tape.trans hb.tape, hg.output.trans hb.output, by omega, fun j hj hn => ?_⟩, fun g hgv => ?_⟩
  · rw [hg.block j (by omega) (fun e => by rcases hv j e.symm with h | h <;> omega), hb.block j hj hn]
  · rcases hv' with h | h
    · exact hv g (h ▸ hgv)
    · rw [h] at hgv
      cases hgv
      exact Or.inr (by omega)
theorem wpList_pushA {ops : Array Oper} {rest : List Oper} {op : Oper} {a : Act} {w : World} {Q : Exit → Act → World → Prop} (hg : op.guard = none) (sx x : Operand) (ho : op.op = .call { callee := .builtin .append, args := #[sx, x], argTypes := #[42, 42] })
    (B0 : Nat) (v : Value) (ls : List B) (t : B) (k : Nat) (hs : a.eval sx = v) (hO : OwnS B0 v ls w) (hx : a.eval x = .slice (some ⟨k, 0, none⟩) 1 1) (hc : w.cell? ⟨k, 0, none⟩ = some (sV t)) (hl : ls.length ≤ 1000000000) (hB : B0 ≤ w.heap.size)
    (h : ∀ v' w', OwnS B0 v' (ls ++ [t]) w' → w.grownBy w' v.ownBlock → (v'.ownBlock = v.ownBlock ∨ v'.ownBlock = some w.heap.size) → wpList Tryz.prog ops Q rest (a.put op.dst v') w') : wpList Tryz.prog ops Q (op :: rest) a w := by
  obtain ⟨i0, hi, hz0, hz1, hz2⟩ := info_parts infoS
  refine wpList_append_own_at w hg sx x 42 ho B0 9 i0 _ 1 16 Tryz.underlying42 hi hz0 hz1 hz2 rfl (by decide) v ls.length (ls.map sV) hs hO ⟨k, 0, none⟩ 1 1 [sV t] hx rfl (fun j u hj => ?_) (fun u hu => by simp at hu; subst hu; rfl) (by unfold maxLen; omega) (by omega) hB ?_
  · match j, hj with
    | 0, hj => simp at hj; subst hj; simpa [Addr.add] using hc
  · intro v' w' h2 h3 _ h5
    refine h v' w' ?_ h3 h5
    unfold OwnS
    rw [List.length_append, List.map_append]
    exact h2
theorem stp_ne {most : Int} {ws : List B} {k : Nat} (hw : ∀ w ∈ ws, w ≠ []) (h0 : 0 < k) (hk : k ≤ ws.length) : ((ws.take k).foldl (stp most) ([], [])).2 ≠ [] := by
  obtain ⟨j, rfl⟩ : ∃ j, k = j + 1 := ⟨k - 1, by omega⟩
  obtain ⟨t, ht⟩ : ∃ t, ws[j]? = some t := ⟨_, List.getElem?_eq_getElem (show j < ws.length by omega)⟩
  rw [stp_take ht]
  have := hw t (List.mem_of_getElem? ht)
  unfold stp
  split
  · exact this
  · simp only
    split
    · exact this
    · simp
set_option maxRecDepth 100000 in
set_option maxHeartbeats 8000000 in
theorem rwrap_any (l : B) (most : Int) (w : World) (hl : l.length ≤ 1000) :
    Calls Tryz.prog 37 #[.string ⟨l.toArray⟩, .int .i64 most] w fun e w' => ∃ v, e = .returned v ∧ OwnS w.heap.size v (wrp most l) w' ∧ Kept w w' := by
  by_cases hm : most < 1
  · have HR := Lib.hid (show wrp most l = [] by unfold wrp; rw [if_pos hm])
    go_enter Tryz.func37, Tryz.ntmps37
    go_wp2
    go_ret
    exact ⟨_, rfl, by rw [HR.out]; exact World.ownsRow_nil _ _ _ _, Kept.refl _⟩
  have HR := Lib.hid (show wrp most l = (splt 10 l).flatMap fun x => fil most (wds x) [] by unfold wrp; rw [if_neg hm])
  have hwl : ∀ t ∈ splt 10 l, t.length ≤ 1000 := fun t ht => by have := (splt_mem l t ht).2; omega
  have hwn := splt_len 10 l
  have hfb : ∀ t ∈ splt 10 l, (fil most (wds t) []).length ≤ 1002 := fun t ht => by
    have := hwl t ht
    have := wds_len t
    have := fil_len most (wds t) []
    omega
  have HS := Lib.hid (fun w => rsplit_any 10 l w (by omega))
  have hne := splt_ne 10 l
  generalize wrp most l = res at *
  generalize splt 10 l = ts at *
  go_enter Tryz.func37, Tryz.ntmps37
  go_wp2_with fail
  refine (HS.out _).mono ?_
  rintro e w1 ⟨vt, rfl, hvt, k1⟩
  have hts : 0 < ts.length := List.length_pos_iff.2 hne
  obtain ⟨g, cap, rfl, hc⟩ := OutS.at (show OutS w.heap.size vt ts w1 from hvt) hts
  have HC := Lib.hid hc
  have K1 := Lib.hid k1
  have hcap : ts.length ≤ cap := by
    rcases hvt.2 with ⟨h1, h2⟩ | ⟨g', cap', cur, h1, h2, h3, h4, _⟩
    · omega
    · injection h1 with e1 _ e3
      subst e3
      exact h4
  clear hvt hc k1 hne
  go_wp2_with fail
  go_loopw [6, 7] (fun vo vi wr => ∃ i : Nat, i ≤ ts.length ∧ vi = .int .i64 i ∧ Hid (OwnS w1.heap.size vo ((ts.take i).flatMap fun x => fil most (wds x) []) wr) ∧ Hid (Kept w1 wr)) (fun _ vi _ => ts.length - (intOf vi).toNat)
  case atStart => exact ⟨0, Nat.zero_le _, rfl, Lib.hid (World.ownsRow_nil _ _ _ _), Lib.hid (Kept.refl _)⟩
  case round =>
    obtain ⟨i, hi, rfl, hO, hK⟩ := hrel
    by_cases hlt : i < ts.length
    · have hltI : (i : Int) < ts.length := by omega
      obtain ⟨t, ht⟩ : ∃ t, ts[i]? = some t := ⟨_, List.getElem?_eq_getElem hlt⟩
      have htm := List.mem_of_getElem? ht
      have htl := hwl t htm
      have hc0 := hK.out.yes (HC.out i t ht)
      have HT := Lib.hid (wrp_take (fun x => fil most (wds x) []) ht)
      have hlb := flat_bd (fun x => fil most (wds x) []) 1002 (ts.take i) (fun x hx => hfb x (List.mem_of_mem_take hx))
      have HWd := Lib.hid (fun w => rwords_any t w htl)
      have hwne := wds_ne t
      have hwdl := wds_len t
      have hf := fil_fold most (wds t) [] []
      rw [List.nil_append] at hf
      have hwm : ∀ x ∈ wds t, x.length ≤ 1000 := fun x hx => by
        unfold wds at hx
        split at hx
        · cases hx
        · have := (splt_mem _ x hx).2
          have := tr_le t
          omega
      rw [List.length_take] at hlb
      generalize (ts.take i).flatMap (fun x => fil most (wds x) []) = o0 at *
      generalize fil most (wds t) [] = fl at *
      generalize wds t = ws at *
      have HF := Lib.hid hf
      have ho0 : o0.length ≤ 2000000 := by
        have q1 : min i ts.length * 1002 ≤ 1001 * 1002 := Nat.mul_le_mul_right _ (by omega)
        have q3 : 1001 * 1002 ≤ 2000000 := by decide
        omega
      clear hf hlb ht htm
      go_wp2_with fail
      refine (HWd.out _).mono ?_
      rintro e x2 ⟨vw, rfl, hvw, k2⟩
      obtain ⟨gA, hob, hgA⟩ := owb_any u6 x2
      obtain ⟨aw, cw, hvws⟩ := own_slice hvw
      subst hvws
      have HRd := Lib.hid (show ∀ (k : Nat) (x : B), ws[k]? = some x → ∃ gw, aw = some ⟨gw, 0, none⟩ ∧ ws.length ≤ cw ∧ gw ≠ gA ∧ gw < x2.heap.size ∧ x2.cell? ⟨gw, k, none⟩ = some (sV x) from fun k x hx => by
        have hk := (List.getElem?_eq_some_iff.1 hx).1
        rcases hvw.2 with ⟨h1, h2⟩ | ⟨gw, cap', cur, h1, h2, h3, h4, _⟩
        · omega
        · injection h1 with e1 _ e3
          subst e1 e3
          refine ⟨gw, rfl, h4, fun e => ?_, (Array.getElem?_eq_some_iff.1 h3).1, ?_⟩
          · rcases hgA with ⟨g', hg', hgg⟩ | hgA
            · have := (World.ownsRow.lt hO.out g' hg').2
              omega
            · have := (Array.getElem?_eq_some_iff.1 h3).1
              omega
          · obtain ⟨g2, c2, e2, hc2⟩ := OutS.at (show OutS wr.heap.size _ ws x2 from hvw) (show 0 < ws.length by omega)
            injection e2 with e21 _ _
            cases e21
            exact hc2 k x hx)
      have HOB := Lib.hid hob
      have O2 := Lib.hid (show OwnS w1.heap.size u6 (o0 ++ ((ws.take 0).foldl (stp most) ([], [])).1) x2 by
        rw [List.take_zero, List.foldl_nil, List.append_nil]; exact OwnS.kept hO.out k2)
      have K2 := Lib.hid (hK.out.trans k2)
      clear hvw hob hgA hO hK k2
      go_wp2_with fail
      go_loopw [6, 9, 10] (fun vo vm vk wq => ∃ k : Nat, k ≤ ws.length ∧ vk = .int .i64 k ∧ vm = .string ⟨((ws.take k).foldl (stp most) ([], [])).2.toArray⟩ ∧ Hid (OwnS w1.heap.size vo (o0 ++ ((ws.take k).foldl (stp most) ([], [])).1) wq) ∧ Hid (Ob gA x2 wq) ∧ Hid (OwB gA x2 vo) ∧ Hid (Kept w1 wq)) (fun _ _ vk _ => ws.length - (intOf vk).toNat)
      case atStart => exact ⟨0, Nat.zero_le _, rfl, rfl, O2, Lib.hid (Ob.refl _ _), HOB, K2⟩
      case round =>
        obtain ⟨k, hk, rfl, rfl, hO3, hB3, hW3, hK3⟩ := hrel
        have hbd := stp_bd most 1000 (ws.take k) ([], []) (fun z hz => hwm z (List.mem_of_mem_take hz))
        rw [List.length_take] at hbd
        have hmd : ((ws.take k).foldl (stp most) ([], [])).2.length ≤ 2000000 := by
          have q1 : min k ws.length * (1000 + 1) ≤ 1001 * (1000 + 1) := Nat.mul_le_mul_right _ (by omega)
          have q2 := hbd.2
          rw [List.length_nil, Nat.zero_add] at q2
          exact Nat.le_trans q2 (Nat.le_trans q1 (by decide))
        have hls : ((ws.take k).foldl (stp most) ([], [])).1.length ≤ 1001 := by have := hbd.1; simp only [List.length_nil] at this; omega
        clear hbd
        by_cases hlt2 : k < ws.length
        · have hlt2I : (k : Int) < ws.length := by omega
          obtain ⟨x, hx⟩ : ∃ x, ws[k]? = some x := ⟨_, List.getElem?_eq_getElem hlt2⟩
          have hxl := hwm x (List.mem_of_getElem? hx)
          obtain ⟨gw, rfl, hwc, hgne, hglt, hcx⟩ := HRd.out k x hx
          have hcw : wr.cell? ⟨gw, k, none⟩ = some (sV x) := by
            have := hB3.out.block gw hglt hgne
            unfold World.cell? at hcx ⊢
            rw [this]; exact hcx
          have HSt := Lib.hid (stp_take (most := most) hx)
          have hmne := fun h0 : 0 < k => stp_ne (most := most) hwne h0 hk
          have HCX := Lib.hid hcx
          clear hx hcx
          by_cases hk0 : k = 0
          · subst hk0
            have HQ := Lib.hid (show (ws.take (0 + 1)).foldl (stp most) ([], []) = ([], x) by
              rw [HSt.out, List.take_zero, List.foldl_nil]
              unfold stp
              rw [if_neg (fun h => h.1 rfl), if_pos rfl])
            have O4 := Lib.hid (show OwnS w1.heap.size u6 (o0 ++ ((ws.take (0 + 1)).foldl (stp most) ([], [])).1) wr by
              rw [HQ.out]; have := hO3.out; rw [List.take_zero, List.foldl_nil] at this; exact this)
            clear HSt hmne hO3
            generalize ((ws.take 0).foldl (stp most) ([], [])).2 = m0 at *
            go_wp2
            go_roundw
            case rel => exact ⟨0 + 1, hlt2, by go_num, by rw [HQ.out], O4, hB3, hW3, hK3⟩
            case measure => simp [intOf]; omega
          · have hkI : (0 : Int) < (k : Int) := by omega
            have hmd0 := hmne (by omega)
            generalize (ws.take k).foldl (stp most) ([], []) = s at *
            obtain ⟨ls, md⟩ := s
            simp only at hmd hls hmd0
            by_cases hlong : most < (md.length : Int) + 1 + x.length
            · have hnl : ¬ (md.length : Int) + 1 + x.length ≤ most := by omega
              have HQ := Lib.hid (show (ws.take (k + 1)).foldl (stp most) ([], []) = (ls ++ [md], x) by
                rw [HSt.out]
                unfold stp
                rw [if_pos ⟨hmd0, hlong⟩])
              have hal := (Kept.refl wr).alloc (.cells #[sV md] 9)
              have O4 := Lib.hid (OwnS.kept hO3.out hal)
              have B4 := Lib.hid (hB3.out.kept hal)
              have K4 := Lib.hid (hK3.out.trans hal)
              have hc4 := (Kept.refl (wr.alloc (.cells #[sV md] 9))).new 0 (v := sV md) rfl
              have hB4 := K4.out.size
              have hol : (o0 ++ (ls, md).1).length ≤ 3000000 := by simp; omega
              clear HSt hmne hal hO3 hB3 hK3
              generalize hoo : o0 ++ (ls, md).1 = oo at *
              go_upto_region 16 with (fail)
              go_wp2_with (at_builtin; refine wpList_pushA rfl _ _ rfl w1.heap.size u6 oo md wr.heap.size rfl O4.out rfl hc4 (by omega) hB4 ?_)
              intro v5 y hy hgy hob5
              obtain ⟨B5, W5⟩ := ob_grow B4.out hW3.out hgy (by rw [World.size_alloc]; exact hob5)
              have B5 := Lib.hid B5
              have W5 := Lib.hid W5
              have K5 := Lib.hid (kept_row K4.out hgy (fun g hg => (World.ownsRow.lt O4.out g hg).1))
              have O5 := Lib.hid (show OwnS w1.heap.size v5 (o0 ++ ((ws.take (k + 1)).foldl (stp most) ([], [])).1) y by
                rw [HQ.out]
                have e : o0 ++ (ls ++ [md], x).1 = oo ++ [md] := by rw [← hoo]; simp
                rw [e]; exact hy)
              have hcw5 : y.cell? ⟨gw, k, none⟩ = some (sV x) := by
                have hcx := HCX.out
                have := B5.out.block gw hglt hgne
                unfold World.cell? at hcx ⊢
                rw [this]; exact hcx
              clear hy hgy hob5 hoo hc4 hB4 O4 B4 K4
              go_wp2
              go_roundw
              case rel => exact ⟨k + 1, hlt2, by go_num, by rw [HQ.out], O5, B5, W5, K5⟩
              case measure => simp [intOf]; omega
            · have hnl : (md.length : Int) + 1 + x.length ≤ most := by omega
              have HQ := Lib.hid (show (ws.take (k + 1)).foldl (stp most) ([], []) = (ls, md ++ [32] ++ x) by
                rw [HSt.out]
                unfold stp
                rw [if_neg (fun h => hlong h.2), if_neg hmd0])
              have happ1 : (⟨md.toArray⟩ ++ ⟨#[32]⟩ : ByteArray) = ⟨(md ++ [32]).toArray⟩ := app_mk md [32]
              have happ2 : (⟨(md ++ [32]).toArray⟩ ++ ⟨x.toArray⟩ : ByteArray) = ⟨(md ++ [32] ++ x).toArray⟩ := app_mk (md ++ [32]) x
              have hl32 : (md ++ [32]).length ≤ 2000001 := by simp; omega
              have O4 := Lib.hid (show OwnS w1.heap.size u6 (o0 ++ ((ws.take (k + 1)).foldl (stp most) ([], [])).1) wr by rw [HQ.out]; exact hO3.out)
              clear HSt hmne hO3
              generalize md ++ [32] ++ x = m2 at *
              generalize md ++ [32] = m1 at *
              go_wp2
              go_roundw
              case rel => exact ⟨k + 1, hlt2, by go_num, by rw [HQ.out], O4, hB3, hW3, hK3⟩
              case measure => simp [intOf]; omega
        · obtain rfl : k = ws.length := by omega
          rw [List.take_length] at hO3 hmd hls ⊢
          have HF2 := Lib.hid (show o0 ++ fl = (o0 ++ (ws.foldl (stp most) ([], [])).1) ++ [(ws.foldl (stp most) ([], [])).2] by rw [HF.out]; simp)
          generalize ws.foldl (stp most) ([], []) = s at *
          obtain ⟨ls, md⟩ := s
          simp only at hmd hls HF2
          have hal := (Kept.refl wr).alloc (.cells #[sV md] 9)
          have O4 := Lib.hid (OwnS.kept hO3.out hal)
          have K4 := Lib.hid (hK3.out.trans hal)
          have hc4 := (Kept.refl (wr.alloc (.cells #[sV md] 9))).new 0 (v := sV md) rfl
          have hB4 := K4.out.size
          have hol : (o0 ++ (ls, md).1).length ≤ 3000000 := by simp; omega
          clear hal hO3 hB3 hK3 hW3
          generalize hoo : o0 ++ (ls, md).1 = oo at *
          go_upto_region 18 with (fail)
          go_wp2_with (at_builtin; refine wpList_pushS rfl _ _ rfl w1.heap.size u6 oo md wr.heap.size rfl O4.out rfl hc4 (by omega) hB4 ?_)
          intro v5 y hy hgy
          have K5 := Lib.hid (kept_row K4.out hgy (fun g hg => (World.ownsRow.lt O4.out g hg).1))
          have O5 := Lib.hid (show OwnS w1.heap.size v5 ((ts.take (i + 1)).flatMap fun x => fil most (wds x) []) y by
            rw [HT.out, HF2.out]
            exact hy)
          clear hy hgy hoo hc4 hB4 O4 K4
          go_wp2
          go_roundw
          case rel => exact ⟨i + 1, hlt, by go_num, O5, K5⟩
          case measure => simp [intOf]; omega
    · obtain rfl : i = ts.length := by omega
      rw [List.take_length, ← HR.out] at hO
      obtain ⟨ao, cp, hvo⟩ := own_slice hO.out
      have KK := K1.out.trans hK.out
      have HO2 := Lib.hid (own_mono hO.out K1.out.size)
      go_wp2
      go_ret
      exact ⟨_, rfl, HO2.out, KK⟩
end Go.Proofs.YtjlpkgipdkjfhaaGreatDoor.Pl
namespace Go.Proofs.YtjlpkgipdkjfhaaGreatDoor.Dg
open Go.ChangeShapes Go.WideShapes Go.ChangeAt Go.RowKit
open En
open Pl
set_option maxRecDepth 100000 in
set_option maxHeartbeats 1000000 in
theorem rtitle_any (x : It) (w : World) : Calls Tryz.prog 38 #[entV x] w fun e w' => e = .returned (sV (tl x.title)) ∧ Kept w w' := by
  have B0 := Lib.hid (Eb.new w x)
  have K0 := Lib.hid ((Kept.refl w).alloc (.cells (e5 x) 48))
  have HT := Lib.hid (show tl x.title = if x.title = [] then unT else x.title from rfl)
  obtain ⟨f, s, a0, a1, a2, a3, a4⟩ := x
  simp only at HT
  go_enter Tryz.func38, Tryz.ntmps38
  go_upto_region 1 with (fail)
  rw [show w.alloc (.cells #[.string ⟨a0.toArray⟩, .string ⟨a1.toArray⟩, .string ⟨a2.toArray⟩, .string ⟨a3.toArray⟩, .int .i64 a4] 48) = w.alloc (.cells (e5 ⟨f, s, a0, a1, a2, a3, a4⟩) 48) from rfl]
  generalize w.heap.size = b at *
  generalize w.alloc (.cells (e5 ⟨f, s, a0, a1, a2, a3, a4⟩) 48) = y at *
  have c1 := Eb.c1 B0.out
  simp only at c1
  cases hem : a1.isEmpty with
  | true =>
    have HZ := Lib.hid (show tl a1 = unT by rw [HT.out, if_pos (by simpa using hem)])
    go_wp2
    go_ret
    exact ⟨by rw [HZ.out]; rfl, K0.out⟩
  | false =>
    have HZ := Lib.hid (show tl a1 = a1 by rw [HT.out, if_neg (by intro e; rw [e] at hem; cases hem)])
    go_wp2
    go_ret
    exact ⟨by rw [HZ.out]; rfl, K0.out⟩
theorem lnE_next {l : List B} {i : Nat} {x : B} (h : l[i]? = some x) : lnE (l.take (i + 1)) = lnE (l.take i) ++ (x ++ [10]) := by
  rw [List.take_add_one, h, lnE_app]; simp [lnE]
theorem lnE_part (l : List B) (i : Nat) : (lnE (l.take i)).length ≤ (lnE l).length := by
  conv => rhs; rw [← List.take_append_drop i l, lnE_app, List.length_append]
  omega
theorem cat3 (a b : B) : (⟨a.toArray⟩ : ByteArray) ++ ⟨b.toArray⟩ ++ ⟨#[10]⟩ = ⟨(a ++ (b ++ [10])).toArray⟩ := by
  apply ByteArray.ext
  simp [ByteArray.data_append]
set_option maxRecDepth 100000 in
set_option maxHeartbeats 2000000 in
theorem rlines_any (B0 : Nat) (v : Value) (ls : List B) (w : World) (h : OwnS B0 v ls w) (hne : ls ≠ []) (hb : (lnE ls).length ≤ 1000000000) :
    Calls Tryz.prog 36 #[v] w fun e w' => e = .returned (sV (lnE ls)) ∧ w = w' := by
  obtain ⟨g, cap, rfl, hc⟩ := OutS.at (show OutS B0 v ls w from h) (List.length_pos_iff.2 hne)
  have hcap : ls.length ≤ cap := by
    rcases h.2 with ⟨h1, h2⟩ | ⟨g', cap', cur, h1, h2, h3, h4, _⟩
    · exact absurd (List.length_eq_zero_iff.1 h2) hne
    · injection h1 with e1 _ e3
      subst e3
      exact h4
  have HC := Lib.hid hc
  have HL := Lib.hid (lnE_len ls)
  have hln := (lnE_len ls).1
  clear hc h
  go_enter Tryz.func36, Tryz.ntmps36
  go_wp2_with fail
  go_loopw [3, 4] (fun vo vi wr => ∃ i : Nat, i ≤ ls.length ∧ vi = .int .i64 i ∧ vo = sV (lnE (ls.take i)) ∧ wr = w) (fun _ vi _ => ls.length - (intOf vi).toNat)
  case atStart => exact ⟨0, Nat.zero_le _, rfl, rfl, rfl⟩
  case round =>
    obtain ⟨i, hi, rfl, rfl, rfl⟩ := hrel
    by_cases hlt : i < ls.length
    · have hltI : (i : Int) < ls.length := by omega
      obtain ⟨x, hx⟩ : ∃ x, ls[i]? = some x := ⟨_, List.getElem?_eq_getElem hlt⟩
      have c0 := HC.out i x hx
      have hn := lnE_next hx
      have hp := lnE_part ls (i + 1)
      rw [hn] at hp
      simp only [List.length_append, List.length_cons, List.length_nil] at hp
      have HN := Lib.hid hn
      clear hx hn
      generalize lnE (ls.take i) = acc at *
      have hcat := cat3 acc x
      have HCT := Lib.hid hcat
      clear hcat
      go_wp2
      go_roundw
      case rel => exact ⟨i + 1, hlt, by go_num, by rw [HN.out]; exact congrArg Value.string HCT.out, by first | rfl | trivial⟩
      case measure => simp [intOf]; omega
    · obtain rfl : i = ls.length := by omega
      have hltI : ¬ (ls.length : Int) < ls.length := by omega
      have HT := Lib.hid (show ls.take ls.length = ls from List.take_length)
      go_wp2
      go_ret
      exact ⟨by first | rfl | (rw [HT.out]; done) | (rw [HT.out]; rfl), rfl⟩
theorem txt_next {l : List It} {i : Nat} {x : It} (h : l[i]? = some x) : txt (l.take (i + 1)) = txt (l.take i) ++ par x := flat_take par h
theorem txt_part (l : List It) (i : Nat) : (txt (l.take i)).length ≤ (txt l).length := flat_part par l i
theorem par_T0 {x : It} (h1 : x.link = []) (h2 : ofP x.text = []) : par x = lnE (wrp 72 (tl x.title)) ++ [10] := by
  unfold par linkT bodyT; rw [if_pos h1, if_pos h2]; rfl
theorem par_T1 {x : It} (h1 : ¬ x.link = []) (h2 : ofP x.text = []) : par x = lnE (wrp 72 (tl x.title)) ++ (x.link ++ ([10] ++ [10])) := by
  unfold par linkT bodyT; rw [if_neg h1, if_pos h2]; simp
theorem par_T2 {x : It} (h1 : x.link = []) (h2 : ¬ ofP x.text = []) : par x = lnE (wrp 72 (tl x.title)) ++ (lnE (wrp 72 (ofP x.text)) ++ [10]) := by
  unfold par linkT bodyT; rw [if_pos h1, if_neg h2]; rfl
theorem par_T3 {x : It} (h1 : ¬ x.link = []) (h2 : ¬ ofP x.text = []) : par x = lnE (wrp 72 (tl x.title)) ++ (x.link ++ ([10] ++ (lnE (wrp 72 (ofP x.text)) ++ [10]))) := by
  unfold par linkT bodyT; rw [if_neg h1, if_neg h2]; simp
theorem catT0 (a b : B) : (⟨a.toArray⟩ : ByteArray) ++ ⟨b.toArray⟩ ++ ⟨#[10]⟩ = ⟨(a ++ (b ++ [10])).toArray⟩ := cat3 a b
theorem catT1 (a b c : B) : (⟨a.toArray⟩ : ByteArray) ++ ⟨b.toArray⟩ ++ ⟨c.toArray⟩ ++ ⟨#[10]⟩ ++ ⟨#[10]⟩ = ⟨(a ++ (b ++ (c ++ ([10] ++ [10])))).toArray⟩ := by
  apply ByteArray.ext
  simp [ByteArray.data_append]
theorem catT2 (a b d : B) : (⟨a.toArray⟩ : ByteArray) ++ ⟨b.toArray⟩ ++ ⟨d.toArray⟩ ++ ⟨#[10]⟩ = ⟨(a ++ (b ++ (d ++ [10]))).toArray⟩ := by
  apply ByteArray.ext
  simp [ByteArray.data_append]
theorem catT3 (a b c d : B) : (⟨a.toArray⟩ : ByteArray) ++ ⟨b.toArray⟩ ++ ⟨c.toArray⟩ ++ ⟨#[10]⟩ ++ ⟨d.toArray⟩ ++ ⟨#[10]⟩ = ⟨(a ++ (b ++ (c ++ ([10] ++ (d ++ [10]))))).toArray⟩ := by
  apply ByteArray.ext
  simp [ByteArray.data_append]
set_option maxRecDepth 100000 in
set_option maxHeartbeats 8000000 in
theorem rtext_any (v : Value) (l : List It) (w : World) (hR : ItRd v l w) (n : Nat) (hF : Fw l n) (hn : n ≤ 100) : Calls Tryz.prog 14 #[v] w fun e w' => e = .returned (sV (txt l)) ∧ Kept w w' := by
  obtain ⟨va, vc, rfl⟩ := hR.slice
  have HR := Lib.hid hR
  have HF := Lib.hid hF.2
  have hl := hF.1
  have HB := Lib.hid (show (txt l).length ≤ 1000000 by have := hF.txt; omega)
  clear hR hF
  go_enter Tryz.func14, Tryz.ntmps14
  go_wp2_with fail
  go_loopw [3, 4, 5, 6] (fun vo vi _ _ wr => ∃ i : Nat, i ≤ l.length ∧ vi = .int .i64 i ∧ vo = sV (txt (l.take i)) ∧ Hid (Kept w wr)) (fun _ vi _ _ _ => l.length - (intOf vi).toNat)
  case atStart => exact ⟨0, Nat.zero_le _, rfl, rfl, Lib.hid (Kept.refl _)⟩
  case round =>
    obtain ⟨i, hi, rfl, rfl, hK⟩ := hrel
    by_cases hlt : i < l.length
    · have hltI : (i : Int) < l.length := by omega
      obtain ⟨x, hx⟩ : ∃ x, l[i]? = some x := ⟨_, List.getElem?_eq_getElem hlt⟩
      obtain ⟨-, g, o, rfl, hc, p0, p1, p2, p3, p4, p5, p6⟩ := (HR.out.kept hK.out).at hx
      obtain ⟨f0, f1, f2, f3⟩ := HF.out x (List.mem_of_getElem? hx)
      have HS := Lib.hid (txt_next hx)
      have hlen2 := txt_part l (i + 1)
      rw [HS.out, List.length_append] at hlen2
      have hacc : (txt (l.take i)).length ≤ 1000000 := by have := HB.out; omega
      clear hx
      have D0 := Lib.hid (Eb.new wr x)
      have kd := (Kept.refl wr).alloc (.cells (e5 x) 48)
      have K1 := Lib.hid (hK.out.trans kd)
      have HT := Lib.hid (rtitle_any x)
      have ht := tl_len x.title
      have hof := ofP_len x.text
      have HW1 := Lib.hid (fun w => rwrap_any (tl x.title) 72 w (by omega))
      have HW2 := Lib.hid (fun w => rwrap_any (ofP x.text) 72 w (by omega))
      have HO := Lib.hid (fun w => rof_any x.text w (by omega))
      have m1 := wrp_lnE 72 (tl x.title)
      have m2 := wrp_lnE 72 (ofP x.text)
      have e1 := wrp_ne (tl x.title)
      have e2 := wrp_ne (ofP x.text)
      have P0 := Lib.hid (par_T0 (x := x))
      have P1 := Lib.hid (par_T1 (x := x))
      have P2 := Lib.hid (par_T2 (x := x))
      have P3 := Lib.hid (par_T3 (x := x))
      generalize par x = PA at *
      obtain ⟨a5, a6, a0, a1, a2, a3, a4⟩ := x
      simp only at p0 p1 p2 p3 p4 p5 p6 f0 f1 f2 f3 HT HW1 HW2 HO m1 m2 e1 e2 P0 P1 P2 P3 ht hof
      generalize hT : ofP a3 = T at *
      have hTl : T.length ≤ 602 := by omega
      generalize tl a1 = t1 at *
      generalize wrp 72 t1 = L1 at *
      generalize wrp 72 T = L3 at *
      have hL1 : (lnE L1).length ≤ 700 := by omega
      have hL3 : (lnE L3).length ≤ 1300 := by omega
      have HL1 := Lib.hid (fun B0 v w h => rlines_any B0 v L1 w h e1 (by omega))
      have HL3 := Lib.hid (fun B0 v w h => rlines_any B0 v L3 w h e2 (by omega))
      generalize txt (l.take i) = acc at *
      generalize lnE L1 = s1 at *
      generalize lnE L3 = s3 at *
      clear kd hK m1 m2 e1 e2 ht hof hT hlen2 f0 f1 f3
      go_upto_region 6 with (fail)
      rw [show wr.alloc (.cells #[sV a0, sV a1, sV a2, sV a3, iV a4] 48) = wr.alloc (.cells (e5 ⟨a5, a6, a0, a1, a2, a3, a4⟩) 48) from rfl]
      generalize wr.heap.size = d at *
      generalize wr.alloc (.cells (e5 ⟨a5, a6, a0, a1, a2, a3, a4⟩) 48) = x0 at *
      have c0 := Eb.c0 D0.out
      have c1 := Eb.c1 D0.out
      have c2 := Eb.c2 D0.out
      have c3 := Eb.c3 D0.out
      have c4 := Eb.c4 D0.out
      simp only at c0 c1 c2 c3 c4
      go_wp2_with fail
      refine (HT.out _).mono ?_
      rintro e y1 ⟨rfl, k1⟩
      have K2 := Lib.hid (K1.out.trans k1)
      have D1 := Lib.hid (D0.out.kept k1)
      clear k1 c0 c1 c2 c3 c4 p0 p1 p2 p3 p4 p5 p6 K1 D0
      go_wp2_with fail
      refine (HW1.out _).mono ?_
      rintro e y2 ⟨vw, rfl, ho, k2⟩
      have K3 := Lib.hid (K2.out.trans k2)
      have D2 := Lib.hid (D1.out.kept k2)
      have HLa := Lib.hid (HL1.out _ _ _ ho)
      clear k2 ho K2 D1
      go_wp2_with fail
      refine HLa.out.mono ?_
      rintro e y3 ⟨rfl, rfl⟩
      have c2 := Eb.c2 D2.out
      have c3 := Eb.c3 D2.out
      simp only at c2 c3
      cases hlk : a2.isEmpty with
      | true =>
        have HL0 := Lib.hid (show a2 = [] by simpa using hlk)
        go_wp2_with fail
        refine (HO.out _).mono ?_
        rintro e y4 ⟨rfl, k4⟩
        have K4 := Lib.hid (K3.out.trans k4)
        clear k4 K3
        cases ht : T.isEmpty with
        | true =>
          have HT0 := Lib.hid (show T = [] by simpa using ht)
          have HCT := Lib.hid (catT0 acc s1)
          go_wp2
          go_roundw
          case rel => exact ⟨i + 1, hlt, by go_num, by rw [HS.out, P0.out HL0.out HT0.out]; exact congrArg Value.string HCT.out, K4⟩
          case measure => simp [intOf]; omega
        | false =>
          have HT0 := Lib.hid (show ¬ T = [] by intro e; rw [e] at ht; cases ht)
          go_wp2_with fail
          refine (HW2.out _).mono ?_
          rintro e y5 ⟨vw2, rfl, ho, k5⟩
          have K5 := Lib.hid (K4.out.trans k5)
          have HLb := Lib.hid (HL3.out _ _ _ ho)
          clear k5 ho K4
          go_wp2_with fail
          refine HLb.out.mono ?_
          rintro e y6 ⟨rfl, rfl⟩
          have HCT := Lib.hid (catT2 acc s1 s3)
          go_wp2
          go_roundw
          case rel => exact ⟨i + 1, hlt, by go_num, by rw [HS.out, P2.out HL0.out HT0.out]; exact congrArg Value.string HCT.out, K5⟩
          case measure => simp [intOf]; omega
      | false =>
        have HL0 := Lib.hid (show ¬ a2 = [] by intro e; rw [e] at hlk; cases hlk)
        go_wp2_with fail
        refine (HO.out _).mono ?_
        rintro e y4 ⟨rfl, k4⟩
        have K4 := Lib.hid (K3.out.trans k4)
        clear k4 K3
        cases ht : T.isEmpty with
        | true =>
          have HT0 := Lib.hid (show T = [] by simpa using ht)
          have HCT := Lib.hid (catT1 acc s1 a2)
          go_wp2
          go_roundw
          case rel => exact ⟨i + 1, hlt, by go_num, by rw [HS.out, P1.out HL0.out HT0.out]; exact congrArg Value.string HCT.out, K4⟩
          case measure => simp [intOf]; omega
        | false =>
          have HT0 := Lib.hid (show ¬ T = [] by intro e; rw [e] at ht; cases ht)
          go_wp2_with fail
          refine (HW2.out _).mono ?_
          rintro e y5 ⟨vw2, rfl, ho, k5⟩
          have K5 := Lib.hid (K4.out.trans k5)
          have HLb := Lib.hid (HL3.out _ _ _ ho)
          clear k5 ho K4
          go_wp2_with fail
          refine HLb.out.mono ?_
          rintro e y6 ⟨rfl, rfl⟩
          have HCT := Lib.hid (catT3 acc s1 a2 s3)
          go_wp2
          go_roundw
          case rel => exact ⟨i + 1, hlt, by go_num, by rw [HS.out, P3.out HL0.out HT0.out]; exact congrArg Value.string HCT.out, K5⟩
          case measure => simp [intOf]; omega
    · obtain rfl : i = l.length := by omega
      have hltI : ¬ (l.length : Int) < l.length := by omega
      have HT := Lib.hid (show l.take l.length = l from List.take_length)
      go_wp2
      go_ret
      exact ⟨by first | rfl | (rw [HT.out]; done) | (rw [HT.out]; rfl), hK.out⟩
theorem catH (a b c : B) : (⟨a.toArray⟩ : ByteArray) ++ ⟨#[60, 108, 105, 62, 60, 97, 32, 104, 114, 101, 102, 61, 34]⟩ ++ ⟨b.toArray⟩ ++ ⟨#[34, 62]⟩ ++ ⟨c.toArray⟩ ++ ⟨#[60, 47, 97, 62, 60, 47, 108, 105, 62, 10]⟩ = ⟨(a ++ (liA ++ (b ++ (liB ++ (c ++ liC))))).toArray⟩ := by
  apply ByteArray.ext
  simp [ByteArray.data_append, liA, liB, liC]
theorem catU (a : B) : (⟨a.toArray⟩ : ByteArray) ++ ⟨#[60, 47, 117, 108, 62, 10]⟩ = ⟨(a ++ ulB).toArray⟩ := by
  apply ByteArray.ext
  simp [ByteArray.data_append, ulB]
set_option maxRecDepth 100000 in
set_option maxHeartbeats 8000000 in
theorem rhtml_any (v : Value) (l : List It) (w : World) (hR : ItRd v l w) (n : Nat) (hF : Fw l n) (hn : n ≤ 100) : Calls Tryz.prog 16 #[v] w fun e w' => e = .returned (sV (htm l)) ∧ Kept w w' := by
  obtain ⟨va, vc, rfl⟩ := hR.slice
  have HR := Lib.hid hR
  have HF := Lib.hid hF.2
  have hl := hF.1
  have HB := Lib.hid (show 5 + (l.flatMap li).length + 6 ≤ 1000000 by have := hF.htm; unfold htm ulA ulB at this; simp only [List.length_append, List.length_cons, List.length_nil] at this; omega)
  have HU := Lib.hid (show htm l = (ulA ++ l.flatMap li) ++ ulB by unfold htm; rw [List.append_assoc])
  generalize htm l = H at *
  clear hR hF
  go_enter Tryz.func16, Tryz.ntmps16
  go_wp2_with fail
  go_loopw [3, 4, 5] (fun vo vi _ wr => ∃ i : Nat, i ≤ l.length ∧ vi = .int .i64 i ∧ vo = sV (ulA ++ (l.take i).flatMap li) ∧ Hid (Kept w wr)) (fun _ vi _ _ => l.length - (intOf vi).toNat)
  case atStart => exact ⟨0, Nat.zero_le _, rfl, rfl, Lib.hid (Kept.refl _)⟩
  case round =>
    obtain ⟨i, hi, rfl, rfl, hK⟩ := hrel
    by_cases hlt : i < l.length
    · have hltI : (i : Int) < l.length := by omega
      obtain ⟨x, hx⟩ : ∃ x, l[i]? = some x := ⟨_, List.getElem?_eq_getElem hlt⟩
      obtain ⟨-, g, o, rfl, hc, p0, p1, p2, p3, p4, p5, p6⟩ := (HR.out.kept hK.out).at hx
      obtain ⟨f0, f1, f2, f3⟩ := HF.out x (List.mem_of_getElem? hx)
      have HS := Lib.hid (show ulA ++ (l.take (i + 1)).flatMap li = (ulA ++ (l.take i).flatMap li) ++ li x by rw [flat_take li hx, List.append_assoc])
      have hacc : (ulA ++ (l.take i).flatMap li).length ≤ 1000000 := by
        have h1 := flat_part li l i
        have h2 := HB.out
        rw [List.length_append, show ulA.length = 5 from rfl]
        omega
      clear hx
      have D0 := Lib.hid (Eb.new wr x)
      have kd := (Kept.refl wr).alloc (.cells (e5 x) 48)
      have K1 := Lib.hid (hK.out.trans kd)
      have HT := Lib.hid (rtitle_any x)
      have ht := tl_len x.title
      have HL := Lib.hid (show li x = liA ++ (enc x.link ++ (liB ++ (enc (tl x.title) ++ liC))) from rfl)
      have E2 := Lib.hid (fun w => rencode_any x.link w (by omega))
      have E1 := Lib.hid (fun w => rencode_any (tl x.title) w (by omega))
      have q2 := enc_len x.link
      have q1 := enc_len (tl x.title)
      generalize li x = LI at *
      obtain ⟨a5, a6, a0, a1, a2, a3, a4⟩ := x
      simp only at p0 p1 p2 p3 p4 p5 p6 f0 f1 f2 f3 HT HL E1 E2 q1 q2 ht
      generalize enc a2 = x2 at *
      generalize enc (tl a1) = x1 at *
      generalize tl a1 = t1 at *
      generalize ulA ++ (l.take i).flatMap li = acc at *
      have l1 : ¬ 9223372036854775807 < acc.length + 13 := by omega
      have l2 : ¬ 9223372036854775807 < acc.length + 13 + x2.length := by omega
      have l3 : ¬ 9223372036854775807 < acc.length + 13 + x2.length + 2 := by omega
      have l4 : ¬ 9223372036854775807 < acc.length + 13 + x2.length + 2 + x1.length := by omega
      have l5 : ¬ 9223372036854775807 < acc.length + 13 + x2.length + 2 + x1.length + 10 := by omega
      clear kd hK q1 q2 ht f0 f1 f2 f3
      go_upto_region 6 with (fail)
      rw [show wr.alloc (.cells #[sV a0, sV a1, sV a2, sV a3, iV a4] 48) = wr.alloc (.cells (e5 ⟨a5, a6, a0, a1, a2, a3, a4⟩) 48) from rfl]
      generalize wr.heap.size = d at *
      generalize wr.alloc (.cells (e5 ⟨a5, a6, a0, a1, a2, a3, a4⟩) 48) = y at *
      have c0 := Eb.c0 D0.out
      have c1 := Eb.c1 D0.out
      have c2 := Eb.c2 D0.out
      have c3 := Eb.c3 D0.out
      have c4 := Eb.c4 D0.out
      simp only at c0 c1 c2 c3 c4
      have hb : d < y.heap.size := Eb.lt D0.out
      clear p0 p1 p2 p3 p4 p5 p6
      go_region_held3 (fun x => Kept y x ∧ x.cell? ⟨d, 0, none⟩ = some (sV a0) ∧ x.cell? ⟨d, 1, none⟩ = some (sV a1) ∧ x.cell? ⟨d, 2, none⟩ = some (sV a2) ∧ x.cell? ⟨d, 3, none⟩ = some (sV a3) ∧ x.cell? ⟨d, 4, none⟩ = some (iV a4))
        (first | exact held5 (by assumption) (by assumption) hb | assumption | exact ⟨(Kept.refl y).drew, c0, c1, c2, c3, c4⟩)
        (first | (go_at_call_of 23 (sV a2); refine (E2.out _).mono ?_; rintro e w' ⟨rfl, hk'⟩)
               | (go_at_call_of 23 (sV t1); refine (E1.out _).mono ?_; rintro e w' ⟨rfl, hk'⟩)
               | (go_at_call 38; refine (HT.out _).mono ?_; rintro e w' ⟨rfl, hk'⟩))
      have hKy := (‹Kept y _ ∧ _›).1
      have K9 := Lib.hid (K1.out.trans hKy)
      have HCT := Lib.hid (catH acc x2 x1)
      clear hKy
      go_wp2
      go_roundw
      case rel => exact ⟨i + 1, hlt, by go_num, by rw [HS.out, HL.out]; exact congrArg Value.string HCT.out, K9⟩
      case measure => simp [intOf]; omega
    · obtain rfl : i = l.length := by omega
      have hltI : ¬ (l.length : Int) < l.length := by omega
      rw [List.take_length]
      have hlen : (ulA ++ l.flatMap li).length ≤ 1000000 := by have := HB.out; rw [List.length_append, show ulA.length = 5 from rfl]; omega
      have HCU := Lib.hid (catU (ulA ++ l.flatMap li))
      generalize ulA ++ l.flatMap li = acc at *
      go_wp2
      go_ret
      exact ⟨by rw [HU.out]; exact congrArg (fun s => Ending.returned (Value.string s)) HCU.out, hK.out⟩
end Go.Proofs.YtjlpkgipdkjfhaaGreatDoor.Dg
