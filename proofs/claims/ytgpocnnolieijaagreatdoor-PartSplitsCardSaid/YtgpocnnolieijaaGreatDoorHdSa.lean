/- The document's answer for package head: a coded word's part, the text of words. -/
import Derived.Test.YtgpocnnolieijaaGreatDoorMgI
import Derived.Test.YtgpocnnolieijaaGreatDoorMgH
set_option linter.unusedSimpArgs false
set_option linter.unusedVariables false
namespace Go.Proofs.YtgpocnnolieijaaGreatDoor.Hd
open Go.ChangeShapes Go.WideShapes Go.ChangeAt Go.RowKit Go.Shelf
open Bx (byt)
theorem cut_to' (l : List UInt8) (y : Int) (b : Nat) (hy : y = b) (h1 : b ≤ l.length) (W : World) :
    (Instr.slice 9 (.string ⟨l.toArray⟩) none (some (.int .i64 y)) none).run Tryz.prog W = .ok (.string ⟨(l.take b).toArray⟩) W := by
  subst hy
  exact cut_to l b h1 W
theorem cut_both' (l : List UInt8) (x y : Int) (a b : Nat) (hx : x = a) (hy : y = b) (h1 : a ≤ b) (h2 : b ≤ l.length) (W : World) :
    (Instr.slice 9 (.string ⟨l.toArray⟩) (some (.int .i64 x)) (some (.int .i64 y)) none).run Tryz.prog W = .ok (.string ⟨((l.take b).drop a).toArray⟩) W := by
  subst hx hy
  exact cut_both l a b h1 h2 W
theorem decW_short {w : B} (h : w.length < 12) : decW w = none := by
  unfold decW
  rw [if_neg]
  rintro ⟨_, h2⟩
  rw [List.isSuffixOf_iff_suffix] at h2
  have := h2.length_le
  simp [cls] at this
  omega
theorem pre_take {w : B} (h : ¬ w.length < 12) : opn.isPrefixOf w = true ↔ w.take 10 = opn := by
  rw [List.isPrefixOf_iff_prefix, List.prefix_iff_eq_take]
  exact eq_comm
theorem suf_drop {w : B} (h : ¬ w.length < 12) : cls.isSuffixOf (w.drop 10) = true ↔ w.drop (w.length - 2) = cls := by
  rw [List.isSuffixOf_iff_suffix, List.suffix_iff_eq_drop, List.drop_drop, List.length_drop, show 10 + (w.length - 10 - cls.length) = w.length - 2 by simp [cls]; omega]
  exact eq_comm
theorem decW_long {w : B} (h : ¬ w.length < 12) (h1 : w.take 10 = opn) (h2 : w.drop (w.length - 2) = cls) : decW w = byt ((w.take (w.length - 2)).drop 10) := by
  unfold decW
  rw [if_pos ⟨(pre_take h).2 h1, (suf_drop h).2 h2⟩, List.drop_take, List.length_drop, show w.length - 10 - 2 = w.length - 2 - 10 by omega]
theorem decW_no1 {w : B} (h : ¬ w.length < 12) (h1 : w.take 10 ≠ opn) : decW w = none := by
  unfold decW
  rw [if_neg]
  rintro ⟨h3, _⟩
  exact h1 ((pre_take h).1 h3)
theorem decW_no2 {w : B} (h : ¬ w.length < 12) (h1 : w.drop (w.length - 2) ≠ cls) : decW w = none := by
  unfold decW
  rw [if_neg]
  rintro ⟨_, h3⟩
  exact h1 ((suf_drop h).1 h3)
set_option maxRecDepth 100000 in
set_option maxHeartbeats 4000000 in
theorem rcoded_any (t : B) (w : World) (hl : t.length ≤ 1000000) : Calls Tryz.prog 112 #[sV t] w fun e w' => e = .returned (.tuple #[sV ((decW t).getD []), .bool (decW t).isSome]) ∧ Kept w w' := by
  have hts : (ByteArray.mk t.toArray).size = t.length := List.size_toArray
  by_cases h12 : t.length < 12
  · have hD := decW_short h12
    rw [hD]
    have hI : (t.length : Int) < 12 := by omega
    clear hD
    go_enter Tryz.func112, Tryz.ntmps112
    go_wp2
    go_ret2
    exact ⟨rfl, Kept.refl _⟩
  have hI : ¬ (t.length : Int) < 12 := by omega
  have hwr : IntKind.i64.wrap ((t.length : Int) - 2) = (t.length : Int) - 2 := by simp only [IntKind.wrap_i64]; omega
  have hc1 := fun W => cut_to' t 10 10 rfl (by omega) W
  have hc2 := fun W => cut_from t ((t.length : Int) - 2) (t.length - 2) (by omega) (by omega) W
  have hc3 := fun W => cut_both' t 10 ((t.length : Int) - 2) 10 (t.length - 2) rfl (by omega) (by omega) (by omega) W
  by_cases hp : t.take 10 = opn
  · have hq1 : (t.take 10 == [61, 63, 117, 116, 102, 45, 56, 63, 66, 63]) = true := by
      rw [hp]; rfl
    by_cases hs : t.drop (t.length - 2) = cls
    · have hq2 : (t.drop (t.length - 2) == [63, 61]) = true := by
        rw [hs]; rfl
      have hD := decW_long h12 hp hs
      rw [hD]
      have hyl : ((t.take (t.length - 2)).drop 10).length ≤ 1000000 := by simp; omega
      clear hD hp hs h12
      generalize (t.take (t.length - 2)).drop 10 = y at *
      generalize t.take 10 = P at *
      generalize t.drop (t.length - 2) = Q at *
      have HB := Lib.hid (fun w => rbytes_any y w hyl)
      have HQ : (bE y = 0 ∧ (byt y).isSome = true) ∨ (bE y = 2 ∧ (byt y).isSome = false) := by
        cases hb : byt y with
        | none => exact Or.inr ⟨bE_none hb, rfl⟩
        | some p => exact Or.inl ⟨bE_some hb, rfl⟩
      replace HQ := Lib.hid HQ
      unfold BytR at HB
      generalize (byt y).getD [] = p at *
      generalize (byt y).isSome = is at *
      generalize bE y = ee at *
      clear hyl
      go_enter Tryz.func112, Tryz.ntmps112
      go_wp2_with fail
      refine (HB.out _).mono ?_
      rintro e x1 ⟨_, rfl, ⟨xv, hxo, rfl⟩, k1⟩
      have hcv := hxo.rd.conv
      obtain ⟨ba, bc, hbv⟩ := own_slice hxo
      subst hbv
      clear hxo HB hc1 hc2 hc3 hq1 hq2
      rcases HQ.out with ⟨rfl, rfl⟩ | ⟨rfl, rfl⟩
      · go_wp2_with fail
        go_ret2
        exact ⟨rfl, k1⟩
      · go_wp2_with fail
        go_ret2
        exact ⟨rfl, k1⟩
    · have hq2 : (t.drop (t.length - 2) == [63, 61]) = false := beq_eq_false_iff_ne.2 hs
      have hD := decW_no2 h12 hs
      rw [hD]
      clear hD hp hs h12 hc3
      generalize t.take 10 = P at *
      generalize t.drop (t.length - 2) = Q at *
      go_enter Tryz.func112, Tryz.ntmps112
      go_wp2
      go_ret2
      exact ⟨rfl, Kept.refl _⟩
  · have hq1 : (t.take 10 == [61, 63, 117, 116, 102, 45, 56, 63, 66, 63]) = false := beq_eq_false_iff_ne.2 hp
    have hD := decW_no1 h12 hp
    rw [hD]
    clear hD hp h12 hc2 hc3
    generalize t.take 10 = P at *
    go_enter Tryz.func112, Tryz.ntmps112
    go_wp2
    go_ret2
    exact ⟨rfl, Kept.refl _⟩
/-! the text of words -/
theorem parts_snoc : ∀ (a : List B) (t : B), parts (a ++ [t]) = (parts a).bind fun x => (decW t).map (x ++ ·)
  | [], t => by
    show parts [t] = _
    unfold parts
    cases decW t <;> simp [parts]
  | w :: a, t => by
    rw [List.cons_append, parts, parts, parts_snoc a t]
    cases decW w with
    | none => rfl
    | some p =>
      simp only
      cases parts a with
      | none => rfl
      | some x =>
        cases decW t with
        | none => rfl
        | some q => simp
theorem parts_next {ls : List B} {i : Nat} {t : B} (h : ls[i]? = some t) : parts (ls.take (i + 1)) = (parts (ls.take i)).bind fun x => (decW t).map (x ++ ·) := by
  rw [List.take_add_one, h]
  exact parts_snoc _ t
theorem ic_snoc : ∀ (a : List B) (t : B), a ≠ [] → List.intercalate [32] (a ++ [t]) = (List.intercalate [32] a ++ [32]) ++ t
  | [], t, h => absurd rfl h
  | [w], t, _ => by simp [List.intercalate]
  | w :: v :: a, t, _ => by
    have ih := ic_snoc (v :: a) t (by simp)
    have e1 : List.intercalate [32] ((w :: v :: a) ++ [t]) = w ++ 32 :: List.intercalate [32] ((v :: a) ++ [t]) := by simp [List.intercalate]
    have e2 : List.intercalate [32] (w :: v :: a) = w ++ 32 :: List.intercalate [32] (v :: a) := by simp [List.intercalate]
    rw [e1, ih, e2]; simp
theorem ic_take {ls : List B} {i : Nat} {t : B} (h : ls[i]? = some t) (h0 : i ≠ 0) : List.intercalate [32] (ls.take (i + 1)) = (List.intercalate [32] (ls.take i) ++ [32]) ++ t := by
  rw [List.take_add_one, h]
  refine ic_snoc _ t (fun e => ?_)
  have hi := (List.getElem?_eq_some_iff.1 h).1
  have h1 : (ls.take i).length = i := by rw [List.length_take]; omega
  rw [e] at h1
  exact h0 h1.symm
theorem ic_one {ls : List B} {t : B} (h : ls[0]? = some t) : List.intercalate [32] (ls.take 1) = t := by
  cases ls with
  | nil => simp at h
  | cons a l => simp at h; subst h; simp [List.intercalate]
theorem ic_len : ∀ l : List B, (List.intercalate [32] l).length ≤ sumW l
  | [] => by simp [List.intercalate, sumW]
  | [w] => by simp [List.intercalate, sumW]
  | w :: v :: a => by
    have ih := ic_len (v :: a)
    have e2 : List.intercalate [32] (w :: v :: a) = w ++ 32 :: List.intercalate [32] (v :: a) := by simp [List.intercalate]
    rw [e2, sumW]
    simp
    omega
theorem sumW_take : ∀ (l : List B) (i : Nat), sumW (l.take i) ≤ sumW l
  | [], i => by simp
  | w :: l, 0 => by simp [sumW]
  | w :: l, i + 1 => by rw [List.take_succ_cons, sumW, sumW]; have := sumW_take l i; omega
theorem sumW_next {l : List B} {i : Nat} {t : B} (h : l[i]? = some t) : sumW (l.take (i + 1)) = sumW (l.take i) + (t.length + 3) := by
  induction l generalizing i with
  | nil => simp at h
  | cons w l ih =>
    cases i with
    | zero => simp at h; subst h; simp [sumW]
    | succ i =>
      rw [List.take_succ_cons, List.take_succ_cons, sumW, sumW, ih (by simpa using h)]; omega
theorem getD_len {t : B} : ((decW t).getD []).length ≤ t.length := by
  cases h : decW t with
  | none => simp
  | some p => exact decW_len h
set_option maxRecDepth 100000 in
set_option maxHeartbeats 4000000 in
theorem rvalue_any (v : Value) (ls : List B) (w : World) (hS : SRd v ls w) (hl : sumW ls ≤ 1000000) : Calls Tryz.prog 87 #[v] w fun e w' => e = .returned (sV (val ls)) ∧ Kept w w' := by
  obtain ⟨va, vc, hvv⟩ := hS.slice
  subst hvv
  have HS := Lib.hid hS
  have hcl := sumW_len ls
  have hwn := hcl.1
  have HW := Lib.hid hcl.2
  clear hS hcl
  go_enter Tryz.func87, Tryz.ntmps87
  go_wp2_with fail
  go_loopw [3, 4, 5, 6, 7, 8] (fun vp va vc vi _ _ wr => ∃ (i : Nat) (c : Bool) (A : B), i ≤ ls.length ∧ A.length ≤ sumW (ls.take i) ∧ vp = sV (List.intercalate [32] (ls.take i)) ∧ va = sV A ∧ vc = .bool c ∧ vi = .int .i64 i ∧ Hid (c = (parts (ls.take i)).isSome) ∧ Hid (c = true → parts (ls.take i) = some A) ∧ Hid (Kept w wr)) (fun _ _ _ vi _ _ _ => ls.length - (intOf vi).toNat)
  case atStart => exact ⟨0, true, [], Nat.zero_le _, Nat.zero_le _, by simp [List.intercalate], rfl, rfl, rfl, Lib.hid (by simp [parts]), Lib.hid (fun _ => by simp [parts]), Lib.hid (Kept.refl w)⟩
  case round =>
    obtain ⟨i, c, A, hi, hAl, rfl, rfl, rfl, rfl, hC, hP, hK⟩ := hrel
    have hPl := ic_len (ls.take i)
    have hsl := sumW_take ls i
    by_cases hlt : i < ls.length
    · have hltI : (i : Int) < ls.length := by omega
      obtain ⟨t, ht⟩ : ∃ t, ls[i]? = some t := ⟨_, List.getElem?_eq_getElem hlt⟩
      obtain ⟨g, o, cc, hv', hcp, cell⟩ := (HS.out.kept hK.out).at ht
      injection hv' with ea _ ec
      subst ea ec
      have htl := HW.out t (List.mem_of_getElem? ht)
      have hsn := sumW_next ht
      have HD := Lib.hid (fun w => rcoded_any t w (by omega))
      have hgl := getD_len (t := t)
      have HPT := Lib.hid (parts_next ht)
      have happ : (⟨A.toArray⟩ ++ ⟨((decW t).getD []).toArray⟩ : ByteArray) = ⟨(A ++ (decW t).getD []).toArray⟩ := app_mk _ _
      have hA2 : (A ++ (decW t).getD []).length ≤ sumW (ls.take (i + 1)) := by rw [List.length_append, hsn]; omega
      have HC2 : Hid ((c && (decW t).isSome) = (parts (ls.take (i + 1))).isSome) := Lib.hid (by
        rw [HPT.out, hC.out]
        cases parts (ls.take i) <;> cases decW t <;> rfl)
      have HP2 : Hid ((c && (decW t).isSome) = true → parts (ls.take (i + 1)) = some (A ++ (decW t).getD [])) := Lib.hid (fun q => by
        rw [Bool.and_eq_true] at q
        rw [HPT.out, hP.out q.1]
        cases hd : decW t with
        | none => rw [hd] at q; cases q.2
        | some p => rfl)
      generalize hA' : A ++ (decW t).getD [] = A2 at *
      generalize (decW t).getD [] = p at *
      generalize (decW t).isSome = is at *
      clear hC hP HPT hA'
      by_cases h0 : i = 0
      · subst h0
        have HI := Lib.hid (ic_one ht)
        have HI0 := Lib.hid (show List.intercalate [32] (ls.take 0) = [] by simp [List.intercalate])
        rw [HI0.out]
        have happ3 : (⟨#[]⟩ ++ ⟨t.toArray⟩ : ByteArray) = ⟨t.toArray⟩ := app_mk [] t
        rw [Nat.add_zero] at cell
        clear ht hPl
        go_wp2_with fail
        refine (HD.out _).mono ?_
        rintro e x1 ⟨rfl, k1⟩
        have K1 := Lib.hid (hK.out.trans k1)
        have cell1 := k1.yes cell
        clear k1 hK HD cell
        cases c with
        | true =>
          go_wp2_with fail
          go_roundw
          case rel => exact ⟨1, is, A2, hlt, hA2, by rw [HI.out], rfl, rfl, by go_num, HC2, HP2, K1⟩
          case measure => simp [intOf]; omega
        | false =>
          go_wp2_with fail
          go_roundw
          case rel => exact ⟨1, false, A2, hlt, hA2, by rw [HI.out], rfl, rfl, by go_num, HC2, HP2, K1⟩
          case measure => simp [intOf]; omega
      · have h0I : 0 < (i : Int) := by omega
        have HI := Lib.hid (ic_take ht h0)
        clear ht
        generalize List.intercalate [32] (ls.take i) = P at *
        have happ1 : (⟨P.toArray⟩ ++ ⟨#[32]⟩ : ByteArray) = ⟨(P ++ [32]).toArray⟩ := app_mk P [32]
        have happ3 : (⟨(P ++ [32]).toArray⟩ ++ ⟨t.toArray⟩ : ByteArray) = ⟨((P ++ [32]) ++ t).toArray⟩ := app_mk _ t
        have hP1 : (P ++ [32]).length ≤ 1000001 := by simp; omega
        generalize (P ++ [32]) ++ t = P3 at *
        generalize P ++ [32] = P1 at *
        go_wp2_with fail
        refine (HD.out _).mono ?_
        rintro e x1 ⟨rfl, k1⟩
        have K1 := Lib.hid (hK.out.trans k1)
        have cell1 := k1.yes cell
        clear k1 hK HD cell
        cases c with
        | true =>
          go_wp2_with fail
          go_roundw
          case rel => exact ⟨i + 1, is, A2, hlt, hA2, by rw [HI.out], rfl, rfl, by go_num, HC2, HP2, K1⟩
          case measure => simp [intOf]; omega
        | false =>
          go_wp2_with fail
          go_roundw
          case rel => exact ⟨i + 1, false, A2, hlt, hA2, by rw [HI.out], rfl, rfl, by go_num, HC2, HP2, K1⟩
          case measure => simp [intOf]; omega
    · have hltI : ¬ (i : Int) < ls.length := by omega
      obtain rfl : i = ls.length := by omega
      simp only [List.take_length] at hC hP ⊢
      cases c with
      | true =>
        have HV := Lib.hid (show val ls = A by unfold val; rw [hP.out rfl]; rfl)
        clear hC hP
        go_wp2
        go_ret
        exact ⟨by rw [HV.out]; rfl, hK.out⟩
      | false =>
        have HV := Lib.hid (show val ls = List.intercalate [32] ls by
          unfold val
          have := hC.out
          cases hp : parts ls with
          | none => rfl
          | some x => rw [hp] at this; cases this)
        clear hC hP
        go_wp2
        go_ret
        exact ⟨by rw [HV.out]; rfl, hK.out⟩
end Go.Proofs.YtgpocnnolieijaaGreatDoor.Hd
