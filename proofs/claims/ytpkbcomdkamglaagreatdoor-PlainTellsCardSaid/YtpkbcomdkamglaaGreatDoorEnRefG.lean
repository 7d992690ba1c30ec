/- The document's own answers of layer ent: a text gone through; Decode, Loose. -/
import Derived.Test.YtpkbcomdkamglaaGreatDoorEnRefF
import Derived.Test.YtpkbcomdkamglaaGreatDoorEnRn
set_option linter.unusedSimpArgs false
set_option linter.unusedVariables false
namespace Go.Proofs.YtpkbcomdkamglaaGreatDoor
open Go.ChangeShapes Go.WideShapes Go.ChangeAt Go.RowKit
open En
theorem en_bd (l : List UInt8) (k : Nat) : en (l.drop (k + 1)) = (bdO l k).bind fun b => (sg b).map fun x => (x, b.length + 1) := rfl
theorem bdO_le {l b : List UInt8} {k : Nat} (hk : k < l.length) (h : bdO l k = some b) : k + b.length + 2 ≤ l.length := by
  have := (bdF_len _ _ _ _ h).1
  rw [List.length_drop] at this
  simp at this; omega
/-- one step on -/
theorem gone_amp {l b x : List UInt8} {k : Nat} (h : l[k]? = some 38) (hb : bdO l k = some b) (hs : sg b = some x) :
    gone (l.drop k) = (x ++ (gone (l.drop (k + b.length + 2))).1, (gone (l.drop (k + b.length + 2))).2) := by
  rw [drop_at h, gone_cons, if_pos rfl, en_bd, hb]
  simp only [Option.bind_some, hs, Option.map_some]
  rw [List.drop_drop, show k + 1 + (b.length + 1) = k + b.length + 2 by omega]
theorem gone_bad {l : List UInt8} {k : Nat} (h : l[k]? = some 38) (hb : en (l.drop (k + 1)) = none) :
    gone (l.drop k) = (38 :: (gone (l.drop (k + 1))).1, false) := by
  rw [drop_at h, gone_cons, if_pos rfl, hb]
theorem gone_other {l : List UInt8} {a : UInt8} {k : Nat} (h : l[k]? = some a) (ha : ¬ a = 38) :
    gone (l.drop k) = (a :: (gone (l.drop (k + 1))).1, (gone (l.drop (k + 1))).2) := by
  rw [drop_at h, gone_cons, if_neg ha]
theorem sg_nil : sg [] = none := sg_short (by simp)
theorem en_none {l : List UInt8} {k : Nat} (h : (sg ((bdO l k).getD [])).isSome = false ∨ bdO l k = none) : en (l.drop (k + 1)) = none := by
  rw [en_bd]
  cases hb : bdO l k with
  | none => rfl
  | some b =>
    rw [hb] at h
    simp only [Option.getD_some, Option.isSome_eq_false_iff, Option.isNone_iff_eq_none] at h
    rcases h with h | h
    · simp [h]
    · cases h
/-- a text gone through up to a place -/
def GoneAt (l done : List UInt8) (k : Nat) (f : Bool) : Prop := gone l = (done ++ (gone (l.drop k)).1, f && (gone (l.drop k)).2) ∧ done.length ≤ k ∧ k ≤ l.length
theorem GoneAt.init (l : List UInt8) : GoneAt l [] 0 true := ⟨by simp, by simp, Nat.zero_le _⟩
theorem GoneAt.fin {l done : List UInt8} {f : Bool} (h : GoneAt l done l.length f) : gone l = (done, f) := by
  rw [h.1, List.drop_eq_nil_of_le (Nat.le_refl _)]; simp [gone_nil]
theorem GoneAt.amp {l done b x : List UInt8} {k : Nat} {f : Bool} (h : GoneAt l done k f) (ha : l[k]? = some 38) (hb : bdO l k = some b) (hs : sg b = some x) : GoneAt l (done ++ x) (k + b.length + 2) f := by
  have hlt := (List.getElem?_eq_some_iff.1 ha).1
  have h3 := sg_len hs
  refine ⟨?_, by rw [List.length_append]; have := h.2.1; omega, bdO_le hlt hb⟩
  rw [h.1, gone_amp ha hb hs]; simp
theorem GoneAt.bad {l done : List UInt8} {k : Nat} {f : Bool} (h : GoneAt l done k f) (ha : l[k]? = some 38) (hb : en (l.drop (k + 1)) = none) : GoneAt l (done ++ [38]) (k + 1) false := by
  have hlt := (List.getElem?_eq_some_iff.1 ha).1
  refine ⟨?_, by rw [List.length_append]; have := h.2.1; simp; omega, hlt⟩
  rw [h.1, gone_bad ha hb]; simp
theorem GoneAt.other {l done : List UInt8} {a : UInt8} {k : Nat} {f : Bool} (h : GoneAt l done k f) (ha : l[k]? = some a) (hn : ¬ a = 38) : GoneAt l (done ++ [a]) (k + 1) f := by
  have hlt := (List.getElem?_eq_some_iff.1 ha).1
  refine ⟨?_, by rw [List.length_append]; have := h.2.1; simp; omega, hlt⟩
  rw [h.1, gone_other ha hn]; simp
set_option maxRecDepth 100000 in
set_option maxHeartbeats 4000000 in
theorem rgone_any (l : List UInt8) (w : World) (hl : l.length ≤ 1000000) : Calls Tryz.prog 40 #[.string ⟨l.toArray⟩] w fun e w' => e = .returned (.tuple #[.string ⟨(gone l).1.toArray⟩, .bool (gone l).2]) ∧ Kept w w' := by
  obtain ⟨i0, hi, hz0, hz1, hz2⟩ := info_parts info8
  go_enter Tryz.func40, Tryz.ntmps40
  go_wp2_with fail
  go_loopw [4, 5, 6] (fun a f i y => ∃ (k : Nat) (done : List UInt8) (fb : Bool), k ≤ l.length ∧ i = .int .i64 k ∧ f = .bool fb ∧ done.length ≤ 1000000 ∧ GoneAt l done k fb ∧ OutBIn w.heap.size w done a y) (fun _ _ i _ => l.length - (intOf i).toNat)
  case atStart => exact ⟨0, [], true, Nat.zero_le _, rfl, rfl, by simp, GoneAt.init l, none, 0, rfl, OutB.nil _ _, Kept.refl _⟩
  case round =>
    obtain ⟨k, done, fb, hk, rfl, rfl, hd, ht, ao, cap, rfl, ho, hkp⟩ := hrel
    have HO := Lib.hid ho; have HK := Lib.hid hkp; have HT := Lib.hid ht
    clear ho hkp ht
    by_cases hlt : k < l.length
    · obtain ⟨a, ha⟩ : ∃ a, l[k]? = some a := ⟨_, List.getElem?_eq_getElem hlt⟩
      have HA := Lib.hid ha
      have hat := byte_at l k a ha
      clear ha
      by_cases g38 : (a.toNat : Int) = 38
      · have hc : a = 38 := u8_eq g38
        have gb : ((a.toNat : Int) == 38) = true := beq_iff_eq.2 g38
        have HAM := Lib.hid (show l[k]? = some 38 by rw [← hc]; exact HA.out)
        have HC := Lib.hid hc
        clear g38 hc
        have hbl : ((bdO l k).getD []).length ≤ 1000 := by
          cases hq : bdO l k with
          | none => simp
          | some b => have := (bo_len hq).1; simp only [Option.getD_some]; omega
        go_wp2_with fail
        refine (rbody_any l k _ (by omega) hlt).mono ?_
        rintro e x2 ⟨rfl, rfl⟩
        generalize hbe : (bdO l k).getD [] = bb at *
        generalize hbi : (bdO l k).isSome = bi at *
        have HBE := Lib.hid hbe; have HBI := Lib.hid hbi
        clear hbe hbi
        go_wp2_with fail
        refine (rsign_any bb _ hbl).mono ?_
        rintro e x2 ⟨rfl, k2⟩
        have HK2 := Lib.hid (HK.out.trans k2); have HO2 := Lib.hid (HO.out.kept k2)
        clear k2
        generalize hse : sgS bb = ss at *
        generalize hsi : (sg bb).isSome = si at *
        have HSE := Lib.hid hse; have HSI := Lib.hid hsi
        clear hse hsi HO HK
        cases bi with
        | false =>
          have HEN := Lib.hid (show en (l.drop (k + 1)) = none from en_none (Or.inr (by cases hb : bdO l k with | none => rfl | some b => have := HBI.out; rw [hb] at this; cases this)))
          have HG := Lib.hid (show GoneAt l (done ++ [a]) (k + 1) false by rw [HC.out]; exact HT.out.bad HAM.out HEN.out)
          go_wp2_with (at_builtin; refine wpList_append_own _ rfl _ _ 34 rfl w.heap.size 5 i0 (.int .u8 0) 1 1 Tryz.underlying34 hi hz0 hz1 hz2 rfl (by decide) _ _ _ rfl (World.ownsRow.alloc HO2.out _) ⟨x2.heap.size, 0, none⟩ 1 1 [.int .u8 (a.toNat : Int)] rfl rfl (cell_one_new _ _ _) (fun x hx => by simp at hx; subst hx; rfl) (by unfold maxLen; omega) (by omega) (by have := HK2.out.size; simp; omega) ?_; intro v' w7 hown' hgrow hnil)
          have HA3 := outB_one (Nat.le_refl _) HO2.out HK2.out hgrow hown'
          go_roundw
          case rel => exact ⟨k + 1, _, false, hlt, by go_num, rfl, by have := HG.out.2.1; omega, HG.out, HA3⟩
          case measure => simp [intOf]; omega
        | true =>
          obtain ⟨b, hb⟩ : ∃ b, bdO l k = some b := by
            cases hb : bdO l k with
            | none => have := HBI.out; rw [hb] at this; cases this
            | some b => exact ⟨b, rfl⟩
          have hbb : bb = b := by rw [← HBE.out, hb]; rfl
          subst hbb
          cases si with
          | false =>
            have HEN := Lib.hid (show en (l.drop (k + 1)) = none from en_none (Or.inl (by rw [hb]; exact HSI.out)))
            clear hb
            have HG := Lib.hid (show GoneAt l (done ++ [a]) (k + 1) false by rw [HC.out]; exact HT.out.bad HAM.out HEN.out)
            go_wp2_with (at_builtin; refine wpList_append_own _ rfl _ _ 34 rfl w.heap.size 5 i0 (.int .u8 0) 1 1 Tryz.underlying34 hi hz0 hz1 hz2 rfl (by decide) _ _ _ rfl (World.ownsRow.alloc HO2.out _) ⟨x2.heap.size, 0, none⟩ 1 1 [.int .u8 (a.toNat : Int)] rfl rfl (cell_one_new _ _ _) (fun x hx => by simp at hx; subst hx; rfl) (by unfold maxLen; omega) (by omega) (by have := HK2.out.size; simp; omega) ?_; intro v' w7 hown' hgrow hnil)
            have HA3 := outB_one (Nat.le_refl _) HO2.out HK2.out hgrow hown'
            go_roundw
            case rel => exact ⟨k + 1, _, false, hlt, by go_num, rfl, by have := HG.out.2.1; omega, HG.out, HA3⟩
            case measure => simp [intOf]; omega
          | true =>
            have hs : sg bb = some ss := by
              have h1 := HSI.out; have h2 := HSE.out
              unfold sgS at h2
              cases hq : sg bb with
              | none => rw [hq] at h1; cases h1
              | some y => rw [hq] at h2; rw [← h2]; rfl
            have HG := Lib.hid (HT.out.amp HAM.out hb hs)
            have hle := bdO_le hlt hb
            have hsl := sg_len hs
            clear hb hs
            go_wp2_with (at_builtin; refine Lib.wpList_append_own_string _ rfl _ _ 34 9 rfl w.heap.size 5 i0 Tryz.underlying34 Tryz.underlying9 hi hz0 hz1 hz2 _ _ _ rfl HO2.out ⟨ss.toArray⟩ rfl (by unfold maxLen; simp [ByteArray.size]; omega) (by simp [ByteArray.size]; omega) HK2.out.size ?_; intro v' w7 hown' hgrow hnil)
            have HA3 := outB_str (Nat.le_refl _) HO2.out HK2.out hgrow hown'
            go_roundw
            case rel => exact ⟨k + bb.length + 2, _, fb, hle, by go_num, rfl, by have := HG.out.2.1; omega, HG.out, HA3⟩
            case measure => simp [intOf]; omega
      · have gb : ((a.toNat : Int) == 38) = false := beq_eq_false_iff_ne.2 g38
        have HG := Lib.hid (HT.out.other HA.out (u8_ne g38))
        have HO2 := HO; have HK2 := HK
        clear g38 HO HK
        go_wp2_with (at_builtin; refine wpList_append_own _ rfl _ _ 34 rfl w.heap.size 5 i0 (.int .u8 0) 1 1 Tryz.underlying34 hi hz0 hz1 hz2 rfl (by decide) _ _ _ rfl (World.ownsRow.alloc HO2.out _) ⟨wr.heap.size, 0, none⟩ 1 1 [.int .u8 (a.toNat : Int)] rfl rfl (cell_one_new _ _ _) (fun x hx => by simp at hx; subst hx; rfl) (by unfold maxLen; omega) (by omega) (by have := HK2.out.size; simp; omega) ?_; intro v' w7 hown' hgrow hnil)
        have HA3 := outB_one (Nat.le_refl _) HO2.out HK2.out hgrow hown'
        go_roundw
        case rel => exact ⟨k + 1, _, fb, hlt, by go_num, rfl, by have := HG.out.2.1; omega, HG.out, HA3⟩
        case measure => simp [intOf]; omega
    · obtain rfl : k = l.length := by omega
      have HE := Lib.hid HT.out.fin
      have hcv := conv_out HO.out
      go_wp2
      go_ret2
      exact ⟨by rw [HE.out]; rfl, HK.out⟩
end Go.Proofs.YtpkbcomdkamglaaGreatDoor
