/- The law EntLoose, walked (given package ent's contracts). -/
import Derived.Test.YtbpkpmgfbapfpaaDoorEnAw
set_option linter.unusedVariables false
namespace Go.Proofs.YtbpkpmgfbapfpaaDoor
open Go.ChangeShapes Go.WideShapes Go.ChangeAt Go.RowKit
open En
theorem txt_add2 (a b : List UInt8) : ByteArray.mk a.toArray ++ ByteArray.mk b.toArray = ⟨(a ++ b).toArray⟩ := by
  apply ByteArray.ext; simp
/-- has an ampersand come -/
def am (l : List UInt8) : Bool := l.any fun c => c == 38
theorem am_next {l : List UInt8} {k : Nat} {a : UInt8} (h : l[k]? = some a) : am (l.take (k + 1)) = (am (l.take k) || ((a.toNat : Int) == 38)) := by
  have e : ((a.toNat : Int) == 38) = (a == 38) := by
    rw [Bool.eq_iff_iff, beq_iff_eq, beq_iff_eq]
    exact ⟨fun q => u8_eq q, fun q => by rw [q]; rfl⟩
  unfold am
  rw [List.take_add_one, h, e]; simp
theorem am_no {l : List UInt8} (h : am l = false) : gone l = (l, true) := gone_plain (fun hm => by
  have : am l = true := by unfold am; rw [List.any_eq_true]; exact ⟨38, hm, by simp⟩
  rw [h] at this; cases this)
set_option maxRecDepth 100000 in
set_option maxHeartbeats 4000000 in
theorem loose7_walk {I : World → Prop} (H : EntC I) (a b : List UInt8) (w : World) (hl : a.length ≤ maxLen) (hl2 : b.length ≤ maxLen) (hI : I w) : Calls Tryd.prog 5 #[.string ⟨a.toArray⟩, .string ⟨b.toArray⟩] w fun e w' => e = .returned (.bool true) ∧ Kept w w' := by
  unfold maxLen at hl hl2
  have H := Lib.hid H
  have I0 := Lib.hid hI
  have K0 := Lib.hid (Kept.refl w)
  clear hI
  go_enter Tryd.func5, Tryd.ntmps5
  go_wp2_with fail
  refine (awake7_any H.out _ I0.out).mono ?_
  rintro e x1 ⟨rfl, k1⟩
  have K1 := Lib.hid (K0.out.trans k1); have I1 := Lib.hid (H.out.stays _ _ I0.out k1)
  clear k1 K0 I0
  by_cases ha : 300 < (a.length : Int)
  · go_wp2
    go_ret
    exact ⟨rfl, K1.out⟩
  by_cases hb : 300 < (b.length : Int)
  · go_wp2
    go_ret
    exact ⟨rfl, K1.out⟩
  have la : a.length ≤ 300 := by omega
  have lb : b.length ≤ 300 := by omega
  clear ha hb hl hl2
  have lg := gone_len _ a (Nat.le_refl _)
  have lh := gone_len _ b (Nat.le_refl _)
  have HN := Lib.hid (am_no (l := a))
  cases hf : (gone a).2 with
  | false =>
    have HE := Lib.hid (show deE a = 2 by unfold deE; rw [hf]; rfl)
    have HM1 := Lib.hid (show am a = true by
      cases q : am a with
      | true => rfl
      | false => rw [HN.out q] at hf; cases hf)
    have ld := deE_bd a
    go_wp2_with fail
    refine (H.out.decode a _ I1.out (by omega)).mono ?_
    rintro e x2 ⟨rfl, k2⟩
    have K2 := Lib.hid (K1.out.trans k2); have I2 := Lib.hid (H.out.stays _ _ I1.out k2)
    clear k2 K1 I1
    rw [HE.out]
    generalize deT a = dt at *
    go_wp2_with fail
    go_loopw [8, 9] (fun h i y => y = x2 ∧ ∃ k : Nat, k ≤ a.length ∧ h = .bool (am (a.take k)) ∧ i = .int .i64 k) (fun _ i _ => a.length - (intOf i).toNat)
    case atStart => exact ⟨rfl, 0, Nat.zero_le _, rfl, rfl⟩
    case round =>
      obtain ⟨rfl, k, hk, rfl, rfl⟩ := hrel
      by_cases hlt : k < a.length
      · obtain ⟨c, hc⟩ : ∃ c, a[k]? = some c := ⟨_, List.getElem?_eq_getElem hlt⟩
        have hat := byte_at a k c hc
        have HM := Lib.hid (am_next hc)
        clear hc
        cases hm : am (a.take k) with
        | true =>
          rw [hm] at HM
          go_wp2
          go_roundw
          case rel => exact ⟨trivial, k + 1, hlt, by rw [HM.out]; rfl, by go_num⟩
          case measure => simp [intOf]; omega
        | false =>
          rw [hm] at HM
          go_wp2
          go_roundw
          case rel => exact ⟨trivial, k + 1, hlt, by rw [HM.out]; simp, by go_num⟩
          case measure => simp [intOf]; omega
      · obtain rfl : k = a.length := by omega
        rw [List.take_of_length_le (Nat.le_refl _)]
        rw [HM1.out]
        go_wp2
        go_ret
        exact ⟨rfl, K2.out⟩
  | true =>
    have HE := Lib.hid (deE_of hf)
    have HT := Lib.hid (deT_ok hf)
    have HAB := Lib.hid (show (gone (a ++ b)).1 = (gone a).1 ++ (gone b).1 by rw [gone_app b hf])
    have HN1 := Lib.hid (show am a = false → (gone a).1 = a from fun q => by rw [HN.out q])
    clear HN
    go_wp2_with fail
    refine (H.out.decode a _ I1.out (by omega)).mono ?_
    rintro e x2 ⟨rfl, k2⟩
    have K2 := Lib.hid (K1.out.trans k2); have I2 := Lib.hid (H.out.stays _ _ I1.out k2)
    clear k2 K1 I1
    rw [HE.out, HT.out]
    generalize hg : (gone a).1 = g at *
    generalize hgb : (gone b).1 = gb at *
    have HG := Lib.hid hg; have HGB := Lib.hid hgb
    clear hg hgb hf
    go_wp2_with fail
    refine (H.out.loose a _ I2.out (by omega)).mono ?_
    rintro e x3 ⟨rfl, k3⟩
    have K3 := Lib.hid (K2.out.trans k3); have I3 := Lib.hid (H.out.stays _ _ I2.out k3)
    clear k3 K2 I2
    rw [HG.out]
    go_wp2_with fail
    go_loopw [8, 9] (fun h i y => y = x3 ∧ ∃ k : Nat, k ≤ a.length ∧ h = .bool (am (a.take k)) ∧ i = .int .i64 k) (fun _ i _ => a.length - (intOf i).toNat)
    case atStart => exact ⟨rfl, 0, Nat.zero_le _, rfl, rfl⟩
    case round =>
      obtain ⟨rfl, k, hk, rfl, rfl⟩ := hrel
      by_cases hlt : k < a.length
      · obtain ⟨c, hc⟩ : ∃ c, a[k]? = some c := ⟨_, List.getElem?_eq_getElem hlt⟩
        have hat := byte_at a k c hc
        have HM := Lib.hid (am_next hc)
        clear hc
        cases hm : am (a.take k) with
        | true =>
          rw [hm] at HM
          go_wp2
          go_roundw
          case rel => exact ⟨trivial, k + 1, hlt, by rw [HM.out]; rfl, by go_num⟩
          case measure => simp [intOf]; omega
        | false =>
          rw [hm] at HM
          go_wp2
          go_roundw
          case rel => exact ⟨trivial, k + 1, hlt, by rw [HM.out]; simp, by go_num⟩
          case measure => simp [intOf]; omega
      · obtain rfl : k = a.length := by omega
        rw [List.take_of_length_le (Nat.le_refl _)]
        have e1 : ByteArray.mk a.toArray ++ ByteArray.mk b.toArray = ⟨(a ++ b).toArray⟩ := txt_add2 a b
        have e2 : ByteArray.mk g.toArray ++ ByteArray.mk gb.toArray = ⟨(g ++ gb).toArray⟩ := txt_add2 g gb
        cases hm : am a with
        | true =>
          go_wp2_with fail
          refine (H.out.loose (a ++ b) _ I3.out (by simp; omega)).mono ?_
          rintro e x4 ⟨rfl, k4⟩
          have K4 := Lib.hid (K3.out.trans k4); have I4 := Lib.hid (H.out.stays _ _ I3.out k4)
          clear k4 K3 I3
          rw [HAB.out]
          go_wp2_with fail
          refine (H.out.loose b _ I4.out (by omega)).mono ?_
          rintro e x5 ⟨rfl, k5⟩
          have K5 := Lib.hid (K4.out.trans k5); have I5 := Lib.hid (H.out.stays _ _ I4.out k5)
          clear k5 K4 I4
          rw [HGB.out]
          go_wp2
          go_ret
          exact ⟨rfl, K5.out⟩
        | false =>
          have hga : g = a := HN1.out hm
          subst hga
          go_wp2_with fail
          refine (H.out.loose (g ++ b) _ I3.out (by simp; omega)).mono ?_
          rintro e x4 ⟨rfl, k4⟩
          have K4 := Lib.hid (K3.out.trans k4); have I4 := Lib.hid (H.out.stays _ _ I3.out k4)
          clear k4 K3 I3
          rw [HAB.out]
          go_wp2_with fail
          refine (H.out.loose b _ I4.out (by omega)).mono ?_
          rintro e x5 ⟨rfl, k5⟩
          have K5 := Lib.hid (K4.out.trans k5); have I5 := Lib.hid (H.out.stays _ _ I4.out k5)
          clear k5 K4 I4
          rw [HGB.out]
          go_wp2
          go_ret
          exact ⟨rfl, K5.out⟩
end Go.Proofs.YtbpkpmgfbapfpaaDoor
