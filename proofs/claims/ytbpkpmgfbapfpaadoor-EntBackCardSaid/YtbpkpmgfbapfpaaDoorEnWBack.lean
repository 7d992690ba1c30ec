/- The law EntBack, walked (given package ent's contracts). -/
import Derived.Test.YtbpkpmgfbapfpaaDoorEnAw
set_option linter.unusedVariables false
namespace Go.Proofs.YtbpkpmgfbapfpaaDoor
open Go.ChangeShapes Go.WideShapes Go.ChangeAt Go.RowKit
open En
theorem at_enc (l : List UInt8) (k : Nat) (a : UInt8) (h : (enc l)[k]? = some a) : ((a.toNat : Int) == 60) = false ∧ ((a.toNat : Int) == 62) = false ∧ ((a.toNat : Int) == 34) = false := by
  obtain ⟨h1, h2, h3⟩ := enc_none l a (List.mem_of_getElem? h)
  exact ⟨beq_eq_false_iff_ne.2 fun e => h1 (u8_eq e), beq_eq_false_iff_ne.2 fun e => h2 (u8_eq e), beq_eq_false_iff_ne.2 fun e => h3 (u8_eq e)⟩
set_option maxRecDepth 100000 in
set_option maxHeartbeats 4000000 in
theorem back7_walk {I : World → Prop} (H : EntC I) (l : List UInt8) (w : World) (hl : l.length ≤ maxLen) (hI : I w) : Calls Tryd.prog 4 #[.string ⟨l.toArray⟩] w fun e w' => e = .returned (.bool true) ∧ Kept w w' := by
  unfold maxLen at hl
  have H := Lib.hid H
  have I0 := Lib.hid hI
  have K0 := Lib.hid (Kept.refl w)
  clear hI
  go_enter Tryd.func4, Tryd.ntmps4
  go_wp2_with fail
  refine (awake7_any H.out _ I0.out).mono ?_
  rintro e x1 ⟨rfl, k1⟩
  have K1 := Lib.hid (K0.out.trans k1); have I1 := Lib.hid (H.out.stays _ _ I0.out k1)
  clear k1 K0 I0
  by_cases hs : 600 < (l.length : Int)
  · go_wp2
    go_ret
    exact ⟨rfl, K1.out⟩
  have hl6 : l.length ≤ 600 := by omega
  go_wp2_with fail
  refine (H.out.encode l _ I1.out (by omega)).mono ?_
  rintro e x2 ⟨rfl, k2⟩
  have K2 := Lib.hid (K1.out.trans k2); have I2 := Lib.hid (H.out.stays _ _ I1.out k2)
  clear k2 K1 I1
  have hen := enc_len l
  have HA := Lib.hid (at_enc l)
  have HT := Lib.hid (show deT (enc l) = l by rw [deT_ok (by rw [gone_enc]), gone_enc])
  have HE := Lib.hid (show deE (enc l) = 0 from deE_of (by rw [gone_enc]))
  have HG := Lib.hid (show (gone (enc l)).1 = l by rw [gone_enc])
  generalize enc l = x at *
  go_wp2_with fail
  go_loopw [5] (fun i y => y = x2 ∧ ∃ k : Nat, k ≤ x.length ∧ i = .int .i64 k) (fun i _ => x.length - (intOf i).toNat)
  case atStart => exact ⟨rfl, 0, Nat.zero_le _, rfl⟩
  case round =>
    obtain ⟨rfl, k, hk, rfl⟩ := hrel
    by_cases hlt : k < x.length
    · obtain ⟨a, ha⟩ : ∃ a, x[k]? = some a := ⟨_, List.getElem?_eq_getElem hlt⟩
      have hat := byte_at x k a ha
      obtain ⟨g1, g2, g3⟩ := HA.out k a ha
      clear ha
      go_wp2
      go_roundw
      case rel => exact ⟨trivial, k + 1, hlt, by go_num⟩
      case measure => simp [intOf]; omega
    · obtain rfl : k = x.length := by omega
      go_wp2_with fail
      refine (H.out.decode x _ I2.out (by omega)).mono ?_
      rintro e x3 ⟨rfl, k3⟩
      have K3 := Lib.hid (K2.out.trans k3); have I3 := Lib.hid (H.out.stays _ _ I2.out k3)
      clear k3 K2 I2
      rw [HT.out, HE.out]
      go_wp2_with fail
      refine (H.out.loose x _ I3.out (by omega)).mono ?_
      rintro e x4 ⟨rfl, k4⟩
      have K4 := Lib.hid (K3.out.trans k4); have I4 := Lib.hid (H.out.stays _ _ I3.out k4)
      clear k4 K3 I3
      rw [HG.out]
      go_wp2
      go_ret
      exact ⟨rfl, K4.out⟩
end Go.Proofs.YtbpkpmgfbapfpaaDoor
