/- The law EntWords, walked (given package ent's contracts). -/
import Derived.Test.YtbpkpmgfbapfpaaDoorEnAw
set_option linter.unusedVariables false
namespace Go.Proofs.YtbpkpmgfbapfpaaDoor
open Go.ChangeShapes Go.WideShapes Go.ChangeAt Go.RowKit
open En
theorem txt_add (a b : List UInt8) : ByteArray.mk a.toArray ++ ByteArray.mk b.toArray = ⟨(a ++ b).toArray⟩ := by
  apply ByteArray.ext; simp
set_option maxRecDepth 100000 in
set_option maxHeartbeats 4000000 in
theorem words7_walk {I : World → Prop} (H : EntC I) (a b : List UInt8) (w : World) (hl : a.length ≤ maxLen) (hl2 : b.length ≤ maxLen) (hI : I w) : Calls Tryd.prog 8 #[.string ⟨a.toArray⟩, .string ⟨b.toArray⟩] w fun e w' => e = .returned (.bool true) ∧ Kept w w' := by
  unfold maxLen at hl hl2
  have H := Lib.hid H
  have I0 := Lib.hid hI
  have K0 := Lib.hid (Kept.refl w)
  clear hI
  go_enter Tryd.func8, Tryd.ntmps8
  go_wp2_with fail
  refine (awake7_any H.out _ I0.out).mono ?_
  rintro e x1 ⟨rfl, k1⟩
  have K1 := Lib.hid (K0.out.trans k1); have I1 := Lib.hid (H.out.stays _ _ I0.out k1)
  clear k1 K0 I0
  by_cases ha : 300 < (a.length : Int)
  · go_wp2
    go_ret
    exact ⟨rfl, K1.out⟩
  by_cases hb : 300 < (b.length : Int)
  · go_wp2
    go_ret
    exact ⟨rfl, K1.out⟩
  have la : a.length ≤ 300 := by omega
  have lb : b.length ≤ 300 := by omega
  have HC := Lib.hid (tr_cut a b)
  go_wp2_with fail
  refine (H.out.trim a _ I1.out (by omega)).mono ?_
  rintro e x2 ⟨rfl, k2⟩
  have K2 := Lib.hid (K1.out.trans k2); have I2 := Lib.hid (H.out.stays _ _ I1.out k2)
  clear k2 K1 I1
  go_wp2_with fail
  refine (H.out.trim b _ I2.out (by omega)).mono ?_
  rintro e x3 ⟨rfl, k3⟩
  have K3 := Lib.hid (K2.out.trans k3); have I3 := Lib.hid (H.out.stays _ _ I2.out k3)
  clear k3 K2 I2
  have lx : (tr a).length ≤ 2 * a.length := trF_len a false false
  have ly : (tr b).length ≤ 2 * b.length := trF_len b false false
  generalize tr a = x at *
  generalize tr b = y at *
  have e1 : ByteArray.mk a.toArray ++ ⟨#[10]⟩ ++ ⟨b.toArray⟩ = ⟨(a ++ 10 :: b).toArray⟩ := by apply ByteArray.ext; simp
  have hz := H.out.trim (a ++ 10 :: b) x3 I3.out (by simp; omega)
  rw [← e1, HC.out] at hz
  have HZ := Lib.hid hz
  clear hz e1 HC
  go_wp2_with fail
  refine HZ.out.mono ?_
  rintro e x4 ⟨rfl, k4⟩
  have K4 := Lib.hid (K3.out.trans k4)
  clear k4 HZ
  by_cases hx : x = []
  · subst hx
    rw [if_pos (Or.inl rfl)]
    have f1 : ByteArray.mk #[] ++ ByteArray.mk y.toArray = ⟨y.toArray⟩ := txt_add [] y
    go_wp2
    go_ret
    exact ⟨by simp, K4.out⟩
  · by_cases hy : y = []
    · subst hy
      rw [if_pos (Or.inr rfl)]
      have f1 : ByteArray.mk x.toArray ++ ByteArray.mk #[] = ⟨x.toArray⟩ := by have := txt_add x []; rwa [List.append_nil] at this
      have f2 : x.isEmpty = false := by cases x with | nil => exact absurd rfl hx | cons => rfl
      rw [List.append_nil]
      go_wp2
      go_ret
      exact ⟨by simp, K4.out⟩
    · rw [if_neg (by simp [hx, hy])]
      have f1 : ByteArray.mk x.toArray ++ ByteArray.mk #[32] = ⟨(x ++ [32]).toArray⟩ := txt_add x [32]
      have f3 : ByteArray.mk (x ++ [32]).toArray ++ ByteArray.mk y.toArray = ⟨(x ++ 32 :: y).toArray⟩ := by rw [txt_add]; simp
      have f2 : x.isEmpty = false := by cases x with | nil => exact absurd rfl hx | cons => rfl
      have f4 : y.isEmpty = false := by cases y with | nil => exact absurd rfl hy | cons => rfl
      go_wp2
      go_ret
      exact ⟨by simp, K4.out⟩
end Go.Proofs.YtbpkpmgfbapfpaaDoor
