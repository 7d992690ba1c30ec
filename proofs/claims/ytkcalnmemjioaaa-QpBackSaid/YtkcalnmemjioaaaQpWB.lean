/- What is coded is decoded. -/
import Derived.Test.YtkcalnmemjioaaaQpAw
set_option linter.unusedSimpArgs false
set_option linter.unusedVariables false
namespace Go.Proofs.Ytkcalnmemjioaaa
open Go.ChangeShapes Go.WideShapes Go.ChangeAt Go.RowKit
open Qp
set_option maxRecDepth 100000 in
set_option maxHeartbeats 4000000 in
theorem back12_walk (v : Value) (l : B) (w : World) (hB : BRd v l w) (hd : l.length ≤ maxLen) : Calls Try.prog 4 #[v] w fun e w' => e = .returned (.bool true) ∧ Kept w w' := by
  unfold maxLen at hd
  obtain ⟨g, c, hv⟩ := hB.slice
  subst hv
  have HB := Lib.hid hB
  clear hB
  go_enter Try.func4, Try.ntmps4
  go_wp2_with fail
  refine (awake12_any w).mono ?_
  rintro e x1 ⟨rfl, k1⟩
  have K1 := Lib.hid k1
  clear k1
  by_cases hs : 1000 < (l.length : Int)
  · go_wp2
    go_ret
    exact ⟨rfl, K1.out⟩
  have hl : l.length ≤ 1000 := by omega
  go_wp2_with fail
  refine (encode_any _ l x1 (HB.out.kept K1.out) (by omega)).mono ?_
  rintro e x2 ⟨xv, rfl, hO, k2⟩
  have K2 := Lib.hid (K1.out.trans k2)
  have R2 := Lib.hid hO.rd
  obtain ⟨a2, c2, hv2⟩ := own_slice hO
  subst hv2
  have hel := enc_len l 0
  clear hO k2 K1
  go_wp2_with fail
  refine (decode_any _ (enc 0 l) x2 R2.out (by omega)).mono ?_
  rintro e x3 ⟨xv, rfl, ⟨yv, hO, rfl⟩, k3⟩
  rw [dec_enc l 0] at hO
  rw [dE_some (dec_enc l 0)]
  rw [show (some l).getD [] = l from rfl] at hO
  have K3 := Lib.hid (K2.out.trans k3)
  have hc1 := (HB.out.kept K3.out).conv
  have hc2 := hO.rd.conv
  obtain ⟨a3, c3, hv3⟩ := own_slice hO
  subst hv3
  clear hO k3 K2 R2
  go_wp2
  go_ret
  exact ⟨rfl, K3.out⟩
end Go.Proofs.Ytkcalnmemjioaaa
