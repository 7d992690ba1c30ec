/- The law IdentOnce, walked. -/
import Derived.Test.YtpkkpjonlogliaaDoorIdL
set_option linter.unusedSimpArgs false
set_option linter.unusedVariables false
namespace Go.Proofs.YtpkkpjonlogliaaDoor
open Go.ChangeShapes Go.WideShapes Go.ChangeAt Go.RowKit
open En Idn
theorem wrap_str (l : B) : (⟨#[32]⟩ ++ ⟨l.toArray⟩ ++ ⟨#[10]⟩ : ByteArray) = ⟨(32 :: (l ++ [10])).toArray⟩ := by
  apply ByteArray.ext; simp [ByteArray.data_append]
set_option maxRecDepth 100000 in
set_option maxHeartbeats 4000000 in
theorem once10_walk (l : B) (w : World) (hz : l.length ≤ maxLen) (hE : Env w) : Calls Tryd.prog 4 #[.string ⟨l.toArray⟩] w fun e w' => e = .returned (.bool true) ∧ Kept w w' := by
  have HE := Lib.hid hE
  unfold maxLen at hz
  clear hE
  go_enter Tryd.func4, Tryd.ntmps4
  go_wp2_with fail
  refine (iawake_any w HE.out).mono ?_
  rintro e x1 ⟨rfl, k1⟩
  have K1 := Lib.hid k1
  clear k1
  by_cases g1 : (300 : Int) < l.length
  · go_wp2
    go_ret
    exact ⟨rfl, K1.out⟩
  have HN := Lib.hid (fun x (k : Kept w x) => norm_any l x (HE.out.kept k) (by omega))
  have hnl := norm_len l
  have HN2 := Lib.hid (fun x (k : Kept w x) => norm_any (norm l) x (HE.out.kept k) (by omega))
  have HN3 := Lib.hid (fun x (k : Kept w x) => norm_any (32 :: (l ++ [10])) x (HE.out.kept k) (by rw [List.length_cons, List.length_append, List.length_singleton]; omega))
  rw [norm_norm] at HN2
  rw [norm_wrap] at HN3
  have hws := wrap_str l
  generalize norm l = t at *
  go_wp2_with fail
  refine (HN.out _ K1.out).mono ?_
  rintro e x2 ⟨rfl, k2⟩
  have K2 := Lib.hid (K1.out.trans k2)
  clear k2 K1 HN
  go_wp2_with fail
  refine (HN2.out _ K2.out).mono ?_
  rintro e x3 ⟨rfl, k3⟩
  have K3 := Lib.hid (K2.out.trans k3)
  clear k3 K2 HN2
  go_wp2_with fail
  refine (HN3.out _ K3.out).mono ?_
  rintro e x4 ⟨rfl, k4⟩
  have K4 := Lib.hid (K3.out.trans k4)
  clear k4 K3 HN3
  go_wp2
  go_ret
  exact ⟨by simp, K4.out⟩
end Go.Proofs.YtpkkpjonlogliaaDoor
