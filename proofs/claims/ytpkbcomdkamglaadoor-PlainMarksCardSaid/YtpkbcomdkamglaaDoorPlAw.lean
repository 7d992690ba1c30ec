/- The chapter's example of package plain. -/
import Derived.Test.YtpkbcomdkamglaaDoorPlWr
import Derived.Test.YtpkbcomdkamglaaDoorPlOf
set_option linter.unusedSimpArgs false
set_option linter.unusedVariables false
namespace Go.Proofs.YtpkbcomdkamglaaDoor.Pl
open Go.ChangeShapes Go.WideShapes Go.ChangeAt Go.RowKit
open En
set_option maxRecDepth 100000 in
theorem aw_wrp : wrp 4 [97, 32, 98, 99, 32, 100] = [[97, 32, 98, 99], [100]] := by kernel_rfl
set_option maxRecDepth 100000 in
theorem aw_of : ofP [97, 60, 98, 114, 62, 98, 38, 97, 109, 112, 59, 60, 115, 99, 114, 105, 112, 116, 62, 120, 60, 47, 115, 99, 114, 105, 112, 116, 62, 32, 99] = [97, 10, 98, 38, 32, 99] := by kernel_rfl
set_option maxRecDepth 100000 in
set_option maxHeartbeats 4000000 in
theorem awake11_any (w : World) (hE : EnvP w) : Calls Tryd.prog 6 #[] w fun e w' => e = .returned (.bool true) ∧ Kept w w' := by
  have HW := Lib.hid (fun w hE => wrap_any [97, 32, 98, 99, 32, 100] 4 w hE (by decide))
  have HO := Lib.hid (fun w hE => of_any [97, 60, 98, 114, 62, 98, 38, 97, 109, 112, 59, 60, 115, 99, 114, 105, 112, 116, 62, 120, 60, 47, 115, 99, 114, 105, 112, 116, 62, 32, 99] w hE (by decide))
  rw [aw_wrp] at HW
  rw [aw_of] at HO
  have HE := Lib.hid hE
  clear hE
  go_enter Tryd.func6, Tryd.ntmps6
  go_wp2_with fail
  refine (HW.out _ HE.out.env).mono ?_
  rintro e w1 ⟨v, rfl, hv, k1⟩
  obtain ⟨g, cap, rfl, hc⟩ := OutS.at (k := 0) (show OutS w.heap.size v [[97, 32, 98, 99], [100]] w1 from hv) (by decide)
  have hcap : 2 ≤ cap := by
    rcases hv.2 with ⟨h1, h2⟩ | ⟨g', cap', cur, h1, h2, h3, h4, _⟩
    · cases h1
    · injection h1 with e1 _ e3
      subst e3
      exact h4
  have c0 := hc 0 [97, 32, 98, 99] rfl
  have c1 := hc 1 [100] rfl
  clear hv hc
  go_wp2_with fail
  refine (HO.out _ (HE.out.kept k1)).mono ?_
  rintro e w2 ⟨rfl, k2⟩
  have d0 := k2.yes c0
  have d1 := k2.yes c1
  have K := Lib.hid (k1.trans k2)
  clear c0 c1 k1 k2
  go_wp2
  go_ret
  exact ⟨rfl, K.out⟩
end Go.Proofs.YtpkbcomdkamglaaDoor.Pl
