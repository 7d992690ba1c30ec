/- The document's own answers of layer ent: Decode, Loose. -/
import Derived.Test.YtpkbcomdkamglaaGreatDoorEnRefG
set_option linter.unusedSimpArgs false
set_option linter.unusedVariables false
namespace Go.Proofs.YtpkbcomdkamglaaGreatDoor
open Go.ChangeShapes Go.WideShapes Go.ChangeAt Go.RowKit
open En
theorem rloose_any (l : List UInt8) (w : World) (hl : l.length ≤ 1000000) : Calls Tryz.prog 21 #[.string ⟨l.toArray⟩] w fun e w' => e = .returned (.string ⟨(gone l).1.toArray⟩) ∧ Kept w w' := by
  go_enter Tryz.func21, Tryz.ntmps21
  go_wp2_with fail
  refine (rgone_any l _ hl).mono ?_
  rintro e x2 ⟨rfl, k2⟩
  go_wp2
  go_ret
  exact ⟨rfl, k2⟩
end Go.Proofs.YtpkbcomdkamglaaGreatDoor
