/- The document's own answers of layer ent: Decode, Loose. -/
import Derived.Test.YtknggeplnffegaaGreatDoorEnRefG
set_option linter.unusedVariables false
namespace Go.Proofs.YtknggeplnffegaaGreatDoor
open Go.ChangeShapes Go.WideShapes Go.ChangeAt Go.RowKit
open En
set_option maxHeartbeats 1000000 in
theorem rdecode_any (l : List UInt8) (w : World) (hl : l.length ≤ 1000000) : Calls Tryz.prog 55 #[.string ⟨l.toArray⟩] w fun e w' => e = .returned (.tuple #[.string ⟨(deT l).toArray⟩, .int .i64 (deE l)]) ∧ Kept w w' := by
  have HT := Lib.hid (show deT l = if (gone l).2 = true then (gone l).1 else [] from rfl)
  have HE := Lib.hid (show deE l = if (gone l).2 = true then 0 else 2 from rfl)
  go_enter Tryz.func55, Tryz.ntmps55
  go_wp2_with fail
  refine (rgone_any l _ hl).mono ?_
  rintro e x2 ⟨rfl, k2⟩
  generalize gone l = g at *
  obtain ⟨t, f⟩ := g
  cases f with
  | true =>
    go_wp2
    go_ret2
    exact ⟨by rw [HT.out, HE.out]; rfl, k2⟩
  | false =>
    go_wp2
    go_ret2
    exact ⟨by rw [HT.out, HE.out]; rfl, k2⟩
end Go.Proofs.YtknggeplnffegaaGreatDoor
