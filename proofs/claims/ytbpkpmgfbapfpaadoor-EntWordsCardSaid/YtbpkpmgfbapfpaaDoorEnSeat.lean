/- Package ent's contracts, all six. -/
import Derived.Test.YtbpkpmgfbapfpaaDoorEnTrim
import Derived.Test.YtbpkpmgfbapfpaaDoorEnEnc
set_option linter.unusedVariables false
namespace Go.Proofs.YtbpkpmgfbapfpaaDoor
open Go.ChangeShapes Go.WideShapes Go.ChangeAt Go.RowKit
open En
theorem entC : EntC Env where
  stays := fun w w' h k => h.kept k
  decode := fun l w h hl => decode_any l w h hl
  loose := fun l w h hl => loose_any l w h hl
  encode := fun l w _ hl => encode_any l w hl
  rune := fun n w _ h0 h1 => (rune_any n w h0 h1).mono fun e w' h => ⟨h.1, Kept.of_eq h.2⟩
  trim := fun l w h hl => trim_any l w h hl
  space := fun c w _ => (space_any c w).mono fun e w' h => ⟨h.1, Kept.of_eq h.2⟩
end Go.Proofs.YtbpkpmgfbapfpaaDoor
