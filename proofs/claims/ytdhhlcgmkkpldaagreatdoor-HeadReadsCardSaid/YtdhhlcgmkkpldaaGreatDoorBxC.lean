/- The library's variable; bytes.Equal. -/
import Derived.Test.YtdhhlcgmkkpldaaGreatDoorBxY
set_option linter.unusedSimpArgs false
set_option linter.unusedVariables false
namespace Go.Proofs.YtdhhlcgmkkpldaaGreatDoor
open Go.ChangeShapes Go.WideShapes Go.ChangeAt Go.RowKit
open Bx
/-- the library's variable lies where it lay -/
def Env (w : World) : Prop := ∃ m, w.cell? ⟨0, 0, none⟩ = some (.int .i64 m)
theorem Env.kept {w w' : World} (h : Env w) (k : Kept w w') : Env w' := by
  obtain ⟨m, hm⟩ := h
  exact ⟨m, k.yes hm⟩
set_option maxRecDepth 100000 in
theorem equal_any (v u : Value) (a b : B) (w : World) (hv : BRd v a w) (hu : BRd u b w) : Calls Tryz.prog 26 #[v, u] w fun e w' => e = .returned (.bool (a == b)) ∧ w' = w := by
  have c1 := hv.conv
  have c2 := hu.conv
  obtain ⟨xa, xc, rfl⟩ := hv.slice
  obtain ⟨ya, yc, rfl⟩ := hu.slice
  clear hv hu
  go_enter Tryz.func26, Tryz.ntmps26
  go_wp2
  go_ret
  exact ⟨rfl, rfl⟩
end Go.Proofs.YtdhhlcgmkkpldaaGreatDoor
