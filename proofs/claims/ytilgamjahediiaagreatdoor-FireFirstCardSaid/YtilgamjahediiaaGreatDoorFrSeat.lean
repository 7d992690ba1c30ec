/- The contracts of package fire, as the walks of its laws ask for them. -/
import Derived.Test.YtilgamjahediiaaGreatDoorFrA
import Derived.Test.YtilgamjahediiaaGreatDoorFrS
namespace Go.Proofs.YtilgamjahediiaaGreatDoor
open Go.ChangeShapes Go.WideShapes Go.ChangeAt Go.RowKit
open Civ Zn Lc Crn
theorem gap_c : GapC := fun z t w h1 h2 => gap_any z t w h1 h2
theorem fires_c : FiresC := fun z c sl t w h1 h2 hc => fires_any z c sl t w h1 h2 hc
theorem next_c : NextC := fun z c sl a b w h1 h2 h3 h4 hc => next_any z c sl a b w (by omega) (by omega) (by omega) (by omega) hc
end Go.Proofs.YtilgamjahediiaaGreatDoor
