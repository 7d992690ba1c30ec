/-
  No cell of these rows narrows 'for every input' (looked for: loops, veiled, ifaces, maps, wideKeys, modest, calm, conditions, laid).
  DERIVED. THE GIVEN ROWS OF THIS SEAT. 6 by the template 'for every input the law returns true; each argument reads behind the call as it read before'; 0 by the template 'total and deterministic' (their statements: YtfmlannhhdfinaaTotals.lean).
  GIVEN WITH THE SEED: the statements are not yours to turn. If you find one false, say at which input.
  Laid BY PROGRAM, IN A SANDBOX (cutbox-rows.mjs): the forced cells as the released guide's own fill.sh prints them over the translation 995ef3a6c1fad0d9… (all of the seat's roots in one cut). By AI agents, Wed Nov 11 2026. No macro, syntax, notation, axiom, sorry.
-/
import Derived.Test.YtfmlannhhdfinaaChecked
import GoSem.Claim
import GoSem.ClaimJoined
import GoSem.ClaimMapViews
import Derived.JoinedTies
import Derived.KernelRfl
namespace Go.Proofs.Ytfmlannhhdfinaa
/- THE CELL 'sum', in the pinned program and in every row, IS THE sha256 OF THE DUMP (.gsa) THAT YtfmlannhhdfinaaProg.lean LOADS. Nothing in Lean hashes anything: it is a label: what it is worth is what the hold of that sum in a sandbox is worth. -/
noncomputable def Try.pinned : Pinned := { name := "ytfmlannhhdfinaa", sum := "995ef3a6c1fad0d960885493232d21dd03f7454ac1025630466f09bf42a81e4a", checked := Try.checked }
namespace Rows
def none {H : Type} : Left H := { results := [], args := [] }

/-- 'mailcoachlaw01.CivilOrd': WHATEVER THE INPUT: true; the input reads as it did. -/
def civilOrdSpec : ChangeSpec := { name := "civilOrd", fn := fun _ => fun
  | [d1, d2, d3] => { results := [.lit (.bool true)], args := [d1, d2, d3] }
  | _ => none }
def civilOrdRow : OpenClaim := { program := "ytfmlannhhdfinaa", sum := "995ef3a6c1fad0d960885493232d21dd03f7454ac1025630466f09bf42a81e4a", func := "mailcoach/mailcoachlaw01.CivilOrd", spec := "civilOrd", unfollowed := true, recurses := true, apart := false }
def CivilOrdSaid : Prop := civilOrdRow.holds Try.pinned (OpenSpec.ofChange civilOrdSpec)

/-- ITS FALSE NEIGHBOUR: 'it returns false'. Refute it at one input. -/
def civilOrdWrong : ChangeSpec := { name := "civilOrd", fn := fun _ => fun
  | [d1, d2, d3] => { results := [.lit (.bool false)], args := [d1, d2, d3] }
  | _ => none }
def CivilOrdWrongFalsely : Prop := civilOrdRow.holds Try.pinned (OpenSpec.ofChange civilOrdWrong)

/-- 'mailcoachlaw01.CivilDate': WHATEVER THE INPUT: true; the input reads as it did. -/
def civilDateSpec : ChangeSpec := { name := "civilDate", fn := fun _ => fun
  | [d] => { results := [.lit (.bool true)], args := [d] }
  | _ => none }
def civilDateRow : OpenClaim := { program := "ytfmlannhhdfinaa", sum := "995ef3a6c1fad0d960885493232d21dd03f7454ac1025630466f09bf42a81e4a", func := "mailcoach/mailcoachlaw01.CivilDate", spec := "civilDate", unfollowed := true, recurses := true, apart := false }
def CivilDateSaid : Prop := civilDateRow.holds Try.pinned (OpenSpec.ofChange civilDateSpec)

/-- ITS FALSE NEIGHBOUR: 'it returns false'. Refute it at one input. -/
def civilDateWrong : ChangeSpec := { name := "civilDate", fn := fun _ => fun
  | [d] => { results := [.lit (.bool false)], args := [d] }
  | _ => none }
def CivilDateWrongFalsely : Prop := civilDateRow.holds Try.pinned (OpenSpec.ofChange civilDateWrong)

/-- 'mailcoachlaw01.CivilBack': WHATEVER THE INPUT: true; the input reads as it did. -/
def civilBackSpec : ChangeSpec := { name := "civilBack", fn := fun _ => fun
  | [d1, d2, d3, d4] => { results := [.lit (.bool true)], args := [d1, d2, d3, d4] }
  | _ => none }
def civilBackRow : OpenClaim := { program := "ytfmlannhhdfinaa", sum := "995ef3a6c1fad0d960885493232d21dd03f7454ac1025630466f09bf42a81e4a", func := "mailcoach/mailcoachlaw01.CivilBack", spec := "civilBack", unfollowed := true, recurses := true, apart := false }
def CivilBackSaid : Prop := civilBackRow.holds Try.pinned (OpenSpec.ofChange civilBackSpec)

/-- ITS FALSE NEIGHBOUR: 'it returns false'. Refute it at one input. -/
def civilBackWrong : ChangeSpec := { name := "civilBack", fn := fun _ => fun
  | [d1, d2, d3, d4] => { results := [.lit (.bool false)], args := [d1, d2, d3, d4] }
  | _ => none }
def CivilBackWrongFalsely : Prop := civilBackRow.holds Try.pinned (OpenSpec.ofChange civilBackWrong)

/-- 'mailcoachlaw01.CivilNext': WHATEVER THE INPUT: true; the input reads as it did. -/
def civilNextSpec : ChangeSpec := { name := "civilNext", fn := fun _ => fun
  | [d1, d2, d3] => { results := [.lit (.bool true)], args := [d1, d2, d3] }
  | _ => none }
def civilNextRow : OpenClaim := { program := "ytfmlannhhdfinaa", sum := "995ef3a6c1fad0d960885493232d21dd03f7454ac1025630466f09bf42a81e4a", func := "mailcoach/mailcoachlaw01.CivilNext", spec := "civilNext", unfollowed := true, recurses := true, apart := false }
def CivilNextSaid : Prop := civilNextRow.holds Try.pinned (OpenSpec.ofChange civilNextSpec)

/-- ITS FALSE NEIGHBOUR: 'it returns false'. Refute it at one input. -/
def civilNextWrong : ChangeSpec := { name := "civilNext", fn := fun _ => fun
  | [d1, d2, d3] => { results := [.lit (.bool false)], args := [d1, d2, d3] }
  | _ => none }
def CivilNextWrongFalsely : Prop := civilNextRow.holds Try.pinned (OpenSpec.ofChange civilNextWrong)

/-- 'mailcoachlaw01.CivilYears': WHATEVER THE INPUT: true; the input reads as it did. -/
def civilYearsSpec : ChangeSpec := { name := "civilYears", fn := fun _ => fun
  | [d] => { results := [.lit (.bool true)], args := [d] }
  | _ => none }
def civilYearsRow : OpenClaim := { program := "ytfmlannhhdfinaa", sum := "995ef3a6c1fad0d960885493232d21dd03f7454ac1025630466f09bf42a81e4a", func := "mailcoach/mailcoachlaw01.CivilYears", spec := "civilYears", unfollowed := true, recurses := true, apart := false }
def CivilYearsSaid : Prop := civilYearsRow.holds Try.pinned (OpenSpec.ofChange civilYearsSpec)

/-- ITS FALSE NEIGHBOUR: 'it returns false'. Refute it at one input. -/
def civilYearsWrong : ChangeSpec := { name := "civilYears", fn := fun _ => fun
  | [d] => { results := [.lit (.bool false)], args := [d] }
  | _ => none }
def CivilYearsWrongFalsely : Prop := civilYearsRow.holds Try.pinned (OpenSpec.ofChange civilYearsWrong)

/-- 'mailcoachlaw01.CivilYday': WHATEVER THE INPUT: true; the input reads as it did. -/
def civilYdaySpec : ChangeSpec := { name := "civilYday", fn := fun _ => fun
  | [d1, d2, d3] => { results := [.lit (.bool true)], args := [d1, d2, d3] }
  | _ => none }
def civilYdayRow : OpenClaim := { program := "ytfmlannhhdfinaa", sum := "995ef3a6c1fad0d960885493232d21dd03f7454ac1025630466f09bf42a81e4a", func := "mailcoach/mailcoachlaw01.CivilYday", spec := "civilYday", unfollowed := true, recurses := true, apart := false }
def CivilYdaySaid : Prop := civilYdayRow.holds Try.pinned (OpenSpec.ofChange civilYdaySpec)

/-- ITS FALSE NEIGHBOUR: 'it returns false'. Refute it at one input. -/
def civilYdayWrong : ChangeSpec := { name := "civilYday", fn := fun _ => fun
  | [d1, d2, d3] => { results := [.lit (.bool false)], args := [d1, d2, d3] }
  | _ => none }
def CivilYdayWrongFalsely : Prop := civilYdayRow.holds Try.pinned (OpenSpec.ofChange civilYdayWrong)

/- THE SECOND FORM. 'bulk': how many values and letters a reading holds, each counted each time it is reached (what is shared counts as often as it is met; a slice's spare places count too). A statement '..UptoSaid' is the law's where the arguments, and the package variables that the reading takes, are together of bulk at most 1048576: NARROWER than '..Said'. Prove '..Said' where nothing that the law and all that it calls make is longer than what came in: it says more and counts as full. Else prove '..UptoSaid'. A law counts once. -/
mutual
def uptoBulk {H : Type} : DataW H → Nat
  | .lit (.string bytes) => bytes.length + 1
  | .lit _ => 1
  | .nil => 1
  | .ptr d => uptoBulk d + 1
  | .slice elems spare => uptoBulkAll elems + uptoBulkAll spare + 1
  | .agg parts => uptoBulkAll parts + 1
  | .iface _ d => uptoBulk d + 1
  | .map entries => uptoBulkEntries entries + 1
  | .held _ => 1
def uptoBulkAll {H : Type} : List (DataW H) → Nat
  | [] => 0
  | d :: r => uptoBulk d + uptoBulkAll r
def uptoBulkEntries {H : Type} : List (Lit × DataW H) → Nat
  | [] => 0
  | x :: r => uptoBulkEntry x + uptoBulkEntries r
def uptoBulkEntry {H : Type} : Lit × DataW H → Nat
  | (.string bytes, d) => bytes.length + uptoBulk d + 1
  | (_, d) => uptoBulk d + 1
 end
def uptoSmall : (H : Type) → List (DataW H) → Bool := fun _ ds => decide (uptoBulkAll ds ≤ 1048576)
def OpenSpec.upto (s : _root_.Go.ChangeSpec) : _root_.Go.OpenSpec := { _root_.Go.OpenSpec.ofChange s with cond := some uptoSmall }

/-- 'mailcoachlaw01.CivilOrd', WHERE WHAT IT READS IS OF BULK AT MOST 1048576: true; the input reads as it did. -/
def civilOrdUptoRow : OpenClaim := { program := "ytfmlannhhdfinaa", sum := "995ef3a6c1fad0d960885493232d21dd03f7454ac1025630466f09bf42a81e4a", func := "mailcoach/mailcoachlaw01.CivilOrd", spec := "civilOrd", unfollowed := true, recurses := true, apart := false, narrowed := true }
def CivilOrdUptoSaid : Prop := civilOrdUptoRow.holds Try.pinned (OpenSpec.upto civilOrdSpec)

/-- 'mailcoachlaw01.CivilDate', WHERE WHAT IT READS IS OF BULK AT MOST 1048576: true; the input reads as it did. -/
def civilDateUptoRow : OpenClaim := { program := "ytfmlannhhdfinaa", sum := "995ef3a6c1fad0d960885493232d21dd03f7454ac1025630466f09bf42a81e4a", func := "mailcoach/mailcoachlaw01.CivilDate", spec := "civilDate", unfollowed := true, recurses := true, apart := false, narrowed := true }
def CivilDateUptoSaid : Prop := civilDateUptoRow.holds Try.pinned (OpenSpec.upto civilDateSpec)

/-- 'mailcoachlaw01.CivilBack', WHERE WHAT IT READS IS OF BULK AT MOST 1048576: true; the input reads as it did. -/
def civilBackUptoRow : OpenClaim := { program := "ytfmlannhhdfinaa", sum := "995ef3a6c1fad0d960885493232d21dd03f7454ac1025630466f09bf42a81e4a", func := "mailcoach/mailcoachlaw01.CivilBack", spec := "civilBack", unfollowed := true, recurses := true, apart := false, narrowed := true }
def CivilBackUptoSaid : Prop := civilBackUptoRow.holds Try.pinned (OpenSpec.upto civilBackSpec)

/-- 'mailcoachlaw01.CivilNext', WHERE WHAT IT READS IS OF BULK AT MOST 1048576: true; the input reads as it did. -/
def civilNextUptoRow : OpenClaim := { program := "ytfmlannhhdfinaa", sum := "995ef3a6c1fad0d960885493232d21dd03f7454ac1025630466f09bf42a81e4a", func := "mailcoach/mailcoachlaw01.CivilNext", spec := "civilNext", unfollowed := true, recurses := true, apart := false, narrowed := true }
def CivilNextUptoSaid : Prop := civilNextUptoRow.holds Try.pinned (OpenSpec.upto civilNextSpec)

/-- 'mailcoachlaw01.CivilYears', WHERE WHAT IT READS IS OF BULK AT MOST 1048576: true; the input reads as it did. -/
def civilYearsUptoRow : OpenClaim := { program := "ytfmlannhhdfinaa", sum := "995ef3a6c1fad0d960885493232d21dd03f7454ac1025630466f09bf42a81e4a", func := "mailcoach/mailcoachlaw01.CivilYears", spec := "civilYears", unfollowed := true, recurses := true, apart := false, narrowed := true }
def CivilYearsUptoSaid : Prop := civilYearsUptoRow.holds Try.pinned (OpenSpec.upto civilYearsSpec)

/-- 'mailcoachlaw01.CivilYday', WHERE WHAT IT READS IS OF BULK AT MOST 1048576: true; the input reads as it did. -/
def civilYdayUptoRow : OpenClaim := { program := "ytfmlannhhdfinaa", sum := "995ef3a6c1fad0d960885493232d21dd03f7454ac1025630466f09bf42a81e4a", func := "mailcoach/mailcoachlaw01.CivilYday", spec := "civilYday", unfollowed := true, recurses := true, apart := false, narrowed := true }
def CivilYdayUptoSaid : Prop := civilYdayUptoRow.holds Try.pinned (OpenSpec.upto civilYdaySpec)

end Rows
end Go.Proofs.Ytfmlannhhdfinaa
