/-
  No cell of these rows narrows 'for every input' (looked for: loops, veiled, ifaces, maps, wideKeys, modest, calm, conditions, laid).
  DERIVED. THE GIVEN ROWS OF THIS SEAT. 6 by the template 'for every input the law returns true; each argument reads behind the call as it read before'; 0 by the template 'total and deterministic' (their statements: YtkcalnmemjioaaaTotals.lean).
  GIVEN WITH THE SEED: the statements are not yours to turn. If you find one false, say at which input.
  Laid BY PROGRAM, IN A SANDBOX (cutbox-rows.mjs): the forced cells as the released guide's own fill.sh prints them over the translation b411d0c2993270e5… (all of the seat's roots in one cut). By AI agents, Wed Nov 11 2026. No macro, syntax, notation, axiom, sorry.
-/
import Derived.Test.YtkcalnmemjioaaaChecked
import GoSem.Claim
import GoSem.ClaimJoined
import GoSem.ClaimMapViews
import Derived.JoinedTies
import Derived.KernelRfl
namespace Go.Proofs.Ytkcalnmemjioaaa
/- THE CELL 'sum', in the pinned program and in every row, IS THE sha256 OF THE DUMP (.gsa) THAT YtkcalnmemjioaaaProg.lean LOADS. Nothing in Lean hashes anything: it is a label: what it is worth is what the hold of that sum in a sandbox is worth. -/
noncomputable def Try.pinned : Pinned := { name := "ytkcalnmemjioaaa", sum := "b411d0c2993270e59b2dc5ca775c045abef861c528f60c2e5c9b086139183e53", checked := Try.checked }
namespace Rows
def none {H : Type} : Left H := { results := [], args := [] }

/-- 'mailcoachlaw12.QpTells': WHATEVER THE INPUT: true; the input reads as it did. -/
def qpTellsSpec : ChangeSpec := { name := "qpTells", fn := fun _ => fun
  | [d] => { results := [.lit (.bool true)], args := [d] }
  | _ => none }
def qpTellsRow : OpenClaim := { program := "ytkcalnmemjioaaa", sum := "b411d0c2993270e59b2dc5ca775c045abef861c528f60c2e5c9b086139183e53", func := "mailcoach/mailcoachlaw12.QpTells", spec := "qpTells", apart := false }
def QpTellsSaid : Prop := qpTellsRow.holds Try.pinned (OpenSpec.ofChange qpTellsSpec)

/-- ITS FALSE NEIGHBOUR: 'it returns false'. Refute it at one input. -/
def qpTellsWrong : ChangeSpec := { name := "qpTells", fn := fun _ => fun
  | [d] => { results := [.lit (.bool false)], args := [d] }
  | _ => none }
def QpTellsWrongFalsely : Prop := qpTellsRow.holds Try.pinned (OpenSpec.ofChange qpTellsWrong)

/-- 'mailcoachlaw12.QpBack': WHATEVER THE INPUT: true; the input reads as it did. -/
def qpBackSpec : ChangeSpec := { name := "qpBack", fn := fun _ => fun
  | [d] => { results := [.lit (.bool true)], args := [d] }
  | _ => none }
def qpBackRow : OpenClaim := { program := "ytkcalnmemjioaaa", sum := "b411d0c2993270e59b2dc5ca775c045abef861c528f60c2e5c9b086139183e53", func := "mailcoach/mailcoachlaw12.QpBack", spec := "qpBack", apart := false }
def QpBackSaid : Prop := qpBackRow.holds Try.pinned (OpenSpec.ofChange qpBackSpec)

/-- ITS FALSE NEIGHBOUR: 'it returns false'. Refute it at one input. -/
def qpBackWrong : ChangeSpec := { name := "qpBack", fn := fun _ => fun
  | [d] => { results := [.lit (.bool false)], args := [d] }
  | _ => none }
def QpBackWrongFalsely : Prop := qpBackRow.holds Try.pinned (OpenSpec.ofChange qpBackWrong)

/-- 'mailcoachlaw12.QpLines': WHATEVER THE INPUT: true; the input reads as it did. -/
def qpLinesSpec : ChangeSpec := { name := "qpLines", fn := fun _ => fun
  | [d] => { results := [.lit (.bool true)], args := [d] }
  | _ => none }
def qpLinesRow : OpenClaim := { program := "ytkcalnmemjioaaa", sum := "b411d0c2993270e59b2dc5ca775c045abef861c528f60c2e5c9b086139183e53", func := "mailcoach/mailcoachlaw12.QpLines", spec := "qpLines", apart := false }
def QpLinesSaid : Prop := qpLinesRow.holds Try.pinned (OpenSpec.ofChange qpLinesSpec)

/-- ITS FALSE NEIGHBOUR: 'it returns false'. Refute it at one input. -/
def qpLinesWrong : ChangeSpec := { name := "qpLines", fn := fun _ => fun
  | [d] => { results := [.lit (.bool false)], args := [d] }
  | _ => none }
def QpLinesWrongFalsely : Prop := qpLinesRow.holds Try.pinned (OpenSpec.ofChange qpLinesWrong)

/-- 'mailcoachlaw12.QpPlain': WHATEVER THE INPUT: true; the input reads as it did. -/
def qpPlainSpec : ChangeSpec := { name := "qpPlain", fn := fun _ => fun
  | [d] => { results := [.lit (.bool true)], args := [d] }
  | _ => none }
def qpPlainRow : OpenClaim := { program := "ytkcalnmemjioaaa", sum := "b411d0c2993270e59b2dc5ca775c045abef861c528f60c2e5c9b086139183e53", func := "mailcoach/mailcoachlaw12.QpPlain", spec := "qpPlain", apart := false }
def QpPlainSaid : Prop := qpPlainRow.holds Try.pinned (OpenSpec.ofChange qpPlainSpec)

/-- ITS FALSE NEIGHBOUR: 'it returns false'. Refute it at one input. -/
def qpPlainWrong : ChangeSpec := { name := "qpPlain", fn := fun _ => fun
  | [d] => { results := [.lit (.bool false)], args := [d] }
  | _ => none }
def QpPlainWrongFalsely : Prop := qpPlainRow.holds Try.pinned (OpenSpec.ofChange qpPlainWrong)

/-- 'mailcoachlaw12.QpJoins': WHATEVER THE INPUT: true; the input reads as it did. -/
def qpJoinsSpec : ChangeSpec := { name := "qpJoins", fn := fun _ => fun
  | [d1, d2] => { results := [.lit (.bool true)], args := [d1, d2] }
  | _ => none }
def qpJoinsRow : OpenClaim := { program := "ytkcalnmemjioaaa", sum := "b411d0c2993270e59b2dc5ca775c045abef861c528f60c2e5c9b086139183e53", func := "mailcoach/mailcoachlaw12.QpJoins", spec := "qpJoins", apart := false }
def QpJoinsSaid : Prop := qpJoinsRow.holds Try.pinned (OpenSpec.ofChange qpJoinsSpec)

/-- ITS FALSE NEIGHBOUR: 'it returns false'. Refute it at one input. -/
def qpJoinsWrong : ChangeSpec := { name := "qpJoins", fn := fun _ => fun
  | [d1, d2] => { results := [.lit (.bool false)], args := [d1, d2] }
  | _ => none }
def QpJoinsWrongFalsely : Prop := qpJoinsRow.holds Try.pinned (OpenSpec.ofChange qpJoinsWrong)

/-- 'mailcoachlaw12.QpSoft': WHATEVER THE INPUT: true; the input reads as it did. -/
def qpSoftSpec : ChangeSpec := { name := "qpSoft", fn := fun _ => fun
  | [d] => { results := [.lit (.bool true)], args := [d] }
  | _ => none }
def qpSoftRow : OpenClaim := { program := "ytkcalnmemjioaaa", sum := "b411d0c2993270e59b2dc5ca775c045abef861c528f60c2e5c9b086139183e53", func := "mailcoach/mailcoachlaw12.QpSoft", spec := "qpSoft", apart := false }
def QpSoftSaid : Prop := qpSoftRow.holds Try.pinned (OpenSpec.ofChange qpSoftSpec)

/-- ITS FALSE NEIGHBOUR: 'it returns false'. Refute it at one input. -/
def qpSoftWrong : ChangeSpec := { name := "qpSoft", fn := fun _ => fun
  | [d] => { results := [.lit (.bool false)], args := [d] }
  | _ => none }
def QpSoftWrongFalsely : Prop := qpSoftRow.holds Try.pinned (OpenSpec.ofChange qpSoftWrong)

/- THE SECOND FORM. 'bulk': how many values and letters a reading holds, each counted each time it is reached (what is shared counts as often as it is met; a slice's spare places count too). A statement '..UptoSaid' is the law's where the arguments, and the package variables that the reading takes, are together of bulk at most 1048576: NARROWER than '..Said'. Prove '..Said' where nothing that the law and all that it calls make is longer than what came in: it says more and counts as full. Else prove '..UptoSaid'. A law counts once. -/
mutual
def uptoBulk {H : Type} : DataW H → Nat
  | .lit (.string bytes) => bytes.length + 1
  | .lit _ => 1
  | .nil => 1
  | .ptr d => uptoBulk d + 1
  | .slice elems spare => uptoBulkAll elems + uptoBulkAll spare + 1
  | .agg parts => uptoBulkAll parts + 1
  | .iface _ d => uptoBulk d + 1
  | .map entries => uptoBulkEntries entries + 1
  | .held _ => 1
def uptoBulkAll {H : Type} : List (DataW H) → Nat
  | [] => 0
  | d :: r => uptoBulk d + uptoBulkAll r
def uptoBulkEntries {H : Type} : List (Lit × DataW H) → Nat
  | [] => 0
  | x :: r => uptoBulkEntry x + uptoBulkEntries r
def uptoBulkEntry {H : Type} : Lit × DataW H → Nat
  | (.string bytes, d) => bytes.length + uptoBulk d + 1
  | (_, d) => uptoBulk d + 1
 end
def uptoSmall : (H : Type) → List (DataW H) → Bool := fun _ ds => decide (uptoBulkAll ds ≤ 1048576)
def OpenSpec.upto (s : _root_.Go.ChangeSpec) : _root_.Go.OpenSpec := { _root_.Go.OpenSpec.ofChange s with cond := some uptoSmall }

/-- 'mailcoachlaw12.QpTells', WHERE WHAT IT READS IS OF BULK AT MOST 1048576: true; the input reads as it did. -/
def qpTellsUptoRow : OpenClaim := { program := "ytkcalnmemjioaaa", sum := "b411d0c2993270e59b2dc5ca775c045abef861c528f60c2e5c9b086139183e53", func := "mailcoach/mailcoachlaw12.QpTells", spec := "qpTells", apart := false, narrowed := true }
def QpTellsUptoSaid : Prop := qpTellsUptoRow.holds Try.pinned (OpenSpec.upto qpTellsSpec)

/-- 'mailcoachlaw12.QpBack', WHERE WHAT IT READS IS OF BULK AT MOST 1048576: true; the input reads as it did. -/
def qpBackUptoRow : OpenClaim := { program := "ytkcalnmemjioaaa", sum := "b411d0c2993270e59b2dc5ca775c045abef861c528f60c2e5c9b086139183e53", func := "mailcoach/mailcoachlaw12.QpBack", spec := "qpBack", apart := false, narrowed := true }
def QpBackUptoSaid : Prop := qpBackUptoRow.holds Try.pinned (OpenSpec.upto qpBackSpec)

/-- 'mailcoachlaw12.QpLines', WHERE WHAT IT READS IS OF BULK AT MOST 1048576: true; the input reads as it did. -/
def qpLinesUptoRow : OpenClaim := { program := "ytkcalnmemjioaaa", sum := "b411d0c2993270e59b2dc5ca775c045abef861c528f60c2e5c9b086139183e53", func := "mailcoach/mailcoachlaw12.QpLines", spec := "qpLines", apart := false, narrowed := true }
def QpLinesUptoSaid : Prop := qpLinesUptoRow.holds Try.pinned (OpenSpec.upto qpLinesSpec)

/-- 'mailcoachlaw12.QpPlain', WHERE WHAT IT READS IS OF BULK AT MOST 1048576: true; the input reads as it did. -/
def qpPlainUptoRow : OpenClaim := { program := "ytkcalnmemjioaaa", sum := "b411d0c2993270e59b2dc5ca775c045abef861c528f60c2e5c9b086139183e53", func := "mailcoach/mailcoachlaw12.QpPlain", spec := "qpPlain", apart := false, narrowed := true }
def QpPlainUptoSaid : Prop := qpPlainUptoRow.holds Try.pinned (OpenSpec.upto qpPlainSpec)

/-- 'mailcoachlaw12.QpJoins', WHERE WHAT IT READS IS OF BULK AT MOST 1048576: true; the input reads as it did. -/
def qpJoinsUptoRow : OpenClaim := { program := "ytkcalnmemjioaaa", sum := "b411d0c2993270e59b2dc5ca775c045abef861c528f60c2e5c9b086139183e53", func := "mailcoach/mailcoachlaw12.QpJoins", spec := "qpJoins", apart := false, narrowed := true }
def QpJoinsUptoSaid : Prop := qpJoinsUptoRow.holds Try.pinned (OpenSpec.upto qpJoinsSpec)

/-- 'mailcoachlaw12.QpSoft', WHERE WHAT IT READS IS OF BULK AT MOST 1048576: true; the input reads as it did. -/
def qpSoftUptoRow : OpenClaim := { program := "ytkcalnmemjioaaa", sum := "b411d0c2993270e59b2dc5ca775c045abef861c528f60c2e5c9b086139183e53", func := "mailcoach/mailcoachlaw12.QpSoft", spec := "qpSoft", apart := false, narrowed := true }
def QpSoftUptoSaid : Prop := qpSoftUptoRow.holds Try.pinned (OpenSpec.upto qpSoftSpec)

end Rows
end Go.Proofs.Ytkcalnmemjioaaa
