/-
  No cell of these rows narrows 'for every input' (looked for: loops, veiled, ifaces, maps, wideKeys, modest, calm, conditions, laid).
  DERIVED. THE GIVEN ROWS OF THIS SEAT. 6 by the template 'for every input the law returns true; each argument reads behind the call as it read before'; 0 by the template 'total and deterministic' (their statements: YtebcnhnkpmbgdaaTotals.lean).
  GIVEN WITH THE SEED: the statements are not yours to turn. If you find one false, say at which input.
  Laid BY PROGRAM, IN A SANDBOX (cutbox-rows.mjs): the forced cells as the released guide's own fill.sh prints them over the translation 43d06883e97e4a68… (all of the seat's roots in one cut). By AI agents, Wed Nov 11 2026. No macro, syntax, notation, axiom, sorry.
-/
import Derived.Test.YtebcnhnkpmbgdaaChecked
import GoSem.Claim
import GoSem.ClaimJoined
import GoSem.ClaimMapViews
import Derived.JoinedTies
import Derived.KernelRfl
namespace Go.Proofs.Ytebcnhnkpmbgdaa
/- THE CELL 'sum', in the pinned program and in every row, IS THE sha256 OF THE DUMP (.gsa) THAT YtebcnhnkpmbgdaaProg.lean LOADS. Nothing in Lean hashes anything: it is a label: what it is worth is what the hold of that sum in a sandbox is worth. -/
noncomputable def Try.pinned : Pinned := { name := "ytebcnhnkpmbgdaa", sum := "43d06883e97e4a68da05133a977a06184803c37d6b4f1f761960d3dd9fc757ae", checked := Try.checked }
namespace Rows
def none {H : Type} : Left H := { results := [], args := [] }

/-- 'aliblaw.HistoryEvents': WHATEVER THE INPUT: true; the input reads as it did. -/
def historyEventsSpec : ChangeSpec := { name := "historyEvents", fn := fun _ => fun
  | [d1, d2, d3, d4] => { results := [.lit (.bool true)], args := [d1, d2, d3, d4] }
  | _ => none }
def historyEventsRow : OpenClaim := { program := "ytebcnhnkpmbgdaa", sum := "43d06883e97e4a68da05133a977a06184803c37d6b4f1f761960d3dd9fc757ae", func := "alibi/aliblaw.HistoryEvents", spec := "historyEvents", apart := false }
def HistoryEventsSaid : Prop := historyEventsRow.holds Try.pinned (OpenSpec.ofChange historyEventsSpec)

/-- ITS FALSE NEIGHBOUR: 'it returns false'. Refute it at one input. -/
def historyEventsWrong : ChangeSpec := { name := "historyEvents", fn := fun _ => fun
  | [d1, d2, d3, d4] => { results := [.lit (.bool false)], args := [d1, d2, d3, d4] }
  | _ => none }
def HistoryEventsWrongFalsely : Prop := historyEventsRow.holds Try.pinned (OpenSpec.ofChange historyEventsWrong)

/-- 'aliblaw.ObjectSteps': WHATEVER THE INPUT: true; the input reads as it did. -/
def objectStepsSpec : ChangeSpec := { name := "objectSteps", fn := fun _ => fun
  | [d1, d2, d3, d4] => { results := [.lit (.bool true)], args := [d1, d2, d3, d4] }
  | _ => none }
def objectStepsRow : OpenClaim := { program := "ytebcnhnkpmbgdaa", sum := "43d06883e97e4a68da05133a977a06184803c37d6b4f1f761960d3dd9fc757ae", func := "alibi/aliblaw.ObjectSteps", spec := "objectSteps", unfollowed := true, recurses := true, apart := false }
def ObjectStepsSaid : Prop := objectStepsRow.holds Try.pinned (OpenSpec.ofChange objectStepsSpec)

/-- ITS FALSE NEIGHBOUR: 'it returns false'. Refute it at one input. -/
def objectStepsWrong : ChangeSpec := { name := "objectSteps", fn := fun _ => fun
  | [d1, d2, d3, d4] => { results := [.lit (.bool false)], args := [d1, d2, d3, d4] }
  | _ => none }
def ObjectStepsWrongFalsely : Prop := objectStepsRow.holds Try.pinned (OpenSpec.ofChange objectStepsWrong)

/-- 'aliblaw.ObjectPlays': WHATEVER THE INPUT: true; the input reads as it did. -/
def objectPlaysSpec : ChangeSpec := { name := "objectPlays", fn := fun _ => fun
  | [d1, d2] => { results := [.lit (.bool true)], args := [d1, d2] }
  | _ => none }
def objectPlaysRow : OpenClaim := { program := "ytebcnhnkpmbgdaa", sum := "43d06883e97e4a68da05133a977a06184803c37d6b4f1f761960d3dd9fc757ae", func := "alibi/aliblaw.ObjectPlays", spec := "objectPlays", unfollowed := true, recurses := true, apart := false }
def ObjectPlaysSaid : Prop := objectPlaysRow.holds Try.pinned (OpenSpec.ofChange objectPlaysSpec)

/-- ITS FALSE NEIGHBOUR: 'it returns false'. Refute it at one input. -/
def objectPlaysWrong : ChangeSpec := { name := "objectPlays", fn := fun _ => fun
  | [d1, d2] => { results := [.lit (.bool false)], args := [d1, d2] }
  | _ => none }
def ObjectPlaysWrongFalsely : Prop := objectPlaysRow.holds Try.pinned (OpenSpec.ofChange objectPlaysWrong)

/-- 'alibkeep.ObjectOne': WHATEVER THE INPUT: true; the input reads as it did. -/
def objectOneSpec : ChangeSpec := { name := "objectOne", fn := fun _ => fun
  | [d1, d2, d3, d4] => { results := [.lit (.bool true)], args := [d1, d2, d3, d4] }
  | _ => none }
def objectOneRow : OpenClaim := { program := "ytebcnhnkpmbgdaa", sum := "43d06883e97e4a68da05133a977a06184803c37d6b4f1f761960d3dd9fc757ae", func := "alibi/alibkeep.ObjectOne", spec := "objectOne", unfollowed := true, recurses := true, apart := false }
def ObjectOneSaid : Prop := objectOneRow.holds Try.pinned (OpenSpec.ofChange objectOneSpec)

/-- ITS FALSE NEIGHBOUR: 'it returns false'. Refute it at one input. -/
def objectOneWrong : ChangeSpec := { name := "objectOne", fn := fun _ => fun
  | [d1, d2, d3, d4] => { results := [.lit (.bool false)], args := [d1, d2, d3, d4] }
  | _ => none }
def ObjectOneWrongFalsely : Prop := objectOneRow.holds Try.pinned (OpenSpec.ofChange objectOneWrong)

/-- 'alibkeep.ObjectTurns': WHATEVER THE INPUT: true; the input reads as it did. -/
def objectTurnsSpec : ChangeSpec := { name := "objectTurns", fn := fun _ => fun
  | [d1, d2, d3] => { results := [.lit (.bool true)], args := [d1, d2, d3] }
  | _ => none }
def objectTurnsRow : OpenClaim := { program := "ytebcnhnkpmbgdaa", sum := "43d06883e97e4a68da05133a977a06184803c37d6b4f1f761960d3dd9fc757ae", func := "alibi/alibkeep.ObjectTurns", spec := "objectTurns", unfollowed := true, recurses := true, apart := false }
def ObjectTurnsSaid : Prop := objectTurnsRow.holds Try.pinned (OpenSpec.ofChange objectTurnsSpec)

/-- ITS FALSE NEIGHBOUR: 'it returns false'. Refute it at one input. -/
def objectTurnsWrong : ChangeSpec := { name := "objectTurns", fn := fun _ => fun
  | [d1, d2, d3] => { results := [.lit (.bool false)], args := [d1, d2, d3] }
  | _ => none }
def ObjectTurnsWrongFalsely : Prop := objectTurnsRow.holds Try.pinned (OpenSpec.ofChange objectTurnsWrong)

/-- 'alibkeep.ObjectRows': WHATEVER THE INPUT: true; the input reads as it did. -/
def objectRowsSpec : ChangeSpec := { name := "objectRows", fn := fun _ => fun
  | [d] => { results := [.lit (.bool true)], args := [d] }
  | _ => none }
def objectRowsRow : OpenClaim := { program := "ytebcnhnkpmbgdaa", sum := "43d06883e97e4a68da05133a977a06184803c37d6b4f1f761960d3dd9fc757ae", func := "alibi/alibkeep.ObjectRows", spec := "objectRows", unfollowed := true, recurses := true, apart := false }
def ObjectRowsSaid : Prop := objectRowsRow.holds Try.pinned (OpenSpec.ofChange objectRowsSpec)

/-- ITS FALSE NEIGHBOUR: 'it returns false'. Refute it at one input. -/
def objectRowsWrong : ChangeSpec := { name := "objectRows", fn := fun _ => fun
  | [d] => { results := [.lit (.bool false)], args := [d] }
  | _ => none }
def ObjectRowsWrongFalsely : Prop := objectRowsRow.holds Try.pinned (OpenSpec.ofChange objectRowsWrong)

/- THE SECOND FORM. 'bulk': how many values and letters a reading holds, each counted each time it is reached (what is shared counts as often as it is met; a slice's spare places count too). A statement '..UptoSaid' is the law's where the arguments, and the package variables that the reading takes, are together of bulk at most 1048576: NARROWER than '..Said'. Prove '..Said' where nothing that the law and all that it calls make is longer than what came in: it says more and counts as full. Else prove '..UptoSaid'. A law counts once. -/
mutual
def uptoBulk {H : Type} : DataW H → Nat
  | .lit (.string bytes) => bytes.length + 1
  | .lit _ => 1
  | .nil => 1
  | .ptr d => uptoBulk d + 1
  | .slice elems spare => uptoBulkAll elems + uptoBulkAll spare + 1
  | .agg parts => uptoBulkAll parts + 1
  | .iface _ d => uptoBulk d + 1
  | .map entries => uptoBulkEntries entries + 1
  | .held _ => 1
def uptoBulkAll {H : Type} : List (DataW H) → Nat
  | [] => 0
  | d :: r => uptoBulk d + uptoBulkAll r
def uptoBulkEntries {H : Type} : List (Lit × DataW H) → Nat
  | [] => 0
  | x :: r => uptoBulkEntry x + uptoBulkEntries r
def uptoBulkEntry {H : Type} : Lit × DataW H → Nat
  | (.string bytes, d) => bytes.length + uptoBulk d + 1
  | (_, d) => uptoBulk d + 1
 end
def uptoSmall : (H : Type) → List (DataW H) → Bool := fun _ ds => decide (uptoBulkAll ds ≤ 1048576)
def OpenSpec.upto (s : _root_.Go.ChangeSpec) : _root_.Go.OpenSpec := { _root_.Go.OpenSpec.ofChange s with cond := some uptoSmall }

/-- 'aliblaw.HistoryEvents', WHERE WHAT IT READS IS OF BULK AT MOST 1048576: true; the input reads as it did. -/
def historyEventsUptoRow : OpenClaim := { program := "ytebcnhnkpmbgdaa", sum := "43d06883e97e4a68da05133a977a06184803c37d6b4f1f761960d3dd9fc757ae", func := "alibi/aliblaw.HistoryEvents", spec := "historyEvents", apart := false, narrowed := true }
def HistoryEventsUptoSaid : Prop := historyEventsUptoRow.holds Try.pinned (OpenSpec.upto historyEventsSpec)

/-- 'aliblaw.ObjectSteps', WHERE WHAT IT READS IS OF BULK AT MOST 1048576: true; the input reads as it did. -/
def objectStepsUptoRow : OpenClaim := { program := "ytebcnhnkpmbgdaa", sum := "43d06883e97e4a68da05133a977a06184803c37d6b4f1f761960d3dd9fc757ae", func := "alibi/aliblaw.ObjectSteps", spec := "objectSteps", unfollowed := true, recurses := true, apart := false, narrowed := true }
def ObjectStepsUptoSaid : Prop := objectStepsUptoRow.holds Try.pinned (OpenSpec.upto objectStepsSpec)

/-- 'aliblaw.ObjectPlays', WHERE WHAT IT READS IS OF BULK AT MOST 1048576: true; the input reads as it did. -/
def objectPlaysUptoRow : OpenClaim := { program := "ytebcnhnkpmbgdaa", sum := "43d06883e97e4a68da05133a977a06184803c37d6b4f1f761960d3dd9fc757ae", func := "alibi/aliblaw.ObjectPlays", spec := "objectPlays", unfollowed := true, recurses := true, apart := false, narrowed := true }
def ObjectPlaysUptoSaid : Prop := objectPlaysUptoRow.holds Try.pinned (OpenSpec.upto objectPlaysSpec)

/-- 'alibkeep.ObjectOne', WHERE WHAT IT READS IS OF BULK AT MOST 1048576: true; the input reads as it did. -/
def objectOneUptoRow : OpenClaim := { program := "ytebcnhnkpmbgdaa", sum := "43d06883e97e4a68da05133a977a06184803c37d6b4f1f761960d3dd9fc757ae", func := "alibi/alibkeep.ObjectOne", spec := "objectOne", unfollowed := true, recurses := true, apart := false, narrowed := true }
def ObjectOneUptoSaid : Prop := objectOneUptoRow.holds Try.pinned (OpenSpec.upto objectOneSpec)

/-- 'alibkeep.ObjectTurns', WHERE WHAT IT READS IS OF BULK AT MOST 1048576: true; the input reads as it did. -/
def objectTurnsUptoRow : OpenClaim := { program := "ytebcnhnkpmbgdaa", sum := "43d06883e97e4a68da05133a977a06184803c37d6b4f1f761960d3dd9fc757ae", func := "alibi/alibkeep.ObjectTurns", spec := "objectTurns", unfollowed := true, recurses := true, apart := false, narrowed := true }
def ObjectTurnsUptoSaid : Prop := objectTurnsUptoRow.holds Try.pinned (OpenSpec.upto objectTurnsSpec)

/-- 'alibkeep.ObjectRows', WHERE WHAT IT READS IS OF BULK AT MOST 1048576: true; the input reads as it did. -/
def objectRowsUptoRow : OpenClaim := { program := "ytebcnhnkpmbgdaa", sum := "43d06883e97e4a68da05133a977a06184803c37d6b4f1f761960d3dd9fc757ae", func := "alibi/alibkeep.ObjectRows", spec := "objectRows", unfollowed := true, recurses := true, apart := false, narrowed := true }
def ObjectRowsUptoSaid : Prop := objectRowsUptoRow.holds Try.pinned (OpenSpec.upto objectRowsSpec)

end Rows
end Go.Proofs.Ytebcnhnkpmbgdaa
