/-
  No cell of these rows narrows 'for every input' (looked for: loops, veiled, ifaces, maps, wideKeys, modest, calm, conditions, laid).
  DERIVED. THE GIVEN ROWS OF THIS SEAT. 6 by the template 'for every input the law returns true; each argument reads behind the call as it read before'; 0 by the template 'total and deterministic' (their statements: YtndcgliopckllaaTotals.lean).
  GIVEN WITH THE SEED: the statements are not yours to turn. If you find one false, say at which input.
  Laid BY PROGRAM, IN A SANDBOX (cutbox-rows.mjs): the forced cells as the released guide's own fill.sh prints them over the translation 0522622a4f7d5cb9… (all of the seat's roots in one cut). By AI agents, Wed Nov 11 2026. No macro, syntax, notation, axiom, sorry.
-/
import Derived.Test.YtndcgliopckllaaChecked
import GoSem.Claim
import GoSem.ClaimJoined
import GoSem.ClaimMapViews
import Derived.JoinedTies
import Derived.KernelRfl
namespace Go.Proofs.Ytndcgliopckllaa
/- THE CELL 'sum', in the pinned program and in every row, IS THE sha256 OF THE DUMP (.gsa) THAT YtndcgliopckllaaProg.lean LOADS. Nothing in Lean hashes anything: it is a label: what it is worth is what the hold of that sum in a sandbox is worth. -/
noncomputable def Try.pinned : Pinned := { name := "ytndcgliopckllaa", sum := "0522622a4f7d5cb9c0d334c916c79324e159a7b51bc5dafe453f53f4f63ad2b5", checked := Try.checked }
namespace Rows
def none {H : Type} : Left H := { results := [], args := [] }

/-- 'aliblaw.HistoryCalls': WHATEVER THE INPUT: true; the input reads as it did. -/
def historyCallsSpec : ChangeSpec := { name := "historyCalls", fn := fun _ => fun
  | [d1, d2, d3, d4] => { results := [.lit (.bool true)], args := [d1, d2, d3, d4] }
  | _ => none }
def historyCallsRow : OpenClaim := { program := "ytndcgliopckllaa", sum := "0522622a4f7d5cb9c0d334c916c79324e159a7b51bc5dafe453f53f4f63ad2b5", func := "alibi/aliblaw.HistoryCalls", spec := "historyCalls", apart := false }
def HistoryCallsSaid : Prop := historyCallsRow.holds Try.pinned (OpenSpec.ofChange historyCallsSpec)

/-- ITS FALSE NEIGHBOUR: 'it returns false'. Refute it at one input. -/
def historyCallsWrong : ChangeSpec := { name := "historyCalls", fn := fun _ => fun
  | [d1, d2, d3, d4] => { results := [.lit (.bool false)], args := [d1, d2, d3, d4] }
  | _ => none }
def HistoryCallsWrongFalsely : Prop := historyCallsRow.holds Try.pinned (OpenSpec.ofChange historyCallsWrong)

/-- 'aliblaw.HistoryEvents': WHATEVER THE INPUT: true; the input reads as it did. -/
def historyEventsSpec : ChangeSpec := { name := "historyEvents", fn := fun _ => fun
  | [d1, d2, d3, d4] => { results := [.lit (.bool true)], args := [d1, d2, d3, d4] }
  | _ => none }
def historyEventsRow : OpenClaim := { program := "ytndcgliopckllaa", sum := "0522622a4f7d5cb9c0d334c916c79324e159a7b51bc5dafe453f53f4f63ad2b5", func := "alibi/aliblaw.HistoryEvents", spec := "historyEvents", apart := false }
def HistoryEventsSaid : Prop := historyEventsRow.holds Try.pinned (OpenSpec.ofChange historyEventsSpec)

/-- ITS FALSE NEIGHBOUR: 'it returns false'. Refute it at one input. -/
def historyEventsWrong : ChangeSpec := { name := "historyEvents", fn := fun _ => fun
  | [d1, d2, d3, d4] => { results := [.lit (.bool false)], args := [d1, d2, d3, d4] }
  | _ => none }
def HistoryEventsWrongFalsely : Prop := historyEventsRow.holds Try.pinned (OpenSpec.ofChange historyEventsWrong)

/-- 'alibkeep.HistoryBack': WHATEVER THE INPUT: true; the input reads as it did. -/
def historyBackSpec : ChangeSpec := { name := "historyBack", fn := fun _ => fun
  | [d1, d2, d3] => { results := [.lit (.bool true)], args := [d1, d2, d3] }
  | _ => none }
def historyBackRow : OpenClaim := { program := "ytndcgliopckllaa", sum := "0522622a4f7d5cb9c0d334c916c79324e159a7b51bc5dafe453f53f4f63ad2b5", func := "alibi/alibkeep.HistoryBack", spec := "historyBack", apart := false }
def HistoryBackSaid : Prop := historyBackRow.holds Try.pinned (OpenSpec.ofChange historyBackSpec)

/-- ITS FALSE NEIGHBOUR: 'it returns false'. Refute it at one input. -/
def historyBackWrong : ChangeSpec := { name := "historyBack", fn := fun _ => fun
  | [d1, d2, d3] => { results := [.lit (.bool false)], args := [d1, d2, d3] }
  | _ => none }
def HistoryBackWrongFalsely : Prop := historyBackRow.holds Try.pinned (OpenSpec.ofChange historyBackWrong)

/-- 'alibkeep.HistoryFront': WHATEVER THE INPUT: true; the input reads as it did. -/
def historyFrontSpec : ChangeSpec := { name := "historyFront", fn := fun _ => fun
  | [d1, d2, d3] => { results := [.lit (.bool true)], args := [d1, d2, d3] }
  | _ => none }
def historyFrontRow : OpenClaim := { program := "ytndcgliopckllaa", sum := "0522622a4f7d5cb9c0d334c916c79324e159a7b51bc5dafe453f53f4f63ad2b5", func := "alibi/alibkeep.HistoryFront", spec := "historyFront", apart := false }
def HistoryFrontSaid : Prop := historyFrontRow.holds Try.pinned (OpenSpec.ofChange historyFrontSpec)

/-- ITS FALSE NEIGHBOUR: 'it returns false'. Refute it at one input. -/
def historyFrontWrong : ChangeSpec := { name := "historyFront", fn := fun _ => fun
  | [d1, d2, d3] => { results := [.lit (.bool false)], args := [d1, d2, d3] }
  | _ => none }
def HistoryFrontWrongFalsely : Prop := historyFrontRow.holds Try.pinned (OpenSpec.ofChange historyFrontWrong)

/-- 'alibkeep.HistoryParts': WHATEVER THE INPUT: true; the input reads as it did. -/
def historyPartsSpec : ChangeSpec := { name := "historyParts", fn := fun _ => fun
  | [d1, d2] => { results := [.lit (.bool true)], args := [d1, d2] }
  | _ => none }
def historyPartsRow : OpenClaim := { program := "ytndcgliopckllaa", sum := "0522622a4f7d5cb9c0d334c916c79324e159a7b51bc5dafe453f53f4f63ad2b5", func := "alibi/alibkeep.HistoryParts", spec := "historyParts", unfollowed := true, recurses := true, apart := false }
def HistoryPartsSaid : Prop := historyPartsRow.holds Try.pinned (OpenSpec.ofChange historyPartsSpec)

/-- ITS FALSE NEIGHBOUR: 'it returns false'. Refute it at one input. -/
def historyPartsWrong : ChangeSpec := { name := "historyParts", fn := fun _ => fun
  | [d1, d2] => { results := [.lit (.bool false)], args := [d1, d2] }
  | _ => none }
def HistoryPartsWrongFalsely : Prop := historyPartsRow.holds Try.pinned (OpenSpec.ofChange historyPartsWrong)

/-- 'alibkeep.HistorySpans': WHATEVER THE INPUT: true; the input reads as it did. -/
def historySpansSpec : ChangeSpec := { name := "historySpans", fn := fun _ => fun
  | [d1, d2] => { results := [.lit (.bool true)], args := [d1, d2] }
  | _ => none }
def historySpansRow : OpenClaim := { program := "ytndcgliopckllaa", sum := "0522622a4f7d5cb9c0d334c916c79324e159a7b51bc5dafe453f53f4f63ad2b5", func := "alibi/alibkeep.HistorySpans", spec := "historySpans", apart := false }
def HistorySpansSaid : Prop := historySpansRow.holds Try.pinned (OpenSpec.ofChange historySpansSpec)

/-- ITS FALSE NEIGHBOUR: 'it returns false'. Refute it at one input. -/
def historySpansWrong : ChangeSpec := { name := "historySpans", fn := fun _ => fun
  | [d1, d2] => { results := [.lit (.bool false)], args := [d1, d2] }
  | _ => none }
def HistorySpansWrongFalsely : Prop := historySpansRow.holds Try.pinned (OpenSpec.ofChange historySpansWrong)

/- THE SECOND FORM. 'bulk': how many values and letters a reading holds, each counted each time it is reached (what is shared counts as often as it is met; a slice's spare places count too). A statement '..UptoSaid' is the law's where the arguments, and the package variables that the reading takes, are together of bulk at most 1048576: NARROWER than '..Said'. Prove '..Said' where nothing that the law and all that it calls make is longer than what came in: it says more and counts as full. Else prove '..UptoSaid'. A law counts once. -/
mutual
def uptoBulk {H : Type} : DataW H → Nat
  | .lit (.string bytes) => bytes.length + 1
  | .lit _ => 1
  | .nil => 1
  | .ptr d => uptoBulk d + 1
  | .slice elems spare => uptoBulkAll elems + uptoBulkAll spare + 1
  | .agg parts => uptoBulkAll parts + 1
  | .iface _ d => uptoBulk d + 1
  | .map entries => uptoBulkEntries entries + 1
  | .held _ => 1
def uptoBulkAll {H : Type} : List (DataW H) → Nat
  | [] => 0
  | d :: r => uptoBulk d + uptoBulkAll r
def uptoBulkEntries {H : Type} : List (Lit × DataW H) → Nat
  | [] => 0
  | x :: r => uptoBulkEntry x + uptoBulkEntries r
def uptoBulkEntry {H : Type} : Lit × DataW H → Nat
  | (.string bytes, d) => bytes.length + uptoBulk d + 1
  | (_, d) => uptoBulk d + 1
 end
def uptoSmall : (H : Type) → List (DataW H) → Bool := fun _ ds => decide (uptoBulkAll ds ≤ 1048576)
def OpenSpec.upto (s : _root_.Go.ChangeSpec) : _root_.Go.OpenSpec := { _root_.Go.OpenSpec.ofChange s with cond := some uptoSmall }

/-- 'aliblaw.HistoryCalls', WHERE WHAT IT READS IS OF BULK AT MOST 1048576: true; the input reads as it did. -/
def historyCallsUptoRow : OpenClaim := { program := "ytndcgliopckllaa", sum := "0522622a4f7d5cb9c0d334c916c79324e159a7b51bc5dafe453f53f4f63ad2b5", func := "alibi/aliblaw.HistoryCalls", spec := "historyCalls", apart := false, narrowed := true }
def HistoryCallsUptoSaid : Prop := historyCallsUptoRow.holds Try.pinned (OpenSpec.upto historyCallsSpec)

/-- 'aliblaw.HistoryEvents', WHERE WHAT IT READS IS OF BULK AT MOST 1048576: true; the input reads as it did. -/
def historyEventsUptoRow : OpenClaim := { program := "ytndcgliopckllaa", sum := "0522622a4f7d5cb9c0d334c916c79324e159a7b51bc5dafe453f53f4f63ad2b5", func := "alibi/aliblaw.HistoryEvents", spec := "historyEvents", apart := false, narrowed := true }
def HistoryEventsUptoSaid : Prop := historyEventsUptoRow.holds Try.pinned (OpenSpec.upto historyEventsSpec)

/-- 'alibkeep.HistoryBack', WHERE WHAT IT READS IS OF BULK AT MOST 1048576: true; the input reads as it did. -/
def historyBackUptoRow : OpenClaim := { program := "ytndcgliopckllaa", sum := "0522622a4f7d5cb9c0d334c916c79324e159a7b51bc5dafe453f53f4f63ad2b5", func := "alibi/alibkeep.HistoryBack", spec := "historyBack", apart := false, narrowed := true }
def HistoryBackUptoSaid : Prop := historyBackUptoRow.holds Try.pinned (OpenSpec.upto historyBackSpec)

/-- 'alibkeep.HistoryFront', WHERE WHAT IT READS IS OF BULK AT MOST 1048576: true; the input reads as it did. -/
def historyFrontUptoRow : OpenClaim := { program := "ytndcgliopckllaa", sum := "0522622a4f7d5cb9c0d334c916c79324e159a7b51bc5dafe453f53f4f63ad2b5", func := "alibi/alibkeep.HistoryFront", spec := "historyFront", apart := false, narrowed := true }
def HistoryFrontUptoSaid : Prop := historyFrontUptoRow.holds Try.pinned (OpenSpec.upto historyFrontSpec)

/-- 'alibkeep.HistoryParts', WHERE WHAT IT READS IS OF BULK AT MOST 1048576: true; the input reads as it did. -/
def historyPartsUptoRow : OpenClaim := { program := "ytndcgliopckllaa", sum := "0522622a4f7d5cb9c0d334c916c79324e159a7b51bc5dafe453f53f4f63ad2b5", func := "alibi/alibkeep.HistoryParts", spec := "historyParts", unfollowed := true, recurses := true, apart := false, narrowed := true }
def HistoryPartsUptoSaid : Prop := historyPartsUptoRow.holds Try.pinned (OpenSpec.upto historyPartsSpec)

/-- 'alibkeep.HistorySpans', WHERE WHAT IT READS IS OF BULK AT MOST 1048576: true; the input reads as it did. -/
def historySpansUptoRow : OpenClaim := { program := "ytndcgliopckllaa", sum := "0522622a4f7d5cb9c0d334c916c79324e159a7b51bc5dafe453f53f4f63ad2b5", func := "alibi/alibkeep.HistorySpans", spec := "historySpans", apart := false, narrowed := true }
def HistorySpansUptoSaid : Prop := historySpansUptoRow.holds Try.pinned (OpenSpec.upto historySpansSpec)

end Rows
end Go.Proofs.Ytndcgliopckllaa
