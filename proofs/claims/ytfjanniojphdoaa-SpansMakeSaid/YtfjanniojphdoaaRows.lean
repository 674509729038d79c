/-
  No cell of these rows narrows 'for every input' (looked for: loops, veiled, ifaces, maps, wideKeys, modest, calm, conditions, laid).
  DERIVED. THE GIVEN ROWS OF THIS SEAT. 4 by the template 'for every input the law returns true; each argument reads behind the call as it read before'; 0 by the template 'total and deterministic' (their statements: YtfjanniojphdoaaTotals.lean).
  GIVEN WITH THE SEED: the statements are not yours to turn. If you find one false, say at which input.
  Laid BY PROGRAM, IN A SANDBOX (cutbox-rows.mjs): the forced cells as the released guide's own fill.sh prints them over the translation 84ef7f3fbee4aabb… (all of the seat's roots in one cut). By AI agents, Wed Nov 11 2026. No macro, syntax, notation, axiom, sorry.
-/
import Derived.Test.YtfjanniojphdoaaChecked
import GoSem.Claim
import GoSem.ClaimJoined
import GoSem.ClaimMapViews
import Derived.JoinedTies
import Derived.KernelRfl
namespace Go.Proofs.Ytfjanniojphdoaa
/- THE CELL 'sum', in the pinned program and in every row, IS THE sha256 OF THE DUMP (.gsa) THAT YtfjanniojphdoaaProg.lean LOADS. Nothing in Lean hashes anything: it is a label: what it is worth is what the hold of that sum in a sandbox is worth. -/
noncomputable def Try.pinned : Pinned := { name := "ytfjanniojphdoaa", sum := "84ef7f3fbee4aabb602858ee998eaef3b7e27297be7a9fd8eea1f83966ba5839", checked := Try.checked }
namespace Rows
def none {H : Type} : Left H := { results := [], args := [] }

/-- 'aliblaw.SpansSay': WHATEVER THE INPUT: true; the input reads as it did. -/
def spansSaySpec : ChangeSpec := { name := "spansSay", fn := fun _ => fun
  | [d] => { results := [.lit (.bool true)], args := [d] }
  | _ => none }
def spansSayRow : OpenClaim := { program := "ytfjanniojphdoaa", sum := "84ef7f3fbee4aabb602858ee998eaef3b7e27297be7a9fd8eea1f83966ba5839", func := "alibi/aliblaw.SpansSay", spec := "spansSay", apart := false }
def SpansSaySaid : Prop := spansSayRow.holds Try.pinned (OpenSpec.ofChange spansSaySpec)

/-- ITS FALSE NEIGHBOUR: 'it returns false'. Refute it at one input. -/
def spansSayWrong : ChangeSpec := { name := "spansSay", fn := fun _ => fun
  | [d] => { results := [.lit (.bool false)], args := [d] }
  | _ => none }
def SpansSayWrongFalsely : Prop := spansSayRow.holds Try.pinned (OpenSpec.ofChange spansSayWrong)

/-- 'aliblaw.SpansMake': WHATEVER THE INPUT: true; the input reads as it did. -/
def spansMakeSpec : ChangeSpec := { name := "spansMake", fn := fun _ => fun
  | [d] => { results := [.lit (.bool true)], args := [d] }
  | _ => none }
def spansMakeRow : OpenClaim := { program := "ytfjanniojphdoaa", sum := "84ef7f3fbee4aabb602858ee998eaef3b7e27297be7a9fd8eea1f83966ba5839", func := "alibi/aliblaw.SpansMake", spec := "spansMake", unfollowed := true, recurses := true, apart := false }
def SpansMakeSaid : Prop := spansMakeRow.holds Try.pinned (OpenSpec.ofChange spansMakeSpec)

/-- ITS FALSE NEIGHBOUR: 'it returns false'. Refute it at one input. -/
def spansMakeWrong : ChangeSpec := { name := "spansMake", fn := fun _ => fun
  | [d] => { results := [.lit (.bool false)], args := [d] }
  | _ => none }
def SpansMakeWrongFalsely : Prop := spansMakeRow.holds Try.pinned (OpenSpec.ofChange spansMakeWrong)

/-- 'alibkeep.SpansFishburn': WHATEVER THE INPUT: true; the input reads as it did. -/
def spansFishburnSpec : ChangeSpec := { name := "spansFishburn", fn := fun _ => fun
  | [d1, d2] => { results := [.lit (.bool true)], args := [d1, d2] }
  | _ => none }
def spansFishburnRow : OpenClaim := { program := "ytfjanniojphdoaa", sum := "84ef7f3fbee4aabb602858ee998eaef3b7e27297be7a9fd8eea1f83966ba5839", func := "alibi/alibkeep.SpansFishburn", spec := "spansFishburn", unfollowed := true, recurses := true, apart := false }
def SpansFishburnSaid : Prop := spansFishburnRow.holds Try.pinned (OpenSpec.ofChange spansFishburnSpec)

/-- ITS FALSE NEIGHBOUR: 'it returns false'. Refute it at one input. -/
def spansFishburnWrong : ChangeSpec := { name := "spansFishburn", fn := fun _ => fun
  | [d1, d2] => { results := [.lit (.bool false)], args := [d1, d2] }
  | _ => none }
def SpansFishburnWrongFalsely : Prop := spansFishburnRow.holds Try.pinned (OpenSpec.ofChange spansFishburnWrong)

/-- 'alibkeep.SpansLong': WHATEVER THE INPUT: true; the input reads as it did. -/
def spansLongSpec : ChangeSpec := { name := "spansLong", fn := fun _ => fun
  | [d1, d2, d3, d4] => { results := [.lit (.bool true)], args := [d1, d2, d3, d4] }
  | _ => none }
def spansLongRow : OpenClaim := { program := "ytfjanniojphdoaa", sum := "84ef7f3fbee4aabb602858ee998eaef3b7e27297be7a9fd8eea1f83966ba5839", func := "alibi/alibkeep.SpansLong", spec := "spansLong", unfollowed := true, recurses := true, apart := false }
def SpansLongSaid : Prop := spansLongRow.holds Try.pinned (OpenSpec.ofChange spansLongSpec)

/-- ITS FALSE NEIGHBOUR: 'it returns false'. Refute it at one input. -/
def spansLongWrong : ChangeSpec := { name := "spansLong", fn := fun _ => fun
  | [d1, d2, d3, d4] => { results := [.lit (.bool false)], args := [d1, d2, d3, d4] }
  | _ => none }
def SpansLongWrongFalsely : Prop := spansLongRow.holds Try.pinned (OpenSpec.ofChange spansLongWrong)

/- THE SECOND FORM. 'bulk': how many values and letters a reading holds, each counted each time it is reached (what is shared counts as often as it is met; a slice's spare places count too). A statement '..UptoSaid' is the law's where the arguments, and the package variables that the reading takes, are together of bulk at most 1048576: NARROWER than '..Said'. Prove '..Said' where nothing that the law and all that it calls make is longer than what came in: it says more and counts as full. Else prove '..UptoSaid'. A law counts once. -/
mutual
def uptoBulk {H : Type} : DataW H → Nat
  | .lit (.string bytes) => bytes.length + 1
  | .lit _ => 1
  | .nil => 1
  | .ptr d => uptoBulk d + 1
  | .slice elems spare => uptoBulkAll elems + uptoBulkAll spare + 1
  | .agg parts => uptoBulkAll parts + 1
  | .iface _ d => uptoBulk d + 1
  | .map entries => uptoBulkEntries entries + 1
  | .held _ => 1
def uptoBulkAll {H : Type} : List (DataW H) → Nat
  | [] => 0
  | d :: r => uptoBulk d + uptoBulkAll r
def uptoBulkEntries {H : Type} : List (Lit × DataW H) → Nat
  | [] => 0
  | x :: r => uptoBulkEntry x + uptoBulkEntries r
def uptoBulkEntry {H : Type} : Lit × DataW H → Nat
  | (.string bytes, d) => bytes.length + uptoBulk d + 1
  | (_, d) => uptoBulk d + 1
 end
def uptoSmall : (H : Type) → List (DataW H) → Bool := fun _ ds => decide (uptoBulkAll ds ≤ 1048576)
def OpenSpec.upto (s : _root_.Go.ChangeSpec) : _root_.Go.OpenSpec := { _root_.Go.OpenSpec.ofChange s with cond := some uptoSmall }

/-- 'aliblaw.SpansSay', WHERE WHAT IT READS IS OF BULK AT MOST 1048576: true; the input reads as it did. -/
def spansSayUptoRow : OpenClaim := { program := "ytfjanniojphdoaa", sum := "84ef7f3fbee4aabb602858ee998eaef3b7e27297be7a9fd8eea1f83966ba5839", func := "alibi/aliblaw.SpansSay", spec := "spansSay", apart := false, narrowed := true }
def SpansSayUptoSaid : Prop := spansSayUptoRow.holds Try.pinned (OpenSpec.upto spansSaySpec)

/-- 'aliblaw.SpansMake', WHERE WHAT IT READS IS OF BULK AT MOST 1048576: true; the input reads as it did. -/
def spansMakeUptoRow : OpenClaim := { program := "ytfjanniojphdoaa", sum := "84ef7f3fbee4aabb602858ee998eaef3b7e27297be7a9fd8eea1f83966ba5839", func := "alibi/aliblaw.SpansMake", spec := "spansMake", unfollowed := true, recurses := true, apart := false, narrowed := true }
def SpansMakeUptoSaid : Prop := spansMakeUptoRow.holds Try.pinned (OpenSpec.upto spansMakeSpec)

/-- 'alibkeep.SpansFishburn', WHERE WHAT IT READS IS OF BULK AT MOST 1048576: true; the input reads as it did. -/
def spansFishburnUptoRow : OpenClaim := { program := "ytfjanniojphdoaa", sum := "84ef7f3fbee4aabb602858ee998eaef3b7e27297be7a9fd8eea1f83966ba5839", func := "alibi/alibkeep.SpansFishburn", spec := "spansFishburn", unfollowed := true, recurses := true, apart := false, narrowed := true }
def SpansFishburnUptoSaid : Prop := spansFishburnUptoRow.holds Try.pinned (OpenSpec.upto spansFishburnSpec)

/-- 'alibkeep.SpansLong', WHERE WHAT IT READS IS OF BULK AT MOST 1048576: true; the input reads as it did. -/
def spansLongUptoRow : OpenClaim := { program := "ytfjanniojphdoaa", sum := "84ef7f3fbee4aabb602858ee998eaef3b7e27297be7a9fd8eea1f83966ba5839", func := "alibi/alibkeep.SpansLong", spec := "spansLong", unfollowed := true, recurses := true, apart := false, narrowed := true }
def SpansLongUptoSaid : Prop := spansLongUptoRow.holds Try.pinned (OpenSpec.upto spansLongSpec)

end Rows
end Go.Proofs.Ytfjanniojphdoaa
