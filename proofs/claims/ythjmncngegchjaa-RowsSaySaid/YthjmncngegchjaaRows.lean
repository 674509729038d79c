/-
  No cell of these rows narrows 'for every input' (looked for: loops, veiled, ifaces, maps, wideKeys, modest, calm, conditions, laid).
  DERIVED. THE GIVEN ROWS OF THIS SEAT. 4 by the template 'for every input the law returns true; each argument reads behind the call as it read before'; 0 by the template 'total and deterministic' (their statements: YthjmncngegchjaaTotals.lean).
  GIVEN WITH THE SEED: the statements are not yours to turn. If you find one false, say at which input.
  Laid BY PROGRAM, IN A SANDBOX (cutbox-rows.mjs): the forced cells as the released guide's own fill.sh prints them over the translation 8a73e3d6eef59423… (all of the seat's roots in one cut). By AI agents, Wed Nov 11 2026. No macro, syntax, notation, axiom, sorry.
-/
import Derived.Test.YthjmncngegchjaaChecked
import GoSem.Claim
import GoSem.ClaimJoined
import GoSem.ClaimMapViews
import Derived.JoinedTies
import Derived.KernelRfl
namespace Go.Proofs.Ythjmncngegchjaa
/- THE CELL 'sum', in the pinned program and in every row, IS THE sha256 OF THE DUMP (.gsa) THAT YthjmncngegchjaaProg.lean LOADS. Nothing in Lean hashes anything: it is a label: what it is worth is what the hold of that sum in a sandbox is worth. -/
noncomputable def Try.pinned : Pinned := { name := "ythjmncngegchjaa", sum := "8a73e3d6eef59423c5e3744f24d6b66cfee96689a1c93e953f23fdd86d95cb26", checked := Try.checked }
namespace Rows
def none {H : Type} : Left H := { results := [], args := [] }

/-- 'aliblaw.RowsSay': WHATEVER THE INPUT: true; the input reads as it did. -/
def rowsSaySpec : ChangeSpec := { name := "rowsSay", fn := fun _ => fun
  | [d] => { results := [.lit (.bool true)], args := [d] }
  | _ => none }
def rowsSayRow : OpenClaim := { program := "ythjmncngegchjaa", sum := "8a73e3d6eef59423c5e3744f24d6b66cfee96689a1c93e953f23fdd86d95cb26", func := "alibi/aliblaw.RowsSay", spec := "rowsSay", unfollowed := true, recurses := true, apart := false }
def RowsSaySaid : Prop := rowsSayRow.holds Try.pinned (OpenSpec.ofChange rowsSaySpec)

/-- ITS FALSE NEIGHBOUR: 'it returns false'. Refute it at one input. -/
def rowsSayWrong : ChangeSpec := { name := "rowsSay", fn := fun _ => fun
  | [d] => { results := [.lit (.bool false)], args := [d] }
  | _ => none }
def RowsSayWrongFalsely : Prop := rowsSayRow.holds Try.pinned (OpenSpec.ofChange rowsSayWrong)

/-- 'alibkeep.RowsFront': WHATEVER THE INPUT: true; the input reads as it did. -/
def rowsFrontSpec : ChangeSpec := { name := "rowsFront", fn := fun _ => fun
  | [d1, d2] => { results := [.lit (.bool true)], args := [d1, d2] }
  | _ => none }
def rowsFrontRow : OpenClaim := { program := "ythjmncngegchjaa", sum := "8a73e3d6eef59423c5e3744f24d6b66cfee96689a1c93e953f23fdd86d95cb26", func := "alibi/alibkeep.RowsFront", spec := "rowsFront", unfollowed := true, recurses := true, apart := false }
def RowsFrontSaid : Prop := rowsFrontRow.holds Try.pinned (OpenSpec.ofChange rowsFrontSpec)

/-- ITS FALSE NEIGHBOUR: 'it returns false'. Refute it at one input. -/
def rowsFrontWrong : ChangeSpec := { name := "rowsFront", fn := fun _ => fun
  | [d1, d2] => { results := [.lit (.bool false)], args := [d1, d2] }
  | _ => none }
def RowsFrontWrongFalsely : Prop := rowsFrontRow.holds Try.pinned (OpenSpec.ofChange rowsFrontWrong)

/-- 'alibkeep.RowsOnly': WHATEVER THE INPUT: true; the input reads as it did. -/
def rowsOnlySpec : ChangeSpec := { name := "rowsOnly", fn := fun _ => fun
  | [d1, d2] => { results := [.lit (.bool true)], args := [d1, d2] }
  | _ => none }
def rowsOnlyRow : OpenClaim := { program := "ythjmncngegchjaa", sum := "8a73e3d6eef59423c5e3744f24d6b66cfee96689a1c93e953f23fdd86d95cb26", func := "alibi/alibkeep.RowsOnly", spec := "rowsOnly", unfollowed := true, recurses := true, apart := false }
def RowsOnlySaid : Prop := rowsOnlyRow.holds Try.pinned (OpenSpec.ofChange rowsOnlySpec)

/-- ITS FALSE NEIGHBOUR: 'it returns false'. Refute it at one input. -/
def rowsOnlyWrong : ChangeSpec := { name := "rowsOnly", fn := fun _ => fun
  | [d1, d2] => { results := [.lit (.bool false)], args := [d1, d2] }
  | _ => none }
def RowsOnlyWrongFalsely : Prop := rowsOnlyRow.holds Try.pinned (OpenSpec.ofChange rowsOnlyWrong)

/-- 'alibkeep.RowsPairs': WHATEVER THE INPUT: true; the input reads as it did. -/
def rowsPairsSpec : ChangeSpec := { name := "rowsPairs", fn := fun _ => fun
  | [d] => { results := [.lit (.bool true)], args := [d] }
  | _ => none }
def rowsPairsRow : OpenClaim := { program := "ythjmncngegchjaa", sum := "8a73e3d6eef59423c5e3744f24d6b66cfee96689a1c93e953f23fdd86d95cb26", func := "alibi/alibkeep.RowsPairs", spec := "rowsPairs", unfollowed := true, recurses := true, apart := false }
def RowsPairsSaid : Prop := rowsPairsRow.holds Try.pinned (OpenSpec.ofChange rowsPairsSpec)

/-- ITS FALSE NEIGHBOUR: 'it returns false'. Refute it at one input. -/
def rowsPairsWrong : ChangeSpec := { name := "rowsPairs", fn := fun _ => fun
  | [d] => { results := [.lit (.bool false)], args := [d] }
  | _ => none }
def RowsPairsWrongFalsely : Prop := rowsPairsRow.holds Try.pinned (OpenSpec.ofChange rowsPairsWrong)

/- THE SECOND FORM. 'bulk': how many values and letters a reading holds, each counted each time it is reached (what is shared counts as often as it is met; a slice's spare places count too). A statement '..UptoSaid' is the law's where the arguments, and the package variables that the reading takes, are together of bulk at most 1048576: NARROWER than '..Said'. Prove '..Said' where nothing that the law and all that it calls make is longer than what came in: it says more and counts as full. Else prove '..UptoSaid'. A law counts once. -/
mutual
def uptoBulk {H : Type} : DataW H → Nat
  | .lit (.string bytes) => bytes.length + 1
  | .lit _ => 1
  | .nil => 1
  | .ptr d => uptoBulk d + 1
  | .slice elems spare => uptoBulkAll elems + uptoBulkAll spare + 1
  | .agg parts => uptoBulkAll parts + 1
  | .iface _ d => uptoBulk d + 1
  | .map entries => uptoBulkEntries entries + 1
  | .held _ => 1
def uptoBulkAll {H : Type} : List (DataW H) → Nat
  | [] => 0
  | d :: r => uptoBulk d + uptoBulkAll r
def uptoBulkEntries {H : Type} : List (Lit × DataW H) → Nat
  | [] => 0
  | x :: r => uptoBulkEntry x + uptoBulkEntries r
def uptoBulkEntry {H : Type} : Lit × DataW H → Nat
  | (.string bytes, d) => bytes.length + uptoBulk d + 1
  | (_, d) => uptoBulk d + 1
 end
def uptoSmall : (H : Type) → List (DataW H) → Bool := fun _ ds => decide (uptoBulkAll ds ≤ 1048576)
def OpenSpec.upto (s : _root_.Go.ChangeSpec) : _root_.Go.OpenSpec := { _root_.Go.OpenSpec.ofChange s with cond := some uptoSmall }

/-- 'aliblaw.RowsSay', WHERE WHAT IT READS IS OF BULK AT MOST 1048576: true; the input reads as it did. -/
def rowsSayUptoRow : OpenClaim := { program := "ythjmncngegchjaa", sum := "8a73e3d6eef59423c5e3744f24d6b66cfee96689a1c93e953f23fdd86d95cb26", func := "alibi/aliblaw.RowsSay", spec := "rowsSay", unfollowed := true, recurses := true, apart := false, narrowed := true }
def RowsSayUptoSaid : Prop := rowsSayUptoRow.holds Try.pinned (OpenSpec.upto rowsSaySpec)

/-- 'alibkeep.RowsFront', WHERE WHAT IT READS IS OF BULK AT MOST 1048576: true; the input reads as it did. -/
def rowsFrontUptoRow : OpenClaim := { program := "ythjmncngegchjaa", sum := "8a73e3d6eef59423c5e3744f24d6b66cfee96689a1c93e953f23fdd86d95cb26", func := "alibi/alibkeep.RowsFront", spec := "rowsFront", unfollowed := true, recurses := true, apart := false, narrowed := true }
def RowsFrontUptoSaid : Prop := rowsFrontUptoRow.holds Try.pinned (OpenSpec.upto rowsFrontSpec)

/-- 'alibkeep.RowsOnly', WHERE WHAT IT READS IS OF BULK AT MOST 1048576: true; the input reads as it did. -/
def rowsOnlyUptoRow : OpenClaim := { program := "ythjmncngegchjaa", sum := "8a73e3d6eef59423c5e3744f24d6b66cfee96689a1c93e953f23fdd86d95cb26", func := "alibi/alibkeep.RowsOnly", spec := "rowsOnly", unfollowed := true, recurses := true, apart := false, narrowed := true }
def RowsOnlyUptoSaid : Prop := rowsOnlyUptoRow.holds Try.pinned (OpenSpec.upto rowsOnlySpec)

/-- 'alibkeep.RowsPairs', WHERE WHAT IT READS IS OF BULK AT MOST 1048576: true; the input reads as it did. -/
def rowsPairsUptoRow : OpenClaim := { program := "ythjmncngegchjaa", sum := "8a73e3d6eef59423c5e3744f24d6b66cfee96689a1c93e953f23fdd86d95cb26", func := "alibi/alibkeep.RowsPairs", spec := "rowsPairs", unfollowed := true, recurses := true, apart := false, narrowed := true }
def RowsPairsUptoSaid : Prop := rowsPairsUptoRow.holds Try.pinned (OpenSpec.upto rowsPairsSpec)

end Rows
end Go.Proofs.Ythjmncngegchjaa
