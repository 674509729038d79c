/-
  No cell of these rows narrows 'for every input' (looked for: loops, veiled, ifaces, maps, wideKeys, modest, calm, conditions, laid).
  DERIVED. THE GIVEN ROWS OF THIS SEAT. 4 by the template 'for every input the law returns true; each argument reads behind the call as it read before'; 0 by the template 'total and deterministic' (their statements: YtphhbojdolhieaaTotals.lean).
  GIVEN WITH THE SEED: the statements are not yours to turn. If you find one false, say at which input.
  Laid BY PROGRAM, IN A SANDBOX (cutbox-rows.mjs): the forced cells as the released guide's own fill.sh prints them over the translation 660468a89b9d0031… (all of the seat's roots in one cut). By AI agents, Wed Nov 11 2026. No macro, syntax, notation, axiom, sorry.
-/
import Derived.Test.YtphhbojdolhieaaChecked
import GoSem.Claim
import GoSem.ClaimJoined
import GoSem.ClaimMapViews
import Derived.JoinedTies
import Derived.KernelRfl
namespace Go.Proofs.Ytphhbojdolhieaa
/- THE CELL 'sum', in the pinned program and in every row, IS THE sha256 OF THE DUMP (.gsa) THAT YtphhbojdolhieaaProg.lean LOADS. Nothing in Lean hashes anything: it is a label: what it is worth is what the hold of that sum in a sandbox is worth. -/
noncomputable def Try.pinned : Pinned := { name := "ytphhbojdolhieaa", sum := "660468a89b9d003183b7ee372398f1f0da91a7eabbcd712c4ba87c0eb478fc93", checked := Try.checked }
namespace Rows
def none {H : Type} : Left H := { results := [], args := [] }

/-- 'aliblaw.ZonesSay': WHATEVER THE INPUT: true; the input reads as it did. -/
def zonesSaySpec : ChangeSpec := { name := "zonesSay", fn := fun _ => fun
  | [d] => { results := [.lit (.bool true)], args := [d] }
  | _ => none }
def zonesSayRow : OpenClaim := { program := "ytphhbojdolhieaa", sum := "660468a89b9d003183b7ee372398f1f0da91a7eabbcd712c4ba87c0eb478fc93", func := "alibi/aliblaw.ZonesSay", spec := "zonesSay", unfollowed := true, recurses := true, apart := false }
def ZonesSaySaid : Prop := zonesSayRow.holds Try.pinned (OpenSpec.ofChange zonesSaySpec)

/-- ITS FALSE NEIGHBOUR: 'it returns false'. Refute it at one input. -/
def zonesSayWrong : ChangeSpec := { name := "zonesSay", fn := fun _ => fun
  | [d] => { results := [.lit (.bool false)], args := [d] }
  | _ => none }
def ZonesSayWrongFalsely : Prop := zonesSayRow.holds Try.pinned (OpenSpec.ofChange zonesSayWrong)

/-- 'alibkeep.ZonesShown': WHATEVER THE INPUT: true; the input reads as it did. -/
def zonesShownSpec : ChangeSpec := { name := "zonesShown", fn := fun _ => fun
  | [d] => { results := [.lit (.bool true)], args := [d] }
  | _ => none }
def zonesShownRow : OpenClaim := { program := "ytphhbojdolhieaa", sum := "660468a89b9d003183b7ee372398f1f0da91a7eabbcd712c4ba87c0eb478fc93", func := "alibi/alibkeep.ZonesShown", spec := "zonesShown", unfollowed := true, recurses := true, apart := false }
def ZonesShownSaid : Prop := zonesShownRow.holds Try.pinned (OpenSpec.ofChange zonesShownSpec)

/-- ITS FALSE NEIGHBOUR: 'it returns false'. Refute it at one input. -/
def zonesShownWrong : ChangeSpec := { name := "zonesShown", fn := fun _ => fun
  | [d] => { results := [.lit (.bool false)], args := [d] }
  | _ => none }
def ZonesShownWrongFalsely : Prop := zonesShownRow.holds Try.pinned (OpenSpec.ofChange zonesShownWrong)

/-- 'alibkeep.ZonesFront': WHATEVER THE INPUT: true; the input reads as it did. -/
def zonesFrontSpec : ChangeSpec := { name := "zonesFront", fn := fun _ => fun
  | [d1, d2] => { results := [.lit (.bool true)], args := [d1, d2] }
  | _ => none }
def zonesFrontRow : OpenClaim := { program := "ytphhbojdolhieaa", sum := "660468a89b9d003183b7ee372398f1f0da91a7eabbcd712c4ba87c0eb478fc93", func := "alibi/alibkeep.ZonesFront", spec := "zonesFront", unfollowed := true, recurses := true, apart := false }
def ZonesFrontSaid : Prop := zonesFrontRow.holds Try.pinned (OpenSpec.ofChange zonesFrontSpec)

/-- ITS FALSE NEIGHBOUR: 'it returns false'. Refute it at one input. -/
def zonesFrontWrong : ChangeSpec := { name := "zonesFront", fn := fun _ => fun
  | [d1, d2] => { results := [.lit (.bool false)], args := [d1, d2] }
  | _ => none }
def ZonesFrontWrongFalsely : Prop := zonesFrontRow.holds Try.pinned (OpenSpec.ofChange zonesFrontWrong)

/-- 'alibkeep.ZonesNames': WHATEVER THE INPUT: true; the input reads as it did. -/
def zonesNamesSpec : ChangeSpec := { name := "zonesNames", fn := fun _ => fun
  | [d1, d2] => { results := [.lit (.bool true)], args := [d1, d2] }
  | _ => none }
def zonesNamesRow : OpenClaim := { program := "ytphhbojdolhieaa", sum := "660468a89b9d003183b7ee372398f1f0da91a7eabbcd712c4ba87c0eb478fc93", func := "alibi/alibkeep.ZonesNames", spec := "zonesNames", unfollowed := true, recurses := true, apart := false }
def ZonesNamesSaid : Prop := zonesNamesRow.holds Try.pinned (OpenSpec.ofChange zonesNamesSpec)

/-- ITS FALSE NEIGHBOUR: 'it returns false'. Refute it at one input. -/
def zonesNamesWrong : ChangeSpec := { name := "zonesNames", fn := fun _ => fun
  | [d1, d2] => { results := [.lit (.bool false)], args := [d1, d2] }
  | _ => none }
def ZonesNamesWrongFalsely : Prop := zonesNamesRow.holds Try.pinned (OpenSpec.ofChange zonesNamesWrong)

/- THE SECOND FORM. 'bulk': how many values and letters a reading holds, each counted each time it is reached (what is shared counts as often as it is met; a slice's spare places count too). A statement '..UptoSaid' is the law's where the arguments, and the package variables that the reading takes, are together of bulk at most 1048576: NARROWER than '..Said'. Prove '..Said' where nothing that the law and all that it calls make is longer than what came in: it says more and counts as full. Else prove '..UptoSaid'. A law counts once. -/
mutual
def uptoBulk {H : Type} : DataW H → Nat
  | .lit (.string bytes) => bytes.length + 1
  | .lit _ => 1
  | .nil => 1
  | .ptr d => uptoBulk d + 1
  | .slice elems spare => uptoBulkAll elems + uptoBulkAll spare + 1
  | .agg parts => uptoBulkAll parts + 1
  | .iface _ d => uptoBulk d + 1
  | .map entries => uptoBulkEntries entries + 1
  | .held _ => 1
def uptoBulkAll {H : Type} : List (DataW H) → Nat
  | [] => 0
  | d :: r => uptoBulk d + uptoBulkAll r
def uptoBulkEntries {H : Type} : List (Lit × DataW H) → Nat
  | [] => 0
  | x :: r => uptoBulkEntry x + uptoBulkEntries r
def uptoBulkEntry {H : Type} : Lit × DataW H → Nat
  | (.string bytes, d) => bytes.length + uptoBulk d + 1
  | (_, d) => uptoBulk d + 1
 end
def uptoSmall : (H : Type) → List (DataW H) → Bool := fun _ ds => decide (uptoBulkAll ds ≤ 1048576)
def OpenSpec.upto (s : _root_.Go.ChangeSpec) : _root_.Go.OpenSpec := { _root_.Go.OpenSpec.ofChange s with cond := some uptoSmall }

/-- 'aliblaw.ZonesSay', WHERE WHAT IT READS IS OF BULK AT MOST 1048576: true; the input reads as it did. -/
def zonesSayUptoRow : OpenClaim := { program := "ytphhbojdolhieaa", sum := "660468a89b9d003183b7ee372398f1f0da91a7eabbcd712c4ba87c0eb478fc93", func := "alibi/aliblaw.ZonesSay", spec := "zonesSay", unfollowed := true, recurses := true, apart := false, narrowed := true }
def ZonesSayUptoSaid : Prop := zonesSayUptoRow.holds Try.pinned (OpenSpec.upto zonesSaySpec)

/-- 'alibkeep.ZonesShown', WHERE WHAT IT READS IS OF BULK AT MOST 1048576: true; the input reads as it did. -/
def zonesShownUptoRow : OpenClaim := { program := "ytphhbojdolhieaa", sum := "660468a89b9d003183b7ee372398f1f0da91a7eabbcd712c4ba87c0eb478fc93", func := "alibi/alibkeep.ZonesShown", spec := "zonesShown", unfollowed := true, recurses := true, apart := false, narrowed := true }
def ZonesShownUptoSaid : Prop := zonesShownUptoRow.holds Try.pinned (OpenSpec.upto zonesShownSpec)

/-- 'alibkeep.ZonesFront', WHERE WHAT IT READS IS OF BULK AT MOST 1048576: true; the input reads as it did. -/
def zonesFrontUptoRow : OpenClaim := { program := "ytphhbojdolhieaa", sum := "660468a89b9d003183b7ee372398f1f0da91a7eabbcd712c4ba87c0eb478fc93", func := "alibi/alibkeep.ZonesFront", spec := "zonesFront", unfollowed := true, recurses := true, apart := false, narrowed := true }
def ZonesFrontUptoSaid : Prop := zonesFrontUptoRow.holds Try.pinned (OpenSpec.upto zonesFrontSpec)

/-- 'alibkeep.ZonesNames', WHERE WHAT IT READS IS OF BULK AT MOST 1048576: true; the input reads as it did. -/
def zonesNamesUptoRow : OpenClaim := { program := "ytphhbojdolhieaa", sum := "660468a89b9d003183b7ee372398f1f0da91a7eabbcd712c4ba87c0eb478fc93", func := "alibi/alibkeep.ZonesNames", spec := "zonesNames", unfollowed := true, recurses := true, apart := false, narrowed := true }
def ZonesNamesUptoSaid : Prop := zonesNamesUptoRow.holds Try.pinned (OpenSpec.upto zonesNamesSpec)

end Rows
end Go.Proofs.Ytphhbojdolhieaa
