/-
  NARROWER THAN 'FOR EVERY INPUT', by the rows' own cells (each row's printed sentence says how): SearchSays: laid · LocalSays: laid · LocalJoins: laid · SeqSays: laid · SeqQuiet: laid · SearchFound: laid · SearchFront: laid · SearchNever: laid · SearchLater: laid · SearchAlone: laid · LocalWhole: laid · LocalJoined: laid · LocalAny: laid · SeqApart: laid · SeqWeaker: laid · SeqMoves: laid · SeqOrdered: laid · SeqCalm: laid.
  DERIVED. THE GIVEN ROWS OF THIS SEAT. 18 by the template 'for every input the law returns true; each argument reads behind the call as it read before'; 0 by the template 'total and deterministic' (their statements: YtecpjeililiafaaDoorTotals.lean).
  GIVEN WITH THE SEED: the statements are not yours to turn. If you find one false, say at which input.
  Laid BY PROGRAM, IN A SANDBOX (cutbox-rows.mjs): the forced cells as the released guide's own fill.sh prints them over the translation 5f144976d7984846… (all of the seat's roots in one cut). By AI agents, Wed Nov 11 2026. No macro, syntax, notation, axiom, sorry.
-/
import Derived.Test.YtecpjeililiafaaDoorChecked
import GoSem.Claim
import GoSem.ClaimJoined
import GoSem.ClaimMapViews
import Derived.JoinedTies
import Derived.KernelRfl
namespace Go.Proofs.YtecpjeililiafaaDoor
/- THE CELL 'sum', in the pinned program and in every row, IS THE sha256 OF THE DUMP (.gsa) THAT YtecpjeililiafaaDoorProg.lean LOADS. Nothing in Lean hashes anything: it is a label: what it is worth is what the hold of that sum in a sandbox is worth. -/
noncomputable def Tryd.pinned : Pinned := { name := "ytecpjeililiafaadoor", sum := "5f144976d798484659aa8a602a7b849a7230a5de0eba67f9eca8d5f4962f2092", checked := Tryd.checked }
namespace Rows
def none {H : Type} : Left H := { results := [], args := [] }

/- WHAT THE LISTED PACKAGE-LEVEL VARIABLES READ AS WHEN THE CALL BEGINS. Each datum BY PROGRAM (the guide's laid-datum.mjs) off the statement by which the dump's own 'gosem.cut.vars' lays the variable. In a bare row this is a premise. The card (YtecpjeililiafaaDoorCards.lean) ties it to the program's text. -/
def laid_math_bits_deBruijn32tab {H : Type} : DataW H := .agg [.lit (.int .u8 0), .lit (.int .u8 1), .lit (.int .u8 28), .lit (.int .u8 2), .lit (.int .u8 29), .lit (.int .u8 14), .lit (.int .u8 24), .lit (.int .u8 3), .lit (.int .u8 30), .lit (.int .u8 22), .lit (.int .u8 20), .lit (.int .u8 15), .lit (.int .u8 25), .lit (.int .u8 17), .lit (.int .u8 4), .lit (.int .u8 8), .lit (.int .u8 31), .lit (.int .u8 27), .lit (.int .u8 13), .lit (.int .u8 23), .lit (.int .u8 21), .lit (.int .u8 19), .lit (.int .u8 16), .lit (.int .u8 7), .lit (.int .u8 26), .lit (.int .u8 12), .lit (.int .u8 18), .lit (.int .u8 6), .lit (.int .u8 11), .lit (.int .u8 5), .lit (.int .u8 10), .lit (.int .u8 9)]
def laid_math_bits_deBruijn64tab {H : Type} : DataW H := .agg [.lit (.int .u8 0), .lit (.int .u8 1), .lit (.int .u8 56), .lit (.int .u8 2), .lit (.int .u8 57), .lit (.int .u8 49), .lit (.int .u8 28), .lit (.int .u8 3), .lit (.int .u8 61), .lit (.int .u8 58), .lit (.int .u8 42), .lit (.int .u8 50), .lit (.int .u8 38), .lit (.int .u8 29), .lit (.int .u8 17), .lit (.int .u8 4), .lit (.int .u8 62), .lit (.int .u8 47), .lit (.int .u8 59), .lit (.int .u8 36), .lit (.int .u8 45), .lit (.int .u8 43), .lit (.int .u8 51), .lit (.int .u8 22), .lit (.int .u8 53), .lit (.int .u8 39), .lit (.int .u8 33), .lit (.int .u8 30), .lit (.int .u8 24), .lit (.int .u8 18), .lit (.int .u8 12), .lit (.int .u8 5), .lit (.int .u8 63), .lit (.int .u8 55), .lit (.int .u8 48), .lit (.int .u8 27), .lit (.int .u8 60), .lit (.int .u8 41), .lit (.int .u8 37), .lit (.int .u8 16), .lit (.int .u8 46), .lit (.int .u8 35), .lit (.int .u8 44), .lit (.int .u8 21), .lit (.int .u8 52), .lit (.int .u8 32), .lit (.int .u8 23), .lit (.int .u8 11), .lit (.int .u8 54), .lit (.int .u8 26), .lit (.int .u8 40), .lit (.int .u8 15), .lit (.int .u8 34), .lit (.int .u8 20), .lit (.int .u8 31), .lit (.int .u8 10), .lit (.int .u8 25), .lit (.int .u8 14), .lit (.int .u8 19), .lit (.int .u8 9), .lit (.int .u8 13), .lit (.int .u8 8), .lit (.int .u8 7), .lit (.int .u8 6)]
def laid_internal_strconv_uint64pow10 {H : Type} : DataW H := .agg [.lit (.int .u64 1), .lit (.int .u64 10), .lit (.int .u64 100), .lit (.int .u64 1000), .lit (.int .u64 10000), .lit (.int .u64 100000), .lit (.int .u64 1000000), .lit (.int .u64 10000000), .lit (.int .u64 100000000), .lit (.int .u64 1000000000), .lit (.int .u64 10000000000), .lit (.int .u64 100000000000), .lit (.int .u64 1000000000000), .lit (.int .u64 10000000000000), .lit (.int .u64 100000000000000), .lit (.int .u64 1000000000000000), .lit (.int .u64 10000000000000000), .lit (.int .u64 100000000000000000), .lit (.int .u64 1000000000000000000), .lit (.int .u64 10000000000000000000)]

/-- 'aliblaw.SearchSays': WHATEVER THE INPUT: true; the input reads as it did. -/
def searchSaysSpec : ChangeSpec := { name := "searchSays", fn := fun _ => fun
  | [d1, d2, d3] => { results := [.lit (.bool true)], args := [d1, d2, d3] }
  | _ => none }
def searchSaysRow : OpenClaim := { program := "ytecpjeililiafaadoor", sum := "5f144976d798484659aa8a602a7b849a7230a5de0eba67f9eca8d5f4962f2092", func := "alibi/aliblaw.SearchSays", spec := "searchSays", unfollowed := true, recurses := true, named := ["internal/strconv.uint64pow10", "math/bits.deBruijn32tab", "math/bits.deBruijn64tab"], apart := false, laid := [("math/bits.deBruijn32tab", laid_math_bits_deBruijn32tab), ("math/bits.deBruijn64tab", laid_math_bits_deBruijn64tab), ("internal/strconv.uint64pow10", laid_internal_strconv_uint64pow10)] }
def SearchSaysSaid : Prop := searchSaysRow.holds Tryd.pinned (OpenSpec.ofChange searchSaysSpec)

/-- ITS FALSE NEIGHBOUR: 'it returns false'. Refute it at one input. -/
def searchSaysWrong : ChangeSpec := { name := "searchSays", fn := fun _ => fun
  | [d1, d2, d3] => { results := [.lit (.bool false)], args := [d1, d2, d3] }
  | _ => none }
def SearchSaysWrongFalsely : Prop := searchSaysRow.holds Tryd.pinned (OpenSpec.ofChange searchSaysWrong)

/-- 'aliblaw.LocalSays': WHATEVER THE INPUT: true; the input reads as it did. -/
def localSaysSpec : ChangeSpec := { name := "localSays", fn := fun _ => fun
  | [d1, d2] => { results := [.lit (.bool true)], args := [d1, d2] }
  | _ => none }
def localSaysRow : OpenClaim := { program := "ytecpjeililiafaadoor", sum := "5f144976d798484659aa8a602a7b849a7230a5de0eba67f9eca8d5f4962f2092", func := "alibi/aliblaw.LocalSays", spec := "localSays", unfollowed := true, recurses := true, named := ["internal/strconv.uint64pow10", "math/bits.deBruijn32tab", "math/bits.deBruijn64tab"], apart := false, laid := [("math/bits.deBruijn32tab", laid_math_bits_deBruijn32tab), ("math/bits.deBruijn64tab", laid_math_bits_deBruijn64tab), ("internal/strconv.uint64pow10", laid_internal_strconv_uint64pow10)] }
def LocalSaysSaid : Prop := localSaysRow.holds Tryd.pinned (OpenSpec.ofChange localSaysSpec)

/-- ITS FALSE NEIGHBOUR: 'it returns false'. Refute it at one input. -/
def localSaysWrong : ChangeSpec := { name := "localSays", fn := fun _ => fun
  | [d1, d2] => { results := [.lit (.bool false)], args := [d1, d2] }
  | _ => none }
def LocalSaysWrongFalsely : Prop := localSaysRow.holds Tryd.pinned (OpenSpec.ofChange localSaysWrong)

/-- 'aliblaw.LocalJoins': WHATEVER THE INPUT: true; the input reads as it did. -/
def localJoinsSpec : ChangeSpec := { name := "localJoins", fn := fun _ => fun
  | [d1, d2, d3] => { results := [.lit (.bool true)], args := [d1, d2, d3] }
  | _ => none }
def localJoinsRow : OpenClaim := { program := "ytecpjeililiafaadoor", sum := "5f144976d798484659aa8a602a7b849a7230a5de0eba67f9eca8d5f4962f2092", func := "alibi/aliblaw.LocalJoins", spec := "localJoins", named := ["math/bits.deBruijn32tab"], apart := false, laid := [("math/bits.deBruijn32tab", laid_math_bits_deBruijn32tab)] }
def LocalJoinsSaid : Prop := localJoinsRow.holds Tryd.pinned (OpenSpec.ofChange localJoinsSpec)

/-- ITS FALSE NEIGHBOUR: 'it returns false'. Refute it at one input. -/
def localJoinsWrong : ChangeSpec := { name := "localJoins", fn := fun _ => fun
  | [d1, d2, d3] => { results := [.lit (.bool false)], args := [d1, d2, d3] }
  | _ => none }
def LocalJoinsWrongFalsely : Prop := localJoinsRow.holds Tryd.pinned (OpenSpec.ofChange localJoinsWrong)

/-- 'aliblaw.SeqSays': WHATEVER THE INPUT: true; the input reads as it did. -/
def seqSaysSpec : ChangeSpec := { name := "seqSays", fn := fun _ => fun
  | [d1, d2, d3] => { results := [.lit (.bool true)], args := [d1, d2, d3] }
  | _ => none }
def seqSaysRow : OpenClaim := { program := "ytecpjeililiafaadoor", sum := "5f144976d798484659aa8a602a7b849a7230a5de0eba67f9eca8d5f4962f2092", func := "alibi/aliblaw.SeqSays", spec := "seqSays", unfollowed := true, recurses := true, named := ["internal/strconv.uint64pow10", "math/bits.deBruijn32tab", "math/bits.deBruijn64tab"], apart := false, laid := [("math/bits.deBruijn32tab", laid_math_bits_deBruijn32tab), ("math/bits.deBruijn64tab", laid_math_bits_deBruijn64tab), ("internal/strconv.uint64pow10", laid_internal_strconv_uint64pow10)] }
def SeqSaysSaid : Prop := seqSaysRow.holds Tryd.pinned (OpenSpec.ofChange seqSaysSpec)

/-- ITS FALSE NEIGHBOUR: 'it returns false'. Refute it at one input. -/
def seqSaysWrong : ChangeSpec := { name := "seqSays", fn := fun _ => fun
  | [d1, d2, d3] => { results := [.lit (.bool false)], args := [d1, d2, d3] }
  | _ => none }
def SeqSaysWrongFalsely : Prop := seqSaysRow.holds Tryd.pinned (OpenSpec.ofChange seqSaysWrong)

/-- 'aliblaw.SeqQuiet': WHATEVER THE INPUT: true; the input reads as it did. -/
def seqQuietSpec : ChangeSpec := { name := "seqQuiet", fn := fun _ => fun
  | [d1, d2] => { results := [.lit (.bool true)], args := [d1, d2] }
  | _ => none }
def seqQuietRow : OpenClaim := { program := "ytecpjeililiafaadoor", sum := "5f144976d798484659aa8a602a7b849a7230a5de0eba67f9eca8d5f4962f2092", func := "alibi/aliblaw.SeqQuiet", spec := "seqQuiet", unfollowed := true, recurses := true, named := ["internal/strconv.uint64pow10", "math/bits.deBruijn32tab", "math/bits.deBruijn64tab"], apart := false, laid := [("math/bits.deBruijn32tab", laid_math_bits_deBruijn32tab), ("math/bits.deBruijn64tab", laid_math_bits_deBruijn64tab), ("internal/strconv.uint64pow10", laid_internal_strconv_uint64pow10)] }
def SeqQuietSaid : Prop := seqQuietRow.holds Tryd.pinned (OpenSpec.ofChange seqQuietSpec)

/-- ITS FALSE NEIGHBOUR: 'it returns false'. Refute it at one input. -/
def seqQuietWrong : ChangeSpec := { name := "seqQuiet", fn := fun _ => fun
  | [d1, d2] => { results := [.lit (.bool false)], args := [d1, d2] }
  | _ => none }
def SeqQuietWrongFalsely : Prop := seqQuietRow.holds Tryd.pinned (OpenSpec.ofChange seqQuietWrong)

/-- 'alibkeep.SearchFound': WHATEVER THE INPUT: true; the input reads as it did. -/
def searchFoundSpec : ChangeSpec := { name := "searchFound", fn := fun _ => fun
  | [d1, d2, d3] => { results := [.lit (.bool true)], args := [d1, d2, d3] }
  | _ => none }
def searchFoundRow : OpenClaim := { program := "ytecpjeililiafaadoor", sum := "5f144976d798484659aa8a602a7b849a7230a5de0eba67f9eca8d5f4962f2092", func := "alibi/alibkeep.SearchFound", spec := "searchFound", unfollowed := true, recurses := true, named := ["internal/strconv.uint64pow10", "math/bits.deBruijn32tab", "math/bits.deBruijn64tab"], apart := false, laid := [("math/bits.deBruijn32tab", laid_math_bits_deBruijn32tab), ("math/bits.deBruijn64tab", laid_math_bits_deBruijn64tab), ("internal/strconv.uint64pow10", laid_internal_strconv_uint64pow10)] }
def SearchFoundSaid : Prop := searchFoundRow.holds Tryd.pinned (OpenSpec.ofChange searchFoundSpec)

/-- ITS FALSE NEIGHBOUR: 'it returns false'. Refute it at one input. -/
def searchFoundWrong : ChangeSpec := { name := "searchFound", fn := fun _ => fun
  | [d1, d2, d3] => { results := [.lit (.bool false)], args := [d1, d2, d3] }
  | _ => none }
def SearchFoundWrongFalsely : Prop := searchFoundRow.holds Tryd.pinned (OpenSpec.ofChange searchFoundWrong)

/-- 'alibkeep.SearchFront': WHATEVER THE INPUT: true; the input reads as it did. -/
def searchFrontSpec : ChangeSpec := { name := "searchFront", fn := fun _ => fun
  | [d1, d2, d3] => { results := [.lit (.bool true)], args := [d1, d2, d3] }
  | _ => none }
def searchFrontRow : OpenClaim := { program := "ytecpjeililiafaadoor", sum := "5f144976d798484659aa8a602a7b849a7230a5de0eba67f9eca8d5f4962f2092", func := "alibi/alibkeep.SearchFront", spec := "searchFront", unfollowed := true, recurses := true, named := ["internal/strconv.uint64pow10", "math/bits.deBruijn32tab", "math/bits.deBruijn64tab"], apart := false, laid := [("math/bits.deBruijn32tab", laid_math_bits_deBruijn32tab), ("math/bits.deBruijn64tab", laid_math_bits_deBruijn64tab), ("internal/strconv.uint64pow10", laid_internal_strconv_uint64pow10)] }
def SearchFrontSaid : Prop := searchFrontRow.holds Tryd.pinned (OpenSpec.ofChange searchFrontSpec)

/-- ITS FALSE NEIGHBOUR: 'it returns false'. Refute it at one input. -/
def searchFrontWrong : ChangeSpec := { name := "searchFront", fn := fun _ => fun
  | [d1, d2, d3] => { results := [.lit (.bool false)], args := [d1, d2, d3] }
  | _ => none }
def SearchFrontWrongFalsely : Prop := searchFrontRow.holds Tryd.pinned (OpenSpec.ofChange searchFrontWrong)

/-- 'alibkeep.SearchNever': WHATEVER THE INPUT: true; the input reads as it did. -/
def searchNeverSpec : ChangeSpec := { name := "searchNever", fn := fun _ => fun
  | [d1, d2, d3] => { results := [.lit (.bool true)], args := [d1, d2, d3] }
  | _ => none }
def searchNeverRow : OpenClaim := { program := "ytecpjeililiafaadoor", sum := "5f144976d798484659aa8a602a7b849a7230a5de0eba67f9eca8d5f4962f2092", func := "alibi/alibkeep.SearchNever", spec := "searchNever", unfollowed := true, recurses := true, named := ["internal/strconv.uint64pow10", "math/bits.deBruijn32tab", "math/bits.deBruijn64tab"], apart := false, laid := [("math/bits.deBruijn32tab", laid_math_bits_deBruijn32tab), ("math/bits.deBruijn64tab", laid_math_bits_deBruijn64tab), ("internal/strconv.uint64pow10", laid_internal_strconv_uint64pow10)] }
def SearchNeverSaid : Prop := searchNeverRow.holds Tryd.pinned (OpenSpec.ofChange searchNeverSpec)

/-- ITS FALSE NEIGHBOUR: 'it returns false'. Refute it at one input. -/
def searchNeverWrong : ChangeSpec := { name := "searchNever", fn := fun _ => fun
  | [d1, d2, d3] => { results := [.lit (.bool false)], args := [d1, d2, d3] }
  | _ => none }
def SearchNeverWrongFalsely : Prop := searchNeverRow.holds Tryd.pinned (OpenSpec.ofChange searchNeverWrong)

/-- 'alibkeep.SearchLater': WHATEVER THE INPUT: true; the input reads as it did. -/
def searchLaterSpec : ChangeSpec := { name := "searchLater", fn := fun _ => fun
  | [d1, d2, d3] => { results := [.lit (.bool true)], args := [d1, d2, d3] }
  | _ => none }
def searchLaterRow : OpenClaim := { program := "ytecpjeililiafaadoor", sum := "5f144976d798484659aa8a602a7b849a7230a5de0eba67f9eca8d5f4962f2092", func := "alibi/alibkeep.SearchLater", spec := "searchLater", unfollowed := true, recurses := true, named := ["internal/strconv.uint64pow10", "math/bits.deBruijn32tab", "math/bits.deBruijn64tab"], apart := false, laid := [("math/bits.deBruijn32tab", laid_math_bits_deBruijn32tab), ("math/bits.deBruijn64tab", laid_math_bits_deBruijn64tab), ("internal/strconv.uint64pow10", laid_internal_strconv_uint64pow10)] }
def SearchLaterSaid : Prop := searchLaterRow.holds Tryd.pinned (OpenSpec.ofChange searchLaterSpec)

/-- ITS FALSE NEIGHBOUR: 'it returns false'. Refute it at one input. -/
def searchLaterWrong : ChangeSpec := { name := "searchLater", fn := fun _ => fun
  | [d1, d2, d3] => { results := [.lit (.bool false)], args := [d1, d2, d3] }
  | _ => none }
def SearchLaterWrongFalsely : Prop := searchLaterRow.holds Tryd.pinned (OpenSpec.ofChange searchLaterWrong)

/-- 'alibkeep.SearchAlone': WHATEVER THE INPUT: true; the input reads as it did. -/
def searchAloneSpec : ChangeSpec := { name := "searchAlone", fn := fun _ => fun
  | [d1, d2] => { results := [.lit (.bool true)], args := [d1, d2] }
  | _ => none }
def searchAloneRow : OpenClaim := { program := "ytecpjeililiafaadoor", sum := "5f144976d798484659aa8a602a7b849a7230a5de0eba67f9eca8d5f4962f2092", func := "alibi/alibkeep.SearchAlone", spec := "searchAlone", unfollowed := true, recurses := true, named := ["internal/strconv.uint64pow10", "math/bits.deBruijn32tab", "math/bits.deBruijn64tab"], apart := false, laid := [("math/bits.deBruijn32tab", laid_math_bits_deBruijn32tab), ("math/bits.deBruijn64tab", laid_math_bits_deBruijn64tab), ("internal/strconv.uint64pow10", laid_internal_strconv_uint64pow10)] }
def SearchAloneSaid : Prop := searchAloneRow.holds Tryd.pinned (OpenSpec.ofChange searchAloneSpec)

/-- ITS FALSE NEIGHBOUR: 'it returns false'. Refute it at one input. -/
def searchAloneWrong : ChangeSpec := { name := "searchAlone", fn := fun _ => fun
  | [d1, d2] => { results := [.lit (.bool false)], args := [d1, d2] }
  | _ => none }
def SearchAloneWrongFalsely : Prop := searchAloneRow.holds Tryd.pinned (OpenSpec.ofChange searchAloneWrong)

/-- 'alibkeep.LocalWhole': WHATEVER THE INPUT: true; the input reads as it did. -/
def localWholeSpec : ChangeSpec := { name := "localWhole", fn := fun _ => fun
  | [d1, d2] => { results := [.lit (.bool true)], args := [d1, d2] }
  | _ => none }
def localWholeRow : OpenClaim := { program := "ytecpjeililiafaadoor", sum := "5f144976d798484659aa8a602a7b849a7230a5de0eba67f9eca8d5f4962f2092", func := "alibi/alibkeep.LocalWhole", spec := "localWhole", unfollowed := true, recurses := true, named := ["internal/strconv.uint64pow10", "math/bits.deBruijn32tab", "math/bits.deBruijn64tab"], apart := false, laid := [("math/bits.deBruijn32tab", laid_math_bits_deBruijn32tab), ("math/bits.deBruijn64tab", laid_math_bits_deBruijn64tab), ("internal/strconv.uint64pow10", laid_internal_strconv_uint64pow10)] }
def LocalWholeSaid : Prop := localWholeRow.holds Tryd.pinned (OpenSpec.ofChange localWholeSpec)

/-- ITS FALSE NEIGHBOUR: 'it returns false'. Refute it at one input. -/
def localWholeWrong : ChangeSpec := { name := "localWhole", fn := fun _ => fun
  | [d1, d2] => { results := [.lit (.bool false)], args := [d1, d2] }
  | _ => none }
def LocalWholeWrongFalsely : Prop := localWholeRow.holds Tryd.pinned (OpenSpec.ofChange localWholeWrong)

/-- 'alibkeep.LocalJoined': WHATEVER THE INPUT: true; the input reads as it did. -/
def localJoinedSpec : ChangeSpec := { name := "localJoined", fn := fun _ => fun
  | [d1, d2] => { results := [.lit (.bool true)], args := [d1, d2] }
  | _ => none }
def localJoinedRow : OpenClaim := { program := "ytecpjeililiafaadoor", sum := "5f144976d798484659aa8a602a7b849a7230a5de0eba67f9eca8d5f4962f2092", func := "alibi/alibkeep.LocalJoined", spec := "localJoined", unfollowed := true, recurses := true, named := ["internal/strconv.uint64pow10", "math/bits.deBruijn32tab", "math/bits.deBruijn64tab"], apart := false, laid := [("math/bits.deBruijn32tab", laid_math_bits_deBruijn32tab), ("math/bits.deBruijn64tab", laid_math_bits_deBruijn64tab), ("internal/strconv.uint64pow10", laid_internal_strconv_uint64pow10)] }
def LocalJoinedSaid : Prop := localJoinedRow.holds Tryd.pinned (OpenSpec.ofChange localJoinedSpec)

/-- ITS FALSE NEIGHBOUR: 'it returns false'. Refute it at one input. -/
def localJoinedWrong : ChangeSpec := { name := "localJoined", fn := fun _ => fun
  | [d1, d2] => { results := [.lit (.bool false)], args := [d1, d2] }
  | _ => none }
def LocalJoinedWrongFalsely : Prop := localJoinedRow.holds Tryd.pinned (OpenSpec.ofChange localJoinedWrong)

/-- 'alibkeep.LocalAny': WHATEVER THE INPUT: true; the input reads as it did. -/
def localAnySpec : ChangeSpec := { name := "localAny", fn := fun _ => fun
  | [d1, d2, d3] => { results := [.lit (.bool true)], args := [d1, d2, d3] }
  | _ => none }
def localAnyRow : OpenClaim := { program := "ytecpjeililiafaadoor", sum := "5f144976d798484659aa8a602a7b849a7230a5de0eba67f9eca8d5f4962f2092", func := "alibi/alibkeep.LocalAny", spec := "localAny", unfollowed := true, recurses := true, named := ["math/bits.deBruijn32tab", "internal/strconv.uint64pow10", "math/bits.deBruijn64tab"], apart := false, laid := [("math/bits.deBruijn32tab", laid_math_bits_deBruijn32tab), ("math/bits.deBruijn64tab", laid_math_bits_deBruijn64tab), ("internal/strconv.uint64pow10", laid_internal_strconv_uint64pow10)] }
def LocalAnySaid : Prop := localAnyRow.holds Tryd.pinned (OpenSpec.ofChange localAnySpec)

/-- ITS FALSE NEIGHBOUR: 'it returns false'. Refute it at one input. -/
def localAnyWrong : ChangeSpec := { name := "localAny", fn := fun _ => fun
  | [d1, d2, d3] => { results := [.lit (.bool false)], args := [d1, d2, d3] }
  | _ => none }
def LocalAnyWrongFalsely : Prop := localAnyRow.holds Tryd.pinned (OpenSpec.ofChange localAnyWrong)

/-- 'alibkeep.SeqApart': WHATEVER THE INPUT: true; the input reads as it did. -/
def seqApartSpec : ChangeSpec := { name := "seqApart", fn := fun _ => fun
  | [] => { results := [.lit (.bool true)], args := [] }
  | _ => none }
def seqApartRow : OpenClaim := { program := "ytecpjeililiafaadoor", sum := "5f144976d798484659aa8a602a7b849a7230a5de0eba67f9eca8d5f4962f2092", func := "alibi/alibkeep.SeqApart", spec := "seqApart", unfollowed := true, recurses := true, named := ["internal/strconv.uint64pow10", "math/bits.deBruijn32tab", "math/bits.deBruijn64tab"], apart := false, laid := [("math/bits.deBruijn32tab", laid_math_bits_deBruijn32tab), ("math/bits.deBruijn64tab", laid_math_bits_deBruijn64tab), ("internal/strconv.uint64pow10", laid_internal_strconv_uint64pow10)] }
def SeqApartSaid : Prop := seqApartRow.holds Tryd.pinned (OpenSpec.ofChange seqApartSpec)

/-- ITS FALSE NEIGHBOUR: 'it returns false'. Refute it at one input. -/
def seqApartWrong : ChangeSpec := { name := "seqApart", fn := fun _ => fun
  | [] => { results := [.lit (.bool false)], args := [] }
  | _ => none }
def SeqApartWrongFalsely : Prop := seqApartRow.holds Tryd.pinned (OpenSpec.ofChange seqApartWrong)

/-- 'alibkeep.SeqWeaker': WHATEVER THE INPUT: true; the input reads as it did. -/
def seqWeakerSpec : ChangeSpec := { name := "seqWeaker", fn := fun _ => fun
  | [d1, d2] => { results := [.lit (.bool true)], args := [d1, d2] }
  | _ => none }
def seqWeakerRow : OpenClaim := { program := "ytecpjeililiafaadoor", sum := "5f144976d798484659aa8a602a7b849a7230a5de0eba67f9eca8d5f4962f2092", func := "alibi/alibkeep.SeqWeaker", spec := "seqWeaker", unfollowed := true, recurses := true, named := ["internal/strconv.uint64pow10", "math/bits.deBruijn32tab", "math/bits.deBruijn64tab"], apart := false, laid := [("math/bits.deBruijn32tab", laid_math_bits_deBruijn32tab), ("math/bits.deBruijn64tab", laid_math_bits_deBruijn64tab), ("internal/strconv.uint64pow10", laid_internal_strconv_uint64pow10)] }
def SeqWeakerSaid : Prop := seqWeakerRow.holds Tryd.pinned (OpenSpec.ofChange seqWeakerSpec)

/-- ITS FALSE NEIGHBOUR: 'it returns false'. Refute it at one input. -/
def seqWeakerWrong : ChangeSpec := { name := "seqWeaker", fn := fun _ => fun
  | [d1, d2] => { results := [.lit (.bool false)], args := [d1, d2] }
  | _ => none }
def SeqWeakerWrongFalsely : Prop := seqWeakerRow.holds Tryd.pinned (OpenSpec.ofChange seqWeakerWrong)

/-- 'alibkeep.SeqMoves': WHATEVER THE INPUT: true; the input reads as it did. -/
def seqMovesSpec : ChangeSpec := { name := "seqMoves", fn := fun _ => fun
  | [d1, d2, d3] => { results := [.lit (.bool true)], args := [d1, d2, d3] }
  | _ => none }
def seqMovesRow : OpenClaim := { program := "ytecpjeililiafaadoor", sum := "5f144976d798484659aa8a602a7b849a7230a5de0eba67f9eca8d5f4962f2092", func := "alibi/alibkeep.SeqMoves", spec := "seqMoves", unfollowed := true, recurses := true, named := ["internal/strconv.uint64pow10", "math/bits.deBruijn32tab", "math/bits.deBruijn64tab"], apart := false, laid := [("math/bits.deBruijn32tab", laid_math_bits_deBruijn32tab), ("math/bits.deBruijn64tab", laid_math_bits_deBruijn64tab), ("internal/strconv.uint64pow10", laid_internal_strconv_uint64pow10)] }
def SeqMovesSaid : Prop := seqMovesRow.holds Tryd.pinned (OpenSpec.ofChange seqMovesSpec)

/-- ITS FALSE NEIGHBOUR: 'it returns false'. Refute it at one input. -/
def seqMovesWrong : ChangeSpec := { name := "seqMoves", fn := fun _ => fun
  | [d1, d2, d3] => { results := [.lit (.bool false)], args := [d1, d2, d3] }
  | _ => none }
def SeqMovesWrongFalsely : Prop := seqMovesRow.holds Tryd.pinned (OpenSpec.ofChange seqMovesWrong)

/-- 'alibkeep.SeqOrdered': WHATEVER THE INPUT: true; the input reads as it did. -/
def seqOrderedSpec : ChangeSpec := { name := "seqOrdered", fn := fun _ => fun
  | [d1, d2] => { results := [.lit (.bool true)], args := [d1, d2] }
  | _ => none }
def seqOrderedRow : OpenClaim := { program := "ytecpjeililiafaadoor", sum := "5f144976d798484659aa8a602a7b849a7230a5de0eba67f9eca8d5f4962f2092", func := "alibi/alibkeep.SeqOrdered", spec := "seqOrdered", unfollowed := true, recurses := true, named := ["internal/strconv.uint64pow10", "math/bits.deBruijn32tab", "math/bits.deBruijn64tab"], apart := false, laid := [("math/bits.deBruijn32tab", laid_math_bits_deBruijn32tab), ("math/bits.deBruijn64tab", laid_math_bits_deBruijn64tab), ("internal/strconv.uint64pow10", laid_internal_strconv_uint64pow10)] }
def SeqOrderedSaid : Prop := seqOrderedRow.holds Tryd.pinned (OpenSpec.ofChange seqOrderedSpec)

/-- ITS FALSE NEIGHBOUR: 'it returns false'. Refute it at one input. -/
def seqOrderedWrong : ChangeSpec := { name := "seqOrdered", fn := fun _ => fun
  | [d1, d2] => { results := [.lit (.bool false)], args := [d1, d2] }
  | _ => none }
def SeqOrderedWrongFalsely : Prop := seqOrderedRow.holds Tryd.pinned (OpenSpec.ofChange seqOrderedWrong)

/-- 'alibkeep.SeqCalm': WHATEVER THE INPUT: true; the input reads as it did. -/
def seqCalmSpec : ChangeSpec := { name := "seqCalm", fn := fun _ => fun
  | [d1, d2] => { results := [.lit (.bool true)], args := [d1, d2] }
  | _ => none }
def seqCalmRow : OpenClaim := { program := "ytecpjeililiafaadoor", sum := "5f144976d798484659aa8a602a7b849a7230a5de0eba67f9eca8d5f4962f2092", func := "alibi/alibkeep.SeqCalm", spec := "seqCalm", unfollowed := true, recurses := true, named := ["internal/strconv.uint64pow10", "math/bits.deBruijn32tab", "math/bits.deBruijn64tab"], apart := false, laid := [("math/bits.deBruijn32tab", laid_math_bits_deBruijn32tab), ("math/bits.deBruijn64tab", laid_math_bits_deBruijn64tab), ("internal/strconv.uint64pow10", laid_internal_strconv_uint64pow10)] }
def SeqCalmSaid : Prop := seqCalmRow.holds Tryd.pinned (OpenSpec.ofChange seqCalmSpec)

/-- ITS FALSE NEIGHBOUR: 'it returns false'. Refute it at one input. -/
def seqCalmWrong : ChangeSpec := { name := "seqCalm", fn := fun _ => fun
  | [d1, d2] => { results := [.lit (.bool false)], args := [d1, d2] }
  | _ => none }
def SeqCalmWrongFalsely : Prop := seqCalmRow.holds Tryd.pinned (OpenSpec.ofChange seqCalmWrong)

/- THE SECOND FORM. 'bulk': how many values and letters a reading holds, each counted each time it is reached (what is shared counts as often as it is met; a slice's spare places count too). A statement '..UptoSaid' is the law's where the arguments, and the package variables that the reading takes, are together of bulk at most 1048576: NARROWER than '..Said'. Prove '..Said' where nothing that the law and all that it calls make is longer than what came in: it says more and counts as full. Else prove '..UptoSaid'. A law counts once. -/
mutual
def uptoBulk {H : Type} : DataW H → Nat
  | .lit (.string bytes) => bytes.length + 1
  | .lit _ => 1
  | .nil => 1
  | .ptr d => uptoBulk d + 1
  | .slice elems spare => uptoBulkAll elems + uptoBulkAll spare + 1
  | .agg parts => uptoBulkAll parts + 1
  | .iface _ d => uptoBulk d + 1
  | .map entries => uptoBulkEntries entries + 1
  | .held _ => 1
def uptoBulkAll {H : Type} : List (DataW H) → Nat
  | [] => 0
  | d :: r => uptoBulk d + uptoBulkAll r
def uptoBulkEntries {H : Type} : List (Lit × DataW H) → Nat
  | [] => 0
  | x :: r => uptoBulkEntry x + uptoBulkEntries r
def uptoBulkEntry {H : Type} : Lit × DataW H → Nat
  | (.string bytes, d) => bytes.length + uptoBulk d + 1
  | (_, d) => uptoBulk d + 1
 end
def uptoSmall : (H : Type) → List (DataW H) → Bool := fun _ ds => decide (uptoBulkAll ds ≤ 1048576)
def OpenSpec.upto (s : _root_.Go.ChangeSpec) : _root_.Go.OpenSpec := { _root_.Go.OpenSpec.ofChange s with cond := some uptoSmall }

/-- 'aliblaw.SearchSays', WHERE WHAT IT READS IS OF BULK AT MOST 1048576: true; the input reads as it did. -/
def searchSaysUptoRow : OpenClaim := { program := "ytecpjeililiafaadoor", sum := "5f144976d798484659aa8a602a7b849a7230a5de0eba67f9eca8d5f4962f2092", func := "alibi/aliblaw.SearchSays", spec := "searchSays", unfollowed := true, recurses := true, named := ["internal/strconv.uint64pow10", "math/bits.deBruijn32tab", "math/bits.deBruijn64tab"], apart := false, laid := [("math/bits.deBruijn32tab", laid_math_bits_deBruijn32tab), ("math/bits.deBruijn64tab", laid_math_bits_deBruijn64tab), ("internal/strconv.uint64pow10", laid_internal_strconv_uint64pow10)], narrowed := true }
def SearchSaysUptoSaid : Prop := searchSaysUptoRow.holds Tryd.pinned (OpenSpec.upto searchSaysSpec)

/-- 'aliblaw.LocalSays', WHERE WHAT IT READS IS OF BULK AT MOST 1048576: true; the input reads as it did. -/
def localSaysUptoRow : OpenClaim := { program := "ytecpjeililiafaadoor", sum := "5f144976d798484659aa8a602a7b849a7230a5de0eba67f9eca8d5f4962f2092", func := "alibi/aliblaw.LocalSays", spec := "localSays", unfollowed := true, recurses := true, named := ["internal/strconv.uint64pow10", "math/bits.deBruijn32tab", "math/bits.deBruijn64tab"], apart := false, laid := [("math/bits.deBruijn32tab", laid_math_bits_deBruijn32tab), ("math/bits.deBruijn64tab", laid_math_bits_deBruijn64tab), ("internal/strconv.uint64pow10", laid_internal_strconv_uint64pow10)], narrowed := true }
def LocalSaysUptoSaid : Prop := localSaysUptoRow.holds Tryd.pinned (OpenSpec.upto localSaysSpec)

/-- 'aliblaw.LocalJoins', WHERE WHAT IT READS IS OF BULK AT MOST 1048576: true; the input reads as it did. -/
def localJoinsUptoRow : OpenClaim := { program := "ytecpjeililiafaadoor", sum := "5f144976d798484659aa8a602a7b849a7230a5de0eba67f9eca8d5f4962f2092", func := "alibi/aliblaw.LocalJoins", spec := "localJoins", named := ["math/bits.deBruijn32tab"], apart := false, laid := [("math/bits.deBruijn32tab", laid_math_bits_deBruijn32tab)], narrowed := true }
def LocalJoinsUptoSaid : Prop := localJoinsUptoRow.holds Tryd.pinned (OpenSpec.upto localJoinsSpec)

/-- 'aliblaw.SeqSays', WHERE WHAT IT READS IS OF BULK AT MOST 1048576: true; the input reads as it did. -/
def seqSaysUptoRow : OpenClaim := { program := "ytecpjeililiafaadoor", sum := "5f144976d798484659aa8a602a7b849a7230a5de0eba67f9eca8d5f4962f2092", func := "alibi/aliblaw.SeqSays", spec := "seqSays", unfollowed := true, recurses := true, named := ["internal/strconv.uint64pow10", "math/bits.deBruijn32tab", "math/bits.deBruijn64tab"], apart := false, laid := [("math/bits.deBruijn32tab", laid_math_bits_deBruijn32tab), ("math/bits.deBruijn64tab", laid_math_bits_deBruijn64tab), ("internal/strconv.uint64pow10", laid_internal_strconv_uint64pow10)], narrowed := true }
def SeqSaysUptoSaid : Prop := seqSaysUptoRow.holds Tryd.pinned (OpenSpec.upto seqSaysSpec)

/-- 'aliblaw.SeqQuiet', WHERE WHAT IT READS IS OF BULK AT MOST 1048576: true; the input reads as it did. -/
def seqQuietUptoRow : OpenClaim := { program := "ytecpjeililiafaadoor", sum := "5f144976d798484659aa8a602a7b849a7230a5de0eba67f9eca8d5f4962f2092", func := "alibi/aliblaw.SeqQuiet", spec := "seqQuiet", unfollowed := true, recurses := true, named := ["internal/strconv.uint64pow10", "math/bits.deBruijn32tab", "math/bits.deBruijn64tab"], apart := false, laid := [("math/bits.deBruijn32tab", laid_math_bits_deBruijn32tab), ("math/bits.deBruijn64tab", laid_math_bits_deBruijn64tab), ("internal/strconv.uint64pow10", laid_internal_strconv_uint64pow10)], narrowed := true }
def SeqQuietUptoSaid : Prop := seqQuietUptoRow.holds Tryd.pinned (OpenSpec.upto seqQuietSpec)

/-- 'alibkeep.SearchFound', WHERE WHAT IT READS IS OF BULK AT MOST 1048576: true; the input reads as it did. -/
def searchFoundUptoRow : OpenClaim := { program := "ytecpjeililiafaadoor", sum := "5f144976d798484659aa8a602a7b849a7230a5de0eba67f9eca8d5f4962f2092", func := "alibi/alibkeep.SearchFound", spec := "searchFound", unfollowed := true, recurses := true, named := ["internal/strconv.uint64pow10", "math/bits.deBruijn32tab", "math/bits.deBruijn64tab"], apart := false, laid := [("math/bits.deBruijn32tab", laid_math_bits_deBruijn32tab), ("math/bits.deBruijn64tab", laid_math_bits_deBruijn64tab), ("internal/strconv.uint64pow10", laid_internal_strconv_uint64pow10)], narrowed := true }
def SearchFoundUptoSaid : Prop := searchFoundUptoRow.holds Tryd.pinned (OpenSpec.upto searchFoundSpec)

/-- 'alibkeep.SearchFront', WHERE WHAT IT READS IS OF BULK AT MOST 1048576: true; the input reads as it did. -/
def searchFrontUptoRow : OpenClaim := { program := "ytecpjeililiafaadoor", sum := "5f144976d798484659aa8a602a7b849a7230a5de0eba67f9eca8d5f4962f2092", func := "alibi/alibkeep.SearchFront", spec := "searchFront", unfollowed := true, recurses := true, named := ["internal/strconv.uint64pow10", "math/bits.deBruijn32tab", "math/bits.deBruijn64tab"], apart := false, laid := [("math/bits.deBruijn32tab", laid_math_bits_deBruijn32tab), ("math/bits.deBruijn64tab", laid_math_bits_deBruijn64tab), ("internal/strconv.uint64pow10", laid_internal_strconv_uint64pow10)], narrowed := true }
def SearchFrontUptoSaid : Prop := searchFrontUptoRow.holds Tryd.pinned (OpenSpec.upto searchFrontSpec)

/-- 'alibkeep.SearchNever', WHERE WHAT IT READS IS OF BULK AT MOST 1048576: true; the input reads as it did. -/
def searchNeverUptoRow : OpenClaim := { program := "ytecpjeililiafaadoor", sum := "5f144976d798484659aa8a602a7b849a7230a5de0eba67f9eca8d5f4962f2092", func := "alibi/alibkeep.SearchNever", spec := "searchNever", unfollowed := true, recurses := true, named := ["internal/strconv.uint64pow10", "math/bits.deBruijn32tab", "math/bits.deBruijn64tab"], apart := false, laid := [("math/bits.deBruijn32tab", laid_math_bits_deBruijn32tab), ("math/bits.deBruijn64tab", laid_math_bits_deBruijn64tab), ("internal/strconv.uint64pow10", laid_internal_strconv_uint64pow10)], narrowed := true }
def SearchNeverUptoSaid : Prop := searchNeverUptoRow.holds Tryd.pinned (OpenSpec.upto searchNeverSpec)

/-- 'alibkeep.SearchLater', WHERE WHAT IT READS IS OF BULK AT MOST 1048576: true; the input reads as it did. -/
def searchLaterUptoRow : OpenClaim := { program := "ytecpjeililiafaadoor", sum := "5f144976d798484659aa8a602a7b849a7230a5de0eba67f9eca8d5f4962f2092", func := "alibi/alibkeep.SearchLater", spec := "searchLater", unfollowed := true, recurses := true, named := ["internal/strconv.uint64pow10", "math/bits.deBruijn32tab", "math/bits.deBruijn64tab"], apart := false, laid := [("math/bits.deBruijn32tab", laid_math_bits_deBruijn32tab), ("math/bits.deBruijn64tab", laid_math_bits_deBruijn64tab), ("internal/strconv.uint64pow10", laid_internal_strconv_uint64pow10)], narrowed := true }
def SearchLaterUptoSaid : Prop := searchLaterUptoRow.holds Tryd.pinned (OpenSpec.upto searchLaterSpec)

/-- 'alibkeep.SearchAlone', WHERE WHAT IT READS IS OF BULK AT MOST 1048576: true; the input reads as it did. -/
def searchAloneUptoRow : OpenClaim := { program := "ytecpjeililiafaadoor", sum := "5f144976d798484659aa8a602a7b849a7230a5de0eba67f9eca8d5f4962f2092", func := "alibi/alibkeep.SearchAlone", spec := "searchAlone", unfollowed := true, recurses := true, named := ["internal/strconv.uint64pow10", "math/bits.deBruijn32tab", "math/bits.deBruijn64tab"], apart := false, laid := [("math/bits.deBruijn32tab", laid_math_bits_deBruijn32tab), ("math/bits.deBruijn64tab", laid_math_bits_deBruijn64tab), ("internal/strconv.uint64pow10", laid_internal_strconv_uint64pow10)], narrowed := true }
def SearchAloneUptoSaid : Prop := searchAloneUptoRow.holds Tryd.pinned (OpenSpec.upto searchAloneSpec)

/-- 'alibkeep.LocalWhole', WHERE WHAT IT READS IS OF BULK AT MOST 1048576: true; the input reads as it did. -/
def localWholeUptoRow : OpenClaim := { program := "ytecpjeililiafaadoor", sum := "5f144976d798484659aa8a602a7b849a7230a5de0eba67f9eca8d5f4962f2092", func := "alibi/alibkeep.LocalWhole", spec := "localWhole", unfollowed := true, recurses := true, named := ["internal/strconv.uint64pow10", "math/bits.deBruijn32tab", "math/bits.deBruijn64tab"], apart := false, laid := [("math/bits.deBruijn32tab", laid_math_bits_deBruijn32tab), ("math/bits.deBruijn64tab", laid_math_bits_deBruijn64tab), ("internal/strconv.uint64pow10", laid_internal_strconv_uint64pow10)], narrowed := true }
def LocalWholeUptoSaid : Prop := localWholeUptoRow.holds Tryd.pinned (OpenSpec.upto localWholeSpec)

/-- 'alibkeep.LocalJoined', WHERE WHAT IT READS IS OF BULK AT MOST 1048576: true; the input reads as it did. -/
def localJoinedUptoRow : OpenClaim := { program := "ytecpjeililiafaadoor", sum := "5f144976d798484659aa8a602a7b849a7230a5de0eba67f9eca8d5f4962f2092", func := "alibi/alibkeep.LocalJoined", spec := "localJoined", unfollowed := true, recurses := true, named := ["internal/strconv.uint64pow10", "math/bits.deBruijn32tab", "math/bits.deBruijn64tab"], apart := false, laid := [("math/bits.deBruijn32tab", laid_math_bits_deBruijn32tab), ("math/bits.deBruijn64tab", laid_math_bits_deBruijn64tab), ("internal/strconv.uint64pow10", laid_internal_strconv_uint64pow10)], narrowed := true }
def LocalJoinedUptoSaid : Prop := localJoinedUptoRow.holds Tryd.pinned (OpenSpec.upto localJoinedSpec)

/-- 'alibkeep.LocalAny', WHERE WHAT IT READS IS OF BULK AT MOST 1048576: true; the input reads as it did. -/
def localAnyUptoRow : OpenClaim := { program := "ytecpjeililiafaadoor", sum := "5f144976d798484659aa8a602a7b849a7230a5de0eba67f9eca8d5f4962f2092", func := "alibi/alibkeep.LocalAny", spec := "localAny", unfollowed := true, recurses := true, named := ["math/bits.deBruijn32tab", "internal/strconv.uint64pow10", "math/bits.deBruijn64tab"], apart := false, laid := [("math/bits.deBruijn32tab", laid_math_bits_deBruijn32tab), ("math/bits.deBruijn64tab", laid_math_bits_deBruijn64tab), ("internal/strconv.uint64pow10", laid_internal_strconv_uint64pow10)], narrowed := true }
def LocalAnyUptoSaid : Prop := localAnyUptoRow.holds Tryd.pinned (OpenSpec.upto localAnySpec)

/-- 'alibkeep.SeqApart', WHERE WHAT IT READS IS OF BULK AT MOST 1048576: true; the input reads as it did. -/
def seqApartUptoRow : OpenClaim := { program := "ytecpjeililiafaadoor", sum := "5f144976d798484659aa8a602a7b849a7230a5de0eba67f9eca8d5f4962f2092", func := "alibi/alibkeep.SeqApart", spec := "seqApart", unfollowed := true, recurses := true, named := ["internal/strconv.uint64pow10", "math/bits.deBruijn32tab", "math/bits.deBruijn64tab"], apart := false, laid := [("math/bits.deBruijn32tab", laid_math_bits_deBruijn32tab), ("math/bits.deBruijn64tab", laid_math_bits_deBruijn64tab), ("internal/strconv.uint64pow10", laid_internal_strconv_uint64pow10)], narrowed := true }
def SeqApartUptoSaid : Prop := seqApartUptoRow.holds Tryd.pinned (OpenSpec.upto seqApartSpec)

/-- 'alibkeep.SeqWeaker', WHERE WHAT IT READS IS OF BULK AT MOST 1048576: true; the input reads as it did. -/
def seqWeakerUptoRow : OpenClaim := { program := "ytecpjeililiafaadoor", sum := "5f144976d798484659aa8a602a7b849a7230a5de0eba67f9eca8d5f4962f2092", func := "alibi/alibkeep.SeqWeaker", spec := "seqWeaker", unfollowed := true, recurses := true, named := ["internal/strconv.uint64pow10", "math/bits.deBruijn32tab", "math/bits.deBruijn64tab"], apart := false, laid := [("math/bits.deBruijn32tab", laid_math_bits_deBruijn32tab), ("math/bits.deBruijn64tab", laid_math_bits_deBruijn64tab), ("internal/strconv.uint64pow10", laid_internal_strconv_uint64pow10)], narrowed := true }
def SeqWeakerUptoSaid : Prop := seqWeakerUptoRow.holds Tryd.pinned (OpenSpec.upto seqWeakerSpec)

/-- 'alibkeep.SeqMoves', WHERE WHAT IT READS IS OF BULK AT MOST 1048576: true; the input reads as it did. -/
def seqMovesUptoRow : OpenClaim := { program := "ytecpjeililiafaadoor", sum := "5f144976d798484659aa8a602a7b849a7230a5de0eba67f9eca8d5f4962f2092", func := "alibi/alibkeep.SeqMoves", spec := "seqMoves", unfollowed := true, recurses := true, named := ["internal/strconv.uint64pow10", "math/bits.deBruijn32tab", "math/bits.deBruijn64tab"], apart := false, laid := [("math/bits.deBruijn32tab", laid_math_bits_deBruijn32tab), ("math/bits.deBruijn64tab", laid_math_bits_deBruijn64tab), ("internal/strconv.uint64pow10", laid_internal_strconv_uint64pow10)], narrowed := true }
def SeqMovesUptoSaid : Prop := seqMovesUptoRow.holds Tryd.pinned (OpenSpec.upto seqMovesSpec)

/-- 'alibkeep.SeqOrdered', WHERE WHAT IT READS IS OF BULK AT MOST 1048576: true; the input reads as it did. -/
def seqOrderedUptoRow : OpenClaim := { program := "ytecpjeililiafaadoor", sum := "5f144976d798484659aa8a602a7b849a7230a5de0eba67f9eca8d5f4962f2092", func := "alibi/alibkeep.SeqOrdered", spec := "seqOrdered", unfollowed := true, recurses := true, named := ["internal/strconv.uint64pow10", "math/bits.deBruijn32tab", "math/bits.deBruijn64tab"], apart := false, laid := [("math/bits.deBruijn32tab", laid_math_bits_deBruijn32tab), ("math/bits.deBruijn64tab", laid_math_bits_deBruijn64tab), ("internal/strconv.uint64pow10", laid_internal_strconv_uint64pow10)], narrowed := true }
def SeqOrderedUptoSaid : Prop := seqOrderedUptoRow.holds Tryd.pinned (OpenSpec.upto seqOrderedSpec)

/-- 'alibkeep.SeqCalm', WHERE WHAT IT READS IS OF BULK AT MOST 1048576: true; the input reads as it did. -/
def seqCalmUptoRow : OpenClaim := { program := "ytecpjeililiafaadoor", sum := "5f144976d798484659aa8a602a7b849a7230a5de0eba67f9eca8d5f4962f2092", func := "alibi/alibkeep.SeqCalm", spec := "seqCalm", unfollowed := true, recurses := true, named := ["internal/strconv.uint64pow10", "math/bits.deBruijn32tab", "math/bits.deBruijn64tab"], apart := false, laid := [("math/bits.deBruijn32tab", laid_math_bits_deBruijn32tab), ("math/bits.deBruijn64tab", laid_math_bits_deBruijn64tab), ("internal/strconv.uint64pow10", laid_internal_strconv_uint64pow10)], narrowed := true }
def SeqCalmUptoSaid : Prop := seqCalmUptoRow.holds Tryd.pinned (OpenSpec.upto seqCalmSpec)

end Rows
end Go.Proofs.YtecpjeililiafaaDoor
