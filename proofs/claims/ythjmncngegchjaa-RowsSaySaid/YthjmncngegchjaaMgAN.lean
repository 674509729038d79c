/-
  Joined by a program out of: RShelf, RKeys, RVals, RUnord, SnMem.
-/
import Derived.Test.YthjmncngegchjaaProg
import Derived.Shelf.SlIterI.Sorted
import Derived.Shelf.SlIterI.Nil
import Derived.Shelf.SortM.Plain
import Derived.Shelf.SortM.SortNone
import Derived.Test.YthjmncngegchjaaMgAF
import Derived.Test.YthjmncngegchjaaMgAM
import Derived.Test.YthjmncngegchjaaMgAE

/-
  The library's contracts of maps.Keys, slices.Sorted and slices.Sort over int, laid at this program.
-/
namespace Go.Proofs.Ythjmncngegchjaa
open Go.RowKit Go.Shelf Go.Sort
set_option maxRecDepth 20000

def seqRenR : Go.Shelf.Ren := ⟨fun | 6 => 53 | 7 => 54 | 8 => 59 | 9 => 60 | 10 => 61 | 11 => 63 | n => n,
  fun | 0 => 0 | 3 => 3 | 4 => 4 | 23 => 74 | 24 => 43 | 26 => 3 | 27 => 92 | 28 => 93 | 33 => 98 | n => n, fun n => n⟩
def srtRenR : Go.Shelf.Ren := ⟨fun | 5 => 60 | 7 => 64 | 8 => 65 | 10 => 66 | 11 => 67 | 12 => 68 | 13 => 69 | 14 => 70 | 15 => 71 | 16 => 72 | 17 => 73 | 18 => 74 | 19 => 75 | 20 => 76 | 30 => 77 | 31 => 78 | 32 => 79 | 33 => 80 | 34 => 81 | 35 => 82 | 40 => 83 | n => n,
  fun | 0 => 0 | 3 => 3 | 4 => 4 | 5 => 5 | 9 => 9 | 22 => 43 | 23 => 43 | 25 => 3 | 32 => 103 | 35 => 105 | 36 => 106 | 41 => 79 | 44 => 112 | 46 => 114 | 53 => 115 | 57 => 119 | 63 => 121 | 64 => 122 | n => n, fun n => n⟩

theorem laysKeysR : SlLaysZI.n7 Try.prog seqRenR := {
  mixed := by kernel_rfl
  f7 := ⟨("maps.Keys[map[int]int,int,int]"), by decide, Try.func54.trans (congrArg some (by kernel_rfl))⟩
  f10 := ⟨("maps.Keys[map[int]int,int,int]$1"), by decide, Try.func61.trans (congrArg some (by kernel_rfl))⟩
  t0 := Try.underlying0
  a0 := Try.isAgg0
  z0 := Try.sizeOf0
  v0 := Try.zeroValue0
  t4 := Try.underlying4
  a4 := Try.isAgg4
  z4 := Try.sizeOf4
  v4 := Try.zeroValue4
  t23 := Try.underlying74
  a23 := Try.isAgg74
  z23 := Try.sizeOf74
  v23 := Try.zeroValue74
  t26 := Try.underlying3
  a26 := Try.isAgg3
  z26 := Try.sizeOf3
  v26 := Try.zeroValue3
  t27 := Try.underlying92
  a27 := Try.isAgg92
  z27 := Try.sizeOf92
  v27 := Try.zeroValue92
  t28 := Try.underlying93
  a28 := Try.isAgg93
  z28 := Try.sizeOf93
  v28 := Try.zeroValue93
  t33 := Try.underlying98
  a33 := Try.isAgg98
  z33 := Try.sizeOf98
  v33 := Try.zeroValue98
  }

theorem laysSortedR : SlLaysZI.n6 Try.prog seqRenR := {
  mixed := by kernel_rfl
  f6 := ⟨("slices.Sorted[int]"), by decide, Try.func53.trans (congrArg some (by kernel_rfl))⟩
  f8 := ⟨("slices.Collect[int]"), by decide, Try.func59.trans (congrArg some (by kernel_rfl))⟩
  f11 := ⟨("slices.AppendSeq[[]int,int]"), by decide, Try.func63.trans (congrArg some (by kernel_rfl))⟩
  t0 := Try.underlying0
  a0 := Try.isAgg0
  z0 := Try.sizeOf0
  v0 := Try.zeroValue0
  t24 := Try.underlying43
  a24 := Try.isAgg43
  z24 := Try.sizeOf43
  v24 := Try.zeroValue43
  t26 := Try.underlying3
  a26 := Try.isAgg3
  z26 := Try.sizeOf3
  v26 := Try.zeroValue3
  t28 := Try.underlying93
  a28 := Try.isAgg93
  z28 := Try.sizeOf93
  v28 := Try.zeroValue93
  i26 := by kernel_rfl
  }

theorem laysSortR : SlLaysM.n5 Try.prog srtRenR := {
  mixed := by kernel_rfl
  f5 := ⟨("slices.Sort[[]int,int]"), by decide, Try.func60.trans (congrArg some (by kernel_rfl))⟩
  f7 := ⟨("slices.pdqsortOrdered[int]"), by decide, Try.func64.trans (congrArg some (by kernel_rfl))⟩
  f8 := Try.func65.trans (congrArg some (by kernel_rfl))
  f10 := ⟨("slices.insertionSortOrdered[int]"), by decide, Try.func66.trans (congrArg some (by kernel_rfl))⟩
  f11 := ⟨("slices.heapSortOrdered[int]"), by decide, Try.func67.trans (congrArg some (by kernel_rfl))⟩
  f12 := ⟨("slices.breakPatternsOrdered[int]"), by decide, Try.func68.trans (congrArg some (by kernel_rfl))⟩
  f13 := ⟨("slices.choosePivotOrdered[int]"), by decide, Try.func69.trans (congrArg some (by kernel_rfl))⟩
  f14 := ⟨("slices.reverseRangeOrdered[int]"), by decide, Try.func70.trans (congrArg some (by kernel_rfl))⟩
  f15 := ⟨("slices.partialInsertionSortOrdered[int]"), by decide, Try.func71.trans (congrArg some (by kernel_rfl))⟩
  f16 := ⟨("cmp.Less[int]"), by decide, Try.func72.trans (congrArg some (by kernel_rfl))⟩
  f17 := ⟨("slices.partitionEqualOrdered[int]"), by decide, Try.func73.trans (congrArg some (by kernel_rfl))⟩
  f18 := ⟨("slices.partitionOrdered[int]"), by decide, Try.func74.trans (congrArg some (by kernel_rfl))⟩
  f19 := Try.func75.trans (congrArg some (by kernel_rfl))
  f20 := Try.func76.trans (congrArg some (by kernel_rfl))
  f30 := ⟨("slices.siftDownOrdered[int]"), by decide, Try.func77.trans (congrArg some (by kernel_rfl))⟩
  f31 := Try.func78.trans (congrArg some (by kernel_rfl))
  f32 := Try.func79.trans (congrArg some (by kernel_rfl))
  f33 := ⟨("slices.medianAdjacentOrdered[int]"), by decide, Try.func80.trans (congrArg some (by kernel_rfl))⟩
  f34 := ⟨("slices.medianOrdered[int]"), by decide, Try.func81.trans (congrArg some (by kernel_rfl))⟩
  f35 := ⟨("cmp.isNaN[int]"), by decide, Try.func82.trans (congrArg some (by kernel_rfl))⟩
  f40 := ⟨("slices.order2Ordered[int]"), by decide, Try.func83.trans (congrArg some (by kernel_rfl))⟩
  t0 := Try.underlying0
  a0 := Try.isAgg0
  z0 := Try.sizeOf0
  v0 := Try.zeroValue0
  t3 := Try.underlying3
  a3 := Try.isAgg3
  z3 := Try.sizeOf3
  v3 := Try.zeroValue3
  t4 := Try.underlying4
  a4 := Try.isAgg4
  z4 := Try.sizeOf4
  v4 := Try.zeroValue4
  t5 := Try.underlying5
  a5 := Try.isAgg5
  z5 := Try.sizeOf5
  v5 := Try.zeroValue5
  t9 := Try.underlying9
  a9 := Try.isAgg9
  z9 := Try.sizeOf9
  v9 := Try.zeroValue9
  t22 := Try.underlying43
  a22 := Try.isAgg43
  z22 := Try.sizeOf43
  v22 := Try.zeroValue43
  t23 := Try.underlying43
  a23 := Try.isAgg43
  z23 := Try.sizeOf43
  v23 := Try.zeroValue43
  t25 := Try.underlying3
  a25 := Try.isAgg3
  z25 := Try.sizeOf3
  v25 := Try.zeroValue3
  t32 := Try.underlying103
  a32 := Try.isAgg103
  z32 := Try.sizeOf103
  v32 := Try.zeroValue103
  t35 := Try.underlying105
  a35 := Try.isAgg105
  z35 := Try.sizeOf105
  v35 := Try.zeroValue105
  t36 := Try.underlying106
  a36 := Try.isAgg106
  z36 := Try.sizeOf106
  v36 := Try.zeroValue106
  t41 := Try.underlying79
  a41 := Try.isAgg79
  z41 := Try.sizeOf79
  v41 := Try.zeroValue79
  t44 := Try.underlying112
  a44 := Try.isAgg112
  z44 := Try.sizeOf112
  v44 := Try.zeroValue112
  t46 := Try.underlying114
  a46 := Try.isAgg114
  z46 := Try.sizeOf114
  v46 := Try.zeroValue114
  t53 := Try.underlying115
  a53 := Try.isAgg115
  z53 := Try.sizeOf115
  v53 := Try.zeroValue115
  t57 := Try.underlying119
  a57 := Try.isAgg119
  z57 := Try.sizeOf119
  v57 := Try.zeroValue119
  t63 := Try.underlying121
  a63 := Try.isAgg121
  z63 := Try.sizeOf121
  v63 := Try.zeroValue121
  t64 := Try.underlying122
  a64 := Try.isAgg122
  z64 := Try.sizeOf122
  v64 := Try.zeroValue122
  }

/-- slices.Sort's two contracts, at the fence that asks nothing. -/
theorem sortsR (m : Nat) : AnyZI.SortsIn Try.prog seqRenR Fence.wide m :=
  ⟨fun blk off cap ss W hH hblk hsz => callsIn_wide.2 (AnyM.slices_Sort_int laysSortR blk off cap ss W hH hblk hsz),
   fun p cap W => callsIn_wide.2 (AnyM.slices_Sort_int_none laysSortR p cap W)⟩
end Go.Proofs.Ythjmncngegchjaa

/-
  The keys of a map of numbers, in increasing order: slices.Sorted(maps.Keys(m)).
-/
namespace Go.Proofs.Ythjmncngegchjaa
open Go.RowKit Go.Maps Go.Sort Go.Shelf
set_option maxRecDepth 20000

theorem nkeys_of {D : DataW Unit} {w : World} {b n : Nat} (h : w.ownsMap Try.prog 3 nuR b n D) : (intKeys D).Nodup ∧ ∀ x, x ∈ intKeys D ↔ has D (.int .i64 x) = true := by
  obtain ⟨es, rfl, hp, _⟩ := h.entries keyed_int
  obtain ⟨es', hD', hko⟩ := h.keysOf
  obtain rfl : es = es' := by simpa using hD'
  have hk : ∀ p ∈ es, ∃ x : Int, p.1 = .int .i64 x := fun p hp' => by
    obtain ⟨v, hv⟩ := hko p hp'
    obtain ⟨x, _, hx, _⟩ := Maps.keyOf_i64 Try.underlying3 hv
    exact ⟨x, hx⟩
  constructor
  · show (es.map fun p => _root_.Go.intOf p.1).Nodup
    refine List.pairwise_map.2 (hp.imp_of_mem fun {p q} hp' hq' hne e => hne ?_)
    obtain ⟨a, ha⟩ := hk p hp'
    obtain ⟨b, hb⟩ := hk q hq'
    rw [ha, hb] at e ⊢
    exact congrArg _ e
  · intro x
    rw [has_eq, List.any_eq_true]
    show x ∈ es.map (fun p => _root_.Go.intOf p.1) ↔ _
    rw [List.mem_map]
    constructor
    · rintro ⟨p, hp', rfl⟩
      obtain ⟨a, ha⟩ := hk p hp'
      exact ⟨p, hp', by rw [ha]; simp [Lit.sameKey, _root_.Go.intOf]⟩
    · rintro ⟨p, hp', hs⟩
      obtain ⟨a, ha⟩ := hk p hp'
      rw [ha] at hs
      exact ⟨p, hp', by rw [ha]; simpa [Lit.sameKey, _root_.Go.intOf] using hs⟩

theorem rkeys_any (b : Nat) (w : World) : Calls Try.prog 54 #[.map (some b)] w fun e w' => e = .returned (.func (.func 61) #[] #[.pointer (some ⟨w.heap.size, 0, none⟩)]) ∧ w' = w.alloc (.cells #[.map (some b)] 74) :=
  callsIn_wide.1 (AnyZI.keys_in (ρ := seqRenR) laysKeysR Fence.wide 5 trivial rfl (some b) w)
/-- What slices.Sorted makes of it. -/
theorem rsorted_any {b n : Nat} {F : Int → Option Int} {w : World} (h : NMap w b n F) (hn : n ≤ 1000000) :
    Calls Try.prog 53 #[.func (.func 61) #[] #[.pointer (some ⟨w.heap.size, 0, none⟩)]] (w.alloc (.cells #[.map (some b)] 74)) fun e w' =>
      ∃ v ks, e = .returned v ∧ NRd w' w'.heap.size v ks ∧ ks.Pairwise (· < ·) ∧ (∀ x, x ∈ ks ↔ (F x).isSome = true) ∧ ks.length ≤ n ∧ Below w.heap.size w w' := by
  have hbl := h.lt
  obtain ⟨D, hown, hat⟩ := h
  have hsz := hown.size_le
  have hseq : SeqGives Fence.wide 2 Try.prog 61 #[.pointer (some ⟨w.heap.size, 0, none⟩)] encZ (fun ss => ss.Perm (intKeys D)) (Maps.size D) (w.alloc (.cells #[.map (some b)] 74)) :=
    AnyZI.keys_gives (ρ := seqRenR) { laysKeysR with } Fence.wide _ trivial rfl (by omega) w.heap.size b n D (R := nuR) _ (by simp) (by simp) (by
      obtain ⟨es, clock, hb, Ft, hs, hD⟩ := hown
      exact ⟨es, clock, (Below.heap_alloc _ _ b hbl).trans hb, Ft, hs, hD⟩)
  have cS := AnyZI.sorted_in (ρ := seqRenR) laysSortedR Fence.wide 5 trivial trivial trivial trivial rfl (by omega) (sortsR _) (enters_of Try.func60 (by kernel_rfl) rfl) 61 #[.pointer (some ⟨w.heap.size, 0, none⟩)] trivial (enters_of Try.func61 (by kernel_rfl) rfl) _ _ (by unfold maxLen; omega) (by omega) _ hseq
  refine (callsIn_wide.1 cS).mono ?_
  rintro e w' ⟨v, ss, rfl, hS, hrow, _, hb⟩
  obtain ⟨hnd, hmem⟩ := nkeys_of hown
  have hperm : (ss.mergeSort fun x y => decide (x ≤ y)).Perm (intKeys D) := (List.mergeSort_perm _ _).trans hS
  have hlen : (ss.mergeSort fun x y => decide (x ≤ y)).length = ss.length := List.length_mergeSort _
  have hrd : NRd w' w'.heap.size v (ss.mergeSort fun x y => decide (x ≤ y)) := by
    refine LRd.of_own (s := 1) (f := intCs) (base := (w.alloc (.cells #[.map (some b)] 74)).heap.size) (t := 3) (fun _ => rfl) ?_
    rw [hlen]
    have e : (ss.mergeSort fun x y => decide (x ≤ y)).flatMap intCs = (ss.mergeSort fun x y => decide (x ≤ y)).map encZ := by
      generalize (ss.mergeSort fun x y => decide (x ≤ y)) = l
      induction l with
      | nil => rfl
      | cons a l ih => rw [List.flatMap_cons, ih]; rfl
    rw [e]
    exact hrow
  refine ⟨v, _, rfl, hrd, ?_, fun x => ?_, ?_, ((Below.refl _ w).alloc (Nat.le_refl _) _).trans (hb.mono (by simp))⟩
  · have h1 := List.pairwise_mergeSort (le := fun x y : Int => decide (x ≤ y)) (fun a b c h1 h2 => by rw [decide_eq_true_iff] at *; omega) (fun a b => by rw [Bool.or_eq_true, decide_eq_true_iff, decide_eq_true_iff]; omega) ss
    have h2 : (ss.mergeSort fun x y => decide (x ≤ y)).Nodup := hperm.nodup_iff.2 hnd
    refine (h1.and h2).imp fun {a b} h => ?_
    have h3 := h.1
    rw [decide_eq_true_iff] at h3
    have h4 := h.2
    omega
  · rw [hperm.mem_iff, hmem x, (hat x).1]
  · rw [hperm.length_eq]
    have : (intKeys D).length = Maps.size D := by
      obtain ⟨es, rfl, _⟩ := hown.entries keyed_int
      show (es.map fun p => _root_.Go.intOf p.1).length = es.length
      rw [List.length_map]
    omega

theorem eq_of_incR : ∀ {a b : List Int}, a.Pairwise (· < ·) → b.Pairwise (· < ·) → (∀ x, x ∈ a ↔ x ∈ b) → a = b := by
  intro a b ha hb hm
  have h1 : a.Nodup := ha.imp fun h => by omega
  have h2 : b.Nodup := hb.imp fun h => by omega
  exact List.Perm.eq_of_pairwise (le := fun x y : Int => x < y) (fun x y _ _ h1 h2 => by omega) ha hb ((List.perm_ext_iff_of_nodup h1 h2).2 hm)
end Go.Proofs.Ythjmncngegchjaa

/-
  Contract of (*rows.record).values.
-/
namespace Go.Proofs.Ythjmncngegchjaa
open Go.RowKit Go.Maps
set_option maxRecDepth 20000

theorem vals_of {cs : List Cl} {ks : List Int} (hv : ∀ x, (pAt cs x).isSome = true → 0 ≤ x ∧ x ≤ 1000) (hp : ks.Pairwise (· < ·)) (hm : ∀ x, x ∈ ks ↔ (numF (pAt cs) x).isSome = true) : ks = valsQ cs := by
  unfold valsQ
  refine eq_of_incR hp ?_ fun x => ?_
  · refine List.Pairwise.filter _ (List.pairwise_map.2 ?_)
    exact List.pairwise_lt_range.imp fun h => by omega
  · rw [hm x, numF_some, List.mem_filter, List.mem_map]
    constructor
    · intro hx
      have := hv x hx
      exact ⟨⟨x.toNat, List.mem_range.2 (by omega), by omega⟩, hx⟩
    · exact fun hx => hx.2
theorem valsQ_len (cs : List Cl) : (valsQ cs).length ≤ 1001 := by
  unfold valsQ
  refine Nat.le_trans (List.length_filter_le _ _) ?_
  simp
set_option maxHeartbeats 4000000 in
theorem rvals_any {w : World} {B Q : Nat} {A : Option Addr} {cap n : Nat} {cs : List Cl} {M1 M2 : Nat} {F2 : Int → Option Int} (h : Rec w B Q 1000 A cap n cs M1 M2 (numF (pAt cs)) F2) (hv : ∀ x, (pAt cs x).isSome = true → 0 ≤ x ∧ x ≤ 1000) :
    Calls Try.prog 36 #[.pointer (some ⟨Q, 0, none⟩)] w fun e w' => ∃ v, e = .returned v ∧ NRd w' w'.heap.size v (valsQ cs) ∧ Below w.heap.size w w' := by
  have hr1 := Lies.cell h.rcd 1
  simp only [List.getElem?_toArray, List.getElem?_cons_zero, List.getElem?_cons_succ] at hr1
  obtain ⟨m, hm, hmp⟩ := h.enq
  have HK := Lib.hid (rkeys_any M1 w)
  have HS := Lib.hid (rsorted_any hmp (by omega))
  clear h hmp
  go_enter Try.func36, Try.ntmps36
  go_wp2_with fail
  refine HK.out.mono ?_
  rintro e w1 ⟨rfl, rfl⟩
  clear HK hr1
  go_wp2_with fail
  refine HS.out.mono ?_
  rintro e w2 ⟨v, ks, rfl, hks, hp, hin, hlen, hb2⟩
  have e := vals_of hv hp hin
  subst e
  obtain ⟨A, cap, rfl, -, -⟩ := hks.is
  have HZ := Lib.hid (And.intro hks hb2)
  clear hks hb2 HS hp hin hlen
  generalize (valsQ cs).length = len at HZ ⊢
  go_wp2_with fail
  go_ret
  exact ⟨_, rfl, HZ.out⟩
end Go.Proofs.Ythjmncngegchjaa

/-
  Contract of (*rows.record).unordered.
-/
namespace Go.Proofs.Ythjmncngegchjaa
open Go.RowKit Go.Maps
set_option maxRecDepth 20000

/-- What the loops of unordered keep. -/
structure OuR (w : World) (B Q : Nat) (A : Option Addr) (cap n : Nat) (cs : List Cl) (M1 M2 : Nat) (D : Nat) (V : Option Addr) (len capv : Nat) (W : World) : Prop where
  rec_ : OvS w B Q A cap n cs M1 M2 W
  keys : NRd W D (.slice V len capv) (valsQ cs)
  res : Lies W w.heap.size 28 #[.int .i64 0, .int .i64 0, .int .i64 0]
  sz : D ≤ W.heap.size
theorem OuR.next {w : World} {B Q : Nat} {A : Option Addr} {cap n : Nat} {cs : List Cl} {M1 M2 : Nat} {D : Nat} {V : Option Addr} {len capv : Nat} {W w' : World} (h : OuR w B Q A cap n cs M1 M2 D V len capv W) (hb : Below W.heap.size W w') : OuR w B Q A cap n cs M1 M2 D V len capv w' :=
  ⟨h.rec_.next hb, h.keys.below (hb.mono h.sz), Lies.below h.res hb h.res.lt, Nat.le_trans h.sz hb.size⟩
theorem drop_at {α : Type} {l : List α} {k : Nat} {x : α} (h : l[k]? = some x) : l.drop k = x :: l.drop (k + 1) := by
  obtain ⟨h2, h3⟩ := List.getElem?_eq_some_iff.1 h
  rw [List.drop_eq_getElem_cons h2, h3]
set_option maxHeartbeats 8000000 in
theorem runord_any {w : World} {B Q : Nat} {A : Option Addr} {cap n : Nat} {cs : List Cl} {M1 M2 : Nat} (h : Rec w B Q 1000 A cap n cs M1 M2 (numF (pAt cs)) (numF (tAt cs))) (hn : n = cs.length) (hv : ∀ x, (pAt cs x).isSome = true → 0 ≤ x ∧ x ≤ 1000) :
    Calls Try.prog 24 #[.pointer (some ⟨Q, 0, none⟩)] w fun e w' => e = .returned (bzV (ordQ cs (valsQ cs) (valsQ cs))) ∧ Below w.heap.size w w' := by
  obtain ⟨W, hW⟩ : ∃ W, W = w.alloc (.cells #[.int .i64 0, .int .i64 0, .int .i64 0] 28) := ⟨_, rfl⟩
  have hb : Below w.heap.size w W := by rw [hW]; exact (Below.refl _ _).alloc (Nat.le_refl _) _
  have hr : Lies W w.heap.size 28 #[.int .i64 0, .int .i64 0, .int .i64 0] := by rw [hW]; exact Lies.new _ _ _
  have HK := Lib.hid (rvals_any (h.next hb) hv)
  have H0 := Lib.hid (And.intro (show OvS w B Q A cap n cs M1 M2 W from ⟨h.next hb, hb⟩) hr)
  have HW := Lib.hid hW
  have HN := Lib.hid hn
  obtain ⟨R, hR⟩ : ∃ R, R = ordQ cs (valsQ cs) (valsQ cs) := ⟨_, rfl⟩
  rw [← hR]
  have HR := Lib.hid hR
  have HVL := Lib.hid (valsQ_len cs)
  clear h hn hv hb hr hW hR
  go_enter Try.func24, Try.ntmps24
  go_upto_region 1 with fail
  change Code.wp _ _ _ _ (w.alloc (.cells #[.int .i64 0, .int .i64 0, .int .i64 0] 28))
  rw [← HW.out]
  clear HW
  go_wp2_with fail
  refine HK.out.mono ?_
  rintro e w1 ⟨v, rfl, hks, hb1⟩
  obtain ⟨V, capv, rfl, -, hc9⟩ := hks.is
  unfold maxLen at hc9
  obtain ⟨len, hlen⟩ : ∃ len, len = (valsQ cs).length := ⟨_, rfl⟩
  rw [← hlen] at hks ⊢
  have hlen2 : len ≤ 1001 := by rw [hlen]; exact HVL.out
  have h0 : OuR w B Q A cap n cs M1 M2 w1.heap.size V len capv w1 := ⟨H0.out.1.next hb1, hks, Lies.below H0.out.2 hb1 H0.out.2.lt, Nat.le_refl _⟩
  have HL := Lib.hid hlen
  clear HK H0 hks hb1 hlen
  generalize w1.heap.size = D at h0
  go_wp2_with fail
  go_loopw [12] (fun i wr => ∃ k : Nat, k ≤ len ∧ i = .int .i64 k ∧ ordQ cs (valsQ cs) ((valsQ cs).drop k) = R ∧ OuR w B Q A cap n cs M1 M2 D V len capv wr) (fun i _ => len - (intOf i).toNat)
  case atStart => exact ⟨0, by omega, rfl, by rw [List.drop_zero, HR.out], h0⟩
  case round =>
    clear h0
    obtain ⟨k, hk, rfl, hq, hO⟩ := hrel
    by_cases hkn : k < len
    · obtain ⟨x, hx⟩ : ∃ x, (valsQ cs)[k]? = some x := ⟨_, List.getElem?_eq_getElem (by rw [← HL.out]; exact hkn)⟩
      rw [drop_at hx, ordQ] at hq
      obtain ⟨g, o, hA, -, d0⟩ := hO.keys.num hx
      subst hA
      have i1 : (0 : Int) ≤ (k : Int) := by omega
      have i2 : (k : Int) < (len : Int) := by omega
      have HO := Lib.hid (And.intro hO (And.intro hq (List.mem_of_getElem? hx)))
      clear hO hq hx
      go_wp2_with fail
      have h0 := HO.out.1
      have HQ := Lib.hid HO.out.2
      clear HO d0
      obtain ⟨W4, hW4⟩ : ∃ W4, W4 = wr := ⟨_, rfl⟩
      rw [← hW4] at h0 ⊢
      clear hW4
      go_loopw [18] (fun i wr => ∃ j : Nat, j ≤ len ∧ i = .int .i64 j ∧ ordRow cs x ((valsQ cs).drop j) = ordRow cs x (valsQ cs) ∧ OuR w B Q A cap n cs M1 M2 D (some ⟨g, o, none⟩) len capv wr) (fun i _ => len - (intOf i).toNat)
      case atStart => exact ⟨0, by omega, rfl, by rw [List.drop_zero], h0⟩
      case round =>
        clear h0
        obtain ⟨j, hj, rfl, hq, hO⟩ := hrel
        by_cases hjn : j < len
        · obtain ⟨y, hy⟩ : ∃ y, (valsQ cs)[j]? = some y := ⟨_, List.getElem?_eq_getElem (by rw [← HL.out]; exact hjn)⟩
          rw [drop_at hy, ordRow] at hq
          obtain ⟨g', o', hA, -, d0⟩ := hO.keys.num hy
          injection hA with hA
          injection hA with hA1 hA2
          subst hA1 hA2
          have j1 : (0 : Int) ≤ (j : Int) := by omega
          have j2 : (j : Int) < (len : Int) := by omega
          have HV := Lib.hid (rover_any hO.rec_.rec_ HN.out y x HQ.out.2 (List.mem_of_getElem? hy))
          obtain ⟨ov, hov⟩ : ∃ ov, ov = overB cs y x := ⟨_, rfl⟩
          rw [← hov] at HV hq
          have HO := Lib.hid (And.intro hO hq)
          clear hO hq hy hov
          go_wp2_with fail
          refine HV.out.mono ?_
          rintro e w3 ⟨rfl, hb3⟩
          have hO3 := HO.out.1.next hb3
          have hq := HO.out.2
          clear HV HO hb3 d0
          cases ov
          · rw [if_neg (by decide)] at hq
            have HZ := Lib.hid (And.intro hq hO3)
            clear hq hO3
            go_wp2_with fail
            go_roundw
            case rel => exact ⟨j + 1, by omega, by go_num, HZ.out⟩
            case measure => simp [intOf]; omega
          · rw [if_pos rfl] at hq
            have hR2 : R = ⟨6, x, y⟩ := by
              have := HQ.out.1
              rw [← hq, if_pos (show (6 : Int) ≠ 0 by decide)] at this
              exact this.symm
            have r0 := Lies.cell hO3.res 0
            have r1 := Lies.cell hO3.res 1
            have r2 := Lies.cell hO3.res 2
            have rf : ∀ i, w3.frozen? ⟨w.heap.size, i, none⟩ = false := fun i => Lies.frozen hO3.res i
            simp only [List.getElem?_toArray, List.getElem?_cons_zero, List.getElem?_cons_succ] at r0 r1 r2
            have HZ := Lib.hid (And.intro hR2 hO3)
            clear hq hO3 hR2
            go_wp2_with fail
            clear r0 r1 r2 rf
            have hl := fill3_lies (a := .int .i64 6) (b := .int .i64 x) (c := .int .i64 y) HZ.out.2.res
            have hb := fill3_below (a := .int .i64 6) (b := .int .i64 x) (c := .int .i64 y) HZ.out.2.rec_.below (g := w.heap.size) (Nat.le_refl _)
            change bodyPost _ _ _ _ _ (fill3 w3 w.heap.size (.int .i64 6) (.int .i64 x) (.int .i64 y))
            generalize fill3 w3 w.heap.size (.int .i64 6) (.int .i64 x) (.int .i64 y) = wz at hl hb ⊢
            have q0 := Lies.cell hl 0
            have q1 := Lies.cell hl 1
            have q2 := Lies.cell hl 2
            simp only [List.getElem?_toArray, List.getElem?_cons_zero, List.getElem?_cons_succ] at q0 q1 q2
            exact bodyPost_ret (v := bzV ⟨6, x, y⟩) (by simp [results, Try.results24, go_sem, q0, q1, q2]) rfl ⟨by rw [HZ.out.1], hb⟩
        · obtain rfl : len = j := by omega
          rw [List.drop_eq_nil_of_le (by rw [← HL.out]; exact Nat.le_refl _), ordRow] at hq
          have hq2 := HQ.out.1
          rw [← hq, if_neg (by decide)] at hq2
          have HZ := Lib.hid (And.intro hq2 hO)
          clear hq hq2 hO
          go_wp2_with fail
          go_roundw
          case rel => exact ⟨k + 1, by omega, by go_num, HZ.out⟩
          case measure => simp [intOf]; omega
    · obtain rfl : len = k := by omega
      rw [List.drop_eq_nil_of_le (by rw [← HL.out]; exact Nat.le_refl _), ordQ] at hq
      have r0 := Lies.cell hO.res 0
      have r1 := Lies.cell hO.res 1
      have r2 := Lies.cell hO.res 2
      have rf : ∀ i, wr.frozen? ⟨w.heap.size, i, none⟩ = false := fun i => Lies.frozen hO.res i
      simp only [List.getElem?_toArray, List.getElem?_cons_zero, List.getElem?_cons_succ] at r0 r1 r2
      have HZ := Lib.hid (And.intro hq hO)
      clear hO hq
      go_wp2_with fail
      clear r0 r1 r2 rf
      have hl := fill3_lies (a := .int .i64 0) (b := .int .i64 0) (c := .int .i64 0) HZ.out.2.res
      have hb := fill3_below (a := .int .i64 0) (b := .int .i64 0) (c := .int .i64 0) HZ.out.2.rec_.below (g := w.heap.size) (Nat.le_refl _)
      change bodyPost _ _ _ _ _ (fill3 wr w.heap.size (.int .i64 0) (.int .i64 0) (.int .i64 0))
      generalize fill3 wr w.heap.size (.int .i64 0) (.int .i64 0) (.int .i64 0) = wz at hl hb ⊢
      have q0 := Lies.cell hl 0
      have q1 := Lies.cell hl 1
      have q2 := Lies.cell hl 2
      simp only [List.getElem?_toArray, List.getElem?_cons_zero, List.getElem?_cons_succ] at q0 q1 q2
      exact bodyPost_ret (v := bzV ⟨0, 0, 0⟩) (by simp [results, Try.results24, go_sem, q0, q1, q2]) rfl ⟨by rw [← HZ.out.1] <;> rfl, hb⟩
end Go.Proofs.Ythjmncngegchjaa

/-
  Spans in memory, and append of one.
-/
namespace Go.Proofs.Ythjmncngegchjaa
open Go.RowKit
set_option maxRecDepth 20000

abbrev snCs (s : Int × Int) : List Value := [.int .i64 s.1, .int .i64 s.2]
abbrev SnRd (w : World) (B : Nat) (v : Value) (l : List (Int × Int)) : Prop := LRd 2 snCs w B v l
def SnOwn (w : World) (B : Nat) (v : Value) (l : List (Int × Int)) : Prop := w.ownsRow B 35 2 v l.length (l.flatMap snCs)
theorem SnOwn.rd {w : World} {B : Nat} {v : Value} {l : List (Int × Int)} (h : SnOwn w B v l) : SnRd w w.heap.size v l := LRd.of_own (fun _ => rfl) h
theorem SnOwn.nil (w : World) (B : Nat) : SnOwn w B (.slice none 0 0) [] := ⟨rfl, .inl ⟨rfl, rfl⟩⟩
theorem SnOwn.then_ {w w' : World} {B : Nat} {v : Value} {l : List (Int × Int)} (h : SnOwn w B v l) (hb : Below w.heap.size w w') : SnOwn w' B v l :=
  World.ownsRow.kept h (row := none) ⟨hb.os, hb.tape, hb.output, hb.size, fun i hi _ => hb.block i hi⟩ (by cases v.ownBlock <;> simp)
theorem sn_at {w : World} {B : Nat} {A : Option Addr} {n cap k : Nat} {l : List (Int × Int)} (h : SnRd w B (.slice A n cap) l) {x : Int × Int} (hk : l[k]? = some x) : ∃ g o, A = some ⟨g, o, none⟩ ∧ g < B ∧ w.cell? ⟨g, o + k * 2, none⟩ = some (.int .i64 x.1) ∧ w.cell? ⟨g, o + k * 2 + 1, none⟩ = some (.int .i64 x.2) := by
  obtain ⟨g, o, hA, hg, hc⟩ := LRd.at_ h hk
  exact ⟨g, o, hA, hg, hc 0 _ rfl, hc 1 _ rfl⟩
theorem info_sn : (Try.prog.info? 35).map (fun i => (i.zero, i.size, i.bytes)) = some (some (.agg #[.int .i64 0, .int .i64 0]), 2, 16) := by kernel_rfl
theorem run_app_sn {W : World} {base G : Nat} {v : Value} {l : List (Int × Int)} {y : (Int × Int)} (ty : TypeId) (hown : SnOwn W base v l) (hG : ∀ j u, (snCs y)[j]? = some u → W.cell? ⟨G, j, none⟩ = some u) (hlen : l.length ≤ 65536) (hbase : base ≤ W.heap.size) :
    ∃ v' w', (Builtin.append_ #[23, 23] ty #[v, .slice (some ⟨G, 0, none⟩) 1 1]).run Try.prog W = .ok v' w' ∧ SnOwn w' base v' (l ++ [y]) ∧ Below base W w' ∧ W.grownBy w' v.ownBlock := by
  obtain ⟨i0, hi, hz0, hz1, hz2⟩ := info_of info_sn
  have hl := World.ownsRow.lt hown
  obtain ⟨v', w', hr, h2, h3, _⟩ := run_append_own (P := Try.prog) W base 23 ty 35 i0 (.agg #[.int .i64 0, .int .i64 0]) 2 16 Try.underlying23 hi hz0 hz1 hz2 rfl (by decide) v l.length (l.flatMap snCs) hown
    ⟨G, 0, none⟩ 1 1 (snCs y) rfl (fun j u hu => by
      rw [Addr.add_lit, Nat.zero_add]
      exact hG j u hu) (fun u hu => by
      simp only [List.mem_cons, List.not_mem_nil, or_false] at hu
      rcases hu with rfl | rfl <;> rfl) (by unfold maxLen; omega) (by omega) hbase
  refine ⟨v', w', hr, ?_, (Below.refl base W).grown h3 hbase (fun k hk => (hl k hk).1), h3⟩
  unfold SnOwn
  rw [List.length_append, List.flatMap_append]
  simpa using h2

theorem own_slice_sn {w : World} {B : Nat} {v : Value} {l : List (Int × Int)} (h : SnOwn w B v l) : ∃ A c, v = .slice A l.length c := by
  obtain ⟨A, c, h, _⟩ := h.rd.is
  exact ⟨A, c, h⟩
theorem wp_app_sn {W : World} {o : Oper} {a : Act} {K : Act → World → Prop} {Q : Exit → Act → World → Prop} (s x : Operand)
    (ho : o.op = .call { callee := .builtin .append, args := #[s, x], argTypes := #[23, 23] })
    (base G : Nat) (v : Value) (l : List (Int × Int)) (y : (Int × Int)) (hs : a.eval s = v) (hx : a.eval x = .slice (some ⟨G, 0, none⟩) 1 1) (hown : SnOwn W base v l) (hG : ∀ j u, (snCs y)[j]? = some u → W.cell? ⟨G, j, none⟩ = some u) (hlen : l.length ≤ 65536) (hbase : base ≤ W.heap.size)
    (h : ∀ v' w', SnOwn w' base v' (l ++ [y]) → Below base W w' → W.grownBy w' v.ownBlock → K (a.put o.dst v') w') : Oper.wp Try.prog o a W K Q := by
  obtain ⟨v', w', hrun, r1, r2, r3⟩ := run_app_sn o.type hown hG hlen hbase
  unfold Oper.wp
  simp [execOp, ho, resolve, invoke, builtin, hs, hx, hrun, Result.andThen]
  exact h v' w' r1 r2 r3
theorem wpList_app_sn {W : World} {ops : Array Oper} {rest : List Oper} {o : Oper} {a : Act} {Q : Exit → Act → World → Prop} (hgd : o.guard = none) (s x : Operand)
    (ho : o.op = .call { callee := .builtin .append, args := #[s, x], argTypes := #[23, 23] })
    (base G : Nat) (v : Value) (l : List (Int × Int)) (y : (Int × Int)) (hs : a.eval s = v) (hx : a.eval x = .slice (some ⟨G, 0, none⟩) 1 1) (hown : SnOwn W base v l) (hG : ∀ j u, (snCs y)[j]? = some u → W.cell? ⟨G, j, none⟩ = some u) (hlen : l.length ≤ 65536) (hbase : base ≤ W.heap.size)
    (h : ∀ v' w', SnOwn w' base v' (l ++ [y]) → Below base W w' → W.grownBy w' v.ownBlock → wpList Try.prog ops Q rest (a.put o.dst v') w') : wpList Try.prog ops Q (o :: rest) a W :=
  wpList_plain hgd fun _ hK => wp_app_sn s x ho base G v l y hs hx hown hG hlen hbase fun v' w' h1 h2 h3 => hK _ _ (h v' w' h1 h2 h3)
end Go.Proofs.Ythjmncngegchjaa
