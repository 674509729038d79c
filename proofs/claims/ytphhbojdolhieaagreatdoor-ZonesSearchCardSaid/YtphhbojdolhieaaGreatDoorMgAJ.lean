/-
  Joined by a program out of: ZShelf, ZKeys, ZZones.
-/
import Derived.Test.YtphhbojdolhieaaGreatDoorProg
import Derived.Shelf.SlIterI.Sorted
import Derived.Shelf.SlIterI.Nil
import Derived.Shelf.SortM.Plain
import Derived.Shelf.SortM.SortNone
import Derived.Test.YtphhbojdolhieaaGreatDoorMgAD
import Derived.Test.YtphhbojdolhieaaGreatDoorMgAI

/-
  The library's contracts of maps.Keys, slices.Sorted and slices.Sort over int, laid at this program.
-/
namespace Go.Proofs.YtphhbojdolhieaaGreatDoor
open Go.RowKit Go.Shelf Go.Sort
set_option maxRecDepth 20000
def seqRen : Go.Shelf.Ren := ⟨fun | 6 => 23 | 7 => 24 | 8 => 34 | 9 => 35 | 10 => 36 | 11 => 47 | n => n,
  fun | 0 => 0 | 3 => 63 | 4 => 4 | 23 => 34 | 24 => 31 | 26 => 3 | 27 => 70 | 28 => 71 | 33 => 103 | n => n, fun n => n⟩
def srtRen : Go.Shelf.Ren := ⟨fun | 5 => 35 | 7 => 48 | 8 => 49 | 10 => 57 | 11 => 58 | 12 => 59 | 13 => 60 | 14 => 61 | 15 => 62 | 16 => 63 | 17 => 64 | 18 => 65 | 19 => 66 | 20 => 67 | 30 => 74 | 31 => 75 | 32 => 76 | 33 => 77 | 34 => 78 | 35 => 79 | 40 => 84 | n => n,
  fun | 0 => 0 | 3 => 3 | 4 => 4 | 5 => 5 | 9 => 9 | 22 => 31 | 23 => 31 | 25 => 3 | 32 => 119 | 35 => 135 | 36 => 136 | 41 => 140 | 44 => 143 | 46 => 123 | 53 => 164 | 57 => 168 | 63 => 175 | 64 => 176 | n => n, fun n => n⟩
theorem laysKeys : SlLaysZI.n7 Tryz.prog seqRen := {
  mixed := by kernel_rfl
  f7 := ⟨("maps.Keys[map[int]alibi/zones.operation,int,alibi/zones.operation]"), by decide, Tryz.func24.trans (congrArg some (by kernel_rfl))⟩
  f10 := ⟨("maps.Keys[map[int]alibi/zones.operation,int,alibi/zones.operation]$1"), by decide, Tryz.func36.trans (congrArg some (by kernel_rfl))⟩
  t0 := Tryz.underlying0
  a0 := Tryz.isAgg0
  z0 := Tryz.sizeOf0
  v0 := Tryz.zeroValue0
  t4 := Tryz.underlying4
  a4 := Tryz.isAgg4
  z4 := Tryz.sizeOf4
  v4 := Tryz.zeroValue4
  t23 := Tryz.underlying34
  a23 := Tryz.isAgg34
  z23 := Tryz.sizeOf34
  v23 := Tryz.zeroValue34
  t26 := Tryz.underlying3
  a26 := Tryz.isAgg3
  z26 := Tryz.sizeOf3
  v26 := Tryz.zeroValue3
  t27 := Tryz.underlying70
  a27 := Tryz.isAgg70
  z27 := Tryz.sizeOf70
  v27 := Tryz.zeroValue70
  t28 := Tryz.underlying71
  a28 := Tryz.isAgg71
  z28 := Tryz.sizeOf71
  v28 := Tryz.zeroValue71
  t33 := Tryz.underlying103
  a33 := Tryz.isAgg103
  z33 := Tryz.sizeOf103
  v33 := Tryz.zeroValue103
  }
theorem laysSorted : SlLaysZI.n6 Tryz.prog seqRen := {
  mixed := by kernel_rfl
  f6 := ⟨("slices.Sorted[int]"), by decide, Tryz.func23.trans (congrArg some (by kernel_rfl))⟩
  f8 := ⟨("slices.Collect[int]"), by decide, Tryz.func34.trans (congrArg some (by kernel_rfl))⟩
  f11 := ⟨("slices.AppendSeq[[]int,int]"), by decide, Tryz.func47.trans (congrArg some (by kernel_rfl))⟩
  t0 := Tryz.underlying0
  a0 := Tryz.isAgg0
  z0 := Tryz.sizeOf0
  v0 := Tryz.zeroValue0
  t24 := Tryz.underlying31
  a24 := Tryz.isAgg31
  z24 := Tryz.sizeOf31
  v24 := Tryz.zeroValue31
  t26 := Tryz.underlying3
  a26 := Tryz.isAgg3
  z26 := Tryz.sizeOf3
  v26 := Tryz.zeroValue3
  t28 := Tryz.underlying71
  a28 := Tryz.isAgg71
  z28 := Tryz.sizeOf71
  v28 := Tryz.zeroValue71
  i26 := by kernel_rfl
  }
theorem laysSort : SlLaysM.n5 Tryz.prog srtRen := {
  mixed := by kernel_rfl
  f5 := ⟨("slices.Sort[[]int,int]"), by decide, Tryz.func35.trans (congrArg some (by kernel_rfl))⟩
  f7 := ⟨("slices.pdqsortOrdered[int]"), by decide, Tryz.func48.trans (congrArg some (by kernel_rfl))⟩
  f8 := Tryz.func49.trans (congrArg some (by kernel_rfl))
  f10 := ⟨("slices.insertionSortOrdered[int]"), by decide, Tryz.func57.trans (congrArg some (by kernel_rfl))⟩
  f11 := ⟨("slices.heapSortOrdered[int]"), by decide, Tryz.func58.trans (congrArg some (by kernel_rfl))⟩
  f12 := ⟨("slices.breakPatternsOrdered[int]"), by decide, Tryz.func59.trans (congrArg some (by kernel_rfl))⟩
  f13 := ⟨("slices.choosePivotOrdered[int]"), by decide, Tryz.func60.trans (congrArg some (by kernel_rfl))⟩
  f14 := ⟨("slices.reverseRangeOrdered[int]"), by decide, Tryz.func61.trans (congrArg some (by kernel_rfl))⟩
  f15 := ⟨("slices.partialInsertionSortOrdered[int]"), by decide, Tryz.func62.trans (congrArg some (by kernel_rfl))⟩
  f16 := ⟨("cmp.Less[int]"), by decide, Tryz.func63.trans (congrArg some (by kernel_rfl))⟩
  f17 := ⟨("slices.partitionEqualOrdered[int]"), by decide, Tryz.func64.trans (congrArg some (by kernel_rfl))⟩
  f18 := ⟨("slices.partitionOrdered[int]"), by decide, Tryz.func65.trans (congrArg some (by kernel_rfl))⟩
  f19 := Tryz.func66.trans (congrArg some (by kernel_rfl))
  f20 := Tryz.func67.trans (congrArg some (by kernel_rfl))
  f30 := ⟨("slices.siftDownOrdered[int]"), by decide, Tryz.func74.trans (congrArg some (by kernel_rfl))⟩
  f31 := Tryz.func75.trans (congrArg some (by kernel_rfl))
  f32 := Tryz.func76.trans (congrArg some (by kernel_rfl))
  f33 := ⟨("slices.medianAdjacentOrdered[int]"), by decide, Tryz.func77.trans (congrArg some (by kernel_rfl))⟩
  f34 := ⟨("slices.medianOrdered[int]"), by decide, Tryz.func78.trans (congrArg some (by kernel_rfl))⟩
  f35 := ⟨("cmp.isNaN[int]"), by decide, Tryz.func79.trans (congrArg some (by kernel_rfl))⟩
  f40 := ⟨("slices.order2Ordered[int]"), by decide, Tryz.func84.trans (congrArg some (by kernel_rfl))⟩
  t0 := Tryz.underlying0
  a0 := Tryz.isAgg0
  z0 := Tryz.sizeOf0
  v0 := Tryz.zeroValue0
  t3 := Tryz.underlying3
  a3 := Tryz.isAgg3
  z3 := Tryz.sizeOf3
  v3 := Tryz.zeroValue3
  t4 := Tryz.underlying4
  a4 := Tryz.isAgg4
  z4 := Tryz.sizeOf4
  v4 := Tryz.zeroValue4
  t5 := Tryz.underlying5
  a5 := Tryz.isAgg5
  z5 := Tryz.sizeOf5
  v5 := Tryz.zeroValue5
  t9 := Tryz.underlying9
  a9 := Tryz.isAgg9
  z9 := Tryz.sizeOf9
  v9 := Tryz.zeroValue9
  t22 := Tryz.underlying31
  a22 := Tryz.isAgg31
  z22 := Tryz.sizeOf31
  v22 := Tryz.zeroValue31
  t23 := Tryz.underlying31
  a23 := Tryz.isAgg31
  z23 := Tryz.sizeOf31
  v23 := Tryz.zeroValue31
  t25 := Tryz.underlying3
  a25 := Tryz.isAgg3
  z25 := Tryz.sizeOf3
  v25 := Tryz.zeroValue3
  t32 := Tryz.underlying119
  a32 := Tryz.isAgg119
  z32 := Tryz.sizeOf119
  v32 := Tryz.zeroValue119
  t35 := Tryz.underlying135
  a35 := Tryz.isAgg135
  z35 := Tryz.sizeOf135
  v35 := Tryz.zeroValue135
  t36 := Tryz.underlying136
  a36 := Tryz.isAgg136
  z36 := Tryz.sizeOf136
  v36 := Tryz.zeroValue136
  t41 := Tryz.underlying140
  a41 := Tryz.isAgg140
  z41 := Tryz.sizeOf140
  v41 := Tryz.zeroValue140
  t44 := Tryz.underlying143
  a44 := Tryz.isAgg143
  z44 := Tryz.sizeOf143
  v44 := Tryz.zeroValue143
  t46 := Tryz.underlying123
  a46 := Tryz.isAgg123
  z46 := Tryz.sizeOf123
  v46 := Tryz.zeroValue123
  t53 := Tryz.underlying164
  a53 := Tryz.isAgg164
  z53 := Tryz.sizeOf164
  v53 := Tryz.zeroValue164
  t57 := Tryz.underlying168
  a57 := Tryz.isAgg168
  z57 := Tryz.sizeOf168
  v57 := Tryz.zeroValue168
  t63 := Tryz.underlying175
  a63 := Tryz.isAgg175
  z63 := Tryz.sizeOf175
  v63 := Tryz.zeroValue175
  t64 := Tryz.underlying176
  a64 := Tryz.isAgg176
  z64 := Tryz.sizeOf176
  v64 := Tryz.zeroValue176
  }
/-- slices.Sort's two contracts, at the fence that asks nothing. -/
theorem sortsZ (m : Nat) : AnyZI.SortsIn Tryz.prog seqRen Fence.wide m :=
  ⟨fun blk off cap ss W hH hblk hsz => callsIn_wide.2 (AnyM.slices_Sort_int laysSort blk off cap ss W hH hblk hsz),
   fun p cap W => callsIn_wide.2 (AnyM.slices_Sort_int_none laysSort p cap W)⟩
end Go.Proofs.YtphhbojdolhieaaGreatDoor

/-
  The keys of a map of writes, in increasing order: slices.Sorted(maps.Keys(m)).
-/
namespace Go.Proofs.YtphhbojdolhieaaGreatDoor
open Go.RowKit Go.Maps Go.Sort Go.Shelf
set_option maxRecDepth 20000
theorem keys_of {D : DataW Unit} {w : World} {b n : Nat} (h : w.ownsMap Tryz.prog 3 zoR b n D) : (intKeys D).Nodup ∧ ∀ x, x ∈ intKeys D ↔ has D (.int .i64 x) = true := by
  obtain ⟨es, rfl, hp, _⟩ := h.entries keyed_z
  obtain ⟨es', hD', hko⟩ := h.keysOf
  obtain rfl : es = es' := by simpa using hD'
  have hk : ∀ p ∈ es, ∃ x : Int, p.1 = .int .i64 x := fun p hp' => by
    obtain ⟨v, hv⟩ := hko p hp'
    obtain ⟨x, _, hx, _⟩ := Maps.keyOf_i64 Tryz.underlying3 hv
    exact ⟨x, hx⟩
  constructor
  · show (es.map fun p => _root_.Go.intOf p.1).Nodup
    refine List.pairwise_map.2 (hp.imp_of_mem fun {p q} hp' hq' hne e => hne ?_)
    obtain ⟨a, ha⟩ := hk p hp'
    obtain ⟨b, hb⟩ := hk q hq'
    rw [ha, hb] at e ⊢
    exact congrArg _ e
  · intro x
    rw [has_eq, List.any_eq_true]
    show x ∈ es.map (fun p => _root_.Go.intOf p.1) ↔ _
    rw [List.mem_map]
    constructor
    · rintro ⟨p, hp', rfl⟩
      obtain ⟨a, ha⟩ := hk p hp'
      exact ⟨p, hp', by rw [ha]; simp [Lit.sameKey, _root_.Go.intOf]⟩
    · rintro ⟨p, hp', hs⟩
      obtain ⟨a, ha⟩ := hk p hp'
      rw [ha] at hs
      exact ⟨p, hp', by rw [ha]; simpa [Lit.sameKey, _root_.Go.intOf] using hs⟩
theorem zkeys_any (b : Nat) (w : World) : Calls Tryz.prog 24 #[.map (some b)] w fun e w' => e = .returned (.func (.func 36) #[] #[.pointer (some ⟨w.heap.size, 0, none⟩)]) ∧ w' = w.alloc (.cells #[.map (some b)] 34) :=
  callsIn_wide.1 (AnyZI.keys_in (ρ := seqRen) laysKeys Fence.wide 5 trivial rfl (some b) w)
/-- What slices.Sorted makes of it. -/
theorem zsorted_any {b n : Nat} {F : Int → Option Zop} {w : World} (h : ZMap w b n F) (hn : n ≤ 1000000) :
    Calls Tryz.prog 23 #[.func (.func 36) #[] #[.pointer (some ⟨w.heap.size, 0, none⟩)]] (w.alloc (.cells #[.map (some b)] 34)) fun e w' =>
      ∃ v ks, e = .returned v ∧ NRd w' w'.heap.size v ks ∧ ks.Pairwise (· < ·) ∧ (∀ x, x ∈ ks ↔ (F x).isSome = true) ∧ ks.length ≤ n ∧ Below w.heap.size w w' := by
  have hbl := h.lt
  obtain ⟨D, hown, hat⟩ := h
  have hsz := hown.size_le
  have hseq : SeqGives Fence.wide 2 Tryz.prog 36 #[.pointer (some ⟨w.heap.size, 0, none⟩)] encZ (fun ss => ss.Perm (intKeys D)) (Maps.size D) (w.alloc (.cells #[.map (some b)] 34)) :=
    AnyZI.keys_gives (ρ := seqRen) { laysKeys with } Fence.wide _ trivial rfl (by omega) w.heap.size b n D (R := zoR) _ (by simp) (by simp) (by
      obtain ⟨es, clock, hb, Ft, hs, hD⟩ := hown
      exact ⟨es, clock, (Below.heap_alloc _ _ b hbl).trans hb, Ft, hs, hD⟩)
  have cS := AnyZI.sorted_in (ρ := seqRen) laysSorted Fence.wide 5 trivial trivial trivial trivial rfl (by omega) (sortsZ _) (enters_of Tryz.func35 (by kernel_rfl) rfl) 36 #[.pointer (some ⟨w.heap.size, 0, none⟩)] trivial (enters_of Tryz.func36 (by kernel_rfl) rfl) _ _ (by unfold maxLen; omega) (by omega) _ hseq
  refine (callsIn_wide.1 cS).mono ?_
  rintro e w' ⟨v, ss, rfl, hS, hrow, _, hb⟩
  obtain ⟨hnd, hmem⟩ := keys_of hown
  have hperm : (ss.mergeSort fun x y => decide (x ≤ y)).Perm (intKeys D) := (List.mergeSort_perm _ _).trans hS
  have hlen : (ss.mergeSort fun x y => decide (x ≤ y)).length = ss.length := List.length_mergeSort _
  have hrd : NRd w' w'.heap.size v (ss.mergeSort fun x y => decide (x ≤ y)) := by
    refine LRd.of_own (s := 1) (f := intCs) (base := (w.alloc (.cells #[.map (some b)] 34)).heap.size) (t := 3) (fun _ => rfl) ?_
    rw [hlen]
    have e : (ss.mergeSort fun x y => decide (x ≤ y)).flatMap intCs = (ss.mergeSort fun x y => decide (x ≤ y)).map encZ := by
      generalize (ss.mergeSort fun x y => decide (x ≤ y)) = l
      induction l with
      | nil => rfl
      | cons a l ih => rw [List.flatMap_cons, ih]; rfl
    rw [e]
    exact hrow
  refine ⟨v, _, rfl, hrd, ?_, fun x => ?_, ?_, ((Below.refl _ w).alloc (Nat.le_refl _) _).trans (hb.mono (by simp))⟩
  · have h1 := List.pairwise_mergeSort (le := fun x y : Int => decide (x ≤ y)) (fun a b c h1 h2 => by rw [decide_eq_true_iff] at *; omega) (fun a b => by rw [Bool.or_eq_true, decide_eq_true_iff, decide_eq_true_iff]; omega) ss
    have h2 : (ss.mergeSort fun x y => decide (x ≤ y)).Nodup := hperm.nodup_iff.2 hnd
    refine (h1.and h2).imp fun {a b} h => ?_
    have h3 := h.1
    rw [decide_eq_true_iff] at h3
    have h4 := h.2
    omega
  · rw [hperm.mem_iff, hmem x, (hat x).1]
  · rw [hperm.length_eq]
    have : (intKeys D).length = Maps.size D := by
      obtain ⟨es, rfl, _⟩ := hown.entries keyed_z
      show (es.map fun p => _root_.Go.intOf p.1).length = es.length
      rw [List.length_map]
    omega
theorem eq_of_inc : ∀ {a b : List Int}, a.Pairwise (· < ·) → b.Pairwise (· < ·) → (∀ x, x ∈ a ↔ x ∈ b) → a = b := by
  intro a b ha hb hm
  have h1 : a.Nodup := ha.imp fun h => by omega
  have h2 : b.Nodup := hb.imp fun h => by omega
  exact List.Perm.eq_of_pairwise (le := fun x y : Int => x < y) (fun x y _ _ h1 h2 => by omega) ha hb ((List.perm_ext_iff_of_nodup h1 h2).2 hm)
theorem RegH.zones_keys {n : Nat} {cs : List Cl} (h : RegH n cs) {ks : List Int} (hp : ks.Pairwise (· < ·)) (hm : ∀ x, x ∈ ks ↔ (wOf cs x).isSome = true) : ks.filterMap (Go.Proofs.YtphhbojdolhieaaGreatDoor.zoneV cs) = zonesL cs := by
  have hr : ∀ x, (wOf cs x).isSome = true → 0 ≤ x ∧ x ≤ 1000 := by
    intro x hx
    obtain ⟨w, hw⟩ := Option.isSome_iff_exists.1 hx
    rcases h.wOf_some.1 hw with ⟨h1, _⟩ | ⟨_, i, c, h2, h3, _⟩
    · omega
    · have := isW_iff.1 h3
      rcases h.kind (List.mem_of_getElem? h2) with h4 | h4 <;> omega
  have e : ks = ((List.range 1001).map fun (k : Nat) => (k : Int)).filter fun x => (wOf cs x).isSome := by
    refine eq_of_inc hp ?_ fun x => ?_
    · refine List.Pairwise.filter _ (List.pairwise_map.2 ?_)
      exact List.pairwise_lt_range.imp fun h => by omega
    · rw [hm x, List.mem_filter, List.mem_map]
      constructor
      · intro hx
        have := hr x hx
        exact ⟨⟨x.toNat, List.mem_range.2 (by omega), by omega⟩, hx⟩
      · exact fun hx => hx.2
  rw [e]
  unfold zonesL
  generalize List.range 1001 = l
  induction l with
  | nil => rfl
  | cons a l ih =>
    rw [List.map_cons, List.filter_cons]
    by_cases ha : (wOf cs (a : Int)).isSome = true
    · rw [if_pos ha, List.filterMap_cons, List.filterMap_cons, ih]
    · rw [if_neg ha, ih, List.filterMap_cons]
      have : Go.Proofs.YtphhbojdolhieaaGreatDoor.zoneV cs (a : Int) = none := by
        unfold Go.Proofs.YtphhbojdolhieaaGreatDoor.zoneV
        rw [Option.not_isSome_iff_eq_none] at ha
        rw [ha]
      rw [this]
end Go.Proofs.YtphhbojdolhieaaGreatDoor

/-
  Contract of (*zones.record).zones.
-/
namespace Go.Proofs.YtphhbojdolhieaaGreatDoor
open Go.RowKit
set_option maxRecDepth 20000
theorem ZnOwn.then_ {w w' : World} {B : Nat} {v : Value} {l : List Zn} (h : ZnOwn w B v l) (hb : Below w.heap.size w w') : ZnOwn w' B v l :=
  World.ownsRow.kept h (row := none) ⟨hb.os, hb.tape, hb.output, hb.size, fun i hi _ => hb.block i hi⟩ (by cases v.ownBlock <;> simp)
/-- What the loop of zones keeps. -/
structure ZsR (w : World) (G b m : Nat) (Fn : Int → Option Zop) (rv : Value) (R : List Zop) (B : Nat) (A : Option Addr) (cap n : Nat) (ks : List Int) (v : Value) (acc : List Zn) (wr : World) : Prop where
  below : Below w.heap.size w wr
  row : ZoRd wr w.heap.size rv R
  rec_ : Lies wr G 37 #[.map (some b), rv]
  map_ : ZMap wr b m Fn
  keys : NRd wr B (.slice A n cap) ks
  own : ZnOwn wr B v acc
  sz : B ≤ wr.heap.size
  lt : w.heap.size ≤ B ∧ G < w.heap.size ∧ b < w.heap.size
section
variable {w : World} {G b m : Nat} {Fn : Int → Option Zop} {rv : Value} {R : List Zop} {B : Nat} {A : Option Addr} {cap n : Nat} {ks : List Int} {v v' : Value} {acc acc' : List Zn} {wr w' : World}
theorem ZsR.next (h : ZsR w G b m Fn rv R B A cap n ks v acc wr) (hb : Below wr.heap.size wr w') : ZsR w G b m Fn rv R B A cap n ks v acc w' := by
  have h1 := h.sz; have h2 := h.lt
  exact ⟨h.below.trans (hb.mono h.below.size), h.row.below (hb.mono h.below.size), Lies.below h.rec_ hb h.rec_.lt, h.map_.below hb h.map_.lt, h.keys.below (hb.mono h1), h.own.then_ hb, Nat.le_trans h1 hb.size, h2⟩
theorem ZsR.app (h : ZsR w G b m Fn rv R B A cap n ks v acc wr) (hb : Below B wr w') (ho : ZnOwn w' B v' acc') : ZsR w G b m Fn rv R B A cap n ks v' acc' w' := by
  have h1 := h.sz; have h2 := h.lt
  exact ⟨h.below.trans (hb.mono h2.1), h.row.below (hb.mono h2.1), Lies.below h.rec_ hb (by omega), h.map_.below hb (by omega), h.keys.below hb, ho, Nat.le_trans h1 hb.size, h2⟩
end
/-- The zones of these keys. -/
def zonesF (cs : List Cl) (ks : List Int) : List Zn := ks.filterMap (zoneV cs)
theorem zonesF_cons (cs : List Cl) (k : Int) (ks : List Int) {w : Zop} (hw : wOf cs k = some w) : zonesF cs (k :: ks) = if countsZ w (rds 0 cs) = true then zoneOf w (rds 0 cs) :: zonesF cs ks else zonesF cs ks := by
  have e : zoneV cs k = if countsZ w (rds 0 cs) = true then some (zoneOf w (rds 0 cs)) else none := by
    unfold zoneV
    rw [hw]
  unfold zonesF
  rw [List.filterMap_cons, e]
  split
  · rename_i h; split at h
    · cases h
    · rename_i h2; rw [if_neg h2]
  · rename_i z h; split at h
    · rename_i h2; injection h with h; rw [if_pos h2, h]
    · cases h
set_option maxHeartbeats 8000000 in
theorem zzones_any {G b m : Nat} {cs : List Cl} {rv : Value} {w : World} (hr : Lies w G 37 #[.map (some b), rv]) (hmp : ZMap w b m (wOf cs)) (h : ZoRd w w.heap.size rv (rds 0 cs)) (hm : (rds 0 cs).length ≤ 2000) (hmm : m ≤ 2000) (hv : ∀ x, (wOf cs x).isSome = true → 0 ≤ x ∧ x ≤ 1000) :
    Calls Tryz.prog 8 #[.pointer (some ⟨G, 0, none⟩)] w fun e w' => ∃ v ks, e = .returned v ∧ ks.Pairwise (· < ·) ∧ (∀ x, x ∈ ks ↔ (wOf cs x).isSome = true) ∧ ks.length ≤ 2000 ∧ ZnRd w' w'.heap.size v (zonesF cs ks) ∧ Below w.heap.size w w' := by
  have hr0 := Lies.cell hr 0
  simp only [List.getElem?_toArray, List.getElem?_cons_zero] at hr0
  have HK := Lib.hid (zkeys_any b w)
  have HS := Lib.hid (zsorted_any hmp (by omega))
  have H0 := Lib.hid (And.intro hr (And.intro hmp h))
  have HM := Lib.hid (And.intro hm (And.intro hmm hv))
  clear hr hmp h hm hmm hv
  go_enter Tryz.func8, Tryz.ntmps8
  go_wp2_with fail
  refine HK.out.mono ?_
  rintro e w1 ⟨rfl, rfl⟩
  clear HK hr0
  go_wp2_with fail
  refine HS.out.mono ?_
  rintro e w2 ⟨v, ks, rfl, hks, hp, hin, hlen, hb2⟩
  obtain ⟨A, cap, rfl, m1, m2⟩ := hks.is
  unfold maxLen at m2
  obtain ⟨n, hn⟩ : ∃ n, n = ks.length := ⟨_, rfl⟩
  rw [← hn] at hks hlen m1 ⊢
  have hn2 : n ≤ 2000 := Nat.le_trans hlen HM.out.2.1
  have h0 : ZsR w G b m (wOf cs) rv (rds 0 cs) w2.heap.size A cap n ks (.slice none 0 0) [] w2 :=
    ⟨hb2, H0.out.2.2.below hb2, Lies.below H0.out.1 hb2 H0.out.1.lt, H0.out.2.1.below hb2 H0.out.2.1.lt, hks, ZnOwn.nil _ _, Nat.le_refl _, hb2.size, H0.out.1.lt, H0.out.2.1.lt⟩
  have HKS := Lib.hid (And.intro hp (And.intro hin hn))
  clear HS H0 hks hp hin hb2 hn hlen
  go_wp2_with fail
  generalize w2.heap.size = B at h0
  go_loopw [3, 15] (fun v i wr => ∃ (k : Nat) (acc : List Zn), k ≤ n ∧ i = .int .i64 k ∧ acc.length ≤ k ∧ acc ++ zonesF cs (ks.drop k) = zonesF cs ks ∧ ZsR w G b m (wOf cs) rv (rds 0 cs) B A cap n ks v acc wr) (fun _ i _ => n - (intOf i).toNat)
  case atStart => exact ⟨0, [], by omega, rfl, by simp, by rw [List.drop_zero, List.nil_append], h0⟩
  case round =>
    clear h0
    obtain ⟨k, acc, hk, rfl, hal, hac, hO⟩ := hrel
    by_cases hkn : k < n
    · obtain ⟨x, hx⟩ : ∃ x, ks[k]? = some x := ⟨_, List.getElem?_eq_getElem (by rw [← HKS.out.2.2]; exact hkn)⟩
      have hdrop : ks.drop k = x :: ks.drop (k + 1) := by
        obtain ⟨h2, h3⟩ := List.getElem?_eq_some_iff.1 hx
        rw [List.drop_eq_getElem_cons h2, h3]
      have hso := (HKS.out.2.1 x).1 (List.mem_of_getElem? hx)
      have hxr := HM.out.2.2 x hso
      obtain ⟨Z, hZ⟩ := Option.isSome_iff_exists.1 hso
      rw [hdrop, zonesF_cons cs x _ hZ] at hac
      obtain ⟨g, o, rfl, -, d0⟩ := hO.keys.num hx
      have hlk := (hO.map_.val x (by omega) (by omega)).2
      rw [hZ, Option.getD_some] at hlk
      have r0 := Lies.cell hO.rec_ 0
      simp only [List.getElem?_toArray, List.getElem?_cons_zero] at r0
      have i1 : (0 : Int) ≤ (k : Int) := by omega
      have i2 : (k : Int) < (n : Int) := by omega
      have HZ := Lib.hid (zzone_any (x := Z) hO.rec_ (hO.row.mono hO.below.size) HM.out.1)
      have HO := Lib.hid (And.intro hO (And.intro hac hal))
      clear hO hac hdrop hso hxr hZ hx hal
      go_wp2_with fail
      refine HZ.out.mono ?_
      rintro e w3 ⟨rfl, hb3⟩
      have hO3 := HO.out.1.next hb3
      have hac := HO.out.2.1
      have hal := HO.out.2.2
      clear HZ HO hb3 d0 hlk r0
      obtain ⟨zo, hzo⟩ : ∃ zo, zo = zoneOf Z (rds 0 cs) := ⟨_, rfl⟩
      obtain ⟨ct, hct⟩ : ∃ ct, ct = countsZ Z (rds 0 cs) := ⟨_, rfl⟩
      rw [← hzo, ← hct] at hac ⊢
      obtain ⟨q0, q1, q2, q3⟩ := zo
      have hal3 : Below w3.heap.size w3 (w3.alloc (.cells #[.int .i64 q0, .int .i64 q1, .int .i64 q2, .bool q3] 58)) := (Below.refl _ _).alloc (Nat.le_refl _) _
      have HO := Lib.hid (And.intro (hO3.next hal3) (And.intro (Lies.new w3 58 #[.int .i64 q0, .int .i64 q1, .int .i64 q2, .bool q3]) (And.intro hac hal)))
      clear hO3 hal3 hac hzo hct hal
      go_upto_region 6 with fail
      change Code.wp _ _ _ _ (w3.alloc (.cells #[.int .i64 q0, .int .i64 q1, .int .i64 q2, .bool q3] 58))
      generalize w3.alloc (.cells #[.int .i64 q0, .int .i64 q1, .int .i64 q2, .bool q3] 58) = W3 at HO ⊢
      generalize w3.heap.size = X at HO ⊢
      have e0 := Lies.cell HO.out.2.1 0
      have e1 := Lies.cell HO.out.2.1 1
      have e2 := Lies.cell HO.out.2.1 2
      have e3 := Lies.cell HO.out.2.1 3
      simp only [List.getElem?_toArray, List.getElem?_cons_zero, List.getElem?_cons_succ] at e0 e1 e2 e3
      cases ct
      · have hac := HO.out.2.2.1
        rw [if_neg (by decide)] at hac
        have HZ := Lib.hid hac
        clear hac e0 e1 e2 e3
        go_wp2_with fail
        go_roundw
        case rel => exact ⟨k + 1, acc, by omega, by go_num, by have := HO.out.2.2.2; omega, HZ.out, HO.out.1⟩
        case measure => simp [intOf]; omega
      · have hac := HO.out.2.2.1
        rw [if_pos rfl] at hac
        have HZ := Lib.hid hac
        clear hac
        have hO4 := HO.out.1.next ((Below.refl _ _).alloc (Nat.le_refl _) (.cells #[.int .i64 q0, .int .i64 q1, .int .i64 q2, .bool q3] 58))
        have hown := hO4.own
        have hsz := hO4.sz
        have hnew := new_cells W3 58 (znCs ⟨q0, q1, q2, q3⟩)
        obtain ⟨Av, cv, hvv⟩ := own_slice_zn hO4.own
        have hal := HO.out.2.2.2
        rw [hvv] at hown ⊢
        have HO4 := Lib.hid hO4
        clear hO4
        go_wp2_with (at_builtin; refine wpList_app_zn rfl (.tmp 31) (.tmp 33) rfl B W3.heap.size _ acc ⟨q0, q1, q2, q3⟩ rfl rfl hown hnew (by omega) hsz ?_; intro v' w5 ho5 hb5 _)
        go_roundw
        case rel => exact ⟨k + 1, acc ++ [⟨q0, q1, q2, q3⟩], by omega, by go_num, by rw [List.length_append]; simp; omega, by rw [List.append_assoc]; exact HZ.out, HO4.out.app hb5 ho5⟩
        case measure => simp [intOf]; omega
    · obtain rfl : n = k := by omega
      have hnil : ks.drop n = [] := List.drop_eq_nil_of_le (by rw [← HKS.out.2.2]; exact Nat.le_refl _)
      rw [hnil, show zonesF cs [] = [] from rfl, List.append_nil] at hac
      have HO := Lib.hid (And.intro hO hac)
      clear hO hac hnil
      go_wp2_with fail
      go_ret
      refine ⟨_, ks, rfl, HKS.out.1, HKS.out.2.1, by rw [← HKS.out.2.2]; exact hn2, ?_, HO.out.1.below⟩
      rw [← HO.out.2]
      exact HO.out.1.own.rd
end Go.Proofs.YtphhbojdolhieaaGreatDoor
