/-
  The keys of a map of writes, in increasing order: slices.Sorted(maps.Keys(m)).
-/
import Derived.Test.YtphhbojdolhieaaZMem
import Derived.Test.YtphhbojdolhieaaZShelf
namespace Go.Proofs.Ytphhbojdolhieaa
open Go.RowKit Go.Maps Go.Sort Go.Shelf
set_option maxRecDepth 20000

theorem keys_of {D : DataW Unit} {w : World} {b n : Nat} (h : w.ownsMap Try.prog 3 zoR b n D) : (intKeys D).Nodup ∧ ∀ x, x ∈ intKeys D ↔ has D (.int .i64 x) = true := by
  obtain ⟨es, rfl, hp, _⟩ := h.entries keyed_z
  obtain ⟨es', hD', hko⟩ := h.keysOf
  obtain rfl : es = es' := by simpa using hD'
  have hk : ∀ p ∈ es, ∃ x : Int, p.1 = .int .i64 x := fun p hp' => by
    obtain ⟨v, hv⟩ := hko p hp'
    obtain ⟨x, _, hx, _⟩ := Maps.keyOf_i64 Try.underlying3 hv
    exact ⟨x, hx⟩
  constructor
  · show (es.map fun p => _root_.Go.intOf p.1).Nodup
    refine List.pairwise_map.2 (hp.imp_of_mem fun {p q} hp' hq' hne e => hne ?_)
    obtain ⟨a, ha⟩ := hk p hp'
    obtain ⟨b, hb⟩ := hk q hq'
    rw [ha, hb] at e ⊢
    exact congrArg _ e
  · intro x
    rw [has_eq, List.any_eq_true]
    show x ∈ es.map (fun p => _root_.Go.intOf p.1) ↔ _
    rw [List.mem_map]
    constructor
    · rintro ⟨p, hp', rfl⟩
      obtain ⟨a, ha⟩ := hk p hp'
      exact ⟨p, hp', by rw [ha]; simp [Lit.sameKey, _root_.Go.intOf]⟩
    · rintro ⟨p, hp', hs⟩
      obtain ⟨a, ha⟩ := hk p hp'
      rw [ha] at hs
      exact ⟨p, hp', by rw [ha]; simpa [Lit.sameKey, _root_.Go.intOf] using hs⟩

theorem zkeys_any (b : Nat) (w : World) : Calls Try.prog 39 #[.map (some b)] w fun e w' => e = .returned (.func (.func 52) #[] #[.pointer (some ⟨w.heap.size, 0, none⟩)]) ∧ w' = w.alloc (.cells #[.map (some b)] 56) :=
  callsIn_wide.1 (AnyZI.keys_in (ρ := seqRen) laysKeys Fence.wide 5 trivial rfl (some b) w)
/-- What slices.Sorted makes of it. -/
theorem zsorted_any {b n : Nat} {F : Int → Option Zop} {w : World} (h : ZMap w b n F) (hn : n ≤ 1000000) :
    Calls Try.prog 38 #[.func (.func 52) #[] #[.pointer (some ⟨w.heap.size, 0, none⟩)]] (w.alloc (.cells #[.map (some b)] 56)) fun e w' =>
      ∃ v ks, e = .returned v ∧ NRd w' w'.heap.size v ks ∧ ks.Pairwise (· < ·) ∧ (∀ x, x ∈ ks ↔ (F x).isSome = true) ∧ ks.length ≤ n ∧ Below w.heap.size w w' := by
  have hbl := h.lt
  obtain ⟨D, hown, hat⟩ := h
  have hsz := hown.size_le
  have hseq : SeqGives Fence.wide 2 Try.prog 52 #[.pointer (some ⟨w.heap.size, 0, none⟩)] encZ (fun ss => ss.Perm (intKeys D)) (Maps.size D) (w.alloc (.cells #[.map (some b)] 56)) :=
    AnyZI.keys_gives (ρ := seqRen) { laysKeys with } Fence.wide _ trivial rfl (by omega) w.heap.size b n D (R := zoR) _ (by simp) (by simp) (by
      obtain ⟨es, clock, hb, Ft, hs, hD⟩ := hown
      exact ⟨es, clock, (Below.heap_alloc _ _ b hbl).trans hb, Ft, hs, hD⟩)
  have cS := AnyZI.sorted_in (ρ := seqRen) laysSorted Fence.wide 5 trivial trivial trivial trivial rfl (by omega) (sortsZ _) (enters_of Try.func51 (by kernel_rfl) rfl) 52 #[.pointer (some ⟨w.heap.size, 0, none⟩)] trivial (enters_of Try.func52 (by kernel_rfl) rfl) _ _ (by unfold maxLen; omega) (by omega) _ hseq
  refine (callsIn_wide.1 cS).mono ?_
  rintro e w' ⟨v, ss, rfl, hS, hrow, _, hb⟩
  obtain ⟨hnd, hmem⟩ := keys_of hown
  have hperm : (ss.mergeSort fun x y => decide (x ≤ y)).Perm (intKeys D) := (List.mergeSort_perm _ _).trans hS
  have hlen : (ss.mergeSort fun x y => decide (x ≤ y)).length = ss.length := List.length_mergeSort _
  have hrd : NRd w' w'.heap.size v (ss.mergeSort fun x y => decide (x ≤ y)) := by
    refine LRd.of_own (s := 1) (f := intCs) (base := (w.alloc (.cells #[.map (some b)] 56)).heap.size) (t := 3) (fun _ => rfl) ?_
    rw [hlen]
    have e : (ss.mergeSort fun x y => decide (x ≤ y)).flatMap intCs = (ss.mergeSort fun x y => decide (x ≤ y)).map encZ := by
      generalize (ss.mergeSort fun x y => decide (x ≤ y)) = l
      induction l with
      | nil => rfl
      | cons a l ih => rw [List.flatMap_cons, ih]; rfl
    rw [e]
    exact hrow
  refine ⟨v, _, rfl, hrd, ?_, fun x => ?_, ?_, ((Below.refl _ w).alloc (Nat.le_refl _) _).trans (hb.mono (by simp))⟩
  · have h1 := List.pairwise_mergeSort (le := fun x y : Int => decide (x ≤ y)) (fun a b c h1 h2 => by rw [decide_eq_true_iff] at *; omega) (fun a b => by rw [Bool.or_eq_true, decide_eq_true_iff, decide_eq_true_iff]; omega) ss
    have h2 : (ss.mergeSort fun x y => decide (x ≤ y)).Nodup := hperm.nodup_iff.2 hnd
    refine (h1.and h2).imp fun {a b} h => ?_
    have h3 := h.1
    rw [decide_eq_true_iff] at h3
    have h4 := h.2
    omega
  · rw [hperm.mem_iff, hmem x, (hat x).1]
  · rw [hperm.length_eq]
    have : (intKeys D).length = Maps.size D := by
      obtain ⟨es, rfl, _⟩ := hown.entries keyed_z
      show (es.map fun p => _root_.Go.intOf p.1).length = es.length
      rw [List.length_map]
    omega

/-! ### The zones by their keys -/
theorem eq_of_inc : ∀ {a b : List Int}, a.Pairwise (· < ·) → b.Pairwise (· < ·) → (∀ x, x ∈ a ↔ x ∈ b) → a = b := by
  intro a b ha hb hm
  have h1 : a.Nodup := ha.imp fun h => by omega
  have h2 : b.Nodup := hb.imp fun h => by omega
  exact List.Perm.eq_of_pairwise (le := fun x y : Int => x < y) (fun x y _ _ h1 h2 => by omega) ha hb ((List.perm_ext_iff_of_nodup h1 h2).2 hm)
theorem RegH.zones_keys {n : Nat} {cs : List Cl} (h : RegH n cs) {ks : List Int} (hp : ks.Pairwise (· < ·)) (hm : ∀ x, x ∈ ks ↔ (wOf cs x).isSome = true) : ks.filterMap (Go.Proofs.Ytphhbojdolhieaa.zoneV cs) = zonesL cs := by
  have hr : ∀ x, (wOf cs x).isSome = true → 0 ≤ x ∧ x ≤ 1000 := by
    intro x hx
    obtain ⟨w, hw⟩ := Option.isSome_iff_exists.1 hx
    rcases h.wOf_some.1 hw with ⟨h1, _⟩ | ⟨_, i, c, h2, h3, _⟩
    · omega
    · have := isW_iff.1 h3
      rcases h.kind (List.mem_of_getElem? h2) with h4 | h4 <;> omega
  have e : ks = ((List.range 1001).map fun (k : Nat) => (k : Int)).filter fun x => (wOf cs x).isSome := by
    refine eq_of_inc hp ?_ fun x => ?_
    · refine List.Pairwise.filter _ (List.pairwise_map.2 ?_)
      exact List.pairwise_lt_range.imp fun h => by omega
    · rw [hm x, List.mem_filter, List.mem_map]
      constructor
      · intro hx
        have := hr x hx
        exact ⟨⟨x.toNat, List.mem_range.2 (by omega), by omega⟩, hx⟩
      · exact fun hx => hx.2
  rw [e]
  unfold zonesL
  generalize List.range 1001 = l
  induction l with
  | nil => rfl
  | cons a l ih =>
    rw [List.map_cons, List.filter_cons]
    by_cases ha : (wOf cs (a : Int)).isSome = true
    · rw [if_pos ha, List.filterMap_cons, List.filterMap_cons, ih]
    · rw [if_neg ha, ih, List.filterMap_cons]
      have : Go.Proofs.Ytphhbojdolhieaa.zoneV cs (a : Int) = none := by
        unfold Go.Proofs.Ytphhbojdolhieaa.zoneV
        rw [Option.not_isSome_iff_eq_none] at ha
        rw [ha]
      rw [this]
end Go.Proofs.Ytphhbojdolhieaa
