/-
  Joined by a program out of: DilPure, Place, Region.
-/
import Derived.Test.YtkfijolimoehmaaDoorMgAA
import Derived.Test.YtkfijolimoehmaaDoorMgAB
import Derived.Test.YtkfijolimoehmaaDoorMgAG
import Derived.Test.YtkfijolimoehmaaDoorMgAF
import Derived.Test.YtkfijolimoehmaaDoorMgAI
import Derived.Deep.RegionWith

/-
  DILWORTH, plainly: where no K + 1 are apart all fall into K chains (Galvin's way). No Go, no program.
-/
namespace Go.Proofs.YtkfijolimoehmaaDoor
open Go.RowKit
set_option maxRecDepth 20000

section
variable {n : Nat} {R : Nat → Nat → Prop}
/-- Some K of S, no two of which are ordered. -/
def AC (R : Nat → Nat → Prop) (S : Nat → Prop) (K : Nat) : Prop := ∃ g : Nat → Nat, (∀ i, i < K → S (g i)) ∧ ∀ i j, i < K → j < K → i ≠ j → g i ≠ g j ∧ ¬ R (g i) (g j)
/-- S falls into K chains. -/
def Col (R : Nat → Nat → Prop) (S : Nat → Prop) (K : Nat) : Prop := ∃ f : Nat → Nat, (∀ x, S x → f x < K) ∧ ∀ x y, S x → S y → x ≠ y → f x = f y → R x y ∨ R y x
theorem AC.sub {S T : Nat → Prop} {K : Nat} (h : AC R T K) (hs : ∀ x, T x → S x) : AC R S K := by
  obtain ⟨g, h1, h2⟩ := h
  exact ⟨g, fun i hi => hs _ (h1 i hi), h2⟩

noncomputable def meas (n : Nat) (S : Nat → Prop) : Nat := sumUp (fun i => @ite _ (S i) (Classical.propDecidable _) 1 0) n
theorem sumUp_lt1 {f g : Nat → Nat} {a : Nat} (hfg : ∀ i, f i ≤ g i) (ha : f a < g a) : ∀ {m : Nat}, a < m → sumUp f m < sumUp g m
  | 0, h => by omega
  | m + 1, h => by
    rw [sumUp, sumUp]
    have h1 := hfg m
    rcases Nat.lt_or_ge a m with h2 | h2
    · have := sumUp_lt1 hfg ha (m := m) h2
      omega
    · obtain rfl : a = m := by omega
      have key : ∀ k, sumUp f k ≤ sumUp g k := fun k => by
        induction k with
        | zero => exact Nat.le_refl _
        | succ k ih =>
          have := hfg k
          rw [sumUp, sumUp]
          omega
      have := key a
      omega
theorem meas_lt {S T : Nat → Prop} {a : Nat} (hs : ∀ x, T x → S x) (ha : a < n) (hS : S a) (hT : ¬ T a) : meas n T < meas n S := by
  unfold meas
  refine sumUp_lt1 (a := a) (fun i => ?_) ?_ ha
  · by_cases h1 : T i
    · rw [if_pos h1, if_pos (hs i h1)]
      exact Nat.le_refl _
    · rw [if_neg h1]
      exact Nat.zero_le _
  · rw [if_neg hT, if_pos hS]
    exact Nat.zero_lt_one

/-- Where some is there is one that is last. -/
theorem last_of (hT : ∀ x y z, R x y → R y z → R x z) (hI : ∀ x, ¬ R x x) : ∀ N (S : Nat → Prop), meas n S < N → (∀ x, S x → x < n) → (∃ a, S a) → ∃ m, S m ∧ ∀ b, S b → ¬ R m b
  | 0, _, h, _, _ => by omega
  | N + 1, S, h, hn, ⟨a, ha⟩ => by
    by_cases hU : ∃ b, S b ∧ R a b
    · obtain ⟨m, hm, hmax⟩ := last_of hT hI N (fun x => S x ∧ R a x) (by
        have := meas_lt (n := n) (S := S) (T := fun x => S x ∧ R a x) (a := a) (fun x hx => hx.1) (hn a ha) ha (fun hx => hI a hx.2)
        omega) (fun x hx => hn x hx.1) hU
      exact ⟨m, hm.1, fun b hb hmb => hmax b ⟨hb, hT a m b hm.2 hmb⟩ hmb⟩
    · exact ⟨a, ha, fun b hb hab => hU ⟨b, hb, hab⟩⟩

/-- K unlike numbers below K are all of them. -/
theorem all_hit : ∀ K (g : Nat → Nat), (∀ i, i < K → g i < K) → (∀ i j, i < K → j < K → i ≠ j → g i ≠ g j) → ∀ y, y < K → ∃ i, i < K ∧ g i = y
  | 0, _, _, _, y, hy => by omega
  | K + 1, g, hlt, hne, y, hy => by
    by_cases hzy : g K = y
    · exact ⟨K, by omega, hzy⟩
    by_cases hz : g K = K
    · have h1 : ∀ i, i < K → g i < K := fun i hi => by
        have := hlt i (by omega)
        have := hne i K (by omega) (by omega) (by omega)
        omega
      obtain ⟨i, hi, e⟩ := all_hit K g h1 (fun i j hi hj => hne i j (by omega) (by omega)) y (by omega)
      exact ⟨i, by omega, e⟩
    · have hzK : g K < K := by have := hlt K (by omega); omega
      have h1 : ∀ i, i < K → (if g i = K then g K else g i) < K := fun i hi => by
        have := hlt i (by omega)
        split <;> omega
      have h2 : ∀ i j, i < K → j < K → i ≠ j → (if g i = K then g K else g i) ≠ (if g j = K then g K else g j) := fun i j hi hj hij => by
        have a1 := hne i j (by omega) (by omega) hij
        have a2 := hne i K (by omega) (by omega) (by omega)
        have a3 := hne j K (by omega) (by omega) (by omega)
        split <;> split <;> omega
      by_cases hyK : y = K
      · obtain ⟨i, hi, e⟩ := all_hit K (fun i => if g i = K then g K else g i) h1 h2 (g K) hzK
        have e' : (if g i = K then g K else g i) = g K := e
        have a2 := hne i K (by omega) (by omega) (by omega)
        split at e'
        · exact ⟨i, by omega, by omega⟩
        · omega
      · obtain ⟨i, hi, e⟩ := all_hit K (fun i => if g i = K then g K else g i) h1 h2 y (by omega)
        have e' : (if g i = K then g K else g i) = y := e
        split at e'
        · omega
        · exact ⟨i, by omega, e'⟩
theorem choose_below {P : Nat → Nat → Prop} {K : Nat} (h : ∀ i, i < K → ∃ x, P i x) : ∃ f : Nat → Nat, ∀ i, i < K → P i (f i) := by
  refine ⟨fun i => if hi : i < K then Classical.choose (h i hi) else 0, fun i hi => ?_⟩
  show P i (if hi : i < K then Classical.choose (h i hi) else 0)
  rw [dif_pos hi]
  exact Classical.choose_spec (h i hi)

theorem dilworth (hT : ∀ x y z, R x y → R y z → R x z) (hI : ∀ x, ¬ R x x) : ∀ N K (S : Nat → Prop), meas n S < N → (∀ x, S x → x < n) → ¬ AC R S (K + 1) → Col R S K
  | 0, _, _, h, _, _ => by omega
  | N + 1, K, S, h, hn, hac => by
    rcases Classical.em (∃ a, S a) with hS | hS
    · obtain ⟨a, ha, hmax⟩ := last_of hT hI (meas n S + 1) S (by omega) hn hS
      have hsub : ∀ x, (S x ∧ x ≠ a) → S x := fun x hx => hx.1
      have hm1 : meas n (fun x => S x ∧ x ≠ a) < meas n S := meas_lt hsub (hn a ha) ha (fun hx => hx.2 rfl)
      cases K with
      | zero => exact absurd ⟨fun _ => a, fun _ _ => ha, fun i j hi hj hij => by omega⟩ hac
      | succ k =>
      by_cases h1 : AC R (fun x => S x ∧ x ≠ a) (k + 1)
      · have hac' : ¬ AC R (fun x => S x ∧ x ≠ a) (k + 1 + 1) := fun h => hac (h.sub hsub)
        obtain ⟨f, hf1, hf2⟩ := dilworth hT hI N (k + 1) (fun x => S x ∧ x ≠ a) (by omega) (fun x hx => hn x hx.1) hac'
        -- an apart set of that size has one of each colour
        have hit : ∀ g : Nat → Nat, (∀ i, i < k + 1 → S (g i) ∧ g i ≠ a) → (∀ i j, i < k + 1 → j < k + 1 → i ≠ j → g i ≠ g j ∧ ¬ R (g i) (g j)) → ∀ y, y < k + 1 → ∃ l, l < k + 1 ∧ f (g l) = y := fun g g1 g2 =>
          all_hit (k + 1) (fun i => f (g i)) (fun i hi => hf1 _ (g1 i hi)) (fun i j hi hj hij e => by
            rcases hf2 (g i) (g j) (g1 i hi) (g1 j hj) (g2 i j hi hj hij).1 e with h | h
            · exact (g2 i j hi hj hij).2 h
            · exact (g2 j i hj hi (fun e => hij e.symm)).2 h)
        let C : Nat → Nat → Prop := fun i z => (S z ∧ z ≠ a) ∧ f z = i ∧ ∃ g : Nat → Nat, (∀ i, i < k + 1 → S (g i) ∧ g i ≠ a) ∧ (∀ i j, i < k + 1 → j < k + 1 → i ≠ j → g i ≠ g j ∧ ¬ R (g i) (g j)) ∧ ∃ l, l < k + 1 ∧ g l = z
        have hC : ∀ i, i < k + 1 → ∃ x, C i x ∧ ∀ b, C i b → ¬ R x b := fun i hi => by
          obtain ⟨g, g1, g2⟩ := h1
          obtain ⟨l, hl, e⟩ := hit g g1 g2 i hi
          exact last_of hT hI (meas n (C i) + 1) (C i) (by omega) (fun x hx => hn x hx.1.1) ⟨g l, g1 l hl, e, g, g1, g2, l, hl, rfl⟩
        obtain ⟨x, hx⟩ := choose_below hC
        -- whoever is of the class stands below the one that was picked
        have below : ∀ i, i < k + 1 → ∀ z, C i z → z = x i ∨ R z (x i) := fun i hi z hz => by
          by_cases e : z = x i
          · exact Or.inl e
          · rcases hf2 z (x i) hz.1 (hx i hi).1.1 e (by rw [hz.2.1, (hx i hi).1.2.1]) with h | h
            · exact Or.inr h
            · exact absurd h ((hx i hi).2 z hz)
        have apart : ∀ i j, i < k + 1 → j < k + 1 → i ≠ j → x i ≠ x j ∧ ¬ R (x j) (x i) := fun i j hi hj hij => by
          have hne : x i ≠ x j := fun e => by
            have e1 := (hx i hi).1.2.1
            have e2 := (hx j hj).1.2.1
            rw [e] at e1
            omega
          refine ⟨hne, fun hR => ?_⟩
          obtain ⟨g, g1, g2, l, hl, el⟩ := (hx i hi).1.2.2
          obtain ⟨l', hl', e'⟩ := hit g g1 g2 j hj
          have hy : C j (g l') := ⟨g1 l' hl', e', g, g1, g2, l', hl', rfl⟩
          have hlt : R (g l') (x i) := by
            rcases below j hj _ hy with h | h
            · rw [h]; exact hR
            · exact hT _ _ _ h hR
          have hll : l' ≠ l := fun e => by
            rw [e, el] at hlt
            exact hI _ hlt
          rw [← el] at hlt
          exact (g2 l' l hl' hl hll).2 hlt
        by_cases h2 : ∃ i, i < k + 1 ∧ R (x i) a
        · obtain ⟨i, hi, hia⟩ := h2
          let T : Nat → Prop := fun z => (S z ∧ z ≠ a) ∧ ¬ (f z = i ∧ (z = x i ∨ R z (x i)))
          have hTs : ∀ z, T z → S z := fun z hz => hz.1.1
          have hTac : ¬ AC R T (k + 1) := by
            rintro ⟨g, g1, g2⟩
            obtain ⟨l, hl, e⟩ := hit g (fun j hj => (g1 j hj).1) g2 i hi
            exact (g1 l hl).2 ⟨e, below i hi _ ⟨(g1 l hl).1, e, g, fun j hj => (g1 j hj).1, g2, l, hl, rfl⟩⟩
          have hm2 : meas n T < meas n S := meas_lt hTs (hn a ha) ha (fun hz => hz.1.2 rfl)
          obtain ⟨q, q1, q2⟩ := dilworth hT hI N k T (by omega) (fun z hz => hn z hz.1.1) hTac
          refine ⟨fun z => @ite _ (T z) (Classical.propDecidable _) (q z) k, fun z hz => ?_, fun z y hz hy hne e => ?_⟩
          · show @ite _ (T z) (Classical.propDecidable _) (q z) k < k + 1
            by_cases hzT : T z
            · rw [if_pos hzT]
              have := q1 z hzT
              omega
            · rw [if_neg hzT]
              omega
          · have e' : @ite _ (T z) (Classical.propDecidable _) (q z) k = @ite _ (T y) (Classical.propDecidable _) (q y) k := e
            have out : ∀ u, S u → ¬ T u → u = a ∨ (u ≠ a ∧ f u = i ∧ (u = x i ∨ R u (x i))) := fun u hu hnu => by
              by_cases hua : u = a
              · exact Or.inl hua
              · refine Or.inr ⟨hua, ?_⟩
                apply Classical.byContradiction
                intro hh
                exact hnu ⟨⟨hu, hua⟩, hh⟩
            have under : ∀ u, (u = x i ∨ R u (x i)) → R u a := fun u hu => by
              rcases hu with h | h
              · rw [h]; exact hia
              · exact hT _ _ _ h hia
            by_cases hzT : T z
            · by_cases hyT : T y
              · rw [if_pos hzT, if_pos hyT] at e'
                exact q2 z y hzT hyT hne e'
              · rw [if_pos hzT, if_neg hyT] at e'
                have := q1 z hzT
                omega
            · by_cases hyT : T y
              · rw [if_neg hzT, if_pos hyT] at e'
                have := q1 y hyT
                omega
              · rcases out z hz hzT with h3 | ⟨h3, h4, h5⟩
                · rcases out y hy hyT with h6 | ⟨h6, h7, h8⟩
                  · exact absurd (h3.trans h6.symm) hne
                  · exact Or.inr (h3 ▸ under y h8)
                · rcases out y hy hyT with h6 | ⟨h6, h7, h8⟩
                  · exact Or.inl (h6 ▸ under z h5)
                  · exact hf2 z y ⟨hz, h3⟩ ⟨hy, h6⟩ hne (h4.trans h7.symm)
        · exfalso
          refine hac ⟨fun i => if i = k + 1 then a else x i, fun i hi => ?_, fun i j hi hj hij => ?_⟩
          · show S (if i = k + 1 then a else x i)
            by_cases e : i = k + 1
            · rw [if_pos e]; exact ha
            · rw [if_neg e]; exact (hx i (by omega)).1.1.1
          · show (if i = k + 1 then a else x i) ≠ (if j = k + 1 then a else x j) ∧ ¬ R (if i = k + 1 then a else x i) (if j = k + 1 then a else x j)
            by_cases e : i = k + 1
            · rw [if_pos e, if_neg (show ¬ j = k + 1 by omega)]
              exact ⟨fun e' => (hx j (by omega)).1.1.2 e'.symm, hmax _ (hx j (by omega)).1.1.1⟩
            · by_cases e' : j = k + 1
              · rw [if_neg e, if_pos e']
                exact ⟨(hx i (by omega)).1.1.2, fun hR => h2 ⟨i, by omega, hR⟩⟩
              · rw [if_neg e, if_neg e']
                have := apart j i (by omega) (by omega) (fun e => hij e.symm)
                exact ⟨fun e => this.1 e.symm, this.2⟩
      · obtain ⟨f, hf1, hf2⟩ := dilworth hT hI N k (fun x => S x ∧ x ≠ a) (by omega) (fun x hx => hn x hx.1) h1
        refine ⟨fun z => if z = a then k else f z, fun z hz => ?_, fun z y hz hy hne e => ?_⟩
        · show (if z = a then k else f z) < k + 1
          by_cases e : z = a
          · rw [if_pos e]; omega
          · rw [if_neg e]
            have := hf1 z ⟨hz, e⟩
            omega
        · have e' : (if z = a then k else f z) = (if y = a then k else f y) := e
          by_cases e1 : z = a
          · by_cases e2 : y = a
            · exact absurd (e1.trans e2.symm) hne
            · rw [if_pos e1, if_neg e2] at e'
              have := hf1 y ⟨hy, e2⟩
              omega
          · by_cases e2 : y = a
            · rw [if_neg e1, if_pos e2] at e'
              have := hf1 z ⟨hz, e1⟩
              omega
            · rw [if_neg e1, if_neg e2] at e'
              exact hf2 z y ⟨hz, e1⟩ ⟨hy, e2⟩ hne e'
    · exact ⟨fun _ => 0, fun x hx => absurd ⟨x, hx⟩ hS, fun x _ hx => absurd ⟨x, hx⟩ hS⟩
end
end Go.Proofs.YtkfijolimoehmaaDoor

/-
  Contract of (*order.partition).place.
-/
namespace Go.Proofs.YtkfijolimoehmaaDoor
open Go.RowKit
set_option maxRecDepth 20000

/-- A table of sets in a block. -/
def setCs (N : Nat) (f : Nat → Nat) : Array Value := (Array.range N).map fun i => .int .u16 (f i : Nat)
def UTab (w : World) (g N : Nat) (f : Nat → Nat) : Prop := Lies w g 22 (setCs N f)
theorem setCs_get (N : Nat) (f : Nat → Nat) (i : Nat) (h : i < N) : (setCs N f)[i]? = some (.int .u16 (f i : Nat)) := by
  simp [setCs, h]
theorem setCs_set (N : Nat) (f : Nat → Nat) (i : Nat) (x : Nat) : (setCs N f).setIfInBounds i (.int .u16 (x : Nat)) = setCs N (updN f i x) := by
  apply Array.ext_getElem?
  intro j
  rw [Array.getElem?_setIfInBounds]
  by_cases h : i = j
  · subst h
    by_cases hi : i < N <;> simp [setCs, hi, updN]
  · rw [if_neg h]
    by_cases hj : j < N <;> simp [setCs, hj, updN, show ¬ j = i from fun e => h e.symm]
section
variable {w : World} {g N : Nat} {f : Nat → Nat}
theorem UTab.cell (h : UTab w g N f) {i : Nat} (hi : i < N) : w.cell? ⟨g, i, none⟩ = some (.int .u16 (f i : Nat)) := by
  rw [Lies.cell h, setCs_get N f i hi]
theorem UTab.free (h : UTab w g N f) (i : Nat) : w.frozen? ⟨g, i, none⟩ = false := Lies.frozen h i
theorem UTab.set_ (h : UTab w g N f) (i : Nat) (x : Nat) : UTab (w.setCell ⟨g, i, none⟩ (.int .u16 (x : Nat))) g N (updN f i x) :=
  Lies.cast (Lies.set_ h i (.int .u16 (x : Nat))) (setCs_set N f i x)
end

/-- The cells of a partition: twelve sets, the chains' slice, the numbers' slice. -/
abbrev partCs (rel : Nat → Nat) (C K M n : Nat) : Array Value := #[.int .u16 (rel 0), .int .u16 (rel 1), .int .u16 (rel 2), .int .u16 (rel 3), .int .u16 (rel 4), .int .u16 (rel 5), .int .u16 (rel 6), .int .u16 (rel 7), .int .u16 (rel 8), .int .u16 (rel 9), .int .u16 (rel 10), .int .u16 (rel 11), .slice (some ⟨C, 0, none⟩) K K, .slice (some ⟨M, 0, none⟩) n n]

structure PSt (B P C M K n : Nat) (rel : Nat → Nat) (ch : Nat → Nat) (nu : Nat → Int) (w0 w : World) : Prop where
  below : Below B w0 w
  part : Lies w P 60 (partCs rel C K M n)
  chs : UTab w C K ch
  nums : ITab w M n nu
  pc : P ≠ C
  pm : P ≠ M
  cm : C ≠ M
  bp : B ≤ P
  bc : B ≤ C
  bm : B ≤ M
  lt : ∀ k, ch k < 65536
section
variable {B P C M K n : Nat} {rel ch : Nat → Nat} {nu : Nat → Int} {w0 w : World}
theorem PSt.row (h : PSt B P C M K n rel ch nu w0 w) {k : Nat} (hk : k < 12) : w.cell? ⟨P, k, none⟩ = some (.int .u16 (rel k)) := by
  rw [Lies.cell h.part]
  rcases nat12 hk with rfl | rfl | rfl | rfl | rfl | rfl | rfl | rfl | rfl | rfl | rfl | rfl <;> rfl
theorem PSt.chains (h : PSt B P C M K n rel ch nu w0 w) : w.cell? ⟨P, 12, none⟩ = some (.slice (some ⟨C, 0, none⟩) K K) := Lies.cell h.part 12
theorem PSt.numbers (h : PSt B P C M K n rel ch nu w0 w) : w.cell? ⟨P, 13, none⟩ = some (.slice (some ⟨M, 0, none⟩) n n) := Lies.cell h.part 13
theorem PSt.setN (h : PSt B P C M K n rel ch nu w0 w) (i : Nat) (x : Int) : PSt B P C M K n rel ch (upd nu i x) w0 (w.setCell ⟨M, i, none⟩ (.int .i64 x)) :=
  ⟨h.below.setCell h.bm _, Lies.far h.part h.pm _, Lies.far h.chs h.cm _, h.nums.set_ i x, h.pc, h.pm, h.cm, h.bp, h.bc, h.bm, h.lt⟩
theorem PSt.setC (h : PSt B P C M K n rel ch nu w0 w) (i : Nat) (x : Nat) (hx : x < 65536) : PSt B P C M K n rel (updN ch i x) nu w0 (w.setCell ⟨C, i, none⟩ (.int .u16 (x : Nat))) :=
  ⟨h.below.setCell h.bc _, Lies.far h.part h.pc _, h.chs.set_ i x, Lies.far h.nums (fun e => h.cm e.symm) _, h.pc, h.pm, h.cm, h.bp, h.bc, h.bm, fun k => by unfold updN; split; exact hx; exact h.lt k⟩
theorem PSt.drew (h : PSt B P C M K n rel ch nu w0 w) : PSt B P C M K n rel ch nu w0 w.drew :=
  ⟨h.below.drew, h.part, h.chs, h.nums, h.pc, h.pm, h.cm, h.bp, h.bc, h.bm, h.lt⟩
theorem PSt.base (h : PSt B P C M K n rel ch nu w0 w) : PSt B P C M K n rel ch nu w w := ⟨Below.refl _ _, h.part, h.chs, h.nums, h.pc, h.pm, h.cm, h.bp, h.bc, h.bm, h.lt⟩
theorem PSt.after {w1 : World} {ch' : Nat → Nat} {nu' : Nat → Int} (h : PSt B P C M K n rel ch nu w0 w) (k : PSt B P C M K n rel ch' nu' w w1) : PSt B P C M K n rel ch' nu' w0 w1 :=
  ⟨h.below.trans k.below, k.part, k.chs, k.nums, k.pc, k.pm, k.cm, k.bp, k.bc, k.bm, k.lt⟩
end

set_option maxHeartbeats 2000000 in
theorem place_any (B P C M K n : Nat) (rel : Nat → Nat) (hn : n ≤ 12) (hK : K ≤ 16) (hrel : ∀ i, i < 12 → rel i < 65536) (f : Nat) : ∀ (item : Nat) (ch : Nat → Nat) (nu : Nat → Int) (w : World), item + f = n → PSt B P C M K n rel ch nu w w →
    Calls Tryd.prog 34 #[.pointer (some ⟨P, 0, none⟩), .int .i64 item] w fun e w' => e = .returned (.bool (placeM rel K n f ch nu).ok) ∧ PSt B P C M K n rel (placeM rel K n f ch nu).ch (placeM rel K n f ch nu).nu w w' := by
  induction f with
  | zero =>
    intro item ch nu w hi h
    obtain rfl : item = n := by omega
    have c13 := h.numbers
    have H := Lib.hid h
    clear h
    go_enter Tryd.func34, Tryd.ntmps34
    go_wp2_with fail
    go_ret
    exact ⟨rfl, H.out⟩
  | succ f ih =>
    intro item ch nu w hi h
    have hin : item < n := by omega
    have hif : n - (f + 1) = item := by omega
    have IH := Lib.hid ih
    have hR : placeM rel K n (f + 1) ch nu = tryK (placeM rel K n f) rel item K 0 ch nu := by show tryK _ _ (n - (f + 1)) _ _ _ _ = _; rw [hif]
    generalize placeM rel K n (f + 1) ch nu = R at hR ⊢
    have HR := Lib.hid hR.symm
    clear ih hR hif
    have c13 := h.numbers
    have c12 := h.chains
    have H := Lib.hid h
    have hne : ((item : Int) == (n : Int)) = false := by rw [beq_eq_false_iff_ne]; omega
    clear h
    go_enter Tryd.func34, Tryd.ntmps34
    go_wp2_with fail
    clear c13 c12
    go_loopw [19] (fun i wr => ∃ k ch' nu', k ≤ K ∧ i = .int .i64 (k : Nat) ∧ tryK (placeM rel K n f) rel item (K - k) k ch' nu' = R ∧ PSt B P C M K n rel ch' nu' w wr) (fun i _ => K - (intOf i).toNat)
    case atStart => exact ⟨0, ch, nu, by omega, rfl, HR.out, H.out⟩
    case round =>
      clear H HR
      obtain ⟨k, ch', nu', hk, rfl, ht, h⟩ := hrel
      by_cases hkK : k < K
      · have c13 := h.numbers
        have c12 := h.chains
        have ck := h.chs.cell hkK
        have cr := h.row (show item < 12 by omega)
        have cn := h.nums.cell hin
        have fn := h.nums.free item
        have fc := h.chs.free k
        have hlk := h.lt k
        have hv := u16_andNot_nat (ch' k) (rel item) hlk (hrel item (by omega))
        have hz := nat_ne0 (ch' k &&& (65535 - rel item))
        have hpc := h.pc
        have hpm := h.pm
        have hcm := h.cm
        have H := Lib.hid h
        have HT := Lib.hid ht
        clear h ht
        by_cases hq : ch' k &&& (65535 - rel item) = 0
        · rw [decide_eq_false (by simpa using hq)] at hz
          have ho := or_pow (ch' k) item hlk (by omega)
          have hp := pow_u16 item (by omega)
          have HQ := Lib.hid hq
          clear hq
          go_wp2_with fail
          have h1 := H.out.setN item k
          clear c13 c12 ck cr cn fn fc
          generalize wr.setCell ⟨M, item, none⟩ (.int .i64 (k : Int)) = w1 at h1 ⊢
          have c12 := h1.chains
          have ck := h1.chs.cell hkK
          have fc := h1.chs.free k
          have h2 := (h1.setC k (ch' k ||| 2 ^ item) (Nat.or_lt_two_pow (n := 16) hlk (pow_lt item (by omega)))).drew
          have H2 := Lib.hid h2
          clear h1 h2 H
          go_region
          clear c12 ck fc
          have hii : (item : Int) + 1 = ((item + 1 : Nat) : Int) := by omega
          have HII := Lib.hid hii
          clear hii
          go_wp2_with fail
          rw [HII.out]
          refine (IH.out (item + 1) (updN ch' k (ch' k ||| 2 ^ item)) (upd nu' item k) _ (by omega) H2.out.base).mono ?_
          rintro e w3 ⟨rfl, h3⟩
          have h4 := H2.out.after h3
          have ht := HT.out
          rw [show K - k = (K - (k + 1)) + 1 by omega, tryK, if_pos HQ.out] at ht
          clear h3 H2 HT HQ IH HII hz hv ho hp
          generalize placeM rel K n f (updN ch' k (ch' k ||| 2 ^ item)) (upd nu' item k) = r at h4 ht ⊢
          cases hok : r.ok
          · rw [hok, if_neg (by decide)] at ht
            have c12 := h4.chains
            have ck := h4.chs.cell hkK
            have fc := h4.chs.free k
            have h5 := h4.setC k (ch' k) hlk
            have hz0 := nat_eq0 (ch' k)
            by_cases hc0 : ch' k = 0
            · rw [decide_eq_true hc0] at hz0
              rw [if_pos hc0] at ht
              have H5 := Lib.hid h5
              have HT := Lib.hid ht
              clear h4 h5 ht hc0 hok
              go_wp2_with fail
              go_ret
              have ht := HT.out
              subst ht
              exact ⟨rfl, H5.out⟩
            · rw [decide_eq_false hc0] at hz0
              rw [if_neg hc0] at ht
              have H5 := Lib.hid h5
              have HT := Lib.hid ht
              clear h4 h5 ht hc0 hok
              go_wp2_with fail
              go_roundw
              case rel => exact ⟨k + 1, _, _, by omega, by go_num, HT.out, H5.out⟩
              case measure => simp [intOf]; omega
          · rw [hok, if_pos rfl] at ht
            have H4 := Lib.hid h4
            have HT := Lib.hid ht
            clear h4 ht hok
            go_wp2_with fail
            go_ret
            have ht := HT.out
            subst ht
            exact ⟨rfl, H4.out⟩
        · rw [decide_eq_true hq] at hz
          have HQ := Lib.hid hq
          clear hq
          go_wp2_with fail
          go_roundw
          case rel => exact ⟨k + 1, ch', nu', by omega, by go_num, by
            have := HT.out
            rw [show K - k = (K - (k + 1)) + 1 by omega, tryK, if_neg HQ.out] at this
            exact this, H.out⟩
          case measure => simp [intOf]; omega
      · have hkK' : k = K := by omega
        subst hkK'
        have H := Lib.hid h
        have HT := Lib.hid ht
        clear h ht
        go_wp2_with fail
        go_ret
        have ht := HT.out
        rw [Nat.sub_self, tryK] at ht
        subst ht
        exact ⟨rfl, H.out⟩
end Go.Proofs.YtkfijolimoehmaaDoor

/-
  A rule for a region that draws its order: a fact about what has been done so far, kept by each operation that may come up. And the region of order.Chains that makes the partition.
-/
namespace Go.Proofs.YtkfijolimoehmaaDoor
open Go.RowKit
set_option maxRecDepth 20000

theorem filter_less {p q : Nat → Bool} (hqp : ∀ x, q x = true → p x = true) {i : Nat} (h1 : p i = true) (h2 : q i = false) : ∀ l : List Nat, i ∈ l → (l.filter q).length < (l.filter p).length
  | [], h => by cases h
  | x :: l, h => by
    have step : (l.filter q).length ≤ (l.filter p).length := by
      clear h
      induction l with
      | nil => exact Nat.le_refl _
      | cons y l ih =>
        by_cases hy : q y = true
        · rw [List.filter_cons_of_pos hy, List.filter_cons_of_pos (hqp y hy)]; simpa using ih
        · rw [List.filter_cons_of_neg hy]
          by_cases hy' : p y = true
          · rw [List.filter_cons_of_pos hy']; simp; omega
          · rw [List.filter_cons_of_neg hy']; exact ih
    by_cases hx : x = i
    · subst hx
      rw [List.filter_cons_of_pos h1, List.filter_cons_of_neg (by rw [h2]; decide)]
      simp; omega
    · have hi : i ∈ l := by
        rcases List.mem_cons.1 h with h | h
        · exact absurd h.symm hx
        · exact h
      have ih := filter_less hqp h1 h2 l hi
      by_cases hy : q x = true
      · rw [List.filter_cons_of_pos hy, List.filter_cons_of_pos (hqp x hy)]; simpa using ih
      · rw [List.filter_cons_of_neg hy]
        by_cases hy' : p x = true
        · rw [List.filter_cons_of_pos hy']; simp; omega
        · rw [List.filter_cons_of_neg hy']; exact ih

section
variable {P : Program} {ops : Array Oper} {Q : Exit → Act → World → Prop} {a0 : Act}

/-- How many operations are still to come. -/
def toCome (ops : Array Oper) (l : Array Bool) : Nat := ((List.range ops.size).filter fun i => !l.getD i true).length

theorem any_of_inv (Inv : Array Bool → Act → World → Prop) (hz : ∀ l a w, Inv l a w → l.size = ops.size)
    (hs : ∀ l a w, Inv l a w → ∀ i ∈ Region.ready .any ops l, wpOp P ops Q i (fun a' w' => Inv (l.setIfInBounds i true) a' w') a w)
    (hq : ∀ l a w, Inv l a w → Region.ready .any ops l = [] → Q .normal a w) : ∀ (fuel : Nat) (l : Array Bool) (a : Act) (w : World), toCome ops l ≤ fuel → Inv l a w → wpAny P .any ops Q fuel l a w
  | 0, l, a, w, hc, h => by
    have hr : Region.ready .any ops l = [] := by
      unfold Region.ready
      rw [List.filter_eq_nil_iff]
      intro i hi hp
      have : i ∈ (List.range ops.size).filter fun i => !l.getD i true := List.mem_filter.2 ⟨hi, by
        rw [Bool.and_eq_true] at hp
        exact hp.1⟩
      unfold toCome at hc
      have := List.length_pos_of_mem this
      omega
    exact ⟨hr, hq _ _ _ h hr⟩
  | fuel + 1, l, a, w, hc, h => by
    refine ⟨hq _ _ _ h, fun i hi => wpOp_mono (fun a' w' h' => any_of_inv Inv hz hs hq fuel _ _ _ ?_ h') (hs _ _ _ h i hi)⟩
    unfold Region.ready at hi
    obtain ⟨hin, hp⟩ := List.mem_filter.1 hi
    rw [Bool.and_eq_true] at hp
    have hlt : i < ops.size := List.mem_range.1 hin
    have hll : i < l.size := by rw [hz _ _ _ h]; exact hlt
    have hless : toCome ops (l.setIfInBounds i true) < toCome ops l := by
      refine filter_less (fun x hx => ?_) hp.1 ?_ _ hin
      · by_cases e : i = x
        · subst e; exact hp.1
        · simpa [Array.getD_eq_getD_getElem?, Array.getElem?_setIfInBounds, e] using hx
      · simp [Array.getD_eq_getD_getElem?, hll]
    omega

theorem region_of_inv (Inv : Array Bool → Act → World → Prop) {id : Nat} {w : World} (hm : P.follows .mixedOrders = true) (hz : ∀ l a w, Inv l a w → l.size = ops.size)
    (h0 : Inv (Array.replicate ops.size false) a0 w.drew)
    (hs : ∀ l a w, Inv l a w → ∀ i ∈ Region.ready .any ops l, wpOp P ops Q i (fun a' w' => Inv (l.setIfInBounds i true) a' w') a w)
    (hq : ∀ l a w, Inv l a w → Region.ready .any ops l = [] → Q .normal a w) : (Code.region id ops true).wp P Q a0 w := by
  refine wp_region_any hm ?_
  refine any_of_inv Inv hz hs hq _ _ _ _ ?_ h0
  unfold toCome
  exact Nat.le_trans (List.length_filter_le _ _) (by simp)
end
end Go.Proofs.YtkfijolimoehmaaDoor
