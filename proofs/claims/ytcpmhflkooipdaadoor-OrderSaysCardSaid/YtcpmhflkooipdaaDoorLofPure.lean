/-
  Plain: the least item that may come next, by direct steps alone, is the one by the closure.
-/
import Derived.Test.YtcpmhflkooipdaaDoorSzpPure
import Derived.Test.YtcpmhflkooipdaaDoorSrchPure
namespace Go.Proofs.YtcpmhflkooipdaaDoor
open Go.RowKit
set_option maxRecDepth 20000

/-- Item i is not in D, and those of the first m that lead to it are. -/
def mayUp (a : Nat → Nat) (D i : Nat) : Nat → Bool
  | 0 => !D.testBit i
  | m + 1 => mayUp a D i m && (!(a m).testBit i || D.testBit m)
theorem mayUp_iff (a : Nat → Nat) (D i : Nat) : ∀ m, mayUp a D i m = true ↔ D.testBit i = false ∧ ∀ j, j < m → (a j).testBit i = true → D.testBit j = true
  | 0 => by simp [mayUp]
  | m + 1 => by
    rw [mayUp, Bool.and_eq_true, mayUp_iff a D i m]
    constructor
    · rintro ⟨⟨h1, h2⟩, h3⟩
      refine ⟨h1, fun j hj hb => ?_⟩
      rcases Nat.lt_or_ge j m with h | h
      · exact h2 j h hb
      · obtain rfl : j = m := by omega
        rw [hb] at h3
        simpa using h3
    · rintro ⟨h1, h2⟩
      refine ⟨⟨h1, fun j hj => h2 j (by omega)⟩, ?_⟩
      cases hb : (a m).testBit i with
      | false => rfl
      | true => simpa using h2 m (by omega) hb

section
variable {n : Nat} {a : Nat → Nat}
theorem least_closed (h : Strict n (clo n a)) (hn : n ≤ 12) {k : Nat} (hk : k ≤ n) {x : Nat} (hx : (lsD (rev n (clo n a)) n k).testBit x = true) : Sub (rev n (clo n a) x) (lsD (rev n (clo n a)) n k) := by
  intro t ht
  obtain ⟨m, hm, rfl⟩ := ((least_step h hn k hk).2 x).1 hx
  have h1 := least_sub h hn (k := m) (by omega) t ht
  obtain ⟨m', hm', e⟩ := ((least_step h hn m (by omega)).2 t).1 h1
  exact ((least_step h hn k hk).2 t).2 ⟨m', by omega, e⟩

/-- Direct steps or the closure: it is the same. -/
theorem may_iff (hG : Good n a) (h : Strict n (clo n a)) {k : Nat} (hk : k ≤ n) {i : Nat} (hi : i < n) :
    mayUp a (lsD (rev n (clo n a)) n k) i n = (rdyUp (rev n (clo n a)) (lsD (rev n (clo n a)) n k) n).testBit i := by
  have hn := hG.le
  have hDl := lsD_lt (rev n (clo n a)) n k
  have hcl := fun x hx => least_closed h hn hk (x := x) hx
  generalize lsD (rev n (clo n a)) n k = D at hDl hcl ⊢
  rw [Bool.eq_iff_iff, mayUp_iff, rdy_bit]
  simp only [Bool.and_eq_true, decide_eq_true_eq, Bool.not_eq_true']
  constructor
  · rintro ⟨h1, h2⟩
    refine ⟨hi, h1, (within_iff (rev_lt hn (clo n a) i) hDl).2 fun t ht => ?_⟩
    obtain ⟨ht1, _, ht3⟩ := rev_at.1 ht
    refine clo_min (R := fun u v => (D.testBit v = true ∨ v = i) → D.testBit u = true) (fun u hu v huv hv => ?_) (fun u v w h1 h2 hw => h1 (.inl (h2 hw))) ht1 ht3 (.inr rfl)
    rcases hv with hv | rfl
    · exact hcl v hv u (rev_at.2 ⟨hu, hG.inn (Nat.lt_of_lt_of_le hu hn) huv, clo_has n a u v huv⟩)
    · exact h2 u hu huv
  · rintro ⟨_, h1, h2⟩
    exact ⟨h1, fun j hj hb => (within_iff (rev_lt hn (clo n a) i) hDl).1 h2 j (rev_at.2 ⟨hj, hi, clo_has n a j i hb⟩)⟩

/-- The first that may come is the next one. -/
theorem first_next (hG : Good n a) (h : Strict n (clo n a)) {k : Nat} (hk : k ≤ n) {i : Nat} (hi : i < n)
    (hm : mayUp a (lsD (rev n (clo n a)) n k) i n = true) (hl : ∀ x, x < i → mayUp a (lsD (rev n (clo n a)) n k) x n = false) :
    nextOf (rdyUp (rev n (clo n a)) (lsD (rev n (clo n a)) n k) n) = i := by
  have hn := hG.le
  rw [may_iff hG h hk hi] at hm
  have hl' : ∀ x, x < i → (rdyUp (rev n (clo n a)) (lsD (rev n (clo n a)) n k) n).testBit x = false := fun x hx => by
    rw [← may_iff hG h hk (by omega)]; exact hl x hx
  have hlt : rdyUp (rev n (clo n a)) (lsD (rev n (clo n a)) n k) n < 2 ^ 16 := rdyUp_lt _ _ 16 n (by omega)
  generalize rdyUp (rev n (clo n a)) (lsD (rev n (clo n a)) n k) n = r at hm hl' hlt
  have hne : r ≠ 0 := fun e => by rw [e] at hm; simp at hm
  have ht := tzN_bit 16 r (Nat.pos_of_ne_zero hne) hlt
  unfold nextOf
  rw [if_neg hne]
  show tzN 16 r = i
  rcases Nat.lt_trichotomy (tzN 16 r) i with h1 | h1 | h1
  · have := hl' _ h1; rw [ht.1] at this; cases this
  · exact h1
  · have := ht.2 i h1; rw [hm] at this; cases this
/-- While items are left there is one. -/
theorem some_may (hG : Good n a) (h : Strict n (clo n a)) {k : Nat} (hk : k < n) (hl : ∀ x, x < n → mayUp a (lsD (rev n (clo n a)) n k) x n = false) : False := by
  have hn := hG.le
  obtain ⟨h1, h2, h3⟩ := next_is h hn (lsD_lt (rev n (clo n a)) n k) (by rw [(least_step h hn k (by omega)).1]; exact hk)
  have := hl _ h1
  rw [may_iff hG h (by omega) h1, rdy_bit] at this
  simp [h1, h2, (within_iff (rev_lt hn (clo n a) _) (lsD_lt (rev n (clo n a)) n k)).2 h3] at this
end

theorem mem_lsL (b : Nat → Nat) (n : Nat) (x : Int) : ∀ k, x ∈ lsL b n k ↔ ∃ m, m < k ∧ (nextOf (rdyUp b (lsD b n m) n) : Int) = x
  | 0 => by simp [lsL]
  | k + 1 => by
    rw [lsL, List.mem_append, mem_lsL b n x k, List.mem_singleton]
    constructor
    · rintro (⟨m, hm, e⟩ | e)
      · exact ⟨m, by omega, e⟩
      · exact ⟨k, by omega, e.symm⟩
    · rintro ⟨m, hm, e⟩
      rcases Nat.lt_or_ge m k with h' | h'
      · exact .inl ⟨m, h', e⟩
      · obtain rfl : m = k := by omega
        exact .inr e.symm
theorem in_lsL {n : Nat} {c : Nat → Nat} (h : Strict n c) (hn : n ≤ 12) {k : Nat} (hk : k ≤ n) (i : Nat) : decide ((i : Int) ∈ lsL (rev n c) n k) = (lsD (rev n c) n k).testBit i := by
  rw [Bool.eq_iff_iff, decide_eq_true_eq, mem_lsL, (least_step h hn k hk).2]
  constructor
  · rintro ⟨m, hm, e⟩; exact ⟨m, hm, by unfold nth; omega⟩
  · rintro ⟨m, hm, e⟩; exact ⟨m, hm, by unfold nth at e; omega⟩
end Go.Proofs.YtcpmhflkooipdaaDoor
