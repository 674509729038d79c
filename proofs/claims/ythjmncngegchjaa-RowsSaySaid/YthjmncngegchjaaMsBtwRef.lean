/-
  Joined by a program out of: RrBadP, BtwRef.
-/
import Derived.Test.YthjmncngegchjaaMgAD
import Derived.Test.YthjmncngegchjaaMgAA

/-
  Plain: what the reference's BadRows goes through, step after step.
-/
namespace Go.Proofs.Ythjmncngegchjaa
open Go.RowKit
set_option maxRecDepth 20000

theorem orQ_hit {a b c : Int} (ha : a ≠ 0) (y : Bz) : orZ ⟨a, b, c⟩ y = ⟨a, b, c⟩ := by
  unfold orZ
  rw [if_pos ha]
theorem orQ_assoc (x y z : Bz) : orZ (orZ x y) z = orZ x (orZ y z) := by
  unfold orZ
  by_cases hx : x.kind ≠ 0
  · rw [if_pos hx, if_pos hx, if_pos hx]
  · rw [if_neg hx, if_neg hx]
theorem firstD_cons (kd : Int) (f : Nat → Cl → Int × Bool) (k : Nat) (c : Cl) (r : List Cl) : firstD kd f k (c :: r) = if c.kind = 4 ∧ (f k c).2 = true then ⟨kd, k, (f k c).1⟩ else firstD kd f (k + 1) r := rfl
theorem drop_cl {cs : List Cl} {k : Nat} {y : Cl} (hy : cs[k]? = some y) : cs.drop k = y :: cs.drop (k + 1) := by
  obtain ⟨h2, h3⟩ := List.getElem?_eq_some_iff.1 hy
  rw [List.drop_eq_getElem_cons h2, h3]
/-- The values from one on. -/
def valsFrom (cs : List Cl) (a : Nat) : List Int := ((List.range' a (1001 - a)).map fun (k : Nat) => (k : Int)).filter fun v => (pAt cs v).isSome
theorem valsFrom_in {cs : List Cl} {a : Nat} (h : a < 1001) (hp : (pAt cs (a : Int)).isSome = true) : valsFrom cs a = (a : Int) :: valsFrom cs (a + 1) := by
  unfold valsFrom
  rw [show 1001 - a = (1001 - (a + 1)) + 1 by omega, List.range'_succ, List.map_cons, List.filter_cons, if_pos hp]
theorem valsFrom_out {cs : List Cl} {a : Nat} (h : a < 1001) (hp : (pAt cs (a : Int)).isSome = false) : valsFrom cs a = valsFrom cs (a + 1) := by
  unfold valsFrom
  rw [show 1001 - a = (1001 - (a + 1)) + 1 by omega, List.range'_succ, List.map_cons, List.filter_cons, if_neg (by rw [hp]; decide)]
theorem valsFrom_end (cs : List Cl) : valsFrom cs 1001 = [] := rfl
theorem vals_from {n : Nat} {cs : List Cl} (h : QueH n cs) : valsFrom cs 1 = valsQ cs := by
  have h0 : valsFrom cs 0 = valsQ cs := by
    unfold valsFrom valsQ
    rw [List.range_eq_range']
  rw [← h0]
  refine (valsFrom_out (a := 0) (by omega) ?_).symm
  rw [Option.isSome_eq_false_iff, Option.isNone_iff_eq_none, pAt_none]
  intro c hc
  rw [Bool.eq_false_iff]
  intro he
  have := h.val hc he
  omega
theorem ordQ_cons (cs : List Cl) (all : List Int) (a : Int) (l : List Int) : ordQ cs all (a :: l) = orZ (ordRow cs a all) (ordQ cs all l) := rfl
theorem ordRow_no {cs : List Cl} {a : Int} : ∀ {l : List Int}, (∀ b ∈ l, overB cs b a = false) → ordRow cs a l = noBz
  | [], _ => rfl
  | b :: l, h => by
    rw [ordRow, if_neg (by rw [h b List.mem_cons_self]; decide)]
    exact ordRow_no fun x hx => h x (List.mem_cons_of_mem _ hx)
theorem over_open {cs : List Cl} {a : Int} (h : (pC cs a).til = -1) (b : Int) : overB cs b a = false := by
  unfold overB precB
  rw [h]
  simp
/-- A value that is put: the call, and what it is called by. -/
theorem pAt_at {cs : List Cl} {v : Int} {i : Nat} (h : pAt cs v = some i) : ∃ c, cs[i]? = some c ∧ isE v c = true ∧ pC cs v = c := by
  obtain ⟨⟨c, hc, he⟩, _⟩ := pAt_some.1 h
  exact ⟨c, hc, he, by unfold pC; rw [h, Option.getD_some, List.getD_eq_getElem?_getD, hc]; rfl⟩
theorem tAt_at {cs : List Cl} {v : Int} {i : Nat} (h : tAt cs v = some i) : ∃ c, cs[i]? = some c ∧ isD v c = true ∧ tC cs v = c := by
  obtain ⟨_, ⟨c, hc, he⟩, _⟩ := tAt_some.1 h
  exact ⟨c, hc, he, by unfold tC; rw [h, Option.getD_some, List.getD_eq_getElem?_getD, hc]; rfl⟩
theorem fAt_tAt {cs : List Cl} {v : Int} (h : v ≠ -1) : fAt (isD v) 0 cs = tAt cs v := by unfold tAt; rw [if_neg h]
/-- Is something there for certain, by the first calls? -/
def fullTo (cs : List Cl) (l : List Cl) (k : Int) : Bool := l.any fun q => q.kind == 3 && (match stayV cs q.arg with | some s => decide (s.1 ≤ k ∧ k ≤ s.2) | none => false)
theorem fullTo_all {n : Nat} {cs : List Cl} (h : QueH n cs) (k : Int) : fullTo cs cs k = fullAt (staysL cs) k := by
  rw [Bool.eq_iff_iff]
  unfold fullTo fullAt
  rw [List.any_eq_true, List.any_eq_true]
  constructor
  · rintro ⟨q, hq, h1⟩
    rw [Bool.and_eq_true, beq_iff_eq] at h1
    obtain ⟨h1, h2⟩ := h1
    cases hs : stayV cs q.arg with
    | none => rw [hs] at h2; cases h2
    | some s =>
      rw [hs] at h2
      refine ⟨s, List.mem_filterMap.2 ⟨q.arg, ?_, hs⟩, h2⟩
      obtain ⟨i, hi⟩ := List.getElem?_of_mem hq
      rw [h.mem_vals, (h.p_at hi (isE_iff.2 ⟨h1, rfl⟩)).1]
      rfl
  · rintro ⟨s, hs, hd⟩
    unfold staysL at hs
    obtain ⟨v, hv, he⟩ := List.mem_filterMap.1 hs
    rw [h.mem_vals] at hv
    obtain ⟨i, hi⟩ := Option.isSome_iff_exists.1 hv
    obtain ⟨c, hc, hE, _⟩ := pAt_at hi
    obtain ⟨h1, h2⟩ := isE_iff.1 hE
    refine ⟨c, List.mem_of_getElem? hc, ?_⟩
    rw [Bool.and_eq_true, beq_iff_eq, h2, he]
    exact ⟨h1, hd⟩
theorem fullTo_snoc {cs : List Cl} {j : Nat} {q : Cl} (hq : cs[j]? = some q) (k : Int) : fullTo cs (cs.take (j + 1)) k = (fullTo cs (cs.take j) k || (q.kind == 3 && (match stayV cs q.arg with | some s => decide (s.1 ≤ k ∧ k ≤ s.2) | none => false))) := by
  unfold fullTo
  rw [List.take_add_one, hq, List.any_append]
  simp
/-- Is there a number, up to here, at which nothing is there for certain? -/
def freeTo (cs : List Cl) (c : Cl) (m : Nat) : Bool := (List.range' c.frm.toNat m).any fun (t : Nat) => !fullAt (staysL cs) (t : Int)
theorem freeTo_zero (cs : List Cl) (c : Cl) : freeTo cs c 0 = false := rfl
theorem freeTo_succ (cs : List Cl) (c : Cl) (m : Nat) : freeTo cs c (m + 1) = (freeTo cs c m || !fullAt (staysL cs) ((c.frm.toNat + m : Nat) : Int)) := by
  unfold freeTo
  rw [List.range'_concat, List.any_append]
  simp
theorem empty_free {cs : List Cl} {c : Cl} (h1 : c.res = -1) (h2 : 0 ≤ c.frm) (h3 : c.frm ≤ c.til) (h4 : c.til ≤ 200) (k : Nat) : (emptyF (staysL cs) k c).2 = !freeTo cs c (c.til - c.frm).toNat := by
  unfold emptyF freeTo
  rw [h1]
  simp only [beq_self_eq_true, Bool.true_and]
  rw [Bool.eq_iff_iff, List.all_eq_true, Bool.not_eq_true', List.any_eq_false]
  constructor
  · intro h t ht
    rw [List.mem_range'_1] at ht
    have := h t (List.mem_range.2 (by omega))
    rw [Bool.or_eq_true, Bool.not_eq_true', decide_eq_false_iff_not] at this
    rcases this with h5 | h5
    · exact absurd ⟨by omega, by omega⟩ h5
    · rw [h5]; decide
  · intro h t ht
    rw [List.mem_range] at ht
    rw [Bool.or_eq_true, Bool.not_eq_true', decide_eq_false_iff_not]
    by_cases h5 : c.frm ≤ (t : Int) ∧ (t : Int) < c.til
    · right
      have := h t (List.mem_range'_1.2 ⟨by omega, by omega⟩)
      rw [Bool.not_eq_true, Bool.not_eq_false'] at this
      exact this
    · exact .inl h5
end Go.Proofs.Ythjmncngegchjaa

/-
  Contract of the reference's Between.
-/
namespace Go.Proofs.Ythjmncngegchjaa
open Go.RowKit
set_option maxRecDepth 20000

theorem betweenI_any (a lo hi : Int) (w : World) : Calls Try.prog 29 #[.int .i64 a, .int .i64 lo, .int .i64 hi] w fun e w' => e = .returned (.bool (btw lo a hi)) ∧ w' = w := by
  have hb : btw lo a hi = true ↔ lo ≤ a ∧ a ≤ hi := btw_iff
  obtain ⟨r, hr⟩ : ∃ r, r = btw lo a hi := ⟨_, rfl⟩
  rw [← hr] at hb ⊢
  clear hr
  by_cases h1 : lo ≤ a
  · by_cases h2 : a ≤ hi
    · obtain rfl : r = true := hb.2 ⟨h1, h2⟩
      clear hb
      go_enter Try.func29, Try.ntmps29
      go_wp2_with fail
      go_ret
      exact ⟨rfl, rfl⟩
    · obtain rfl : r = false := Bool.eq_false_iff.2 fun h => h2 (hb.1 h).2
      clear hb
      go_enter Try.func29, Try.ntmps29
      go_wp2_with fail
      go_ret
      exact ⟨rfl, rfl⟩
  · obtain rfl : r = false := Bool.eq_false_iff.2 fun h => h1 (hb.1 h).1
    clear hb
    go_enter Try.func29, Try.ntmps29
    go_wp2_with fail
    go_ret
    exact ⟨rfl, rfl⟩
end Go.Proofs.Ythjmncngegchjaa
