/-
  Joined by a program out of: Acyclic, Err, Ahead, Trans, Good.
-/
import Derived.Test.YtkfijolimoehmaaDoorMgAB
import Derived.Test.YtkfijolimoehmaaDoorMgAA
import Derived.Deep.QuietTactic
import Derived.BigQuiet
import Derived.Lib.Hide

/-
  Contract of order.closeAcyclic.
-/
namespace Go.Proofs.YtkfijolimoehmaaDoor
open Go.RowKit
set_option maxRecDepth 20000

set_option maxHeartbeats 1000000 in
theorem acyclic_err (n : Int) (a : Nat → Nat) (E : Int) (w : World) (hE : (E != 0) = true) (hc : Checks n a E) :
    Calls Tryd.prog 23 #[relV n a] w fun e w' => e = .returned (.tuple #[zeroV, .int .i64 E]) ∧ Below w.heap.size w w' := by
  go_enter Tryd.func23, Tryd.ntmps23
  go_wp2_with fail
  refine (close_err n a E _ hE hc).mono ?_
  rintro e w1 ⟨rfl, hb1⟩
  have hB0 : RelB w1 (w.heap.size + 1) 0 (fun _ => 0) := Lies.below (Lies.cast (by have h := Lies.new (w.alloc (.cells (relCs n a) 25)) 25 (relCs 0 fun _ => 0); rw [World.size_alloc] at h; exact h) rfl) hb1 (by rw [World.size_alloc, World.size_alloc]; omega)
  have hbw : Below w.heap.size w w1 := (((Below.refl _ _).alloc (Nat.le_refl _) _).alloc (by simp) _).trans (hb1.mono (by simp; omega))
  have hlt : w.heap.size + 1 < w1.heap.size := by have := hb1.size; simp at this; omega
  have hs := hB0.size
  obtain ⟨c0, c1, c2, c3, c4, c5, c6, c7, c8, c9, c10, c11⟩ := hB0.rows
  have hf := hB0.free
  have HB := Lib.hid hbw
  clear hb1 hbw
  go_wp2_with fail
  clear hs c0 c1 c2 c3 c4 c5 c6 c7 c8 c9 c10 c11 hf
  refine post_fill1 (W := w1) (g := w.heap.size + 1) 0 (fun _ => 0) hB0 HB.out (by omega) (by omega) ?_
  intro wz hz hbz
  have hs := hz.size
  obtain ⟨c0, c1, c2, c3, c4, c5, c6, c7, c8, c9, c10, c11⟩ := hz.rows
  exact bodyPost_ret (v := .tuple #[zeroV, .int .i64 E])
    (by simp [results, Tryd.results23, go_sem, hs, c0, c1, c2, c3, c4, c5, c6, c7, c8, c9, c10, c11]) rfl ⟨rfl, hbz⟩


set_option maxHeartbeats 1000000 in
theorem acyclic_yes (n : Nat) (a : Nat → Nat) (w : World) (h : Good n a) (hy : cyc (clo n a) n = true) :
    Calls Tryd.prog 23 #[relV n a] w fun e w' => e = .returned (.tuple #[zeroV, .int .i64 4]) ∧ Below w.heap.size w w' := by
  go_enter Tryd.func23, Tryd.ntmps23
  go_wp2_with fail
  refine (close_yes n a _ h hy).mono ?_
  rintro e w1 ⟨rfl, hb1⟩
  have hB0 : RelB w1 (w.heap.size + 1) 0 (fun _ => 0) := Lies.below (Lies.cast (by have h := Lies.new (w.alloc (.cells (relCs n a) 25)) 25 (relCs 0 fun _ => 0); rw [World.size_alloc] at h; exact h) rfl) hb1 (by rw [World.size_alloc, World.size_alloc]; omega)
  have hbw : Below w.heap.size w w1 := (((Below.refl _ _).alloc (Nat.le_refl _) _).alloc (by simp) _).trans (hb1.mono (by simp; omega))
  have hlt : w.heap.size + 1 < w1.heap.size := by have := hb1.size; simp at this; omega
  have hs := hB0.size
  obtain ⟨c0, c1, c2, c3, c4, c5, c6, c7, c8, c9, c10, c11⟩ := hB0.rows
  have hf := hB0.free
  have HB := Lib.hid hbw
  clear hb1 hbw
  go_wp2_with fail
  clear hs c0 c1 c2 c3 c4 c5 c6 c7 c8 c9 c10 c11 hf
  refine post_fill1 (W := w1) (g := w.heap.size + 1) 0 (fun _ => 0) hB0 HB.out (by omega) (by omega) ?_
  intro wz hz hbz
  have hs := hz.size
  obtain ⟨c0, c1, c2, c3, c4, c5, c6, c7, c8, c9, c10, c11⟩ := hz.rows
  exact bodyPost_ret (v := .tuple #[zeroV, .int .i64 4])
    (by simp [results, Tryd.results23, go_sem, hs, c0, c1, c2, c3, c4, c5, c6, c7, c8, c9, c10, c11]) rfl ⟨rfl, hbz⟩

set_option maxHeartbeats 1000000 in
theorem acyclic_no (n : Nat) (a : Nat → Nat) (w : World) (h : Good n a) (hy : cyc (clo n a) n = false) :
    Calls Tryd.prog 23 #[relV n a] w fun e w' => e = .returned (.tuple #[(relV n (clo n a)), .int .i64 0]) ∧ Below w.heap.size w w' := by
  go_enter Tryd.func23, Tryd.ntmps23
  go_wp2_with fail
  refine (close_no n a _ h hy).mono ?_
  rintro e w1 ⟨rfl, hb1⟩
  have hB0 : RelB w1 (w.heap.size + 1) 0 (fun _ => 0) := Lies.below (Lies.cast (by have h := Lies.new (w.alloc (.cells (relCs n a) 25)) 25 (relCs 0 fun _ => 0); rw [World.size_alloc] at h; exact h) rfl) hb1 (by rw [World.size_alloc, World.size_alloc]; omega)
  have hbw : Below w.heap.size w w1 := (((Below.refl _ _).alloc (Nat.le_refl _) _).alloc (by simp) _).trans (hb1.mono (by simp; omega))
  have hlt : w.heap.size + 1 < w1.heap.size := by have := hb1.size; simp at this; omega
  have hs := hB0.size
  obtain ⟨c0, c1, c2, c3, c4, c5, c6, c7, c8, c9, c10, c11⟩ := hB0.rows
  have hf := hB0.free
  have HB := Lib.hid hbw
  clear hb1 hbw
  go_wp2_with fail
  clear hs c0 c1 c2 c3 c4 c5 c6 c7 c8 c9 c10 c11 hf
  refine post_fill1 (W := w1) (g := w.heap.size + 1) n (clo n a) hB0 HB.out (by omega) (by omega) ?_
  intro wz hz hbz
  have hs := hz.size
  obtain ⟨c0, c1, c2, c3, c4, c5, c6, c7, c8, c9, c10, c11⟩ := hz.rows
  exact bodyPost_ret (v := .tuple #[(relV n (clo n a)), .int .i64 0])
    (by simp [results, Tryd.results23, go_sem, hs, c0, c1, c2, c3, c4, c5, c6, c7, c8, c9, c10, c11]) rfl ⟨rfl, hbz⟩

end Go.Proofs.YtkfijolimoehmaaDoor

/-
  Where closeAcyclic finds a fault: the lists and the count answer nothing, and that fault.
-/
namespace Go.Proofs.YtkfijolimoehmaaDoor
open Go.RowKit
set_option maxRecDepth 20000

/-- closeAcyclic tells the fault E, whatever the memory. -/
def Fails (n : Int) (a : Nat → Nat) (E : Int) : Prop := ∀ w : World, Calls Tryd.prog 23 #[relV n a] w fun e w' => e = .returned (.tuple #[zeroV, .int .i64 E]) ∧ Below w.heap.size w w'
theorem fails_check {n : Int} {a : Nat → Nat} {E : Int} (hE : (E != 0) = true) (hc : Checks n a E) : Fails n a E := fun w => acyclic_err n a E w hE hc
theorem fails_round {n : Nat} {a : Nat → Nat} (h : Good n a) (hy : cyc (clo n a) n = true) : Fails n a 4 := fun w => acyclic_yes n a w h hy

set_option maxHeartbeats 1000000 in
theorem count_err (n : Int) (a : Nat → Nat) (E : Int) (w : World) (hE : (E != 0) = true) (hF : Fails n a E) :
    Calls Tryd.prog 7 #[relV n a] w fun e w' => e = .returned (.tuple #[.int .i64 0, .int .i64 E]) ∧ Below w.heap.size w w' := by
  go_enter Tryd.func7, Tryd.ntmps7
  go_wp2_with fail
  refine (hF _).mono ?_
  rintro e w1 ⟨rfl, hb1⟩
  have hw1 : Below w.heap.size w w1 := ((Below.refl _ _).alloc (Nat.le_refl _) _).trans (hb1.mono (by simp))
  have HW := Lib.hid hw1
  clear hb1 hw1
  go_wp2_with fail
  go_ret2
  exact ⟨rfl, HW.out.alloc HW.out.size _⟩

set_option maxHeartbeats 1000000 in
theorem least_err (n : Int) (a : Nat → Nat) (E : Int) (w : World) (hE : (E != 0) = true) (hF : Fails n a E) :
    Calls Tryd.prog 6 #[relV n a] w fun e w' => e = .returned (.tuple #[.slice none 0 0, .int .i64 E]) ∧ Below w.heap.size w w' := by
  go_enter Tryd.func6, Tryd.ntmps6
  go_wp2_with fail
  refine (hF _).mono ?_
  rintro e w1 ⟨rfl, hb1⟩
  have hw1 : Below w.heap.size w w1 := ((Below.refl _ _).alloc (Nat.le_refl _) _).trans (hb1.mono (by simp))
  have HW := Lib.hid hw1
  clear hb1 hw1
  go_wp2_with fail
  go_ret2
  exact ⟨rfl, HW.out.alloc HW.out.size _⟩

set_option maxHeartbeats 1000000 in
theorem apart_err (n : Int) (a : Nat → Nat) (E : Int) (w : World) (hE : (E != 0) = true) (hF : Fails n a E) :
    Calls Tryd.prog 15 #[relV n a] w fun e w' => e = .returned (.tuple #[.slice none 0 0, .int .i64 E]) ∧ Below w.heap.size w w' := by
  go_enter Tryd.func15, Tryd.ntmps15
  go_wp2_with fail
  refine (hF _).mono ?_
  rintro e w1 ⟨rfl, hb1⟩
  have hw1 : Below w.heap.size w w1 := ((Below.refl _ _).alloc (Nat.le_refl _) _).trans (hb1.mono (by simp))
  have HW := Lib.hid hw1
  clear hb1 hw1
  go_wp2_with fail
  go_ret2
  exact ⟨rfl, HW.out.alloc HW.out.size _⟩

set_option maxHeartbeats 1000000 in
theorem chains_err (n : Int) (a : Nat → Nat) (E : Int) (w : World) (hE : (E != 0) = true) (hF : Fails n a E) :
    Calls Tryd.prog 17 #[relV n a] w fun e w' => e = .returned (.tuple #[.slice none 0 0, .int .i64 E]) ∧ Below w.heap.size w w' := by
  go_enter Tryd.func17, Tryd.ntmps17
  go_wp2_with fail
  refine (hF _).mono ?_
  rintro e w1 ⟨rfl, hb1⟩
  have hw1 : Below w.heap.size w w1 := ((Below.refl _ _).alloc (Nat.le_refl _) _).trans (hb1.mono (by simp))
  have HW := Lib.hid hw1
  clear hb1 hw1
  go_wp2_with fail
  go_ret2
  exact ⟨rfl, HW.out.alloc HW.out.size _⟩

set_option maxHeartbeats 1000000 in
theorem chain_err (n : Int) (a : Nat → Nat) (E : Int) (w : World) (hE : (E != 0) = true) (hF : Fails n a E) :
    Calls Tryd.prog 14 #[relV n a] w fun e w' => e = .returned (.tuple #[.slice none 0 0, .int .i64 E]) ∧ Below w.heap.size w w' := by
  go_enter Tryd.func14, Tryd.ntmps14
  go_wp2_with fail
  refine (hF _).mono ?_
  rintro e w1 ⟨rfl, hb1⟩
  have hw1 : Below w.heap.size w w1 := ((Below.refl _ _).alloc (Nat.le_refl _) _).trans (hb1.mono (by simp))
  have HW := Lib.hid hw1
  clear hb1 hw1
  go_wp2_with fail
  go_ret2
  exact ⟨rfl, HW.out.alloc HW.out.size _⟩

set_option maxHeartbeats 1000000 in
theorem ranks_err (n : Int) (a : Nat → Nat) (E : Int) (w : World) (hE : (E != 0) = true) (hF : Fails n a E) :
    Calls Tryd.prog 16 #[relV n a] w fun e w' => e = .returned (.tuple #[.slice none 0 0, .int .i64 E]) ∧ Below w.heap.size w w' := by
  go_enter Tryd.func16, Tryd.ntmps16
  go_wp2_with fail
  refine (hF _).mono ?_
  rintro e w1 ⟨rfl, hb1⟩
  have hw1 : Below w.heap.size w w1 := ((Below.refl _ _).alloc (Nat.le_refl _) _).trans (hb1.mono (by simp))
  have HW := Lib.hid hw1
  clear hb1 hw1
  go_wp2_with fail
  go_ret2
  exact ⟨rfl, HW.out.alloc HW.out.size _⟩
end Go.Proofs.YtkfijolimoehmaaDoor

/-
  Contracts of alibref.Ahead and alibref.Between; a relation in its box.
-/
namespace Go.Proofs.YtkfijolimoehmaaDoor
open Go.RowKit
set_option maxRecDepth 20000

theorem ahead_val (s j : Nat) : (((s : Int) / 2 ^ ((j : Int).toNat)).tmod 2 == 1) = s.testBit j := by
  have e : (s : Int) / 2 ^ ((j : Int).toNat) = ((s / 2 ^ j : Nat) : Int) := by simp
  rw [e, Nat.testBit, Nat.shiftRight_eq_div_pow, Nat.and_comm, Nat.and_one_is_mod, Bool.eq_iff_iff, beq_iff_eq, bne_iff_ne]
  have : (((s / 2 ^ j : Nat) : Int)).tmod 2 = ((s / 2 ^ j % 2 : Nat) : Int) := rfl
  rw [this]
  omega

theorem ahead_any (n : Int) (c : Nat → Nat) (i j : Nat) (w : World) (hi : i < 12) (hj : j ≤ 15) :
    Calls Tryd.prog 19 #[relV n c, .int .i64 i, .int .i64 j] w fun e w' => e = .returned (.bool ((c i).testBit j)) ∧ Below w.heap.size w w' := by
  have hb := (Below.refl w.heap.size w).alloc (Nat.le_refl _) (.cells (relCs n c) 25)
  have hR : RelB (w.alloc (.cells (relCs n c) 25)) w.heap.size n c := Lies.new _ _ _
  have hk := hR.row' (k := i) hi
  have HB := Lib.hid (And.intro hb hR)
  clear hb hR
  go_enter Tryd.func19, Tryd.ntmps19
  go_wp2_with fail
  go_ret
  exact ⟨ret_bool (by rw [← ahead_val]; simp), HB.out.1⟩
theorem ahead_yes (n : Int) (c : Nat → Nat) (i j : Nat) (w : World) (hi : i < 12) (hj : j ≤ 15) (h : (c i).testBit j = true) :
    Calls Tryd.prog 19 #[relV n c, .int .i64 i, .int .i64 j] w fun e w' => e = .returned (.bool true) ∧ Below w.heap.size w w' := h ▸ ahead_any n c i j w hi hj
theorem ahead_no (n : Int) (c : Nat → Nat) (i j : Nat) (w : World) (hi : i < 12) (hj : j ≤ 15) (h : (c i).testBit j = false) :
    Calls Tryd.prog 19 #[relV n c, .int .i64 i, .int .i64 j] w fun e w' => e = .returned (.bool false) ∧ Below w.heap.size w w' := h ▸ ahead_any n c i j w hi hj

structure FsR (w0 : World) (n : Nat) (r : Nat → Nat) (w : World) : Prop where
  below : Below w0.heap.size w0 w
  rel : RelB w w0.heap.size n r
theorem FsR.next {w0 w w' : World} {n : Nat} {r : Nat → Nat} (h : FsR w0 n r w) (hb : Below w.heap.size w w') : FsR w0 n r w' :=
  ⟨h.below.trans (hb.mono h.below.size), Lies.below h.rel hb h.rel.lt⟩

theorem between_any (x lo hi : Int) (w : World) :
    Calls Tryd.prog 27 #[.int .i64 x, .int .i64 lo, .int .i64 hi] w fun e w' => e = .returned (.bool (decide (lo ≤ x ∧ x ≤ hi))) ∧ w = w' := by
  by_cases h1 : lo ≤ x
  · by_cases h2 : x ≤ hi
    · have e : decide (lo ≤ x ∧ x ≤ hi) = true := decide_eq_true ⟨h1, h2⟩
      rw [e]
      clear e
      go_enter Tryd.func27, Tryd.ntmps27
      go_wp2
      go_ret
      exact ⟨rfl, rfl⟩
    · have e : decide (lo ≤ x ∧ x ≤ hi) = false := decide_eq_false fun h => h2 h.2
      rw [e]
      clear e
      go_enter Tryd.func27, Tryd.ntmps27
      go_wp2
      go_ret
      exact ⟨rfl, rfl⟩
  · have e : decide (lo ≤ x ∧ x ≤ hi) = false := decide_eq_false fun h => h1 h.1
    rw [e]
    clear e
    go_enter Tryd.func27, Tryd.ntmps27
    go_wp2
    go_ret
    exact ⟨rfl, rfl⟩

end Go.Proofs.YtkfijolimoehmaaDoor

/-
  Plain: the closure is transitive, has all that was there, and closing it once more changes nothing.
-/
namespace Go.Proofs.YtkfijolimoehmaaDoor
open Go.RowKit
set_option maxRecDepth 20000

/-- What stands ahead of v stands ahead of all that v stands ahead of. -/
def TransV (n : Nat) (c : Nat → Nat) : Prop := ∀ i, i < n → ∀ v, v < n → (c i).testBit v = true → ∀ j, (c v).testBit j = true → (c i).testBit j = true

theorem stepV_bit (n : Nat) (a : Nat → Nat) (v i j : Nat) (hi : i < n) : (stepV n a v i).testBit j = ((a i).testBit j || ((a i).testBit v && (a v).testBit j)) := by
  unfold stepV
  by_cases h : (a i).testBit v = true
  · rw [if_pos ⟨hi, h⟩, Nat.testBit_or, h]; rfl
  · rw [if_neg (fun k => h k.2)]
    have : (a i).testBit v = false := by simpa using h
    rw [this]; simp

/-- Behind k rounds one may go through the items below k. -/
theorem warsh_trans (n : Nat) (a : Nat → Nat) : ∀ k, k ≤ n → ∀ i, i < n → ∀ v, v < k → ((warsh n a k i).testBit v = true) → ∀ j, (warsh n a k v).testBit j = true → (warsh n a k i).testBit j = true
  | 0, _ => fun _ _ v hv => by omega
  | k + 1, hk => by
    have ih := warsh_trans n a k (by omega)
    intro i hi v hv hiv j hvj
    change (stepV n (warsh n a k) k i).testBit v = true at hiv
    change (stepV n (warsh n a k) k v).testBit j = true at hvj
    show (stepV n (warsh n a k) k i).testBit j = true
    rw [stepV_bit n _ k _ _ hi] at hiv ⊢
    rw [stepV_bit n _ k _ _ (by omega)] at hvj
    simp only [Bool.or_eq_true, Bool.and_eq_true] at hiv hvj ⊢
    rcases Nat.lt_or_ge v k with hvk | hvk
    · rcases hiv with h1 | ⟨h1, h2⟩
      · rcases hvj with h3 | ⟨h3, h4⟩
        · exact .inl (ih i hi v hvk h1 j h3)
        · exact .inr ⟨ih i hi v hvk h1 k h3, h4⟩
      · rcases hvj with h3 | ⟨h3, h4⟩
        · exact .inr ⟨h1, ih k (by omega) v hvk h2 j h3⟩
        · exact .inr ⟨h1, h4⟩
    · obtain rfl : v = k := by omega
      have hik : (warsh n a v i).testBit v = true := by
        rcases hiv with h1 | ⟨h1, _⟩ <;> exact h1
      have hkj : (warsh n a v v).testBit j = true := by
        rcases hvj with h3 | ⟨_, h4⟩
        · exact h3
        · exact h4
      exact .inr ⟨hik, hkj⟩

theorem warsh_has (n : Nat) (a : Nat → Nat) (i j : Nat) (h : (a i).testBit j = true) : ∀ k, (warsh n a k i).testBit j = true
  | 0 => h
  | k + 1 => by
    show (stepV n (warsh n a k) k i).testBit j = true
    unfold stepV
    split
    · rw [Nat.testBit_or, warsh_has n a i j h k]; rfl
    · exact warsh_has n a i j h k

theorem warsh_still {n : Nat} {c : Nat → Nat} (h : TransV n c) : ∀ k, k ≤ n → warsh n c k = c
  | 0, _ => rfl
  | k + 1, hk => by
    show stepV n (warsh n c k) k = c
    rw [warsh_still h k (by omega)]
    funext i
    unfold stepV
    split
    · next hi =>
      apply Nat.eq_of_testBit_eq
      intro j
      rw [Nat.testBit_or]
      cases hj : (c i).testBit j
      · cases hk' : (c k).testBit j
        · rfl
        · rw [h i hi.1 k (by omega) hi.2 j hk'] at hj; cases hj
      · rfl
    · rfl

/-- Nothing but the first n items comes up, if so it was. -/
theorem warsh_in {n : Nat} {a : Nat → Nat} (h : ∀ i, i < n → ∀ j, (a i).testBit j = true → j < n) : ∀ k, k ≤ n → ∀ i, i < n → ∀ j, (warsh n a k i).testBit j = true → j < n
  | 0, _ => h
  | k + 1, hk => fun i hi j hj => by
    change (stepV n (warsh n a k) k i).testBit j = true at hj
    rw [stepV_bit n _ k _ _ hi] at hj
    simp only [Bool.or_eq_true, Bool.and_eq_true] at hj
    rcases hj with h1 | ⟨_, h2⟩
    · exact warsh_in h k (by omega) i hi j h1
    · exact warsh_in h k (by omega) k (by omega) j h2
theorem warsh_out {n : Nat} {a : Nat → Nat} (i : Nat) (hi : n ≤ i) : ∀ k, warsh n a k i = a i
  | 0 => rfl
  | k + 1 => by
    show stepV n (warsh n a k) k i = a i
    unfold stepV
    rw [if_neg (fun h => by omega)]
    exact warsh_out i hi k
end Go.Proofs.YtkfijolimoehmaaDoor

/-
  Plain: relations that Check lets by: their closure is one, closed, and has all that was there. The three ways of Check.
-/
namespace Go.Proofs.YtkfijolimoehmaaDoor
open Go.RowKit
set_option maxRecDepth 20000

theorem not_bit (x j : Nat) (hx : x < 65536) : (65535 - x).testBit j = (decide (j < 16) && !x.testBit j) := by
  have := Nat.testBit_two_pow_sub_succ (n := 16) hx j
  rw [show 2 ^ 16 - (x + 1) = 65535 - x by omega] at this
  exact this
theorem sub_zero {x y : Nat} (hy : y < 65536) (h : ∀ j, x.testBit j = true → y.testBit j = true) : x &&& (65535 - y) = 0 := by
  apply Nat.eq_of_testBit_eq
  intro j
  rw [Nat.testBit_and, not_bit _ _ hy, Nat.zero_testBit]
  cases hj : x.testBit j
  · rfl
  · rw [h j hj]; simp
theorem bit_lt16 {x j : Nat} (hx : x < 65536) (hj : x.testBit j = true) : j < 16 := by
  rcases Nat.lt_or_ge j 16 with h | h
  · exact h
  · have : x < 2 ^ j := Nat.lt_of_lt_of_le (show x < 2 ^ 16 from hx) (Nat.pow_le_pow_right (by omega) h)
    rw [Nat.testBit_lt_two_pow this] at hj; cases hj
theorem sub_of_zero {x y : Nat} (hx : x < 65536) (hy : y < 65536) (h : x &&& (65535 - y) = 0) (j : Nat) (hj : x.testBit j = true) : y.testBit j = true := by
  have h1 := congrArg (fun t => t.testBit j) h
  simp only [Nat.testBit_and, not_bit _ _ hy, Nat.zero_testBit, hj, bit_lt16 hx hj] at h1
  simpa using h1
theorem ones_bit (n j : Nat) : (2 ^ n - 1).testBit j = decide (j < n) := Nat.testBit_two_pow_sub_one n j
theorem ones_lt {n : Nat} (h : n ≤ 12) : 2 ^ n - 1 < 65536 := by
  have h2 : 2 ^ n ≤ 4096 := Nat.le_trans (Nat.pow_le_pow_right (by omega) h) (by decide)
  omega

theorem Good.inn {n : Nat} {a : Nat → Nat} (h : Good n a) {i : Nat} (hi : i < 12) {j : Nat} (hj : (a i).testBit j = true) : j < n := by
  have hb := h.rows i hi
  unfold rowBad at hb
  rw [Bool.or_eq_false_iff] at hb
  have h0 : a i &&& (65535 - (2 ^ n - 1)) = 0 := by simpa using hb.1
  have := sub_of_zero (h.lt i hi) (ones_lt h.le) h0 j hj
  rw [ones_bit] at this
  simpa using this
theorem Good.out {n : Nat} {a : Nat → Nat} (h : Good n a) {i : Nat} (hi : i < 12) (hn : n ≤ i) : a i = 0 := by
  have hb := h.rows i hi
  unfold rowBad at hb
  rw [Bool.or_eq_false_iff] at hb
  simpa [hn] using hb.2
theorem good_of {n : Nat} {a : Nat → Nat} (hn : n ≤ 12) (hl : ∀ i, i < 12 → a i < 65536) (hi : ∀ i, i < 12 → ∀ j, (a i).testBit j = true → j < n) (ho : ∀ i, i < 12 → n ≤ i → a i = 0) : Good n a := by
  refine ⟨hn, hl, fun i h => ?_⟩
  unfold rowBad
  rw [Bool.or_eq_false_iff]
  refine ⟨?_, ?_⟩
  · have := sub_zero (x := a i) (ones_lt hn) (fun j hj => by rw [ones_bit]; exact decide_eq_true (hi i h j hj))
    rw [this]; rfl
  · by_cases hni : n ≤ i
    · rw [ho i h hni]; simp
    · simp [hni]

theorem Good.clo_in {n : Nat} {a : Nat → Nat} (h : Good n a) {i : Nat} (hi : i < n) {j : Nat} (hj : (clo n a i).testBit j = true) : j < n :=
  warsh_in (fun _ hi _ hj => h.inn (Nat.lt_of_lt_of_le hi h.le) hj) n (Nat.le_refl _) i hi j hj
theorem Good.clo_out {n : Nat} {a : Nat → Nat} (h : Good n a) {i : Nat} (hi : i < 12) (hn : n ≤ i) : clo n a i = 0 := (warsh_out i hn n).trans (h.out hi hn)
theorem Good.clo {n : Nat} {a : Nat → Nat} (h : Good n a) : Good n (clo n a) := by
  refine good_of h.le (fun i hi => warsh_lt (B := 16) h.lt n h.le i hi) (fun i hi j hj => ?_) (fun i hi hn => h.clo_out hi hn)
  rcases Nat.lt_or_ge i n with hin | hin
  · exact h.clo_in hin hj
  · rw [h.clo_out hi hin] at hj; simp at hj
theorem clo_trans (n : Nat) (a : Nat → Nat) : TransV n (clo n a) := fun i hi v hv hiv j hj => warsh_trans n a n (Nat.le_refl _) i hi v hv hiv j hj
theorem clo_has (n : Nat) (a : Nat → Nat) (i j : Nat) (h : (a i).testBit j = true) : (clo n a i).testBit j = true := warsh_has n a i j h n
theorem clo_clo (n : Nat) (a : Nat → Nat) : clo n (clo n a) = clo n a := warsh_still (clo_trans n a) n (Nat.le_refl _)
theorem clo_sub (n : Nat) (a : Nat → Nat) (i : Nat) (h : Good n a) (hi : i < 12) : a i &&& (65535 - clo n a i) = 0 := sub_zero (h.clo.lt i hi) (clo_has n a i)

/-- Whatever the relation: Check finds a fault, or lets it by. -/
theorem check_ways (n : Int) (a : Nat → Nat) (ha : ∀ i, a i < 65536) : (∃ E, (E != 0) = true ∧ (E = 1 ∨ E = 3) ∧ Checks n a E) ∨ ∃ m : Nat, n = m ∧ Good m a := by
  by_cases h0 : n < 0
  · exact .inl ⟨1, rfl, .inl rfl, fun w => check_arg n a w (.inl h0)⟩
  by_cases h1 : 12 < n
  · exact .inl ⟨1, rfl, .inl rfl, fun w => check_arg n a w (.inr h1)⟩
  obtain ⟨m, rfl⟩ : ∃ m : Nat, n = m := ⟨n.toNat, by omega⟩
  have hm : m ≤ 12 := by omega
  by_cases hb : ∃ i, i < 12 ∧ rowBad m i (a i) = true
  · obtain ⟨i, hi, hbi⟩ := hb
    exact .inl ⟨3, rfl, .inr rfl, fun w => check_form m a w hm (fun i _ => ha i) i hi hbi⟩
  · exact .inr ⟨m, rfl, hm, fun i _ => ha i, fun i hi => by
      cases h : rowBad m i (a i)
      · rfl
      · exact absurd ⟨i, hi, h⟩ hb⟩
end Go.Proofs.YtkfijolimoehmaaDoor
