/-
  Contract of order.Ranks.
-/
import Derived.Test.YtbcgjebdodaaoaaDoorLongest
import Derived.Test.YtbcgjebdodaaoaaDoorChains
namespace Go.Proofs.YtbcgjebdodaaoaaDoor
open Go.RowKit

/-- The ranks by the closure c. -/
def rankOf (n : Nat) (c : Nat → Nat) (i : Nat) : Int := ((len (rev n c) n i : Nat) : Int) - 1

def firstK (f : Nat → Int) (k : Nat) : Nat → Int := fun i => if i < k then f i else 0
theorem firstK_zero (f : Nat → Int) : firstK f 0 = fun _ => 0 := by funext i; simp [firstK]
theorem firstK_succ (f : Nat → Int) (k : Nat) : firstK f (k + 1) = upd (firstK f k) k (f k) := by
  funext i
  unfold firstK upd
  by_cases e : i = k
  · subst e; simp
  · simp [e, show i < k + 1 ↔ i < k by omega]
theorem listed_congr {n : Nat} {f g : Nat → Int} (h : ∀ i, i < n → f i = g i) : listed n f = listed n g := by
  unfold listed
  exact List.map_congr_left fun i hi => h i (List.mem_range.1 hi)

structure KRel (w : World) (L M n : Nat) (a f : Nat → Nat) (nu : Nat → Int) (wr : World) : Prop where
  below : Below w.heap.size w wr
  arg : RelB wr w.heap.size n a
  len : LenB wr L f
  out : ITab wr M n nu
  ml : M ≠ L
  mw : w.heap.size < M
theorem KRel.set_ {w wr : World} {L M n : Nat} {a f : Nat → Nat} {nu : Nat → Int} (h : KRel w L M n a f nu wr) (i : Nat) (x : Int) : KRel w L M n a f (upd nu i x) (wr.setCell ⟨M, i, none⟩ (.int .i64 x)) := by
  have h2 := h.mw
  exact ⟨h.below.setCell (show w.heap.size ≤ M by omega) _, Lies.far h.arg (show w.heap.size ≠ M by omega) _, Lies.far h.len (fun e => h.ml e.symm) _, h.out.set_ i x, h.ml, h2⟩
theorem KRel.drew {w wr : World} {L M n : Nat} {a f : Nat → Nat} {nu : Nat → Int} (h : KRel w L M n a f nu wr) : KRel w L M n a f nu wr.drew := ⟨h.below.drew, h.arg, h.len, h.out, h.ml, h.mw⟩

set_option maxHeartbeats 1000000 in
theorem ranks_no (n : Nat) (a : Nat → Nat) (w : World) (h : Good n a) (hy : cyc (clo n a) n = false) :
    Calls Tryd.prog 23 #[relV n a] w fun e w' => ∃ v, e = .returned (.tuple #[v, .int .i64 0]) ∧ IOwn w' w.heap.size v (listed n (rankOf n (clo n a))) ∧ Below w.heap.size w w' := by
  have hcl := clo_lt h
  have hle := h.le
  have hs := strict_clo h hy
  have HS := Lib.hid hs
  clear hs
  go_enter Tryd.func23, Tryd.ntmps23
  go_wp2_with fail
  refine (acyclic_no n a _ h hy).mono ?_
  rintro e w1 ⟨rfl, hb1⟩
  have hz1 : w.heap.size + 1 ≤ w1.heap.size := by have := hb1.size; simpa using this
  have hA1 : RelB w1 w.heap.size n a := Lies.below (Lies.new w _ _) hb1 (by rw [World.size_alloc]; omega)
  have hw1 : Below w.heap.size w w1 := ((Below.refl _ _).alloc (Nat.le_refl _) _).trans (hb1.mono (by simp))
  have HH := Lib.hid (And.intro hA1 (And.intro hw1 hz1))
  clear hb1 hA1 hw1 hz1
  go_wp2_with fail
  refine (reverse_any n (clo n a) _ hle hcl).mono ?_
  rintro e w2 ⟨rfl, hb2⟩
  obtain ⟨hA1, hw1, hz1⟩ := HH.out
  have hz2 : w1.heap.size + 1 ≤ w2.heap.size := by have := hb2.size; simpa using this
  have hA2 : RelB w2 w.heap.size n a := Lies.below (Lies.alloc hA1 _) hb2 (by simp; omega)
  have hw2 : Below w.heap.size w w2 := (hw1.alloc (by omega) _).trans (hb2.mono (by simp; omega))
  have HH2 := Lib.hid (And.intro hA2 hw2)
  clear hb2 hA1 hw1 HH hA2 hw2 hz1 hz2
  go_wp2_with fail
  refine (longest_any n (rev n (clo n a)) _ hle (fun i _ => rev_lt hle (clo n a) i) HS.out.turn.irr).mono ?_
  rintro e w3 ⟨rfl, hb3⟩
  have hA3 : RelB w3 w.heap.size n a := Lies.below HH2.out.1 hb3 HH2.out.1.lt
  have hw3 : Below w.heap.size w w3 := HH2.out.2.trans (hb3.mono HH2.out.2.size)
  have hsz := hA3.size
  have hlt := hA3.lt
  have hmk := fun W : World => made_ints n (n : Int) rfl (by omega) W
  have HH3 := Lib.hid (And.intro hA3 hw3)
  clear hb3 HH2 hA3 hw3
  go_wp2_with fail
  have h4 : KRel w w3.heap.size (w3.heap.size + 1) n a (rnd (rev n (clo n a)) n n) (firstK (fun i => ((rnd (rev n (clo n a)) n n i : Nat) : Int) - 1) 0) ((w3.alloc (.cells (lenCs (rnd (rev n (clo n a)) n n)) 60)).alloc (.cells (tabCs n fun _ => 0) 3)) := by
    have h1 : LenB (w3.alloc (.cells (lenCs (rnd (rev n (clo n a)) n n)) 60)) w3.heap.size (rnd (rev n (clo n a)) n n) := Lies.new _ _ _
    have h2 := Lies.new (w3.alloc (.cells (lenCs (rnd (rev n (clo n a)) n n)) 60)) 3 (tabCs n fun _ => 0)
    rw [World.size_alloc] at h2
    have hz := HH3.out.2.size
    exact ⟨(HH3.out.2.alloc hz _).alloc (by simp; omega) _, Lies.alloc (Lies.alloc HH3.out.1 _) _, Lies.alloc h1 _, by rw [firstK_zero]; exact h2, by omega, by omega⟩
  change Code.wp _ _ _ _ ((w3.alloc (.cells (lenCs (rnd (rev n (clo n a)) n n)) 60)).alloc (.cells (tabCs n fun _ => 0) 3))
  generalize (w3.alloc (.cells (lenCs (rnd (rev n (clo n a)) n n)) 60)).alloc (.cells (tabCs n fun _ => 0) 3) = W at h4 ⊢
  generalize w3.heap.size + 1 = M at h4 ⊢
  generalize w3.heap.size = L at h4 ⊢
  clear HH3 hsz hlt hmk
  have hbd := fun i => rnd_bound (c := rev n (clo n a)) (n := n) n i
  have hbB : ∀ i, rnd (rev n (clo n a)) n n i ≤ 2000 := fun i => by
    have h1 := hbd i
    have h2 : n * (n * (n + 1)) ≤ 12 * (12 * 13) := Nat.mul_le_mul hle (Nat.mul_le_mul hle (by omega))
    omega
  have hlen : listed n (firstK (fun i => ((rnd (rev n (clo n a)) n n i : Nat) : Int) - 1) n) = listed n (rankOf n (clo n a)) := listed_congr fun i hi => by
    unfold firstK rankOf
    rw [if_pos hi]
    show ((rnd (rev n (clo n a)) n n i : Nat) : Int) - 1 = _
    rw [rnd_len HS.out.turn hi]
  have HL := Lib.hid hlen
  clear hlen hbd
  generalize rnd (rev n (clo n a)) n n = f at h4 hbB HL ⊢
  have HB := Lib.hid hbB
  clear hbB
  go_loopw [25] (fun i wr => ∃ k : Nat, k ≤ n ∧ i = .int .i64 k ∧ KRel w L M n a f (firstK (fun i => ((f i : Nat) : Int) - 1) k) wr) (fun i _ => n - (intOf i).toNat)
  case atStart => exact ⟨0, by omega, rfl, h4⟩
  case round =>
    clear h4
    obtain ⟨k, hk, rfl, hR⟩ := hrel
    by_cases hkn : k < n
    · have hk12 : k < 12 := by omega
      have fk := hR.len.at_ hk12
      have mk := hR.out.cell hkn
      have mf := hR.out.free k
      have hbk := HB.out k
      have h1 := hR.set_ k (((f k : Nat) : Int) - 1)
      rw [show upd (firstK (fun i => ((f i : Nat) : Int) - 1) k) k (((f k : Nat) : Int) - 1) = firstK (fun i => ((f i : Nat) : Int) - 1) (k + 1) from (firstK_succ _ k).symm] at h1
      have H := Lib.hid h1
      clear hR h1
      go_wp2_with fail
      go_roundw
      case rel => exact ⟨k + 1, by omega, by go_num, H.out⟩
      case measure => simp [intOf]; omega
    · have hkn' : k = n := by omega
      subst hkn'
      have H := Lib.hid hR
      clear hR
      go_wp2_with fail
      go_ret2
      refine ⟨_, rfl, ?_, H.out.below⟩
      rw [← HL.out]
      exact IOwn.whole H.out.out (by have := H.out.mw; omega) (by omega)
end Go.Proofs.YtbcgjebdodaaoaaDoor
