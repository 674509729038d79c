/-
  Joined by a program out of: Chains.
-/
import Derived.Test.YtkfijolimoehmaaDoorMgAM

/-
  Contract of order.Chains.
-/
namespace Go.Proofs.YtkfijolimoehmaaDoor
open Go.RowKit
set_option maxRecDepth 20000

theorem info_u16 : (Tryd.prog.info? 22).map (fun i => (i.zero, i.size, i.bytes)) = some (some (.int .u16 0), 1, 2) := by kernel_rfl
theorem made_sets (N : Nat) (hN : N ≤ 65536) (w : World) :
    (Instr.makeSlice 58 (.int .i64 N) (.int .i64 N)).run Tryd.prog w = .ok (.slice (some ⟨w.heap.size, 0, none⟩) N N) (w.alloc (.cells (setCs N fun _ => 0) 22)) := by
  obtain ⟨i0, hi, hz0, hz1, hz2⟩ := info_parts info_u16
  rw [run_make w 58 22 i0 (.int .u16 0) Tryd.underlying58 hi hz0 .i64 .i64 N N (by omega) (by omega) (by rw [hz2]; omega) (by omega), hz1]
  simp only [Int.toNat_natCast, Nat.mul_one]
  congr 3
  apply Array.ext
  · simp [setCs, madeCells]
  · intro j h1 h2
    simp [setCs, madeCells, Value.cells, Nat.mod_one]

/-- The values that the region's operations have yielded. -/
def fillsU (a : Act) (u : Nat → Value) : Act :=
  ((((((((a.put (some 19) (u 0)).put (some 20) (u 1)).put (some 21) (u 2)).put (some 22) (u 3)).put (some 23) (u 4)).put (some 24) (u 5)).put (some 25) (u 6)).put (some 26) (u 7)).put (some 7) (u 8)
def updV (u : Nat → Value) (i : Nat) (v : Value) : Nat → Value := fun j => if j = i then v else u j

theorem same_upd {u : Nat → Value} {i : Nat} {v : Value} (h : u i = v) : u = updV u i v := by
  funext j
  unfold updV
  split
  · next e => rw [e, h]
  · rfl

/-- The cells of a partition that is not filled yet. -/
abbrev part0 : Array Value := #[.int .u16 0, .int .u16 0, .int .u16 0, .int .u16 0, .int .u16 0, .int .u16 0, .int .u16 0, .int .u16 0, .int .u16 0, .int .u16 0, .int .u16 0, .int .u16 0, .slice none 0 0, .slice none 0 0]

/-- What operation j has yielded, once it is done. -/
def CFact (n : Nat) (c : Nat → Nat) (s B0 Z : Nat) : Nat → Value → World → Prop
  | 0, v, _ => v = relV n c
  | 1, v, _ => v = .int .u16 (s : Nat)
  | 2, v, _ => v = .int .i64 (pop s : Nat)
  | 3, v, w => ∃ C, v = .slice (some ⟨C, 0, none⟩) (pop s) (pop s) ∧ UTab w C (pop s) (fun _ => 0) ∧ Z ≤ C
  | 4, v, _ => v = .pointer (some ⟨B0, 0, none⟩)
  | 5, v, _ => v = .int .i64 n
  | 6, v, w => ∃ M, v = .slice (some ⟨M, 0, none⟩) n n ∧ ITab w M n (fun _ => 0) ∧ Z ≤ M
  | 7, v, w => ∃ C M, v = .agg (partCs (fun _ => 0) C (pop s) M n) ∧ UTab w C (pop s) (fun _ => 0) ∧ ITab w M n (fun _ => 0) ∧ Z ≤ C ∧ Z ≤ M
  | 8, v, w => ∃ Q, v = .pointer (some ⟨Q, 0, none⟩) ∧ Lies w Q 60 part0 ∧ Z ≤ Q
  | _, _, _ => True
theorem CFact.below {n : Nat} {c : Nat → Nat} {s B0 Z : Nat} {w w' : World} (hb : Below w.heap.size w w') : ∀ {j : Nat} {v : Value}, CFact n c s B0 Z j v w → CFact n c s B0 Z j v w'
  | 0, _, h => h
  | 1, _, h => h
  | 2, _, h => h
  | 3, _, ⟨C, h1, h2, h3⟩ => ⟨C, h1, Lies.below h2 hb (Lies.lt h2), h3⟩
  | 4, _, h => h
  | 5, _, h => h
  | 6, _, ⟨M, h1, h2, h3⟩ => ⟨M, h1, Lies.below h2 hb (Lies.lt h2), h3⟩
  | 7, _, ⟨C, M, h1, h2, h3, h4, h5⟩ => ⟨C, M, h1, Lies.below h2 hb (Lies.lt h2), Lies.below h3 hb (Lies.lt h3), h4, h5⟩
  | 8, _, ⟨Q, h1, h2, h3⟩ => ⟨Q, h1, Lies.below h2 hb (Lies.lt h2), h3⟩
  | _ + 9, _, _ => trivial

structure CInv (n : Nat) (c : Nat → Nat) (s B0 : Nat) (a0 : Act) (W : World) (l : Array Bool) (a : Act) (w : World) : Prop where
  size : l.size = 10
  below : Below W.heap.size W w
  rest : (l.getD 9 false = true ∧ (∀ j, j < 10 → l.getD j true = true) ∧ ∃ u Q C M, a = fillsU a0 u ∧ u 8 = .pointer (some ⟨Q, 0, none⟩) ∧ PSt W.heap.size Q C M (pop s) n (fun _ => 0) (fun _ => 0) (fun _ => 0) W w) ∨
    (l.getD 9 false = false ∧ ∃ u, a = fillsU a0 u ∧ ∀ j, j < 9 → l.getD j false = true → CFact n c s B0 W.heap.size j (u j) w)

theorem getD_set {l : Array Bool} {i j : Nat} (h : j ≠ i) (d : Bool) : (l.setIfInBounds i true).getD j d = l.getD j d := by
  simp [Array.getD_eq_getD_getElem?, show ¬ i = j from fun e => h e.symm]

theorem CInv.next {n : Nat} {c : Nat → Nat} {s B0 : Nat} {a0 a : Act} {W w w' : World} {l : Array Bool} {u : Nat → Value} {i : Nat} {v : Value} (hs : l.size = 10) (hb : Below W.heap.size W w) (h9 : l.getD 9 false = false)
    (hu : ∀ j, j < 9 → l.getD j false = true → CFact n c s B0 W.heap.size j (u j) w) (hi : i < 9) (hb' : Below w.heap.size w w') (hv : CFact n c s B0 W.heap.size i v w') (ha : a = fillsU a0 (updV u i v)) :
    CInv n c s B0 a0 W (l.setIfInBounds i true) a w' := by
  refine ⟨by simpa using hs, hb.trans (hb'.mono hb.size), Or.inr ⟨by rw [getD_set (by omega)]; exact h9, _, ha, fun j hj hl => ?_⟩⟩
  unfold updV
  by_cases e : j = i
  · subst e; rw [if_pos rfl]; exact hv
  · rw [if_neg e]
    rw [getD_set e] at hl
    exact (hu j hj hl).below hb'

theorem flag_on {l : Array Bool} {j : Nat} (h : l.getD j false = true) : l.getD j true = true := by
  rw [Array.getD_eq_getD_getElem?] at h ⊢
  cases e : l[j]? with
  | none => rfl
  | some b => rw [e] at h; exact h
theorem flag_in {l : Array Bool} {j : Nat} (hj : j < l.size) (h : l.getD j true = true) : l.getD j false = true := by
  rw [Array.getD_eq_getD_getElem?] at h ⊢
  rw [Array.getElem?_eq_getElem hj] at h ⊢
  exact h
theorem lies_ne {w : World} {g g' : Nat} {t t' : TypeId} {cs cs' : Array Value} (h : Lies w g t cs) (h' : Lies w g' t' cs') (ht : t ≠ t') : g ≠ g' := by
  intro e
  subst e
  unfold Lies at h h'
  rw [h] at h'
  injection h' with h'
  injection h' with _ h' _
  exact ht h'

theorem part_store {w W : World} {Z Q C M K n : Nat} (hb : Below Z W w) (h : Lies w Q 60 part0) (hc : UTab w C K (fun _ => 0)) (hm : ITab w M n (fun _ => 0)) (hQ : Z ≤ Q) (hC : Z ≤ C) (hM : Z ≤ M) :
    PSt Z Q C M K n (fun _ => 0) (fun _ => 0) (fun _ => 0) W ((((((((((((((w.setCell ⟨Q, 0, none⟩ (.int .u16 0)).setCell ⟨Q, 1, none⟩ (.int .u16 0)).setCell ⟨Q, 2, none⟩ (.int .u16 0)).setCell ⟨Q, 3, none⟩ (.int .u16 0)).setCell ⟨Q, 4, none⟩ (.int .u16 0)).setCell ⟨Q, 5, none⟩ (.int .u16 0)).setCell ⟨Q, 6, none⟩ (.int .u16 0)).setCell ⟨Q, 7, none⟩ (.int .u16 0)).setCell ⟨Q, 8, none⟩ (.int .u16 0)).setCell ⟨Q, 9, none⟩ (.int .u16 0)).setCell ⟨Q, 10, none⟩ (.int .u16 0)).setCell ⟨Q, 11, none⟩ (.int .u16 0)).setCell ⟨Q, 12, none⟩ (.slice (some ⟨C, 0, none⟩) K K)).setCell ⟨Q, 13, none⟩ (.slice (some ⟨M, 0, none⟩) n n)) := by
  have one : ∀ {w' : World} {cs : Array Value} (i : Nat) (v : Value), Below Z W w' ∧ Lies w' Q 60 cs ∧ UTab w' C K (fun _ => 0) ∧ ITab w' M n (fun _ => 0) → Below Z W (w'.setCell ⟨Q, i, none⟩ v) ∧ Lies (w'.setCell ⟨Q, i, none⟩ v) Q 60 (cs.setIfInBounds i v) ∧ UTab (w'.setCell ⟨Q, i, none⟩ v) C K (fun _ => 0) ∧ ITab (w'.setCell ⟨Q, i, none⟩ v) M n (fun _ => 0) :=
    fun i v ⟨h1, h2, h3, h4⟩ => ⟨h1.setCell hQ _, Lies.set_ h2 i v, Lies.far h3 (fun e => lies_ne h2 h3 (by decide) e.symm) _, Lies.far h4 (fun e => lies_ne h2 h4 (by decide) e.symm) _⟩
  have hqc := lies_ne h hc (by decide)
  have hqm := lies_ne h hm (by decide)
  have hcm := lies_ne hc hm (by decide)
  obtain ⟨h1, h2, h3, h4⟩ := one 13 (.slice (some ⟨M, 0, none⟩) n n) (one 12 (.slice (some ⟨C, 0, none⟩) K K) (one 11 (.int .u16 0) (one 10 (.int .u16 0) (one 9 (.int .u16 0) (one 8 (.int .u16 0) (one 7 (.int .u16 0) (one 6 (.int .u16 0) (one 5 (.int .u16 0) (one 4 (.int .u16 0) (one 3 (.int .u16 0) (one 2 (.int .u16 0) (one 1 (.int .u16 0) (one 0 (.int .u16 0) ⟨hb, h, hc, hm⟩)))))))))))))
  exact ⟨h1, Lies.cast h2 (by simp [partCs]), h3, h4, hqc, hqm, hcm, hQ, hC, hM, fun _ => by omega⟩

theorem PSt.setR {B P C M K n : Nat} {rel ch : Nat → Nat} {nu : Nat → Int} {w0 w : World} (h : PSt B P C M K n rel ch nu w0 w) {i : Nat} (hi : i < 12) (x : Nat) : PSt B P C M K n (updN rel i x) ch nu w0 (w.setCell ⟨P, i, none⟩ (.int .u16 (x : Nat))) := by
  refine ⟨h.below.setCell h.bp _, Lies.cast (Lies.set_ h.part i _) ?_, Lies.far h.chs (fun e => h.pc e.symm) _, Lies.far h.nums (fun e => h.pm e.symm) _, h.pc, h.pm, h.cm, h.bp, h.bc, h.bm, h.lt⟩
  rcases nat12 hi with rfl | rfl | rfl | rfl | rfl | rfl | rfl | rfl | rfl | rfl | rfl | rfl <;> simp [partCs, updN]

theorem fills_lit (x0 x1 x2 x3 x4 x5 x6 x7 x8 x9 x10 x11 x12 x13 x14 x15 x16 x17 x18 : Value) (u : Nat → Value) : fillsU { tmps := #[x0, x1, x2, x3, x4, x5, x6, x7, x8, x9, x10, x11, x12, x13, x14, x15, x16, x17, x18, undef, undef, undef, undef, undef, undef, undef, undef, undef, undef, undef, undef, undef, undef, undef, undef, undef, undef, undef, undef, undef, undef, undef, undef, undef, undef, undef, undef, undef], defers := [] } u = { tmps := #[x0, x1, x2, x3, x4, x5, x6, u 8, x8, x9, x10, x11, x12, x13, x14, x15, x16, x17, x18, u 0, u 1, u 2, u 3, u 4, u 5, u 6, u 7, undef, undef, undef, undef, undef, undef, undef, undef, undef, undef, undef, undef, undef, undef, undef, undef, undef, undef, undef, undef, undef], defers := [] } := by kernel_rfl

/-- For the first k items: what stands ahead of it or behind it. -/
def relUp (c b : Nat → Nat) (k : Nat) : Nat → Nat := fun j => if j < k then c j ||| b j else 0
theorem relUp_zero (c b : Nat → Nat) : relUp c b 0 = fun _ => 0 := by funext j; simp [relUp]
theorem relUp_succ (c b : Nat → Nat) (k : Nat) : relUp c b (k + 1) = updN (relUp c b k) k (c k ||| b k) := by
  funext j
  unfold relUp updN
  by_cases e : j = k
  · subst e; simp
  · simp [e, show j < k + 1 ↔ j < k by omega]
theorem relUp_lt {c b : Nat → Nat} (hc : ∀ i, i < 12 → c i < 65536) (hb : ∀ i, b i < 65536) (k : Nat) : ∀ i, i < 12 → relUp c b k i < 65536 := by
  intro i hi
  unfold relUp
  split
  · exact Nat.or_lt_two_pow (n := 16) (hc i hi) (hb i)
  · omega
/-- The chains' numbers by the closure c. -/
def chainsOf (n : Nat) (c : Nat → Nat) : PRes := placeM (relUp c (rev n c) n) (pop (wide n c)) n n (fun _ => 0) (fun _ => 0)
def listed (n : Nat) (f : Nat → Int) : List Int := (List.range n).map f
theorem IOwn.whole {w : World} {B M n : Nat} {f : Nat → Int} (h : ITab w M n f) (hB : B ≤ M) (hn : n ≤ 65536) : IOwn w B (.slice (some ⟨M, 0, none⟩) n n) (listed n f) := by
  refine ⟨by simp, Or.inr ⟨M, n, tabCs n f, by simp [listed], hB, h, by simp [listed], by unfold maxLen; omega, by simp [tabCs], ?_⟩⟩
  rw [List.take_of_length_le (by simp [tabCs, listed])]
  simp [listed, tabCs]

theorem none_listed (m j : Nat) : (Array.replicate m false).getD j false = false := by
  simp only [Array.getD_eq_getD_getElem?, Array.getElem?_replicate]
  split <;> rfl

theorem region_of_act {P : Program} {ops : Array Oper} {Q : Exit → Act → World → Prop} {a0 : Act} (I : Act → Array Bool → Act → World → Prop) {id : Nat} {w : World} (hm : P.follows .mixedOrders = true)
    (h0 : I a0 (Array.replicate ops.size false) a0 w.drew) (hz : ∀ l a w, I a0 l a w → l.size = ops.size)
    (hs : ∀ l a w, I a0 l a w → ∀ i ∈ Region.ready .any ops l, wpOp P ops Q i (fun a' w' => I a0 (l.setIfInBounds i true) a' w') a w)
    (hq : ∀ l a w, I a0 l a w → Region.ready .any ops l = [] → Q .normal a w) : (Code.region id ops true).wp P Q a0 w :=
  region_of_inv (I a0) hm hz h0 hs hq

set_option maxHeartbeats 1000000 in
theorem chains_no (n : Nat) (a : Nat → Nat) (w : World) (h : Good n a) (hy : cyc (clo n a) n = false) (hT : Tab w) (hpos : 0 < w.heap.size) :
    Calls Tryd.prog 17 #[relV n a] w fun e w' => ∃ v, e = .returned (.tuple #[v, .int .i64 0]) ∧ IOwn w' w.heap.size v (listed n (chainsOf n (clo n a)).nu) ∧ Below w.heap.size w w' := by
  have hcl := clo_lt h
  have hle := h.le
  go_enter Tryd.func17, Tryd.ntmps17
  go_wp2_with fail
  refine (acyclic_no n a _ h hy).mono ?_
  rintro e w1 ⟨rfl, hb1⟩
  have hz1 : w.heap.size + 1 ≤ w1.heap.size := by have := hb1.size; simpa using this
  have hA1 : RelB w1 w.heap.size n a := Lies.below (Lies.new w _ _) hb1 (by rw [World.size_alloc]; omega)
  have hw1 : Below w.heap.size w w1 := ((Below.refl _ _).alloc (Nat.le_refl _) _).trans (hb1.mono (by simp))
  have HH := Lib.hid (And.intro hA1 (And.intro hw1 hz1))
  have HT := Lib.hid hT
  clear hb1 hA1 hw1 hz1 hT
  go_wp2_with fail
  refine (reverse_any n (clo n a) _ hle hcl).mono ?_
  rintro e w2 ⟨rfl, hb2⟩
  obtain ⟨hA1, hw1, hz1⟩ := HH.out
  have hz2 : w1.heap.size + 1 ≤ w2.heap.size := by have := hb2.size; simpa using this
  have hA2 : RelB w2 w.heap.size n a := Lies.below (Lies.alloc hA1 _) hb2 (by simp; omega)
  have hC2 : RelB w2 w1.heap.size n (clo n a) := Lies.below (Lies.new w1 _ _) hb2 (by simp)
  have hw2 : Below w.heap.size w w2 := (hw1.alloc (by omega) _).trans (hb2.mono (by simp; omega))
  have HW : Below w.heap.size w (w2.alloc (.cells (relCs n (rev n (clo n a))) 25)) ∧ RelB (w2.alloc (.cells (relCs n (rev n (clo n a))) 25)) w.heap.size n a ∧ RelB (w2.alloc (.cells (relCs n (rev n (clo n a))) 25)) w1.heap.size n (clo n a) ∧ RelB (w2.alloc (.cells (relCs n (rev n (clo n a))) 25)) w2.heap.size n (rev n (clo n a)) ∧ w2.heap.size < (w2.alloc (.cells (relCs n (rev n (clo n a))) 25)).heap.size :=
    ⟨hw2.alloc (by omega) _, Lies.alloc hA2 _, Lies.alloc hC2 _, Lies.new _ _ _, by simp⟩
  have HH2 := Lib.hid HW
  clear hb2 hA1 HH hA2 hC2 hw2 HW
  go_wp2_with fail
  have HW := HH2.out
  clear HH2
  change Code.wp _ _ _ _ (w2.alloc (.cells (relCs n (rev n (clo n a))) 25))
  generalize w2.alloc (.cells (relCs n (rev n (clo n a))) 25) = W at HW ⊢
  obtain ⟨hbW, hA, hC, hB, hsz⟩ := HW
  have hTW : Tab W := HT.out.below hbW hpos
  have hrl := rev_lt hle (clo n a)
  have hwl := wide_lt hle (clo n a)
  generalize hbb : rev n (clo n a) = b at hB hrl ⊢
  have hcs : ∀ i, i < 12 → clo n a i < 65536 := hcl
  generalize hcc : clo n a = c at hC hcs hwl hbb ⊢
  generalize hss : wide n c = s at hwl
  generalize w1.heap.size = B4 at hC hz1 hz2 ⊢
  generalize w2.heap.size = B6 at hB hz2 hsz ⊢
  have HB := Lib.hid hbb
  have HCC := Lib.hid hcc
  have HSS := Lib.hid hss
  have HA := Lib.hid (And.intro hA (And.intro hC (And.intro hB (And.intro hbW hsz))))
  have HTW := Lib.hid hTW
  clear hbb hcc hss hA hC hB hbW HT hTW hcl
  refine region_of_act (fun A => CInv n c s w.heap.size A W) rfl ?h0 (fun l a w h => h.size) ?hs ?hq
  case h0 => exact ⟨by kernel_rfl, (Below.refl _ _).drew, Or.inr ⟨by kernel_rfl, fun _ => undef, by kernel_rfl, fun j hj hl => absurd hl (by rw [none_listed]; decide)⟩⟩
  case hs =>
    rintro l A w3 ⟨hls, hb3, hI⟩ i hi
    obtain ⟨hin, hp⟩ := List.mem_filter.1 hi
    have hi10 : i < 10 := List.mem_range.1 hin
    clear hi hin
    rw [Bool.and_eq_true, Bool.not_eq_true'] at hp
    obtain ⟨hp1, hp2⟩ := hp
    rcases hI with ⟨_, hall, _⟩ | ⟨h9, u, rfl, hu⟩
    · rw [hall i hi10] at hp1; cases hp1
    · have hC3 : RelB w3 B4 n c := Lies.below HA.out.2.1 hb3 (by omega)
      have hA3 : RelB w3 w.heap.size n a := Lies.below HA.out.1 hb3 (by omega)
      have hT3 : Tab w3 := HTW.out.below hb3 (by omega)
      have hz3 := hb3.size
      rcases (by omega : i = 0 ∨ i = 1 ∨ i = 2 ∨ i = 3 ∨ i = 4 ∨ i = 5 ∨ i = 6 ∨ i = 7 ∨ i = 8 ∨ i = 9) with rfl | rfl | rfl | rfl | rfl | rfl | rfl | rfl | rfl | rfl
      · have c0 := hC3.size
        obtain ⟨c1, c2, c3, c4, c5, c6, c7, c8, c9, c10, c11, c12⟩ := hC3.rows
        rw [fills_lit]
        refine wpOp_step rfl (fun K hK => ?_)
        go_simp
        refine hK _ _ ?_
        exact CInv.next hls hb3 h9 hu (by decide) (Below.refl _ _) rfl (by kernel_rfl)
      · have e0 : u 0 = relV n c := hu 0 (by decide) (by simpa [Region.binds] using hp2)
        rw [fills_lit]
        refine wpOp_step rfl (fun K hK => ?_)
        go_simp
        refine (widest_any n c _ hle hcs hT3 (by omega)).mono ?_
        rintro e w4 ⟨rfl, hb4⟩
        rw [show wideUp c n (2 ^ n) = s from HSS.out]
        refine hK _ _ ?_
        exact CInv.next hls hb3 h9 hu (by decide) hb4 rfl (by rw [same_upd e0]; kernel_rfl)
      · have e0 : u 1 = .int .u16 (s : Nat) := hu 1 (by decide) (by simpa [Region.binds] using hp2)
        rw [fills_lit]
        refine wpOp_step rfl (fun K hK => ?_)
        go_simp
        refine (ones_below s w3 hwl).mono ?_
        rintro e w4 ⟨rfl, hb4⟩
        refine hK _ _ ?_
        exact CInv.next hls hb3 h9 hu (by decide) hb4 rfl (by rw [same_upd e0]; kernel_rfl)
      · have e0 : u 2 = .int .i64 (pop s : Nat) := hu 2 (by decide) (by simpa [Region.binds] using hp2)
        have hmk := made_sets (pop s) (by have := pop_le s; omega) w3
        rw [fills_lit]
        refine wpOp_step rfl (fun K hK => ?_)
        go_simp
        refine hK _ _ ?_
        exact CInv.next hls hb3 h9 hu (by decide) ((Below.refl _ _).alloc (Nat.le_refl _) _) ⟨_, rfl, Lies.new _ _ _, hb3.size⟩ (by rw [same_upd e0]; kernel_rfl)
      · rw [fills_lit]
        refine wpOp_step rfl (fun K hK => ?_)
        go_simp
        refine hK _ _ ?_
        exact CInv.next hls hb3 h9 hu (by decide) (Below.refl _ _) rfl (by kernel_rfl)
      · have e0 : u 4 = .pointer (some ⟨w.heap.size, 0, none⟩) := hu 4 (by decide) (by simpa [Region.binds] using hp2)
        have c0 := hA3.size
        rw [fills_lit]
        refine wpOp_step rfl (fun K hK => ?_)
        go_simp
        refine hK _ _ ?_
        exact CInv.next hls hb3 h9 hu (by decide) (Below.refl _ _) rfl (by rw [same_upd e0]; kernel_rfl)
      · have e0 : u 5 = .int .i64 n := hu 5 (by decide) (by simpa [Region.binds] using hp2)
        have hmk := made_ints n (n : Int) rfl (by omega) w3
        rw [fills_lit]
        refine wpOp_step rfl (fun K hK => ?_)
        go_simp
        refine hK _ _ ?_
        exact CInv.next hls hb3 h9 hu (by decide) ((Below.refl _ _).alloc (Nat.le_refl _) _) ⟨_, rfl, Lies.new _ _ _, hb3.size⟩ (by rw [same_upd e0]; kernel_rfl)
      · have hp7 : l.getD 3 false = true ∧ l.getD 6 false = true := by simpa [Region.binds] using hp2
        obtain ⟨C, e3, h3, h3'⟩ := hu 3 (by decide) hp7.1
        obtain ⟨M, e6, h6, h6'⟩ := hu 6 (by decide) hp7.2
        rw [fills_lit]
        refine wpOp_step rfl (fun K hK => ?_)
        go_simp
        refine hK _ _ ?_
        exact CInv.next hls hb3 h9 hu (by decide) (Below.refl _ _) ⟨C, M, rfl, h3, h6, h3', h6'⟩ (by rw [same_upd e3, same_upd e6]; kernel_rfl)
      · rw [fills_lit]
        refine wpOp_step rfl (fun K hK => ?_)
        go_simp
        refine hK _ _ ?_
        exact CInv.next hls hb3 h9 hu (by decide) ((Below.refl _ _).alloc (Nat.le_refl _) _) ⟨_, rfl, Lies.new _ _ _, hb3.size⟩ (by kernel_rfl)
      · have hp9 : l.getD 8 false = true ∧ l.getD 7 false = true ∧ l.getD 2 false = true ∧ l.getD 0 false = true ∧ l.getD 1 false = true ∧ l.getD 3 false = true ∧ l.getD 4 false = true ∧ l.getD 5 false = true ∧ l.getD 6 false = true := by
          have := hp2
          simp [Region.binds] at this
          simp [this]
        obtain ⟨Q, e8, h8, h8'⟩ := hu 8 (by decide) hp9.1
        obtain ⟨C, M, e7, h7, h7', h7c, h7m⟩ := hu 7 (by decide) hp9.2.1
        have hf : ∀ i, w3.frozen? ⟨Q, i, none⟩ = false := fun i => Lies.frozen h8 i
        obtain ⟨d0, d1, d2, d3, d4, d5, d6, d7, d8, d9, d10, d11, d12, d13⟩ : w3.cell? ⟨Q, 0, none⟩ = some (.int .u16 0) ∧ w3.cell? ⟨Q, 1, none⟩ = some (.int .u16 0) ∧ w3.cell? ⟨Q, 2, none⟩ = some (.int .u16 0) ∧ w3.cell? ⟨Q, 3, none⟩ = some (.int .u16 0) ∧ w3.cell? ⟨Q, 4, none⟩ = some (.int .u16 0) ∧ w3.cell? ⟨Q, 5, none⟩ = some (.int .u16 0) ∧ w3.cell? ⟨Q, 6, none⟩ = some (.int .u16 0) ∧ w3.cell? ⟨Q, 7, none⟩ = some (.int .u16 0) ∧ w3.cell? ⟨Q, 8, none⟩ = some (.int .u16 0) ∧ w3.cell? ⟨Q, 9, none⟩ = some (.int .u16 0) ∧ w3.cell? ⟨Q, 10, none⟩ = some (.int .u16 0) ∧ w3.cell? ⟨Q, 11, none⟩ = some (.int .u16 0) ∧ w3.cell? ⟨Q, 12, none⟩ = some (.slice none 0 0) ∧ w3.cell? ⟨Q, 13, none⟩ = some (.slice none 0 0) :=
          ⟨Lies.cell h8 0, Lies.cell h8 1, Lies.cell h8 2, Lies.cell h8 3, Lies.cell h8 4, Lies.cell h8 5, Lies.cell h8 6, Lies.cell h8 7, Lies.cell h8 8, Lies.cell h8 9, Lies.cell h8 10, Lies.cell h8 11, Lies.cell h8 12, Lies.cell h8 13⟩
        rw [fills_lit]
        refine wpOp_step rfl (fun K hK => ?_)
        go_simp
        refine hK _ _ ?_
        refine ⟨by simpa using hls, ?_, Or.inl ⟨by simp [Array.getD_eq_getD_getElem?, hls], fun j hj => ?_, u, Q, C, M, by rw [same_upd e8, same_upd e7]; kernel_rfl, e8, ?_⟩⟩
        · exact (part_store hb3 h8 h7 h7' h8' h7c h7m).below
        · obtain ⟨g8, g7, g2, g0, g1, g3, g4, g5, g6⟩ := hp9
          by_cases e : j = 9
          · subst e; simp [Array.getD_eq_getD_getElem?, hls]
          · rw [getD_set e]
            refine flag_on ?_
            rcases (by omega : j = 0 ∨ j = 1 ∨ j = 2 ∨ j = 3 ∨ j = 4 ∨ j = 5 ∨ j = 6 ∨ j = 7 ∨ j = 8) with rfl | rfl | rfl | rfl | rfl | rfl | rfl | rfl | rfl <;> assumption
        · exact part_store hb3 h8 h7 h7' h8' h7c h7m
  case hq =>
    rintro l A w3 ⟨hls, hb3, hI⟩ hr
    rcases hI with ⟨_, hall, u, Q, C, M, rfl, e8, hP⟩ | ⟨h9, u, rfl, hu⟩
    · rw [fills_lit]
      clear hall hr hls
      have hA3 : RelB w3 w.heap.size n a := Lies.below HA.out.1 hb3 (by omega)
      have c0 := hA3.size
      have HP := Lib.hid hP
      clear hP hb3 hA3
      rw [e8]
      generalize u 0 = u0
      generalize u 1 = u1
      generalize u 2 = u2
      generalize u 3 = u3
      generalize u 4 = u4
      generalize u 5 = u5
      generalize u 6 = u6
      generalize u 7 = u7
      clear e8 u
      go_wp2_with fail
      clear c0
      go_loopw [29] (fun i wr => ∃ k : Nat, k ≤ n ∧ i = .int .i64 k ∧ PSt W.heap.size Q C M (pop s) n (relUp c b k) (fun _ => 0) (fun _ => 0) W wr) (fun i _ => n - (intOf i).toNat)
      case atStart => exact ⟨0, by omega, rfl, by rw [relUp_zero]; exact HP.out⟩
      case round =>
        clear HP
        obtain ⟨k, hk, rfl, hP⟩ := hrel
        by_cases hkn : k < n
        · have hC3 : RelB wr B4 n c := Lies.below HA.out.2.1 hP.below (by omega)
          have hB3 : RelB wr B6 n b := Lies.below HA.out.2.2.1 hP.below (by omega)
          have ck := hC3.row' (k := k) (by omega)
          have bk := hB3.row' (k := k) (by omega)
          have pk := hP.row (k := k) (by omega)
          have fk : wr.frozen? ⟨Q, k, none⟩ = false := Lies.frozen hP.part k
          have hor := u16_or_nat (c k) (b k) (hcs k (by omega)) (hrl k)
          have h1 := (hP.setR (i := k) (by omega) (c k ||| b k)).drew
          rw [← relUp_succ] at h1
          have H := Lib.hid h1
          clear hP hC3 hB3 h1
          go_wp2_with fail
          go_region
          have h1 := H.out
          clear H ck bk pk fk hor
          generalize (wr.setCell ⟨Q, k, none⟩ (.int .u16 ((c k ||| b k : Nat) : Int))).drew = w5 at h1 ⊢
          have H := Lib.hid h1
          clear h1
          go_wp2_with fail
          go_roundw
          case rel => exact ⟨k + 1, by omega, by go_num, H.out⟩
          case measure => simp [intOf]; omega
        · have hkn' : k = n := by omega
          subst hkn'
          have H := Lib.hid hP
          clear hP
          go_wp2_with fail
          refine (place_any W.heap.size Q C M (pop s) k (relUp c b k) hle (pop_le s) (relUp_lt hcs hrl k) k 0 _ _ wr (by omega) H.out.base).mono ?_
          rintro e w5 ⟨rfl, h5⟩
          have h6 := H.out.after h5
          have c13 := h6.numbers
          have H6 := Lib.hid h6
          clear h5 h6 H
          go_wp2_with fail
          go_ret2
          have h6 := H6.out
          refine ⟨_, rfl, ?_, ?_⟩
          · refine IOwn.whole ?_ ?_ (by omega)
            · have := h6.nums
              unfold chainsOf
              rw [HCC.out, HB.out, HSS.out]
              exact this
            · exact Nat.le_trans (by omega) h6.bm
          · exact HA.out.2.2.2.1.trans (h6.below.mono (by omega))
    · exfalso
      unfold Region.ready at hr
      rw [List.filter_eq_nil_iff] at hr
      have k0 := hr 0 (List.mem_range.2 (by decide))
      have k4 := hr 4 (List.mem_range.2 (by decide))
      have k8 := hr 8 (List.mem_range.2 (by decide))
      have k1 := hr 1 (List.mem_range.2 (by decide))
      have k2 := hr 2 (List.mem_range.2 (by decide))
      have k3 := hr 3 (List.mem_range.2 (by decide))
      have k5 := hr 5 (List.mem_range.2 (by decide))
      have k6 := hr 6 (List.mem_range.2 (by decide))
      have k7 := hr 7 (List.mem_range.2 (by decide))
      have k9 := hr 9 (List.mem_range.2 (by decide))
      clear hr
      simp only [List.getElem?_toArray, List.getElem?_cons_zero, List.getElem?_cons_succ, Option.map_some, Option.getD_some, Region.binds] at k0 k1 k2 k3 k4 k5 k6 k7 k8 k9
      simp at k0 k1 k2 k3 k4 k5 k6 k7 k8 k9
      have up : ∀ j, j < 10 → (l[j]?.getD true = false → False) → l[j]?.getD false = true := fun j hj h => by
        have h1 : l[j]?.getD true = true := by
          cases e : l[j]?.getD true
          · exact (h e).elim
          · rfl
        rw [Array.getElem?_eq_getElem (by omega)] at h1 ⊢
        exact h1
      have no : ∀ {x : Bool}, x = true → x = false → False := fun h h' => by rw [h] at h'; cases h'
      have f0 := up 0 (by decide) (no k0)
      have f4 := up 4 (by decide) (no k4)
      have f8 := up 8 (by decide) (no k8)
      have f1 := up 1 (by decide) (fun e => no f0 (k1 e))
      have f2 := up 2 (by decide) (fun e => no f1 (k2 e))
      have f3 := up 3 (by decide) (fun e => no f2 (k3 e))
      have f5 := up 5 (by decide) (fun e => no f4 (k5 e))
      have f6 := up 6 (by decide) (fun e => no f5 (k6 e))
      have f7 := up 7 (by decide) (fun e => no f6 (k7 e f3))
      simp [f0, f1, f2, f3, f4, f5, f6, f7, f8] at k9
      have f9 := up 9 (by decide) (no k9)
      rw [Array.getD_eq_getD_getElem?] at h9
      exact no f9 h9
end Go.Proofs.YtkfijolimoehmaaDoor
