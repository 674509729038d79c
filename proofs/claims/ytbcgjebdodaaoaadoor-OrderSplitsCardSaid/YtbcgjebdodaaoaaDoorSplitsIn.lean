/-
  alibkeep.OrderSplits answers true: two items that are there.
-/
import Derived.Test.YtbcgjebdodaaoaaDoorSplits
import Derived.Test.YtbcgjebdodaaoaaDoorChains
namespace Go.Proofs.YtbcgjebdodaaoaaDoor
open Go.RowKit

/-- The values that the region 'a, b := r, r' has yielded. -/
def fillsS (a : Act) (u : Nat → Value) : Act := (((a.put (some 52) (u 0)).put (some 53) (u 1)).put (some 9) (u 2)).put (some 10) (u 3)
theorem fillsS_lit (x0 x1 x2 x3 x4 x5 x6 x7 x8 x11 x12 x13 x14 x15 x16 x17 x18 x19 x20 x21 x22 x23 x24 x25 x26 x27 x28 x29 x30 x31 x32 x33 x34 x35 x36 x37 x38 x39 x40 x41 x42 x43 x44 x45 x46 x47 x48 x49 x50 x51 : Value) (u : Nat → Value) : fillsS { tmps := #[x0, x1, x2, x3, x4, x5, x6, x7, x8, undef, undef, x11, x12, x13, x14, x15, x16, x17, x18, x19, x20, x21, x22, x23, x24, x25, x26, x27, x28, x29, x30, x31, x32, x33, x34, x35, x36, x37, x38, x39, x40, x41, x42, x43, x44, x45, x46, x47, x48, x49, x50, x51, undef, undef, undef, undef, undef, undef, undef, undef, undef, undef, undef, undef, undef, undef, undef, undef, undef, undef, undef, undef, undef, undef, undef, undef, undef, undef, undef, undef, undef, undef, undef, undef, undef, undef, undef, undef, undef, undef, undef, undef, undef, undef, undef, undef, undef, undef, undef, undef, undef, undef, undef, undef, undef, undef, undef, undef, undef, undef, undef], defers := [] } u = { tmps := #[x0, x1, x2, x3, x4, x5, x6, x7, x8, u 2, u 3, x11, x12, x13, x14, x15, x16, x17, x18, x19, x20, x21, x22, x23, x24, x25, x26, x27, x28, x29, x30, x31, x32, x33, x34, x35, x36, x37, x38, x39, x40, x41, x42, x43, x44, x45, x46, x47, x48, x49, x50, x51, u 0, u 1, undef, undef, undef, undef, undef, undef, undef, undef, undef, undef, undef, undef, undef, undef, undef, undef, undef, undef, undef, undef, undef, undef, undef, undef, undef, undef, undef, undef, undef, undef, undef, undef, undef, undef, undef, undef, undef, undef, undef, undef, undef, undef, undef, undef, undef, undef, undef, undef, undef, undef, undef, undef, undef, undef, undef, undef, undef], defers := [] } := by kernel_rfl

/-- What operation j has yielded, once it is done. -/
def SFact (n : Nat) (a : Nat → Nat) (Z : Nat) (u : Nat → Value) : Nat → World → Prop
  | 0, _ => u 0 = relV n a
  | 1, _ => u 1 = relV n a
  | 2, w => ∃ A, u 2 = .pointer (some ⟨A, 0, none⟩) ∧ (∃ m b, RelB w A m b) ∧ Z ≤ A
  | 3, w => ∃ B, u 3 = .pointer (some ⟨B, 0, none⟩) ∧ (∃ m b, RelB w B m b) ∧ Z ≤ B
  | 4, w => ∃ A, u 2 = .pointer (some ⟨A, 0, none⟩) ∧ RelB w A n a
  | _, _ => True
theorem SFact.two {n : Nat} {a : Nat → Nat} {Z : Nat} {u : Nat → Value} {w : World} {A : Nat} {m : Int} {b : Nat → Nat} (h : u 2 = .pointer (some ⟨A, 0, none⟩)) (hr : RelB w A m b) (hz : Z ≤ A) : SFact n a Z u 2 w := ⟨A, h, ⟨m, b, hr⟩, hz⟩
theorem SFact.three {n : Nat} {a : Nat → Nat} {Z : Nat} {u : Nat → Value} {w : World} {A : Nat} {m : Int} {b : Nat → Nat} (h : u 3 = .pointer (some ⟨A, 0, none⟩)) (hr : RelB w A m b) (hz : Z ≤ A) : SFact n a Z u 3 w := ⟨A, h, ⟨m, b, hr⟩, hz⟩
theorem SFact.four {n : Nat} {a : Nat → Nat} {Z : Nat} {u : Nat → Value} {w : World} {A : Nat} (h : u 2 = .pointer (some ⟨A, 0, none⟩)) (hr : RelB w A n a) : SFact n a Z u 4 w := ⟨A, h, hr⟩
theorem SFact.below {n : Nat} {a : Nat → Nat} {Z : Nat} {u : Nat → Value} {w w' : World} (hb : Below w.heap.size w w') : ∀ {j : Nat}, SFact n a Z u j w → SFact n a Z u j w'
  | 0, h => h
  | 1, h => h
  | 2, ⟨A, h1, ⟨m, b, h2⟩, h3⟩ => ⟨A, h1, ⟨m, b, Lies.below h2 hb (Lies.lt h2)⟩, h3⟩
  | 3, ⟨A, h1, ⟨m, b, h2⟩, h3⟩ => ⟨A, h1, ⟨m, b, Lies.below h2 hb (Lies.lt h2)⟩, h3⟩
  | 4, ⟨A, h1, h2⟩ => ⟨A, h1, Lies.below h2 hb (Lies.lt h2)⟩
  | _ + 5, _ => trivial
theorem SFact.upd {n : Nat} {a : Nat → Nat} {Z : Nat} {u : Nat → Value} {w : World} {i : Nat} {v : Value} : ∀ {j : Nat}, j ≠ i → ¬ (j = 4 ∧ i = 2) → SFact n a Z u j w → SFact n a Z (updV u i v) j w
  | 0, h, _, k => by show updV u i v 0 = _; unfold updV; rw [if_neg h]; exact k
  | 1, h, _, k => by show updV u i v 1 = _; unfold updV; rw [if_neg h]; exact k
  | 2, h, _, ⟨A, k, r⟩ => ⟨A, by unfold updV; rw [if_neg h]; exact k, r⟩
  | 3, h, _, ⟨A, k, r⟩ => ⟨A, by unfold updV; rw [if_neg h]; exact k, r⟩
  | 4, _, h, ⟨A, k, r⟩ => ⟨A, by unfold updV; rw [if_neg (fun e => h ⟨rfl, e.symm⟩)]; exact k, r⟩
  | _ + 5, _, _, _ => trivial

theorem fillW_other {w : World} {A B : Nat} {m : Int} {b : Nat → Nat} (h : RelB w B m b) (hne : B ≠ A) (n : Int) (a : Nat → Nat) : RelB (fillW w A n a) B m b :=
  Lies.far (Lies.far (Lies.far (Lies.far (Lies.far (Lies.far (Lies.far (Lies.far (Lies.far (Lies.far (Lies.far (Lies.far (Lies.far h hne _) hne _) hne _) hne _) hne _) hne _) hne _) hne _) hne _) hne _) hne _) hne _) hne _

structure SInv (n : Nat) (a : Nat → Nat) (a0 : Act) (W : World) (l : Array Bool) (act : Act) (w : World) : Prop where
  size : l.size = 6
  below : Below W.heap.size W w
  rest : (l.getD 5 false = true ∧ (∀ j, j < 6 → l.getD j true = true) ∧ ∃ u A B, act = fillsS a0 u ∧ u 2 = .pointer (some ⟨A, 0, none⟩) ∧ u 3 = .pointer (some ⟨B, 0, none⟩) ∧ A ≠ B ∧ W.heap.size ≤ A ∧ W.heap.size ≤ B ∧ RelB w A n a ∧ RelB w B n a) ∨
    (l.getD 5 false = false ∧ ∃ u, act = fillsS a0 u ∧ (∀ j, j < 5 → l.getD j false = true → SFact n a W.heap.size u j w) ∧ (l.getD 2 false = true → l.getD 3 false = true → u 2 ≠ u 3) ∧ (l.getD 4 false = true → l.getD 2 false = true ∧ l.getD 3 false = true))

theorem SInv.next {n : Nat} {a : Nat → Nat} {a0 act : Act} {W w w' : World} {l : Array Bool} {u : Nat → Value} {i : Nat} {v : Value} (hs : l.size = 6) (hb : Below W.heap.size W w) (h5 : l.getD 5 false = false)
    (hu : ∀ j, j < 5 → l.getD j false = true → SFact n a W.heap.size u j w) (hd : l.getD 2 false = true → l.getD 3 false = true → u 2 ≠ u 3) (h4 : l.getD 4 false = true → l.getD 2 false = true ∧ l.getD 3 false = true) (hi : i < 4) (hni : l.getD i true = false)
    (hb' : Below w.heap.size w w') (hv : SFact n a W.heap.size (updV u i v) i w') (hd' : i = 2 → l.getD 3 false = true → v ≠ u 3) (hd'' : i = 3 → l.getD 2 false = true → u 2 ≠ v) (ha : act = fillsS a0 (updV u i v)) :
    SInv n a a0 W (l.setIfInBounds i true) act w' := by
  have hnot : ¬ l.getD i false = true := fun h => by rw [flag_on h] at hni; cases hni
  have n4 : ¬ (l.getD 4 false = true ∧ i = 2) := fun ⟨h, e⟩ => hnot (by rw [e]; exact (h4 h).1)
  have n4' : ¬ (l.getD 4 false = true ∧ i = 3) := fun ⟨h, e⟩ => hnot (by rw [e]; exact (h4 h).2)
  refine ⟨by simpa using hs, hb.trans (hb'.mono hb.size), Or.inr ⟨by rw [getD_set (by omega)]; exact h5, _, ha, fun j hj hl => ?_, fun g2 g3 => ?_, fun g => ?_⟩⟩
  · by_cases e : j = i
    · subst e; exact hv
    · rw [getD_set e] at hl
      exact ((hu j hj hl).below hb').upd e (fun ⟨e4, e2⟩ => n4 ⟨by rw [← e4]; exact hl, e2⟩)
  · unfold updV
    by_cases e2 : i = 2
    · subst e2
      rw [if_pos rfl, if_neg (by decide)]
      rw [getD_set (by decide)] at g3
      exact hd' rfl g3
    · by_cases e3 : i = 3
      · subst e3
        rw [if_neg (by decide), if_pos rfl]
        rw [getD_set (by decide)] at g2
        exact hd'' rfl g2
      · rw [if_neg (fun e => e2 e.symm), if_neg (fun e => e3 e.symm)]
        rw [getD_set (fun e => e2 e.symm)] at g2
        rw [getD_set (fun e => e3 e.symm)] at g3
        exact hd g2 g3
  · rw [getD_set (by omega)] at g
    obtain ⟨k2, k3⟩ := h4 g
    rw [getD_set (fun e => n4 ⟨g, e.symm⟩), getD_set (fun e => n4' ⟨g, e.symm⟩)]
    exact ⟨k2, k3⟩

set_option maxHeartbeats 2000000 in
theorem splits_in (n : Nat) (a : Nat → Nat) (i j : Nat) (N x y f g : Int) (w : World) (h : Good n a) (hi : i < n) (hj : j < n) (hij : i ≠ j)
    (hR : ∀ w, Calls Tryd.prog 13 #[relV n a] w fun e w' => e = .returned (.tuple #[.int .i64 N, .int .i64 0]) ∧ Below w.heap.size w w')
    (hA : ∀ w, Calls Tryd.prog 13 #[relV n (put a i j)] w fun e w' => e = .returned (.tuple #[.int .i64 x, .int .i64 f]) ∧ Below w.heap.size w w')
    (hB : ∀ w, Calls Tryd.prog 13 #[relV n (put a j i)] w fun e w' => e = .returned (.tuple #[.int .i64 y, .int .i64 g]) ∧ Below w.heap.size w w')
    (hf : f = 0 ∨ f = 4 ∧ x = 0) (hg : g = 0 ∨ g = 4 ∧ y = 0) (hs : wrap64 (x + y) = N) (hT : Tab w) (hpos : 0 < w.heap.size) :
    Calls Tryd.prog 4 #[relV n a, .int .i64 i, .int .i64 j] w fun e w' => e = .returned (.bool true) ∧ Below w.heap.size w w' := by
  have HT := Lib.hid (And.intro hT hpos)
  have HC := Lib.hid (And.intro hR (And.intro hA hB))
  have HF := Lib.hid (And.intro hf (And.intro hg hs))
  have HL := Lib.hid (And.intro h.le h.lt)
  clear hT hpos hR hA hB hf hg hs h
  obtain ⟨I, hI⟩ : ∃ I : Int, I = i := ⟨_, rfl⟩
  obtain ⟨J, hJ⟩ : ∃ J : Int, J = j := ⟨_, rfl⟩
  have p1 : ¬ I < 0 := by omega
  have p2 : ¬ J < 0 := by omega
  have p3 : ¬ (n : Int) ≤ I := by omega
  have p4 : ¬ (n : Int) ≤ J := by omega
  have p5 : ¬ I = J := by omega
  have HPP := Lib.hid (And.intro p1 (And.intro p2 (And.intro p3 (And.intro p4 p5))))
  clear p1 p2 p3 p4 p5
  rw [← hI, ← hJ]
  have HI := Lib.hid (And.intro hI hJ)
  clear hI hJ
  go_enter Tryd.func4, Tryd.ntmps4
  go_wp2_with fail
  refine (HC.out.1 _).mono ?_
  rintro e w1 ⟨rfl, hb1⟩
  have hw1 : Below w.heap.size w w1 := ((Below.refl _ _).alloc (Nat.le_refl _) _).trans (hb1.mono (by simp))
  have hA1 : RelB w1 w.heap.size n a := Lies.below (Lies.new w _ _) hb1 (by simp)
  have HW1 := Lib.hid (And.intro hw1 hA1)
  clear hb1 hw1 hA1
  go_wp2_with fail
  refine (lives_true _ (HT.out.1.below HW1.out.1 HT.out.2) (Nat.lt_of_lt_of_le HT.out.2 HW1.out.1.size)).mono ?_
  rintro e w2 ⟨rfl, hb2⟩
  have hw2 := HW1.out.1.trans (hb2.mono HW1.out.1.size)
  have hA2 : RelB w2 w.heap.size n a := Lies.below HW1.out.2 hb2 HW1.out.2.lt
  have c0 := hA2.size
  obtain ⟨c1, c2, c3, c4, c5, c6, c7, c8, c9, c10, c11, c12⟩ := hA2.rows
  have HW2 := Lib.hid (And.intro hw2 hA2)
  clear hb2 hw2 HW1 hA2
  obtain ⟨p1, p2, p3, p4, p5⟩ := HPP.out
  go_wp2_with fail
  · exfalso
    have hh : (((I < 0 ∨ J < 0) ∨ (n : Int) ≤ I) ∨ (n : Int) ≤ J) ∨ (I == J) = true := (by assumption)
    obtain ⟨p1, p2, p3, p4, p5⟩ := HPP.out
    rcases hh with hh | hh
    · omega
    · exact p5 (eq_of_beq hh)
  clear p1 p2 p3 p4 p5 HPP
  generalize decide (I < 0) = q1
  generalize decide (J < 0) = q2
  generalize decide ((n : Int) ≤ I) = q3
  generalize decide ((n : Int) ≤ J) = q4
  generalize (I == J) = q5
  have hA2 : RelB w2 w.heap.size n a := HW2.out.2
  have hlt := hA2.lt
  refine region_of_act (fun A => SInv n a A w2) rfl ?h0 (fun l a w h => h.size) ?hs ?hq
  case h0 => exact ⟨by kernel_rfl, (Below.refl _ _).drew, Or.inr ⟨by kernel_rfl, fun _ => undef, by kernel_rfl, fun j hj hl => absurd hl (by rw [none_listed]; decide), fun hl => absurd hl (by rw [none_listed]; decide), fun hl => absurd hl (by rw [none_listed]; decide)⟩⟩
  case hs =>
    rintro l A w3 ⟨hls, hb3, hI⟩ k hk
    obtain ⟨hin, hp⟩ := List.mem_filter.1 hk
    have hk6 : k < 6 := List.mem_range.1 hin
    clear hk hin
    rw [Bool.and_eq_true, Bool.not_eq_true'] at hp
    obtain ⟨hp1, hp2⟩ := hp
    rcases hI with ⟨_, hall, _⟩ | ⟨h5, u, rfl, hu, hd, h4⟩
    · rw [hall k hk6] at hp1; cases hp1
    · have hA3 : RelB w3 w.heap.size n a := Lies.below hA2 hb3 hlt
      have c0 := hA3.size
      obtain ⟨c1, c2, c3, c4, c5, c6, c7, c8, c9, c10, c11, c12⟩ := hA3.rows
      rcases (by omega : k = 0 ∨ k = 1 ∨ k = 2 ∨ k = 3 ∨ k = 4 ∨ k = 5) with rfl | rfl | rfl | rfl | rfl | rfl
      · rw [fillsS_lit]
        refine wpOp_step rfl (fun K hK => ?_)
        go_simp
        refine hK _ _ ?_
        exact SInv.next (v := relV n a) hls hb3 h5 hu hd h4 (by decide) hp1 (Below.refl _ _) rfl (fun e => by cases e) (fun e => by cases e) (by kernel_rfl)
      · rw [fillsS_lit]
        refine wpOp_step rfl (fun K hK => ?_)
        go_simp
        refine hK _ _ ?_
        exact SInv.next (v := relV n a) hls hb3 h5 hu hd h4 (by decide) hp1 (Below.refl _ _) rfl (fun e => by cases e) (fun e => by cases e) (by kernel_rfl)
      · clear c0 c1 c2 c3 c4 c5 c6 c7 c8 c9 c10 c11 c12
        rw [fillsS_lit]
        refine wpOp_step rfl (fun K hK => ?_)
        go_simp
        refine hK _ _ ?_
        refine SInv.next (v := .pointer (some ⟨w3.heap.size, 0, none⟩)) hls hb3 h5 hu hd h4 (by decide) hp1 ((Below.refl _ _).alloc (Nat.le_refl _) _) ⟨_, rfl, ⟨0, fun _ => 0, Lies.new _ _ _⟩, hb3.size⟩ (fun _ h3 e => ?_) (fun e => by cases e) (by kernel_rfl)
        obtain ⟨B, e3, ⟨m, b, h3'⟩, _⟩ := hu 3 (by decide) h3
        rw [e3] at e
        have := Lies.lt h3'
        injection e with e; injection e with e; injection e with e
        omega
      · clear c0 c1 c2 c3 c4 c5 c6 c7 c8 c9 c10 c11 c12
        rw [fillsS_lit]
        refine wpOp_step rfl (fun K hK => ?_)
        go_simp
        refine hK _ _ ?_
        refine SInv.next (v := .pointer (some ⟨w3.heap.size, 0, none⟩)) hls hb3 h5 hu hd h4 (by decide) hp1 ((Below.refl _ _).alloc (Nat.le_refl _) _) ⟨_, rfl, ⟨0, fun _ => 0, Lies.new _ _ _⟩, hb3.size⟩ (fun e => by cases e) (fun _ h2 e => ?_) (by kernel_rfl)
        obtain ⟨B, e3, ⟨m, b, h3'⟩, _⟩ := hu 2 (by decide) h2
        rw [e3] at e
        have := Lies.lt h3'
        injection e with e; injection e with e; injection e with e
        omega
      · clear c0 c1 c2 c3 c4 c5 c6 c7 c8 c9 c10 c11 c12
        have hp4 : l.getD 2 false = true ∧ l.getD 0 false = true ∧ l.getD 3 false = true := by
          have := hp2
          simp [Region.binds] at this
          simp [this]
        obtain ⟨g2, g0, g3⟩ := hp4
        have e0 : u 0 = relV n a := hu 0 (by decide) g0
        obtain ⟨A, e2, ⟨m, b, hA⟩, hZ⟩ := hu 2 (by decide) g2
        obtain ⟨B, e3, ⟨m3, b3, hB⟩, hZ3⟩ := hu 3 (by decide) g3
        have hAB : A ≠ B := fun e => hd g2 g3 (by rw [e2, e3, e])
        have d0 := hA.size
        obtain ⟨d1, d2, d3, d4, d5, d6, d7, d8, d9, d10, d11, d12⟩ := hA.rows
        have df := hA.free
        rw [fillsS_lit]
        refine wpOp_step rfl (fun K hK => ?_)
        go_simp
        refine hK _ _ ?_
        clear d0 d1 d2 d3 d4 d5 d6 d7 d8 d9 d10 d11 d12 df
        change SInv n a _ w2 _ _ (fillW w3 A n a)
        refine ⟨by simpa using hls, fillW_below hb3 hZ n a, Or.inr ⟨by rw [getD_set (by decide)]; exact h5, u, by rw [same_upd e0, same_upd e2, same_upd e3]; kernel_rfl, fun j hj hl => ?_, fun k2 k3 => hd g2 g3, fun _ => ?_⟩⟩
        · have hBw : RelB (fillW w3 A n a) B m3 b3 := (fillW_other hB (fun e => hAB e.symm) n a)
          have hAw : RelB (fillW w3 A n a) A n a := (hA.fill n a)
          generalize fillW w3 A n a = w4 at hAw hBw ⊢
          rcases (by omega : j = 0 ∨ j = 1 ∨ j = 2 ∨ j = 3 ∨ j = 4) with rfl | rfl | rfl | rfl | rfl
          · exact e0
          · rw [getD_set (by decide)] at hl
            exact hu 1 (by decide) hl
          · exact SFact.two e2 hAw hZ
          · exact SFact.three e3 hBw hZ3
          · exact SFact.four e2 hAw
        · rw [getD_set (by decide), getD_set (by decide)]; exact ⟨g2, g3⟩
      · clear c0 c1 c2 c3 c4 c5 c6 c7 c8 c9 c10 c11 c12
        have hp5 : l.getD 3 false = true ∧ l.getD 1 false = true ∧ l.getD 4 false = true ∧ l.getD 0 false = true ∧ l.getD 2 false = true := by
          have := hp2
          simp [Region.binds] at this
          simp [this]
        obtain ⟨g3, g1, g4, g0, g2⟩ := hp5
        have e1 : u 1 = relV n a := hu 1 (by decide) g1
        obtain ⟨A, e2, hA⟩ := hu 4 (by decide) g4
        obtain ⟨A', e2', _, hZ⟩ := hu 2 (by decide) g2
        obtain ⟨B, e3, ⟨m3, b3, hB⟩, hZ3⟩ := hu 3 (by decide) g3
        have hA' : A' = A := by
          rw [e2] at e2'
          injection e2' with e; injection e with e; injection e with e
          exact e.symm
        subst hA'
        have hAB : A' ≠ B := fun e => hd g2 g3 (by rw [e2, e3, e])
        have d0 := hB.size
        obtain ⟨d1, d2, d3, d4, d5, d6, d7, d8, d9, d10, d11, d12⟩ := hB.rows
        have df := hB.free
        rw [fillsS_lit]
        refine wpOp_step rfl (fun K hK => ?_)
        go_simp
        refine hK _ _ ?_
        clear d0 d1 d2 d3 d4 d5 d6 d7 d8 d9 d10 d11 d12 df
        change SInv n a _ w2 _ _ (fillW w3 B n a)
        refine ⟨by simpa using hls, fillW_below hb3 hZ3 n a, Or.inl ⟨by simp [Array.getD_eq_getD_getElem?, hls], fun j hj => ?_, u, A', B, by rw [same_upd e1, same_upd e2, same_upd e3]; kernel_rfl, e2, e3, hAB, hZ, hZ3, fillW_other hA hAB n a, hB.fill n a⟩⟩
        by_cases e : j = 5
        · subst e; simp [Array.getD_eq_getD_getElem?, hls]
        · rw [getD_set e]
          refine flag_on ?_
          rcases (by omega : j = 0 ∨ j = 1 ∨ j = 2 ∨ j = 3 ∨ j = 4) with rfl | rfl | rfl | rfl | rfl <;> assumption
  case hq =>
    rintro l A w3 ⟨hls, hb3, hI⟩ hr
    rcases hI with ⟨_, hall, u, A, B, rfl, e2, e3, hAB, hZA, hZB, hA, hB⟩ | ⟨h5, u, rfl, hu⟩
    · rw [fillsS_lit]
      have HZ := Lib.hid (And.intro (HW2.out.1.trans (hb3.mono HW2.out.1.size)) (And.intro (Nat.le_trans HW2.out.1.size hZA) (Nat.le_trans HW2.out.1.size hZB)))
      clear hall hr hls hb3 hA2 hlt hZA hZB HW2
      obtain ⟨hI, hJ⟩ := HI.out
      subst hI hJ
      have hi12 : i < 12 := (by have := HL.out.1; omega)
      have hj12 : j < 12 := (by have := HL.out.1; omega)
      have hai := hA.row' (k := i) (by have := HL.out.1; omega)
      have hbj := hB.row' (k := j) (by have := HL.out.1; omega)
      have hfa := hA.free (1 + i)
      have hfb := hB.free (1 + j)
      rw [e2, e3]
      generalize u 0 = u0
      generalize u 1 = u1
      clear e2 e3 u
      have ho := or_pow (a i) j (HL.out.2 i (by have := HL.out.1; omega)) (by have := HL.out.1; omega)
      have hp := pow_u16 j (by have := HL.out.1; omega)
      have h1 : Below w.heap.size w (w3.setCell ⟨A, 1 + i, none⟩ (.int .u16 ((a i ||| 2 ^ j : Nat) : Int))).drew := (HZ.out.1.setCell HZ.out.2.1 _).drew
      have h2 : RelB (w3.setCell ⟨A, 1 + i, none⟩ (.int .u16 ((a i ||| 2 ^ j : Nat) : Int))).drew A n (put a i j) := hA.set' (by have := HL.out.1; omega) _
      have h3 : RelB (w3.setCell ⟨A, 1 + i, none⟩ (.int .u16 ((a i ||| 2 ^ j : Nat) : Int))).drew B n a := Lies.far hB (fun e => hAB e.symm) _
      have H := Lib.hid (And.intro h1 (And.intro h2 h3))
      clear h1 h2 h3 hA hB hbj hfb
      go_wp2_with fail
      go_region
      obtain ⟨h1, h2, h3⟩ := H.out
      clear H hai hfa ho hp
      generalize (w3.setCell ⟨A, 1 + i, none⟩ (.int .u16 ((a i ||| 2 ^ j : Nat) : Int))).drew = w4 at h1 h2 h3 ⊢
      have hbj := h3.row' (k := j) (by have := HL.out.1; omega)
      have hfb := h3.free (1 + j)
      have ho := or_pow (a j) i (HL.out.2 j (by have := HL.out.1; omega)) (by have := HL.out.1; omega)
      have hp := pow_u16 i (by have := HL.out.1; omega)
      have k1 : Below w.heap.size w (w4.setCell ⟨B, 1 + j, none⟩ (.int .u16 ((a j ||| 2 ^ i : Nat) : Int))).drew := (h1.setCell HZ.out.2.2 _).drew
      have k2 : RelB (w4.setCell ⟨B, 1 + j, none⟩ (.int .u16 ((a j ||| 2 ^ i : Nat) : Int))).drew B n (put a j i) := h3.set' (by have := HL.out.1; omega) _
      have k3 : RelB (w4.setCell ⟨B, 1 + j, none⟩ (.int .u16 ((a j ||| 2 ^ i : Nat) : Int))).drew A n (put a i j) := Lies.far h2 hAB _
      have H := Lib.hid (And.intro k1 (And.intro k2 k3))
      clear h1 h2 h3 k1 k2 k3
      go_wp2_with fail
      go_region
      obtain ⟨h1, h2, h3⟩ := H.out
      clear H hbj hfb ho hp
      generalize (w4.setCell ⟨B, 1 + j, none⟩ (.int .u16 ((a j ||| 2 ^ i : Nat) : Int))).drew = w5 at h1 h2 h3 ⊢
      have c0 := h3.size
      obtain ⟨c1, c2, c3, c4, c5, c6, c7, c8, c9, c10, c11, c12⟩ := h3.rows
      have H := Lib.hid (And.intro h1 h2)
      clear h1 h2 h3
      go_wp2_with fail
      clear c0 c1 c2 c3 c4 c5 c6 c7 c8 c9 c10 c11 c12
      refine (HC.out.2.1 _).mono ?_
      rintro e w6 ⟨rfl, hb6⟩
      have h1 := H.out.1.trans (hb6.mono H.out.1.size)
      have h2 : RelB w6 B n (put a j i) := Lies.below H.out.2 hb6 H.out.2.lt
      have c0 := h2.size
      obtain ⟨c1, c2, c3, c4, c5, c6, c7, c8, c9, c10, c11, c12⟩ := h2.rows
      clear H hb6 h2
      have H := Lib.hid h1
      clear h1
      go_wp2_with fail
      clear c0 c1 c2 c3 c4 c5 c6 c7 c8 c9 c10 c11 c12
      refine (HC.out.2.2 _).mono ?_
      rintro e w7 ⟨rfl, hb7⟩
      have h1 := H.out.trans (hb7.mono H.out.size)
      clear H hb7
      have H := Lib.hid h1
      clear h1
      obtain ⟨hf, hg, hs⟩ := HF.out
      clear HF HC
      rcases hf with rfl | ⟨rfl, rfl⟩
      · rcases hg with rfl | ⟨rfl, rfl⟩
        · subst hs
          go_wp2_with fail
          go_ret
          exact ⟨rfl, H.out⟩
        · subst hs
          go_wp2_with fail
          go_ret
          exact ⟨rfl, H.out⟩
      · rcases hg with rfl | ⟨rfl, rfl⟩
        · subst hs
          go_wp2_with fail
          go_ret
          exact ⟨rfl, H.out⟩
        · rw [show wrap64 (0 + 0) = 0 from (by simp [wrap64])] at hs
          subst hs
          go_wp2_with fail
          go_ret
          exact ⟨rfl, H.out⟩
    · exfalso
      unfold Region.ready at hr
      rw [List.filter_eq_nil_iff] at hr
      have k0 := hr 0 (List.mem_range.2 (by decide))
      have k1 := hr 1 (List.mem_range.2 (by decide))
      have k2 := hr 2 (List.mem_range.2 (by decide))
      have k3 := hr 3 (List.mem_range.2 (by decide))
      have k4 := hr 4 (List.mem_range.2 (by decide))
      have k5 := hr 5 (List.mem_range.2 (by decide))
      clear hr
      simp only [List.getElem?_toArray, List.getElem?_cons_zero, List.getElem?_cons_succ, Option.map_some, Option.getD_some, Region.binds] at k0 k1 k2 k3 k4 k5
      simp at k0 k1 k2 k3 k4 k5
      have no : ∀ {x : Bool}, x = true → x = false → False := fun h h' => by rw [h] at h'; cases h'
      have up : ∀ j, j < 6 → (l[j]?.getD true = false → False) → l[j]?.getD false = true := fun j hj h => by
        have h1 : l[j]?.getD true = true := by
          cases e : l[j]?.getD true
          · exact (h e).elim
          · rfl
        rw [Array.getElem?_eq_getElem (by omega)] at h1 ⊢
        exact h1
      have f0 := up 0 (by decide) (no k0)
      have f1 := up 1 (by decide) (no k1)
      have f2 := up 2 (by decide) (no k2)
      have f3 := up 3 (by decide) (no k3)
      simp [f0, f2, f3] at k4
      have f4 := up 4 (by decide) (no k4)
      simp [f0, f1, f2, f3, f4] at k5
      have f5 := up 5 (by decide) (no k5)
      rw [Array.getD_eq_getD_getElem?] at h5
      exact no f5 h5

theorem splits_all (n : Int) (a : Nat → Nat) (i j : Int) (w : World) (ha : ∀ i, a i < 65536) (hT : Tab w) (hpos : 0 < w.heap.size) :
    Calls Tryd.prog 4 #[relV n a, .int .i64 i, .int .i64 j] w fun e w' => e = .returned (.bool true) ∧ Below w.heap.size w w' := by
  rcases check_ways n a ha with ⟨E, hE, _, hc⟩ | ⟨m, rfl, h⟩
  · exact splits_err n a i j 0 E w hE (fun w => count_err n a E w hE (fails_check hE hc)) hT hpos
  · cases hy : cyc (clo m a) m with
    | true => exact splits_err m a i j 0 4 w rfl (fun w => count_err m a 4 w rfl (fails_round h hy)) hT hpos
    | false =>
      have hc : ∀ w, Calls Tryd.prog 13 #[relV m a] w fun e w' => e = .returned (.tuple #[.int .i64 (wrap64 ((orders m a : Nat) : Int)), .int .i64 0]) ∧ Below w.heap.size w w' := fun w => by
        have := count_good h w
        rw [hy] at this
        exact this
      by_cases h1 : i < 0
      · exact splits_outA m a i j _ w h1 hc hT hpos
      by_cases h2 : j < 0
      · exact splits_outB m a i j _ w h1 h2 hc hT hpos
      by_cases h3 : (m : Int) ≤ i
      · exact splits_outC m a i j _ w h1 h2 h3 hc hT hpos
      by_cases h4 : (m : Int) ≤ j
      · exact splits_outD m a i j _ w h1 h2 h3 h4 hc hT hpos
      by_cases h5 : i = j
      · exact splits_outE m a i j _ w h1 h2 h3 h4 h5 hc hT hpos
      obtain ⟨p, rfl⟩ : ∃ p : Nat, i = p := ⟨i.toNat, by omega⟩
      obtain ⟨q, rfl⟩ : ∃ q : Nat, j = q := ⟨j.toNat, by omega⟩
      have hp : p < m := by omega
      have hq : q < m := by omega
      have hpq : p ≠ q := by omega
      have hput : ∀ {p q : Nat}, p < m → q < m → ((if cyc (clo m (put a p q)) m = true then (4 : Int) else 0) = 0 ∨ (if cyc (clo m (put a p q)) m = true then (4 : Int) else 0) = 4 ∧ wrap64 ((orders m (put a p q) : Nat) : Int) = 0) := fun {p q} hp hq => by
        cases hc : cyc (clo m (put a p q)) m with
        | true =>
          refine .inr ⟨rfl, ?_⟩
          unfold orders
          rw [fin_round (h.put hp hq) hc]
          simp [wrap64]
        | false => exact .inl rfl
      refine splits_in m a p q _ _ _ _ _ w h hp hq hpq hc (fun w => count_good (h.put hp hq) w) (fun w => count_good (h.put hq hp) w) (hput hp hq) (hput hq hp) ?_ hT hpos
      rw [orders_split h hp hq hpq, wrap_add]
      congr 1
end Go.Proofs.YtbcgjebdodaaoaaDoor
