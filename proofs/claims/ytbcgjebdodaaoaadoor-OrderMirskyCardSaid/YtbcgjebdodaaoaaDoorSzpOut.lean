/-
  alibkeep.OrderSzpilrajn answers true: nothing is round.
-/
import Derived.Test.YtbcgjebdodaaoaaDoorSzp
import Derived.Test.YtbcgjebdodaaoaaDoorClosed
namespace Go.Proofs.YtbcgjebdodaaoaaDoor
open Go.RowKit

/-- The relation, its closure, the order that was found. -/
structure SzR (w0 : World) (n : Nat) (a c : Nat → Nat) (C : Nat) (A : Option Addr) (cap : Nat) (xs : List Int) (w : World) : Prop where
  two : TwoR w0 n n a c w0.heap.size C w
  rd : IRd w w.heap.size (.slice A n cap) xs
theorem SzR.next {w0 w w' : World} {n : Nat} {a c : Nat → Nat} {C : Nat} {A : Option Addr} {cap : Nat} {xs : List Int} (h : SzR w0 n a c C A cap xs w) (hb : Below w.heap.size w w') : SzR w0 n a c C A cap xs w' :=
  ⟨h.two.next hb, (h.rd.below hb).mono hb.size⟩
theorem IRd.len {w : World} {B n : Nat} {v : Value} {xs : List Int} (h : IRd w B v xs) (hn : xs.length = n) : ∃ A cap, v = .slice A n cap ∧ IRd w B (.slice A n cap) xs := by
  subst hn
  obtain ⟨A, cap, rfl, h2⟩ := h
  exact ⟨A, cap, rfl, A, cap, rfl, h2⟩

set_option maxRecDepth 10000 in
set_option maxHeartbeats 1000000 in
theorem szp_outA (n : Nat) (a c : Nat → Nat) (i j N : Int) (xs : List Int) (w : World) (h1 : i < 0)
    (hCl : ∀ w, Calls Tryd.prog 11 #[relV n a] w fun e w' => e = .returned (.tuple #[relV n c, .bool false, .int .i64 0]) ∧ Below w.heap.size w w')
    (hLe : ∀ w, Tab w → 0 < w.heap.size → Calls Tryd.prog 14 #[relV n a] w fun e w' => ∃ v, e = .returned (.tuple #[v, .int .i64 0]) ∧ IOwn w' w.heap.size v xs ∧ Below w.heap.size w w')
    (hCo : ∀ w, Calls Tryd.prog 13 #[relV n a] w fun e w' => e = .returned (.tuple #[.int .i64 N, .int .i64 0]) ∧ Below w.heap.size w w') (hN : ¬ N < 1) (hlen : xs.length = n) (hle : n ≤ 12) (hT : Tab w) (hpos : 0 < w.heap.size) :
    Calls Tryd.prog 7 #[relV n a, .int .i64 i, .int .i64 j] w fun e w' => e = .returned (.bool true) ∧ Below w.heap.size w w' := by
  have HT := Lib.hid (And.intro hT hpos)
  have HX := Lib.hid (And.intro hlen hle)
  clear hT hpos hlen hle
  go_enter Tryd.func7, Tryd.ntmps7
  have H := Lib.hid (OneR.start w n a)
  go_wp2_with fail
  refine (hCl _).mono ?_
  rintro e w1 ⟨rfl, hb1⟩
  have h1 := H.out.next hb1
  clear H hb1
  have hlt := h1.one.lt
  have c0 := h1.one.size
  obtain ⟨c1, c2, c3, c4, c5, c6, c7, c8, c9, c10, c11, c12⟩ := h1.one.rows
  have H := Lib.hid h1
  clear h1
  go_wp2_with fail
  clear hlt c0 c1 c2 c3 c4 c5 c6 c7 c8 c9 c10 c11 c12
  have h1 : TwoR w n n a c w.heap.size w1.heap.size (w1.alloc (.cells (relCs n c) 25)) := ⟨H.out.below.alloc H.out.below.size _, Lies.alloc H.out.one _, Lies.new _ _ _⟩
  clear H
  change Calls _ _ _ (w1.alloc (.cells (relCs n c) 25)) _
  generalize w1.alloc (.cells (relCs n c) 25) = W1 at h1 ⊢
  generalize w1.heap.size = C at h1 ⊢
  refine (hLe W1 (h1.tab HT.out) (h1.pos HT.out)).mono ?_
  rintro e w2 ⟨v, rfl, ho, hb2⟩
  obtain ⟨A, cap, rfl, hrd⟩ := ho.rd.len HX.out.1
  have h2 : SzR w n a c C A cap xs w2 := ⟨h1.next hb2, hrd⟩
  clear h1 hb2 ho hrd
  have hlt := h2.two.one.lt
  have c0 := h2.two.one.size
  obtain ⟨c1, c2, c3, c4, c5, c6, c7, c8, c9, c10, c11, c12⟩ := h2.two.one.rows
  have H := Lib.hid h2
  clear h2
  go_wp2_with fail
  clear hlt c0 c1 c2 c3 c4 c5 c6 c7 c8 c9 c10 c11 c12
  refine (hCo _).mono ?_
  rintro e w3 ⟨rfl, hb3⟩
  have h3 := H.out.next hb3
  clear H hb3
  have hlt := h3.two.one.lt
  have c0 := h3.two.one.size
  obtain ⟨c1, c2, c3, c4, c5, c6, c7, c8, c9, c10, c11, c12⟩ := h3.two.one.rows
  have H := Lib.hid h3
  clear h3
  go_wp2_with fail
  clear hlt c0 c1 c2 c3 c4 c5 c6 c7 c8 c9 c10 c11 c12
  refine (lives_true _ (H.out.two.tab HT.out) (H.out.two.pos HT.out)).mono ?_
  rintro e w4 ⟨rfl, hb4⟩
  have h4 := H.out.next hb4
  clear H hb4
  have hlt := h4.two.one.lt
  have c0 := h4.two.one.size
  obtain ⟨c1, c2, c3, c4, c5, c6, c7, c8, c9, c10, c11, c12⟩ := h4.two.one.rows
  have H := Lib.hid h4
  clear h4
  go_wp2_with fail
  go_ret
  exact ⟨rfl, H.out.two.below⟩

set_option maxRecDepth 10000 in
set_option maxHeartbeats 1000000 in
theorem szp_outB (n : Nat) (a c : Nat → Nat) (i j N : Int) (xs : List Int) (w : World) (h1 : ¬ i < 0) (h2 : j < 0)
    (hCl : ∀ w, Calls Tryd.prog 11 #[relV n a] w fun e w' => e = .returned (.tuple #[relV n c, .bool false, .int .i64 0]) ∧ Below w.heap.size w w')
    (hLe : ∀ w, Tab w → 0 < w.heap.size → Calls Tryd.prog 14 #[relV n a] w fun e w' => ∃ v, e = .returned (.tuple #[v, .int .i64 0]) ∧ IOwn w' w.heap.size v xs ∧ Below w.heap.size w w')
    (hCo : ∀ w, Calls Tryd.prog 13 #[relV n a] w fun e w' => e = .returned (.tuple #[.int .i64 N, .int .i64 0]) ∧ Below w.heap.size w w') (hN : ¬ N < 1) (hlen : xs.length = n) (hle : n ≤ 12) (hT : Tab w) (hpos : 0 < w.heap.size) :
    Calls Tryd.prog 7 #[relV n a, .int .i64 i, .int .i64 j] w fun e w' => e = .returned (.bool true) ∧ Below w.heap.size w w' := by
  have HT := Lib.hid (And.intro hT hpos)
  have HX := Lib.hid (And.intro hlen hle)
  clear hT hpos hlen hle
  go_enter Tryd.func7, Tryd.ntmps7
  have H := Lib.hid (OneR.start w n a)
  go_wp2_with fail
  refine (hCl _).mono ?_
  rintro e w1 ⟨rfl, hb1⟩
  have h1 := H.out.next hb1
  clear H hb1
  have hlt := h1.one.lt
  have c0 := h1.one.size
  obtain ⟨c1, c2, c3, c4, c5, c6, c7, c8, c9, c10, c11, c12⟩ := h1.one.rows
  have H := Lib.hid h1
  clear h1
  go_wp2_with fail
  clear hlt c0 c1 c2 c3 c4 c5 c6 c7 c8 c9 c10 c11 c12
  have h1 : TwoR w n n a c w.heap.size w1.heap.size (w1.alloc (.cells (relCs n c) 25)) := ⟨H.out.below.alloc H.out.below.size _, Lies.alloc H.out.one _, Lies.new _ _ _⟩
  clear H
  change Calls _ _ _ (w1.alloc (.cells (relCs n c) 25)) _
  generalize w1.alloc (.cells (relCs n c) 25) = W1 at h1 ⊢
  generalize w1.heap.size = C at h1 ⊢
  refine (hLe W1 (h1.tab HT.out) (h1.pos HT.out)).mono ?_
  rintro e w2 ⟨v, rfl, ho, hb2⟩
  obtain ⟨A, cap, rfl, hrd⟩ := ho.rd.len HX.out.1
  have h2 : SzR w n a c C A cap xs w2 := ⟨h1.next hb2, hrd⟩
  clear h1 hb2 ho hrd
  have hlt := h2.two.one.lt
  have c0 := h2.two.one.size
  obtain ⟨c1, c2, c3, c4, c5, c6, c7, c8, c9, c10, c11, c12⟩ := h2.two.one.rows
  have H := Lib.hid h2
  clear h2
  go_wp2_with fail
  clear hlt c0 c1 c2 c3 c4 c5 c6 c7 c8 c9 c10 c11 c12
  refine (hCo _).mono ?_
  rintro e w3 ⟨rfl, hb3⟩
  have h3 := H.out.next hb3
  clear H hb3
  have hlt := h3.two.one.lt
  have c0 := h3.two.one.size
  obtain ⟨c1, c2, c3, c4, c5, c6, c7, c8, c9, c10, c11, c12⟩ := h3.two.one.rows
  have H := Lib.hid h3
  clear h3
  go_wp2_with fail
  clear hlt c0 c1 c2 c3 c4 c5 c6 c7 c8 c9 c10 c11 c12
  refine (lives_true _ (H.out.two.tab HT.out) (H.out.two.pos HT.out)).mono ?_
  rintro e w4 ⟨rfl, hb4⟩
  have h4 := H.out.next hb4
  clear H hb4
  have hlt := h4.two.one.lt
  have c0 := h4.two.one.size
  obtain ⟨c1, c2, c3, c4, c5, c6, c7, c8, c9, c10, c11, c12⟩ := h4.two.one.rows
  have H := Lib.hid h4
  clear h4
  go_wp2_with fail
  go_ret
  exact ⟨rfl, H.out.two.below⟩

set_option maxRecDepth 10000 in
set_option maxHeartbeats 1000000 in
theorem szp_outC (n : Nat) (a c : Nat → Nat) (i j N : Int) (xs : List Int) (w : World) (h1 : ¬ i < 0) (h2 : ¬ j < 0) (h3 : (n : Int) ≤ i)
    (hCl : ∀ w, Calls Tryd.prog 11 #[relV n a] w fun e w' => e = .returned (.tuple #[relV n c, .bool false, .int .i64 0]) ∧ Below w.heap.size w w')
    (hLe : ∀ w, Tab w → 0 < w.heap.size → Calls Tryd.prog 14 #[relV n a] w fun e w' => ∃ v, e = .returned (.tuple #[v, .int .i64 0]) ∧ IOwn w' w.heap.size v xs ∧ Below w.heap.size w w')
    (hCo : ∀ w, Calls Tryd.prog 13 #[relV n a] w fun e w' => e = .returned (.tuple #[.int .i64 N, .int .i64 0]) ∧ Below w.heap.size w w') (hN : ¬ N < 1) (hlen : xs.length = n) (hle : n ≤ 12) (hT : Tab w) (hpos : 0 < w.heap.size) :
    Calls Tryd.prog 7 #[relV n a, .int .i64 i, .int .i64 j] w fun e w' => e = .returned (.bool true) ∧ Below w.heap.size w w' := by
  have HT := Lib.hid (And.intro hT hpos)
  have HX := Lib.hid (And.intro hlen hle)
  clear hT hpos hlen hle
  go_enter Tryd.func7, Tryd.ntmps7
  have H := Lib.hid (OneR.start w n a)
  go_wp2_with fail
  refine (hCl _).mono ?_
  rintro e w1 ⟨rfl, hb1⟩
  have h1 := H.out.next hb1
  clear H hb1
  have hlt := h1.one.lt
  have c0 := h1.one.size
  obtain ⟨c1, c2, c3, c4, c5, c6, c7, c8, c9, c10, c11, c12⟩ := h1.one.rows
  have H := Lib.hid h1
  clear h1
  go_wp2_with fail
  clear hlt c0 c1 c2 c3 c4 c5 c6 c7 c8 c9 c10 c11 c12
  have h1 : TwoR w n n a c w.heap.size w1.heap.size (w1.alloc (.cells (relCs n c) 25)) := ⟨H.out.below.alloc H.out.below.size _, Lies.alloc H.out.one _, Lies.new _ _ _⟩
  clear H
  change Calls _ _ _ (w1.alloc (.cells (relCs n c) 25)) _
  generalize w1.alloc (.cells (relCs n c) 25) = W1 at h1 ⊢
  generalize w1.heap.size = C at h1 ⊢
  refine (hLe W1 (h1.tab HT.out) (h1.pos HT.out)).mono ?_
  rintro e w2 ⟨v, rfl, ho, hb2⟩
  obtain ⟨A, cap, rfl, hrd⟩ := ho.rd.len HX.out.1
  have h2 : SzR w n a c C A cap xs w2 := ⟨h1.next hb2, hrd⟩
  clear h1 hb2 ho hrd
  have hlt := h2.two.one.lt
  have c0 := h2.two.one.size
  obtain ⟨c1, c2, c3, c4, c5, c6, c7, c8, c9, c10, c11, c12⟩ := h2.two.one.rows
  have H := Lib.hid h2
  clear h2
  go_wp2_with fail
  clear hlt c0 c1 c2 c3 c4 c5 c6 c7 c8 c9 c10 c11 c12
  refine (hCo _).mono ?_
  rintro e w3 ⟨rfl, hb3⟩
  have h3 := H.out.next hb3
  clear H hb3
  have hlt := h3.two.one.lt
  have c0 := h3.two.one.size
  obtain ⟨c1, c2, c3, c4, c5, c6, c7, c8, c9, c10, c11, c12⟩ := h3.two.one.rows
  have H := Lib.hid h3
  clear h3
  go_wp2_with fail
  clear hlt c0 c1 c2 c3 c4 c5 c6 c7 c8 c9 c10 c11 c12
  refine (lives_true _ (H.out.two.tab HT.out) (H.out.two.pos HT.out)).mono ?_
  rintro e w4 ⟨rfl, hb4⟩
  have h4 := H.out.next hb4
  clear H hb4
  have hlt := h4.two.one.lt
  have c0 := h4.two.one.size
  obtain ⟨c1, c2, c3, c4, c5, c6, c7, c8, c9, c10, c11, c12⟩ := h4.two.one.rows
  have H := Lib.hid h4
  clear h4
  go_wp2_with fail
  go_ret
  exact ⟨rfl, H.out.two.below⟩

set_option maxRecDepth 10000 in
set_option maxHeartbeats 1000000 in
theorem szp_outD (n : Nat) (a c : Nat → Nat) (i j N : Int) (xs : List Int) (w : World) (h1 : ¬ i < 0) (h2 : ¬ j < 0) (h3 : ¬ (n : Int) ≤ i) (h4 : (n : Int) ≤ j)
    (hCl : ∀ w, Calls Tryd.prog 11 #[relV n a] w fun e w' => e = .returned (.tuple #[relV n c, .bool false, .int .i64 0]) ∧ Below w.heap.size w w')
    (hLe : ∀ w, Tab w → 0 < w.heap.size → Calls Tryd.prog 14 #[relV n a] w fun e w' => ∃ v, e = .returned (.tuple #[v, .int .i64 0]) ∧ IOwn w' w.heap.size v xs ∧ Below w.heap.size w w')
    (hCo : ∀ w, Calls Tryd.prog 13 #[relV n a] w fun e w' => e = .returned (.tuple #[.int .i64 N, .int .i64 0]) ∧ Below w.heap.size w w') (hN : ¬ N < 1) (hlen : xs.length = n) (hle : n ≤ 12) (hT : Tab w) (hpos : 0 < w.heap.size) :
    Calls Tryd.prog 7 #[relV n a, .int .i64 i, .int .i64 j] w fun e w' => e = .returned (.bool true) ∧ Below w.heap.size w w' := by
  have HT := Lib.hid (And.intro hT hpos)
  have HX := Lib.hid (And.intro hlen hle)
  clear hT hpos hlen hle
  go_enter Tryd.func7, Tryd.ntmps7
  have H := Lib.hid (OneR.start w n a)
  go_wp2_with fail
  refine (hCl _).mono ?_
  rintro e w1 ⟨rfl, hb1⟩
  have h1 := H.out.next hb1
  clear H hb1
  have hlt := h1.one.lt
  have c0 := h1.one.size
  obtain ⟨c1, c2, c3, c4, c5, c6, c7, c8, c9, c10, c11, c12⟩ := h1.one.rows
  have H := Lib.hid h1
  clear h1
  go_wp2_with fail
  clear hlt c0 c1 c2 c3 c4 c5 c6 c7 c8 c9 c10 c11 c12
  have h1 : TwoR w n n a c w.heap.size w1.heap.size (w1.alloc (.cells (relCs n c) 25)) := ⟨H.out.below.alloc H.out.below.size _, Lies.alloc H.out.one _, Lies.new _ _ _⟩
  clear H
  change Calls _ _ _ (w1.alloc (.cells (relCs n c) 25)) _
  generalize w1.alloc (.cells (relCs n c) 25) = W1 at h1 ⊢
  generalize w1.heap.size = C at h1 ⊢
  refine (hLe W1 (h1.tab HT.out) (h1.pos HT.out)).mono ?_
  rintro e w2 ⟨v, rfl, ho, hb2⟩
  obtain ⟨A, cap, rfl, hrd⟩ := ho.rd.len HX.out.1
  have h2 : SzR w n a c C A cap xs w2 := ⟨h1.next hb2, hrd⟩
  clear h1 hb2 ho hrd
  have hlt := h2.two.one.lt
  have c0 := h2.two.one.size
  obtain ⟨c1, c2, c3, c4, c5, c6, c7, c8, c9, c10, c11, c12⟩ := h2.two.one.rows
  have H := Lib.hid h2
  clear h2
  go_wp2_with fail
  clear hlt c0 c1 c2 c3 c4 c5 c6 c7 c8 c9 c10 c11 c12
  refine (hCo _).mono ?_
  rintro e w3 ⟨rfl, hb3⟩
  have h3 := H.out.next hb3
  clear H hb3
  have hlt := h3.two.one.lt
  have c0 := h3.two.one.size
  obtain ⟨c1, c2, c3, c4, c5, c6, c7, c8, c9, c10, c11, c12⟩ := h3.two.one.rows
  have H := Lib.hid h3
  clear h3
  go_wp2_with fail
  clear hlt c0 c1 c2 c3 c4 c5 c6 c7 c8 c9 c10 c11 c12
  refine (lives_true _ (H.out.two.tab HT.out) (H.out.two.pos HT.out)).mono ?_
  rintro e w4 ⟨rfl, hb4⟩
  have h4 := H.out.next hb4
  clear H hb4
  have hlt := h4.two.one.lt
  have c0 := h4.two.one.size
  obtain ⟨c1, c2, c3, c4, c5, c6, c7, c8, c9, c10, c11, c12⟩ := h4.two.one.rows
  have H := Lib.hid h4
  clear h4
  go_wp2_with fail
  go_ret
  exact ⟨rfl, H.out.two.below⟩

set_option maxRecDepth 10000 in
set_option maxHeartbeats 1000000 in
theorem szp_outE (n : Nat) (a c : Nat → Nat) (i j N : Int) (xs : List Int) (w : World) (_h1 : ¬ i < 0) (h2 : ¬ j < 0) (_h3 : ¬ (n : Int) ≤ i) (h4 : ¬ (n : Int) ≤ j) (h5 : i = j)
    (hCl : ∀ w, Calls Tryd.prog 11 #[relV n a] w fun e w' => e = .returned (.tuple #[relV n c, .bool false, .int .i64 0]) ∧ Below w.heap.size w w')
    (hLe : ∀ w, Tab w → 0 < w.heap.size → Calls Tryd.prog 14 #[relV n a] w fun e w' => ∃ v, e = .returned (.tuple #[v, .int .i64 0]) ∧ IOwn w' w.heap.size v xs ∧ Below w.heap.size w w')
    (hCo : ∀ w, Calls Tryd.prog 13 #[relV n a] w fun e w' => e = .returned (.tuple #[.int .i64 N, .int .i64 0]) ∧ Below w.heap.size w w') (hN : ¬ N < 1) (hlen : xs.length = n) (hle : n ≤ 12) (hT : Tab w) (hpos : 0 < w.heap.size) :
    Calls Tryd.prog 7 #[relV n a, .int .i64 i, .int .i64 j] w fun e w' => e = .returned (.bool true) ∧ Below w.heap.size w w' := by
  have HT := Lib.hid (And.intro hT hpos)
  have HX := Lib.hid (And.intro hlen hle)
  clear hT hpos hlen hle
  go_enter Tryd.func7, Tryd.ntmps7
  have H := Lib.hid (OneR.start w n a)
  go_wp2_with fail
  refine (hCl _).mono ?_
  rintro e w1 ⟨rfl, hb1⟩
  have h1 := H.out.next hb1
  clear H hb1
  have hlt := h1.one.lt
  have c0 := h1.one.size
  obtain ⟨c1, c2, c3, c4, c5, c6, c7, c8, c9, c10, c11, c12⟩ := h1.one.rows
  have H := Lib.hid h1
  clear h1
  go_wp2_with fail
  clear hlt c0 c1 c2 c3 c4 c5 c6 c7 c8 c9 c10 c11 c12
  have h1 : TwoR w n n a c w.heap.size w1.heap.size (w1.alloc (.cells (relCs n c) 25)) := ⟨H.out.below.alloc H.out.below.size _, Lies.alloc H.out.one _, Lies.new _ _ _⟩
  clear H
  change Calls _ _ _ (w1.alloc (.cells (relCs n c) 25)) _
  generalize w1.alloc (.cells (relCs n c) 25) = W1 at h1 ⊢
  generalize w1.heap.size = C at h1 ⊢
  refine (hLe W1 (h1.tab HT.out) (h1.pos HT.out)).mono ?_
  rintro e w2 ⟨v, rfl, ho, hb2⟩
  obtain ⟨A, cap, rfl, hrd⟩ := ho.rd.len HX.out.1
  have h2 : SzR w n a c C A cap xs w2 := ⟨h1.next hb2, hrd⟩
  clear h1 hb2 ho hrd
  have hlt := h2.two.one.lt
  have c0 := h2.two.one.size
  obtain ⟨c1, c2, c3, c4, c5, c6, c7, c8, c9, c10, c11, c12⟩ := h2.two.one.rows
  have H := Lib.hid h2
  clear h2
  go_wp2_with fail
  clear hlt c0 c1 c2 c3 c4 c5 c6 c7 c8 c9 c10 c11 c12
  refine (hCo _).mono ?_
  rintro e w3 ⟨rfl, hb3⟩
  have h3 := H.out.next hb3
  clear H hb3
  have hlt := h3.two.one.lt
  have c0 := h3.two.one.size
  obtain ⟨c1, c2, c3, c4, c5, c6, c7, c8, c9, c10, c11, c12⟩ := h3.two.one.rows
  have H := Lib.hid h3
  clear h3
  go_wp2_with fail
  clear hlt c0 c1 c2 c3 c4 c5 c6 c7 c8 c9 c10 c11 c12
  refine (lives_true _ (H.out.two.tab HT.out) (H.out.two.pos HT.out)).mono ?_
  rintro e w4 ⟨rfl, hb4⟩
  have h4 := H.out.next hb4
  clear H hb4
  have hlt := h4.two.one.lt
  have c0 := h4.two.one.size
  obtain ⟨c1, c2, c3, c4, c5, c6, c7, c8, c9, c10, c11, c12⟩ := h4.two.one.rows
  have H := Lib.hid h4
  clear h4
  go_wp2_with fail
  go_ret
  exact ⟨rfl, H.out.two.below⟩

end Go.Proofs.YtbcgjebdodaaoaaDoor
