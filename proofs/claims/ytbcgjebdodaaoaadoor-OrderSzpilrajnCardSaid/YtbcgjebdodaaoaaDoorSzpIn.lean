/-
  alibkeep.OrderSzpilrajn answers true: two items that are there.
-/
import Derived.Test.YtbcgjebdodaaoaaDoorSzpOut
namespace Go.Proofs.YtbcgjebdodaaoaaDoor
open Go.RowKit

set_option maxRecDepth 10000 in
set_option maxHeartbeats 2000000 in
theorem szp_ahead (n : Nat) (a c : Nat → Nat) (i j : Nat) (N : Int) (xs : List Int) (w : World) (hi : i < n) (hj : j < n) (hij : i ≠ j) (hca : (c i).testBit j = true) (hord : ∀ ri rj, FirstAt xs i ri → FirstAt xs j rj → ri < rj)
    (hCl : ∀ w, Calls Tryd.prog 11 #[relV n a] w fun e w' => e = .returned (.tuple #[relV n c, .bool false, .int .i64 0]) ∧ Below w.heap.size w w')
    (hLe : ∀ w, Tab w → 0 < w.heap.size → Calls Tryd.prog 14 #[relV n a] w fun e w' => ∃ v, e = .returned (.tuple #[v, .int .i64 0]) ∧ IOwn w' w.heap.size v xs ∧ Below w.heap.size w w')
    (hCo : ∀ w, Calls Tryd.prog 13 #[relV n a] w fun e w' => e = .returned (.tuple #[.int .i64 N, .int .i64 0]) ∧ Below w.heap.size w w') (hN : ¬ N < 1) (hlen : xs.length = n) (hle : n ≤ 12) (hT : Tab w) (hpos : 0 < w.heap.size) :
    Calls Tryd.prog 7 #[relV n a, .int .i64 (i : Int), .int .i64 (j : Int)] w fun e w' => e = .returned (.bool true) ∧ Below w.heap.size w w' := by
  have HT := Lib.hid (And.intro hT hpos)
  have HO := Lib.hid hord
  clear hord
  have HX := Lib.hid (And.intro hlen hle)
  clear hT hpos hlen hle
  obtain ⟨I, hI⟩ : ∃ I : Int, I = i := ⟨_, rfl⟩
  obtain ⟨J, hJ⟩ : ∃ J : Int, J = j := ⟨_, rfl⟩
  have p1 : ¬ I < 0 := (by omega)
  have p2 : ¬ J < 0 := (by omega)
  have p3 : ¬ (n : Int) ≤ I := (by omega)
  have p4 : ¬ (n : Int) ≤ J := (by omega)
  have p5 : ¬ I = J := (by omega)
  rw [← hI, ← hJ]
  have HI := Lib.hid (And.intro hI hJ)
  have HPP := Lib.hid (And.intro p1 (And.intro p2 (And.intro p3 (And.intro p4 p5))))
  clear hI hJ p1 p2 p3 p4 p5
  go_enter Tryd.func7, Tryd.ntmps7
  have H := Lib.hid (OneR.start w n a)
  go_wp2_with fail
  refine (hCl _).mono ?_
  rintro e w1 ⟨rfl, hb1⟩
  have h1 := H.out.next hb1
  clear H hb1
  have hlt := h1.one.lt
  have c0 := h1.one.size
  obtain ⟨c1, c2, c3, c4, c5, c6, c7, c8, c9, c10, c11, c12⟩ := h1.one.rows
  have H := Lib.hid h1
  clear h1
  go_wp2_with fail
  clear hlt c0 c1 c2 c3 c4 c5 c6 c7 c8 c9 c10 c11 c12
  have h1 : TwoR w n n a c w.heap.size w1.heap.size (w1.alloc (.cells (relCs n c) 25)) := ⟨H.out.below.alloc H.out.below.size _, Lies.alloc H.out.one _, Lies.new _ _ _⟩
  clear H
  change Calls _ _ _ (w1.alloc (.cells (relCs n c) 25)) _
  generalize w1.alloc (.cells (relCs n c) 25) = W1 at h1 ⊢
  generalize w1.heap.size = C at h1 ⊢
  refine (hLe W1 (h1.tab HT.out) (h1.pos HT.out)).mono ?_
  rintro e w2 ⟨v, rfl, ho, hb2⟩
  obtain ⟨A, cap, rfl, hrd⟩ := ho.rd.len HX.out.1
  have h2 : SzR w n a c C A cap xs w2 := ⟨h1.next hb2, hrd⟩
  clear h1 hb2 ho hrd
  have hlt := h2.two.one.lt
  have c0 := h2.two.one.size
  obtain ⟨c1, c2, c3, c4, c5, c6, c7, c8, c9, c10, c11, c12⟩ := h2.two.one.rows
  have H := Lib.hid h2
  clear h2
  go_wp2_with fail
  clear hlt c0 c1 c2 c3 c4 c5 c6 c7 c8 c9 c10 c11 c12
  refine (hCo _).mono ?_
  rintro e w3 ⟨rfl, hb3⟩
  have h3 := H.out.next hb3
  clear H hb3
  have hlt := h3.two.one.lt
  have c0 := h3.two.one.size
  obtain ⟨c1, c2, c3, c4, c5, c6, c7, c8, c9, c10, c11, c12⟩ := h3.two.one.rows
  have H := Lib.hid h3
  clear h3
  go_wp2_with fail
  clear hlt c0 c1 c2 c3 c4 c5 c6 c7 c8 c9 c10 c11 c12
  refine (lives_true _ (H.out.two.tab HT.out) (H.out.two.pos HT.out)).mono ?_
  rintro e w4 ⟨rfl, hb4⟩
  have h4 := H.out.next hb4
  clear H hb4
  have hlt := h4.two.one.lt
  have c0 := h4.two.one.size
  obtain ⟨c1, c2, c3, c4, c5, c6, c7, c8, c9, c10, c11, c12⟩ := h4.two.one.rows
  have H := Lib.hid h4
  clear h4
  have hlt2 := H.out.two.two.lt
  have d0 := H.out.two.two.size
  obtain ⟨d1, d2, d3, d4, d5, d6, d7, d8, d9, d10, d11, d12⟩ := H.out.two.two.rows
  obtain ⟨p1, p2, p3, p4, p5⟩ := HPP.out
  go_wp2_with fail
  · go_ret
    exact ⟨rfl, H.out.two.below⟩
  clear hlt c0 c1 c2 c3 c4 c5 c6 c7 c8 c9 c10 c11 c12 hlt2 d0 d1 d2 d3 d4 d5 d6 d7 d8 d9 d10 d11 d12 p1 p2 p3 p4 p5
  obtain ⟨hI, hJ⟩ := HI.out
  subst hI hJ
  refine (ahead_yes n c i j _ (by have := HX.out.2; omega) (by have := HX.out.2; omega) hca).mono ?_
  rintro e w6 ⟨rfl, hb6⟩
  have h6 := H.out.next hb6
  clear H hb6
  have H := Lib.hid h6
  clear h6
  go_wp2_with fail
  refine (index_any H.out.rd (by have := HX.out.1; have := HX.out.2; omega) i).mono ?_
  rintro e w7 ⟨ri, rfl, fi, hb7⟩
  have h7 := H.out.next hb7
  clear H hb7
  have H := Lib.hid h7
  have FI := Lib.hid fi
  clear h7 fi
  go_wp2_with fail
  refine (index_any H.out.rd (by have := HX.out.1; have := HX.out.2; omega) j).mono ?_
  rintro e w8 ⟨rj, rfl, fj, hb8⟩
  have h8 := H.out.next hb8
  clear H hb8
  have H := Lib.hid h8
  have hord' := HO.out ri rj FI.out fj
  clear h8 fj
  go_wp2_with fail
  go_ret
  exact ⟨rfl, H.out.two.below⟩

set_option maxRecDepth 10000 in
set_option maxHeartbeats 2000000 in
theorem szp_apart (n : Nat) (a c c' : Nat → Nat) (i j : Nat) (N M : Int) (xs : List Int) (w : World) (hi : i < n) (hj : j < n) (hij : i ≠ j) (hca : (c i).testBit j = false) (hal : ∀ k, k < 12 → a k < 65536)
    (hCl' : ∀ w, Calls Tryd.prog 11 #[relV n (put a j i)] w fun e w' => e = .returned (.tuple #[relV n c', .bool false, .int .i64 0]) ∧ Below w.heap.size w w')
    (hCo' : ∀ w, Calls Tryd.prog 13 #[relV n (put a j i)] w fun e w' => e = .returned (.tuple #[.int .i64 M, .int .i64 0]) ∧ Below w.heap.size w w') (hM1 : 1 ≤ M) (hMN : M ≤ N)
    (hCl : ∀ w, Calls Tryd.prog 11 #[relV n a] w fun e w' => e = .returned (.tuple #[relV n c, .bool false, .int .i64 0]) ∧ Below w.heap.size w w')
    (hLe : ∀ w, Tab w → 0 < w.heap.size → Calls Tryd.prog 14 #[relV n a] w fun e w' => ∃ v, e = .returned (.tuple #[v, .int .i64 0]) ∧ IOwn w' w.heap.size v xs ∧ Below w.heap.size w w')
    (hCo : ∀ w, Calls Tryd.prog 13 #[relV n a] w fun e w' => e = .returned (.tuple #[.int .i64 N, .int .i64 0]) ∧ Below w.heap.size w w') (hN : ¬ N < 1) (hlen : xs.length = n) (hle : n ≤ 12) (hT : Tab w) (hpos : 0 < w.heap.size) :
    Calls Tryd.prog 7 #[relV n a, .int .i64 (i : Int), .int .i64 (j : Int)] w fun e w' => e = .returned (.bool true) ∧ Below w.heap.size w w' := by
  have HT := Lib.hid (And.intro hT hpos)
  have HP := Lib.hid (And.intro hCl' (And.intro hCo' (And.intro hM1 (And.intro hMN hal))))
  clear hCl' hCo' hM1 hMN hal
  have HX := Lib.hid (And.intro hlen hle)
  clear hT hpos hlen hle
  obtain ⟨I, hI⟩ : ∃ I : Int, I = i := ⟨_, rfl⟩
  obtain ⟨J, hJ⟩ : ∃ J : Int, J = j := ⟨_, rfl⟩
  have p1 : ¬ I < 0 := (by omega)
  have p2 : ¬ J < 0 := (by omega)
  have p3 : ¬ (n : Int) ≤ I := (by omega)
  have p4 : ¬ (n : Int) ≤ J := (by omega)
  have p5 : ¬ I = J := (by omega)
  rw [← hI, ← hJ]
  have HI := Lib.hid (And.intro hI hJ)
  have HPP := Lib.hid (And.intro p1 (And.intro p2 (And.intro p3 (And.intro p4 p5))))
  clear hI hJ p1 p2 p3 p4 p5
  go_enter Tryd.func7, Tryd.ntmps7
  have H := Lib.hid (OneR.start w n a)
  go_wp2_with fail
  refine (hCl _).mono ?_
  rintro e w1 ⟨rfl, hb1⟩
  have h1 := H.out.next hb1
  clear H hb1
  have hlt := h1.one.lt
  have c0 := h1.one.size
  obtain ⟨c1, c2, c3, c4, c5, c6, c7, c8, c9, c10, c11, c12⟩ := h1.one.rows
  have H := Lib.hid h1
  clear h1
  go_wp2_with fail
  clear hlt c0 c1 c2 c3 c4 c5 c6 c7 c8 c9 c10 c11 c12
  have h1 : TwoR w n n a c w.heap.size w1.heap.size (w1.alloc (.cells (relCs n c) 25)) := ⟨H.out.below.alloc H.out.below.size _, Lies.alloc H.out.one _, Lies.new _ _ _⟩
  clear H
  change Calls _ _ _ (w1.alloc (.cells (relCs n c) 25)) _
  generalize w1.alloc (.cells (relCs n c) 25) = W1 at h1 ⊢
  generalize w1.heap.size = C at h1 ⊢
  refine (hLe W1 (h1.tab HT.out) (h1.pos HT.out)).mono ?_
  rintro e w2 ⟨v, rfl, ho, hb2⟩
  obtain ⟨A, cap, rfl, hrd⟩ := ho.rd.len HX.out.1
  have h2 : SzR w n a c C A cap xs w2 := ⟨h1.next hb2, hrd⟩
  clear h1 hb2 ho hrd
  have hlt := h2.two.one.lt
  have c0 := h2.two.one.size
  obtain ⟨c1, c2, c3, c4, c5, c6, c7, c8, c9, c10, c11, c12⟩ := h2.two.one.rows
  have H := Lib.hid h2
  clear h2
  go_wp2_with fail
  clear hlt c0 c1 c2 c3 c4 c5 c6 c7 c8 c9 c10 c11 c12
  refine (hCo _).mono ?_
  rintro e w3 ⟨rfl, hb3⟩
  have h3 := H.out.next hb3
  clear H hb3
  have hlt := h3.two.one.lt
  have c0 := h3.two.one.size
  obtain ⟨c1, c2, c3, c4, c5, c6, c7, c8, c9, c10, c11, c12⟩ := h3.two.one.rows
  have H := Lib.hid h3
  clear h3
  go_wp2_with fail
  clear hlt c0 c1 c2 c3 c4 c5 c6 c7 c8 c9 c10 c11 c12
  refine (lives_true _ (H.out.two.tab HT.out) (H.out.two.pos HT.out)).mono ?_
  rintro e w4 ⟨rfl, hb4⟩
  have h4 := H.out.next hb4
  clear H hb4
  have hlt := h4.two.one.lt
  have c0 := h4.two.one.size
  obtain ⟨c1, c2, c3, c4, c5, c6, c7, c8, c9, c10, c11, c12⟩ := h4.two.one.rows
  have H := Lib.hid h4
  clear h4
  have hlt2 := H.out.two.two.lt
  have d0 := H.out.two.two.size
  obtain ⟨d1, d2, d3, d4, d5, d6, d7, d8, d9, d10, d11, d12⟩ := H.out.two.two.rows
  obtain ⟨p1, p2, p3, p4, p5⟩ := HPP.out
  go_wp2_with fail
  · go_ret
    exact ⟨rfl, H.out.two.below⟩
  clear hlt c0 c1 c2 c3 c4 c5 c6 c7 c8 c9 c10 c11 c12 hlt2 d0 d1 d2 d3 d4 d5 d6 d7 d8 d9 d10 d11 d12 p1 p2 p3 p4 p5
  obtain ⟨hI, hJ⟩ := HI.out
  subst hI hJ
  have hi12 : i < 12 := (by have := HX.out.2; omega)
  have hj12 : j < 12 := (by have := HX.out.2; omega)
  refine (ahead_no n c i j _ hi12 (by omega) hca).mono ?_
  rintro e w6 ⟨rfl, hb6⟩
  have h6 := H.out.next hb6
  clear H hb6
  have hj1 := h6.two.one.row' (k := j) hj12
  have hfr := h6.two.one.free (1 + j)
  have ho := or_pow (a j) i (HP.out.2.2.2.2 j hj12) (by omega)
  have hp := pow_u16 i (by omega)
  have h7 : OneR w n (put a j i) (w6.setCell ⟨w.heap.size, 1 + j, none⟩ (.int .u16 ((a j ||| 2 ^ i : Nat) : Int))).drew := ⟨(h6.two.below.setCell (Nat.le_refl _) _).drew, h6.two.one.set' hj12 _⟩
  clear h6
  have H := Lib.hid h7
  clear h7
  go_wp2_with fail
  go_region
  have h7 := H.out
  clear H hj1 hfr ho hp
  generalize (w6.setCell ⟨w.heap.size, 1 + j, none⟩ (.int .u16 ((a j ||| 2 ^ i : Nat) : Int))).drew = w7 at h7 ⊢
  have hlt := h7.one.lt
  have c0 := h7.one.size
  obtain ⟨c1, c2, c3, c4, c5, c6, c7, c8, c9, c10, c11, c12⟩ := h7.one.rows
  have H := Lib.hid h7
  clear h7
  go_wp2_with fail
  clear hlt c0 c1 c2 c3 c4 c5 c6 c7 c8 c9 c10 c11 c12
  refine (HP.out.1 _).mono ?_
  rintro e w8 ⟨rfl, hb8⟩
  have h8 := H.out.next hb8
  clear H hb8
  have hlt := h8.one.lt
  have c0 := h8.one.size
  obtain ⟨c1, c2, c3, c4, c5, c6, c7, c8, c9, c10, c11, c12⟩ := h8.one.rows
  have H := Lib.hid h8
  clear h8
  go_wp2_with fail
  clear hlt c0 c1 c2 c3 c4 c5 c6 c7 c8 c9 c10 c11 c12
  refine (HP.out.2.1 _).mono ?_
  rintro e w9 ⟨rfl, hb9⟩
  have h9 := H.out.next hb9
  clear H hb9
  have H := Lib.hid h9
  clear h9
  go_wp2_with fail
  refine (ok_zero (IRd.fresh w9 26 [0, 0] _ rfl _ rfl) (by decide) (by decide)).mono ?_
  rintro e w10 ⟨rfl, rfl⟩
  have h10 := H.out.next ((Below.refl w9.heap.size w9).alloc (Nat.le_refl _) (.cells #[.int .i64 0, .int .i64 0] 26))
  clear H
  have H := Lib.hid h10
  clear h10
  have hM1 : ¬ M < 1 := (by have := HP.out.2.2.1; omega)
  have hMN : ¬ N < M := (by have := HP.out.2.2.2.1; omega)
  go_wp2_with fail
  go_ret
  exact ⟨rfl, H.out.below⟩

theorem szp_all (n : Int) (a : Nat → Nat) (i j : Int) (w : World) (ha : ∀ i, a i < 65536) (hT : Tab w) (hpos : 0 < w.heap.size) :
    Calls Tryd.prog 7 #[relV n a, .int .i64 i, .int .i64 j] w fun e w' => e = .returned (.bool true) ∧ Below w.heap.size w w' := by
  rcases check_ways n a ha with ⟨E, hE, _, hc⟩ | ⟨m, rfl, h⟩
  · have hF := fails_check hE hc
    exact szp_err n a i j E w hE (fun w => close_err n a E w hE hc) (fun w => least_err n a E w hE hF) (fun w => count_err n a E w hE hF) hT hpos
  · cases hy : cyc (clo m a) m with
    | true =>
      have hF := fails_round h hy
      exact szp_round m a (clo m a) i j w (fun w => close_yes m a w h hy) (fun w => least_err m a 4 w rfl hF) (fun w => count_err m a 4 w rfl hF) hT hpos
    | false =>
      have hs := strict_clo h hy
      have hcount : ∀ {b : Nat → Nat}, Good m b → cyc (clo m b) m = false → ∀ w, Calls Tryd.prog 13 #[relV m b] w fun e w' => e = .returned (.tuple #[.int .i64 ((orders m b : Nat) : Int), .int .i64 0]) ∧ Below w.heap.size w w' := fun {b} hb hc w => by
        have := count_good hb w
        rw [hc, orders_wrap hb.le] at this
        exact this
      have hone : ∀ {b : Nat → Nat}, Good m b → cyc (clo m b) m = false → (1 : Int) ≤ ((orders m b : Nat) : Int) := fun hb hc => by
        have := orders_pos hb hc
        omega
      have hN : ¬ ((orders m a : Nat) : Int) < 1 := by have := hone h hy; omega
      have hCl := fun w => close_no m a w h hy
      have hLe := fun w hT hp => least_no m a w h hy hT hp
      have hCo := hcount h hy
      have hlen := lsL_length (rev m (clo m a)) m m
      by_cases h1 : i < 0
      · exact szp_outA m a (clo m a) i j _ _ w h1 hCl hLe hCo hN hlen h.le hT hpos
      by_cases h2 : j < 0
      · exact szp_outB m a (clo m a) i j _ _ w h1 h2 hCl hLe hCo hN hlen h.le hT hpos
      by_cases h3 : (m : Int) ≤ i
      · exact szp_outC m a (clo m a) i j _ _ w h1 h2 h3 hCl hLe hCo hN hlen h.le hT hpos
      by_cases h4 : (m : Int) ≤ j
      · exact szp_outD m a (clo m a) i j _ _ w h1 h2 h3 h4 hCl hLe hCo hN hlen h.le hT hpos
      by_cases h5 : i = j
      · exact szp_outE m a (clo m a) i j _ _ w h1 h2 h3 h4 h5 hCl hLe hCo hN hlen h.le hT hpos
      obtain ⟨p, rfl⟩ : ∃ p : Nat, i = p := ⟨i.toNat, by omega⟩
      obtain ⟨q, rfl⟩ : ∃ q : Nat, j = q := ⟨j.toNat, by omega⟩
      have hp : p < m := by omega
      have hq : q < m := by omega
      have hpq : p ≠ q := by omega
      cases hpa : (clo m a p).testBit q with
      | true => exact szp_ahead m a (clo m a) p q _ _ w hp hq hpq hpa (fun ri rj => least_ahead hs h.le hp hq hpa) hCl hLe hCo hN hlen h.le hT hpos
      | false =>
        have hput := h.put hq hp
        have hy' := put_strict h hy hp hq hpq hpa
        have hsum := orders_split h hp hq hpq
        exact szp_apart m a (clo m a) (clo m (put a q p)) p q _ _ _ w hp hq hpq hpa h.lt (fun w => close_no m _ w hput hy') (hcount hput hy') (hone hput hy') (by omega) hCl hLe hCo hN hlen h.le hT hpos
end Go.Proofs.YtbcgjebdodaaoaaDoor
