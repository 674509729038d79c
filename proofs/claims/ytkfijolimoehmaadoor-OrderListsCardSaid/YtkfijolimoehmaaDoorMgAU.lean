/-
  Joined by a program out of: ListG.
-/
import Derived.Test.YtkfijolimoehmaaDoorMgAF
import Derived.Test.YtkfijolimoehmaaDoorMgAS
import Derived.Test.YtkfijolimoehmaaDoorMgAT
import Derived.Test.YtkfijolimoehmaaDoorMgAK

/-
  aliblaw.OrderLists where nothing is round.
-/
namespace Go.Proofs.YtkfijolimoehmaaDoor
open Go.RowKit
set_option maxRecDepth 20000

theorem LsO.tab {w0 w : World} {n : Int} {a : Nat → Nat} (h : LsO w0 n a w) (hT : Tab w0 ∧ 0 < w0.heap.size) : Tab w := hT.1.below h.below hT.2
theorem LsO.pos {w0 w : World} {n : Int} {a : Nat → Nat} (h : LsO w0 n a w) (hT : Tab w0 ∧ 0 < w0.heap.size) : 0 < w.heap.size := Nat.lt_of_lt_of_le hT.2 h.below.size
/-- Beside it, slices that read as lists. -/
structure LsV (w0 : World) (n : Int) (a : Nat → Nat) (l : List (Value × List Int)) (w : World) : Prop where
  o : LsO w0 n a w
  rd : ∀ p, p ∈ l → IRd w w.heap.size p.1 p.2
theorem LsV.next {w0 w w' : World} {n : Int} {a : Nat → Nat} {l : List (Value × List Int)} (h : LsV w0 n a l w) (hb : Below w.heap.size w w') : LsV w0 n a l w' :=
  ⟨h.o.next hb, fun p hp => ((h.rd p hp).below hb).mono hb.size⟩
theorem LsV.add {w0 w w' : World} {n : Int} {a : Nat → Nat} {l : List (Value × List Int)} {v : Value} {xs : List Int} (h : LsV w0 n a l w) (hb : Below w.heap.size w w') (hr : IRd w' w'.heap.size v xs) : LsV w0 n a ((v, xs) :: l) w' :=
  ⟨(h.next hb).o, fun p hp => by
    rcases List.mem_cons.1 hp with rfl | hp
    · exact hr
    · exact (h.next hb).rd p hp⟩
/-- A slice that reads as a list, in another block than M. -/
def IFar (M : Nat) (w : World) (v : Value) (xs : List Int) : Prop :=
  ∃ A cap, v = .slice A xs.length cap ∧ (0 < xs.length → ∃ g cur, A = some ⟨g, 0, none⟩ ∧ g ≠ M ∧ Lies w g 3 cur ∧ ∀ j, j < xs.length → cur[j]? = some (.int .i64 (xs.getD j 0)))
theorem IFar.of_own {M B : Nat} {w : World} {v : Value} {xs : List Int} (h : IOwn w B v xs) (hM : M < B) : IFar M w v xs := by
  rcases h.2 with ⟨rfl, h0⟩ | ⟨g, cap, cur, rfl, h1, h2, h3⟩
  · exact ⟨none, 0, by rw [h0], fun h => by omega⟩
  · refine ⟨_, cap, rfl, fun _ => ⟨g, cur, rfl, by omega, h2, fun j hj => ?_⟩⟩
    rw [← Lies.cell (t := 3) h2, World.ownsRow.cellAt h j (by omega)]
    simp [hj]
theorem IFar.nil (M : Nat) (w : World) : IFar M w (.slice none 0 0) [] := ⟨none, 0, rfl, fun h => by simp at h⟩
theorem IFar.next {M : Nat} {w w' : World} {v : Value} {xs : List Int} (h : IFar M w v xs) (hb : Below w.heap.size w w') : IFar M w' v xs := by
  obtain ⟨A, cap, e, h2⟩ := h
  refine ⟨A, cap, e, fun h0 => ?_⟩
  obtain ⟨g, cur, e2, hg, hl, hc⟩ := h2 h0
  exact ⟨g, cur, e2, hg, Lies.below hl hb hl.lt, hc⟩
theorem IFar.set_ {M : Nat} {w : World} {v : Value} {xs : List Int} (h : IFar M w v xs) (i : Nat) (x : Value) : IFar M (w.setCell ⟨M, i, none⟩ x) v xs := by
  obtain ⟨A, cap, e, h2⟩ := h
  refine ⟨A, cap, e, fun h0 => ?_⟩
  obtain ⟨g, cur, e2, hg, hl, hc⟩ := h2 h0
  exact ⟨g, cur, e2, hg, Lies.far hl hg x, hc⟩
theorem IFar.rd {M : Nat} {w : World} {v : Value} {xs : List Int} (h : IFar M w v xs) : IRd w w.heap.size v xs := by
  obtain ⟨A, cap, e, h2⟩ := h
  refine ⟨A, cap, e, fun h0 => ?_⟩
  obtain ⟨g, cur, e2, hg, hl, hc⟩ := h2 h0
  exact ⟨g, e2, hl.lt, fun j hj => by rw [hl.cell, hc j hj]⟩
/-- The loop over the items: the ranks so far, the longest chain so far. -/
structure LsR (W : World) (n : Nat) (nu : Nat → Int) (v : Value) (xs : List Int) (wr : World) : Prop where
  below : Below W.heap.size W wr
  tab : ITab wr W.heap.size n nu
  ch : IFar W.heap.size wr v xs
theorem LsR.next {W wr w' : World} {n : Nat} {nu : Nat → Int} {v : Value} {xs : List Int} (h : LsR W n nu v xs wr) (hb : Below wr.heap.size wr w') : LsR W n nu v xs w' :=
  ⟨h.below.trans (hb.mono h.below.size), Lies.below h.tab hb h.tab.lt, h.ch.next hb⟩
/-- Where all lists stand. -/
structure FinR (W : World) (n : Nat) (X xa : List Int) (rk nu : Nat → Int) (v1 ch v2 va v3 v4 : Value) (Z : World) : Prop where
  below : Below W.heap.size W Z
  a1 : IRd Z Z.heap.size v1 X
  a2 : IRd Z Z.heap.size ch X
  b1 : IRd Z Z.heap.size v2 xa
  b2 : IRd Z Z.heap.size va xa
  c1 : IRd Z Z.heap.size v3 (listed n rk)
  c2 : IRd Z Z.heap.size (.slice (some ⟨W.heap.size, 0, none⟩) n n) (listed n rk)
  d1 : IRd Z Z.heap.size v4 (listed n nu)
theorem FinR.next {W Z Z' : World} {n : Nat} {X xa : List Int} {rk nu : Nat → Int} {v1 ch v2 va v3 v4 : Value} (h : FinR W n X xa rk nu v1 ch v2 va v3 v4 Z) (hb : Below Z.heap.size Z Z') : FinR W n X xa rk nu v1 ch v2 va v3 v4 Z' :=
  ⟨h.below.trans (hb.mono h.below.size), (h.a1.below hb).mono hb.size, (h.a2.below hb).mono hb.size, (h.b1.below hb).mono hb.size, (h.b2.below hb).mono hb.size, (h.c1.below hb).mono hb.size, (h.c2.below hb).mono hb.size, (h.d1.below hb).mono hb.size⟩
theorem FinR.make {w W Z : World} {n : Nat} {a : Nat → Nat} {X xa : List Int} {rk nu : Nat → Int} {v1 ch v2 va v3 v4 : Value} (hV : LsV w n a [(v4, listed n nu), (v3, listed n rk), (v2, xa), (v1, X)] W) (hn : n ≤ 12) (hL : LsR W n (firstK rk n) ch X Z) (hva : IRd Z Z.heap.size va xa) : FinR W n X xa rk nu v1 ch v2 va v3 v4 Z := by
  have hw := fun p hp => ((hV.rd p hp).below hL.below).mono hL.below.size
  refine ⟨hL.below, hw (v1, X) ?_, hL.ch.rd, hw (v2, xa) ?_, hva, hw (v3, listed n rk) ?_, ?_, hw (v4, listed n nu) ?_⟩
  · exact List.mem_cons_of_mem _ (List.mem_cons_of_mem _ (List.mem_cons_of_mem _ (List.mem_cons_self ..)))
  · exact List.mem_cons_of_mem _ (List.mem_cons_of_mem _ (List.mem_cons_self ..))
  · exact List.mem_cons_of_mem _ (List.mem_cons_self ..)
  · have ht := hL.tab.congr (f' := rk) (fun i hi => by unfold firstK; rw [if_pos hi])
    exact (IOwn.whole ht (Nat.le_refl _) (by omega)).rd
  · exact List.mem_cons_self ..
theorem listed_len (n : Nat) (f : Nat → Int) : (listed n f).length = n := by unfold listed; rw [List.length_map, List.length_range]
/-- The relation that is turned round, while it is made. -/
structure BkR (W : World) (n : Nat) (d : Nat → Nat) (wr : World) : Prop where
  below : Below W.heap.size W wr
  bk : RelB wr W.heap.size n d
theorem BkR.next {W wr w' : World} {n : Nat} {d : Nat → Nat} (h : BkR W n d wr) (hb : Below wr.heap.size wr w') : BkR W n d w' :=
  ⟨h.below.trans (hb.mono h.below.size), Lies.below h.bk hb h.bk.lt⟩
theorem BkR.congr {W wr : World} {n : Nat} {d f : Nat → Nat} (h : BkR W n d wr) (e : ∀ i, i < 12 → d i = f i) : BkR W n f wr := ⟨h.below, h.bk.congr e⟩
theorem BkR.set_ {W wr : World} {n : Nat} {d : Nat → Nat} (h : BkR W n d wr) {k : Nat} (hk : k < 12) (x : Nat) : BkR W n (fun i => if i = k then x else d i) (wr.setCell ⟨W.heap.size, 1 + k, none⟩ (.int .u16 x)) :=
  ⟨h.below.setCell (p := ⟨W.heap.size, 1 + k, none⟩) (Nat.le_refl _) _, h.bk.set' hk x⟩
theorem BkR.drew {W wr : World} {n : Nat} {d : Nat → Nat} (h : BkR W n d wr) : BkR W n d wr.drew := ⟨h.below.drew, h.bk⟩

set_option maxHeartbeats 8000000 in
theorem lists_good (n : Nat) (a : Nat → Nat) (w : World) (h : Good n a) (hy : cyc (clo n a) n = false) (hT : Tab w) (hpos : 0 < w.heap.size) (hr : Rights n a 0) :
    Calls Tryd.prog 4 #[relV n a] w fun e w' => e = .returned (.bool true) ∧ Below w.heap.size w w' := by
  have hle := h.le
  have hS := strict_clo h hy
  have hgc := h.clo
  have hcl := fun w => closed_by n a w h
  have h1 := fun w => chain_no n a w h hy
  have h2 := fun w ht hp => apart_no n a w h hy ht hp
  have h3 := fun w => ranks_no n a w h hy
  have h4 := fun w ht hp => chains_no n a w h hy ht hp
  have hcs := col_some h hy
  have hcn := fun K hK => col_none (K := K) h hK
  rw [hy] at hcl
  rw [chain_list hS hle] at h1
  have hlt16 : ∀ i, i < 12 → clo n a i < 65536 := hgc.lt
  generalize clo n a = c at hS hcl h1 h2 h3 h4 hcs hcn hlt16
  have hlc := fun i w (hi : i < n) => lchain_any n c hle hS 12 i w hi (by have := len_le hS hi; omega)
  have hlb := fun i w (hi : i < n) => lchain_any n (rev n c) hle hS.turn 12 i w hi (by have := len_le hS.turn hi; omega)
  have hll : ∀ i, i < n → ((lcL (rev n c) n 12 i).length : Int) - 1 = rankOf n c i := fun i hi => by
    rw [lcL_len hS.turn 12 i hi (by have := len_le hS.turn hi; omega)]
    rfl
  have hl13 : ∀ i, i < n → (lcL (rev n c) n 12 i).length ≤ 12 := fun i hi => by
    rw [lcL_len hS.turn 12 i hi (by have := len_le hS.turn hi; omega)]
    exact Nat.le_trans (len_le hS.turn hi) hle
  have hg13 : ∀ i, i < n → (lcL c n 12 i).length ≤ 12 := fun i hi => by
    rw [lcL_len hS 12 i hi (by have := len_le hS hi; omega)]
    exact Nat.le_trans (len_le hS hi) hle
  have hst := fun i (hi : i < n) => best_step (g := lcL c n 12) hi
  have hbl : ∀ m, m ≤ n → (bestL (lcL c n 12) (2 ^ n - 1) m).length ≤ 12 := fun m hm => by
    rcases bestL_ways (lcL c n 12) (2 ^ n - 1) m with ⟨e, _⟩ | ⟨j, hj, _, e, _⟩
    · rw [e]; simp
    · rw [e]; exact hg13 j (by omega)
  have hb0 : bestL (lcL c n 12) (2 ^ n - 1) 0 = [] := rfl
  have hla : ∀ w, Calls Tryd.prog 20 #[relV n c, .slice none 0 0, .int .i64 0] w fun e w' => ∃ v', e = .returned v' ∧ IRd w' w'.heap.size v' (itemsUp (laS c n n 0) n) ∧ Below w.heap.size w w' := fun w => lapart_any n c hle n 0 0 (.slice none 0 0) w (by omega) (by simp) ⟨none, 0, rfl, fun h => by simp [itemsUp] at h⟩
  rw [laS_wide hle hS.irr] at hla
  have hco := fun K (hK : K ≤ 12) w => col_any n c (relUp c (rev n c) n) hle (fun i j hi hj => both_bit hi hj) K hK n [] (.slice none 0 0) w (by simp) (by simp) ⟨none, 0, rfl, fun h => by simp [zs] at h⟩
  have hcl2 := fun K o (e : colC (relUp c (rev n c) n) K n [] = some o) => colC_len n [] o e
  have hw12 : pop (wide n c) ≤ 12 := Nat.le_trans (pop_wide c hle) hle
  have hwz := fun e : n = 0 => wide_zero c e
  have hil : (itemsUp (wide n c) n).length ≤ 1000000 := Nat.le_trans (itemsUp_length _ _) (by omega)
  generalize colC (relUp c (rev n c) n) = Cf at hcs hcn hco hcl2
  generalize pop (wide n c) = Wd at hcs hcn hw12 hwz
  generalize itemsUp (wide n c) n = xa at h2 hla hil
  generalize lcL c n 12 = g at h1 hlc hg13 hst hbl hb0
  generalize bestL g (2 ^ n - 1) = bs at h1 hst hbl hb0
  generalize hnu : (chainsOf n c).nu = nu at h4 hcs
  clear hnu
  generalize lcL (rev n c) n 12 = gb at hlb hll hl13
  generalize rankOf n c = rk at h3 hll
  have HF := Lib.hid (And.intro h1 (And.intro h2 (And.intro h3 h4)))
  have HC := Lib.hid hr
  have HD := Lib.hid hcl
  have HT := Lib.hid (And.intro hT hpos)
  have HLC := Lib.hid hlc
  have HLB := Lib.hid hlb
  have HLL := Lib.hid hll
  have HL13 := Lib.hid (And.intro hl13 hg13)
  have HST := Lib.hid hst
  have HBL := Lib.hid (And.intro hbl hb0)
  have HLA := Lib.hid hla
  have HCO := Lib.hid hco
  have HCN := Lib.hid (And.intro hcn (And.intro hcs hcl2))
  have HWZ := Lib.hid hwz
  have HIL := Lib.hid hil
  have HLT := Lib.hid hlt16
  clear h1 h2 h3 h4 hr hcl hT hpos hlc hlb hll hl13 hg13 hst hbl hb0 hla hco hcn hcs hcl2 hwz hil hlt16 h hy hS hgc
  go_enter Tryd.func4, Tryd.ntmps4
  have H := Lib.hid (⟨LsO.start w n a, fun p hp => by cases hp⟩ : LsV w n a [] (w.alloc (.cells (relCs n a) 25)))
  go_wp2_with fail
  refine (HF.out.1 _).mono ?_
  rintro e w1 ⟨v1, rfl, hx1, hb1⟩
  have h1 := H.out.add hb1 hx1.rd
  have c0 := h1.o.one.size
  obtain ⟨c1, c2, c3, c4, c5, c6, c7, c8, c9, c10, c11, c12⟩ := h1.o.one.rows
  have H1 := Lib.hid h1
  clear hb1 h1 hx1
  clear H
  go_wp2_with fail
  clear c0 c1 c2 c3 c4 c5 c6 c7 c8 c9 c10 c11 c12
  refine (HF.out.2.1 _ (H1.out.o.tab HT.out) (H1.out.o.pos HT.out)).mono ?_
  rintro e w2 ⟨v2, rfl, hx2, hb2⟩
  have h2 := H1.out.add hb2 hx2.rd
  have c0 := h2.o.one.size
  obtain ⟨c1, c2, c3, c4, c5, c6, c7, c8, c9, c10, c11, c12⟩ := h2.o.one.rows
  have H2 := Lib.hid h2
  clear hb2 h2 hx2
  clear H1
  go_wp2_with fail
  clear c0 c1 c2 c3 c4 c5 c6 c7 c8 c9 c10 c11 c12
  refine (HF.out.2.2.1 _).mono ?_
  rintro e w3 ⟨v3, rfl, hx3, hb3⟩
  have h3 := H2.out.add hb3 hx3.rd
  have c0 := h3.o.one.size
  obtain ⟨c1, c2, c3, c4, c5, c6, c7, c8, c9, c10, c11, c12⟩ := h3.o.one.rows
  have H3 := Lib.hid h3
  clear hb3 h3 hx3
  clear H2
  go_wp2_with fail
  clear c0 c1 c2 c3 c4 c5 c6 c7 c8 c9 c10 c11 c12
  refine (HF.out.2.2.2 _ (H3.out.o.tab HT.out) (H3.out.o.pos HT.out)).mono ?_
  rintro e w4 ⟨v4, rfl, hx4, hb4⟩
  have h4 := H3.out.add hb4 hx4.rd
  have c0 := h4.o.one.size
  obtain ⟨c1, c2, c3, c4, c5, c6, c7, c8, c9, c10, c11, c12⟩ := h4.o.one.rows
  have H4 := Lib.hid h4
  clear hb4 h4 hx4
  clear H3
  go_wp2_with fail
  clear c0 c1 c2 c3 c4 c5 c6 c7 c8 c9 c10 c11 c12
  refine (HC.out _).mono ?_
  rintro e w5 ⟨rfl, hb5⟩
  have h5 := H4.out.next hb5
  clear H4 hb5
  have c0 := fun o => (show RelB (w5.alloc o) w.heap.size n a from Lies.alloc h5.o.one o).size
  have cs := fun o => (show RelB (w5.alloc o) w.heap.size n a from Lies.alloc h5.o.one o).rows
  have c1 := fun o => (cs o).1
  have c2 := fun o => (cs o).2.1
  have c3 := fun o => (cs o).2.2.1
  have c4 := fun o => (cs o).2.2.2.1
  have c5 := fun o => (cs o).2.2.2.2.1
  have c6 := fun o => (cs o).2.2.2.2.2.1
  have c7 := fun o => (cs o).2.2.2.2.2.2.1
  have c8 := fun o => (cs o).2.2.2.2.2.2.2.1
  have c9 := fun o => (cs o).2.2.2.2.2.2.2.2.1
  have c10 := fun o => (cs o).2.2.2.2.2.2.2.2.2.1
  have c11 := fun o => (cs o).2.2.2.2.2.2.2.2.2.2.1
  have c12 := fun o => (cs o).2.2.2.2.2.2.2.2.2.2.2
  clear cs
  have H5 := Lib.hid h5
  clear h5
  go_wp2_with fail
  clear c0 c1 c2 c3 c4 c5 c6 c7 c8 c9 c10 c11 c12
  refine (HD.out _).mono ?_
  rintro e w6 ⟨rfl, hb6⟩
  have hB0 : RelB w6 w5.heap.size 0 (fun _ => 0) := Lies.below (Lies.cast (Lies.new w5 25 (relCs 0 fun _ => 0)) rfl) hb6 (by simp)
  have hb56 : Below w5.heap.size w5 w6 := ((Below.refl _ _).alloc (Nat.le_refl _) _).trans (hb6.mono (by simp))
  have hle5 : w.heap.size ≤ w5.heap.size := H5.out.o.below.size
  have hs := hB0.size
  obtain ⟨c0, c1, c2, c3, c4, c5, c6, c7, c8, c9, c10, c11⟩ := hB0.rows
  have hf := hB0.free
  have hV := H5.out.next (fillW_below hb56 (g := w5.heap.size) (Nat.le_refl _) n c)
  have hC := hB0.fill n c
  have HW0 := Lib.hid (And.intro hV hC)
  have d0 := hV.o.one.size
  have d1 := hV.o.one.rows
  clear hb6 hb56 hV hC H5
  go_upto_region 14 with fail
  change Code.wp _ _ _ _ (fillW w6 w5.heap.size n c)
  clear d0 d1 hs c0 c1 c2 c3 c4 c5 c6 c7 c8 c9 c10 c11 hf hB0 hle5
  generalize fillW w6 w5.heap.size n c = W at HW0 ⊢
  generalize w5.heap.size = C at HW0 ⊢
  have hmk := made_ints n (n : Int) rfl (by omega) W
  have d0 := HW0.out.1.o.one.size
  have d1 := fun o => (show RelB (W.alloc o) w.heap.size n a from Lies.alloc HW0.out.1.o.one o).size
  have hR0 : LsR W n (firstK rk 0) (.slice none 0 0) (bs 0) (W.alloc (.cells (tabCs n fun _ => 0) 3)) :=
    ⟨(Below.refl _ _).alloc (Nat.le_refl _) _, by rw [firstK_zero]; exact Lies.new _ _ _, by rw [HBL.out.2]; exact IFar.nil _ _⟩
  have HR0 := Lib.hid hR0
  clear hR0
  go_wp2_with fail
  have hR := HR0.out
  clear HR0 d0 d1 hmk
  change Code.wp _ _ _ _ (W.alloc (.cells (tabCs n fun _ => 0) 3))
  generalize W.alloc (.cells (tabCs n fun _ => 0) 3) = W1 at hR ⊢
  have HREL : Hid (∀ wr, Below W.heap.size W wr → RelB wr w.heap.size n a ∧ RelB wr C n c) := Lib.hid fun wr hb => ⟨Lies.below HW0.out.1.o.one hb HW0.out.1.o.one.lt, Lies.below HW0.out.2 hb HW0.out.2.lt⟩
  go_loopw [14, 98] (fun v t wr => ∃ i : Nat, i ≤ n ∧ t = .int .i64 i ∧ LsR W n (firstK rk i) v (bs i) wr) (fun _ t _ => n - (intOf t).toNat)
  case atStart => exact ⟨0, by omega, rfl, hR⟩
  case round =>
    clear hR
    obtain ⟨i, hi, rfl, hR⟩ := hrel
    by_cases hin : i < n
    · have c0 := (HREL.out wr hR.below).2.size
      obtain ⟨c1, c2, c3, c4, c5, c6, c7, c8, c9, c10, c11, c12⟩ := (HREL.out wr hR.below).2.rows
      obtain ⟨A0, cap0, rfl, _⟩ := id hR.ch
      have HR := Lib.hid hR
      clear hR
      go_wp2_with fail
      clear c0 c1 c2 c3 c4 c5 c6 c7 c8 c9 c10 c11 c12
      refine (HLC.out i wr hin).mono ?_
      rintro e x1 ⟨v', rfl, ho1, hb1⟩
      have hM1 : W.heap.size < wr.heap.size := HR.out.tab.lt
      have hf1 : IFar W.heap.size x1 v' (g i) := IFar.of_own ho1 hM1
      have hR1 := HR.out.next hb1
      obtain ⟨A1, cap1, rfl, _⟩ := id hf1
      have HR1 := Lib.hid (And.intro hR1 hf1)
      have hg12 := HL13.out.2 i hin
      have hb12 := HBL.out.1 i hi
      clear HR ho1 hb1 hM1 hR1 hf1
      have c0 := (HREL.out x1 HR1.out.1.below).1.size
      go_upto_if 108 with fail
      go_cut [14, 98] from 98 to 146 (fun p t wx => t = .int .i64 i ∧ LsR W n (firstK rk i) p (bs (i + 1)) wx)
      case first =>
        by_cases hlt : (bs i).length < (g i).length
        · have hgt : ((bs i).length : Int) < ((g i).length : Int) := by omega
          have hR2 : LsR W n (firstK rk i) (.slice A1 (g i).length cap1) (bs (i + 1)) x1 := by
            rw [HST.out i hin, if_pos hlt]
            exact ⟨HR1.out.1.below, HR1.out.1.tab, HR1.out.2⟩
          have HR2 := Lib.hid hR2
          clear hR2 HR1 hlt
          go_wp2_with fail
          go_meet
          exact ⟨rfl, HR2.out⟩
        · have hgt : ¬ ((bs i).length : Int) < ((g i).length : Int) := by omega
          have hR2 : LsR W n (firstK rk i) (.slice A0 (bs i).length cap0) (bs (i + 1)) x1 := by
            rw [HST.out i hin, if_neg hlt]
            exact HR1.out.1
          have HR2 := Lib.hid hR2
          clear hR2 HR1 hlt
          go_wp2_with fail
          go_meet
          exact ⟨rfl, HR2.out⟩
      case rest =>
        obtain ⟨rfl, hR2⟩ := hcut
        obtain ⟨A4, cap4, rfl, _⟩ := id hR2.ch
        have HR2 := Lib.hid hR2
        clear hR2 HR1 c0
        generalize wc = x1 at HR2 ⊢
        have c0 := (HREL.out x1 HR2.out.below).1.size
        have cA := fun o => (show RelB (x1.alloc o) w.heap.size n a from Lies.alloc (HREL.out x1 HR2.out.below).1 o).size
        have hB : BkR x1 n (revs n c 0) (x1.alloc (.cells (relCs n fun _ => 0) 25)) := ⟨(Below.refl _ _).alloc (Nat.le_refl _) _, Lies.new _ _ _⟩
        have HB := Lib.hid hB
        have HX : Hid (∀ wr, Below x1.heap.size x1 wr → RelB wr w.heap.size n a ∧ RelB wr C n c) := Lib.hid fun wr hb => HREL.out wr (HR2.out.below.trans (hb.mono HR2.out.below.size))
        clear hB
        go_wp2_with fail
        have hB := HB.out
        clear HB cA c0
        change Code.wp _ _ _ _ (x1.alloc (.cells (relCs n fun _ => 0) 25))
        generalize x1.alloc (.cells (relCs n fun _ => 0) 25) = WB at hB ⊢
        go_loopw [115] (fun t wr => ∃ j : Nat, j ≤ n ∧ t = .int .i64 j ∧ BkR x1 n (revs n c j) wr) (fun t _ => n - (intOf t).toNat)
        case atStart => exact ⟨0, by omega, rfl, hB⟩
        case round =>
          clear hB
          obtain ⟨j, hj, rfl, hB⟩ := hrel
          by_cases hjn : j < n
          · have c0 := (HX.out wr hB.below).1.size
            have HB := Lib.hid hB
            clear hB
            go_wp2_with fail
            have hB := HB.out
            clear HB c0
            go_loopw [120] (fun t wr => ∃ k : Nat, k ≤ n ∧ t = .int .i64 k ∧ BkR x1 n (stepR k c j (revs n c j)) wr) (fun t _ => n - (intOf t).toNat)
            case atStart => exact ⟨0, by omega, rfl, by rw [stepR_zero]; exact hB⟩
            case round =>
              clear hB
              obtain ⟨k, hk, rfl, hB⟩ := hrel
              by_cases hkn : k < n
              · have hk12 : k < 12 := by omega
                have hlm : revs n c j k < 65536 := revs_lt n c 16 k j (by omega)
                have hs := stepR_succ k c j (revs n c j)
                have c0 := (HX.out wr hB.below).2.size
                obtain ⟨c1, c2, c3, c4, c5, c6, c7, c8, c9, c10, c11, c12⟩ := (HX.out wr hB.below).2.rows
                have HB := Lib.hid hB
                have HS := Lib.hid hs
                clear hB hs
                go_wp2_with fail
                clear c0 c1 c2 c3 c4 c5 c6 c7 c8 c9 c10 c11 c12
                refine (ahead_any (n : Int) c j k wr (by omega) (by omega)).mono ?_
                rintro e y1 ⟨rfl, hb1⟩
                have hB := HB.out.next hb1
                have cm := hB.bk.row' hk12
                have fm := hB.bk.free (1 + k)
                rw [stepR_at] at cm
                have ho := or_pow (revs n c j k) j hlm (by omega)
                have hp := pow_u16 j (by omega)
                have HB1 := Lib.hid hB
                clear HB hb1 hB
                cases hb : (c j).testBit k
                · have hs := HS.out
                  rw [hb] at hs
                  have HS1 := Lib.hid hs
                  clear hs hb HS
                  go_wp2_with fail
                  go_roundw
                  case rel => exact ⟨k + 1, by omega, by go_num, HB1.out.congr (fun x hx => by rw [HS1.out]; split <;> simp_all [stepR_at])⟩
                  case measure => simp [intOf]; omega
                · have hs := HS.out
                  rw [hb] at hs
                  have HS1 := Lib.hid hs
                  clear hs hb HS
                  go_wp2_with fail
                  go_region
                  go_wp2
                  go_roundw
                  case rel => exact ⟨k + 1, by omega, by go_num, (BkR.drew (HB1.out.set_ hk12 _)).congr (fun x hx => by rw [HS1.out]; split <;> simp_all)⟩
                  case measure => simp [intOf]; omega
              · obtain rfl : n = k := by omega
                have HB := Lib.hid hB
                clear hB
                go_wp2_with fail
                go_roundw
                case rel => exact ⟨j + 1, by omega, by go_num, HB.out⟩
                case measure => simp [intOf]; omega
          · obtain rfl : n = j := by omega
            have c0 := hB.bk.size
            obtain ⟨c1, c2, c3, c4, c5, c6, c7, c8, c9, c10, c11, c12⟩ := hB.bk.rows
            have HB := Lib.hid hB
            clear hB
            go_wp2_with fail
            clear c0 c1 c2 c3 c4 c5 c6 c7 c8 c9 c10 c11 c12
            refine (HLB.out i wr hin).mono ?_
            rintro e y1 ⟨vb, rfl, ho1, hb1⟩
            obtain ⟨A3, cap3, rfl, _⟩ := ho1.rd
            have hR3 := HR2.out.next (HB.out.below.trans (hb1.mono HB.out.below.size))
            have hfr := hR3.tab.free i
            have hce := hR3.tab.cell hin
            have hgb := HL13.out.1 i hin
            have i1 : (0 : Int) ≤ (i : Int) := by omega
            have i2 : (i : Int) < (n : Int) := by omega
            have HR3 := Lib.hid hR3
            clear ho1 hb1 HB HR2 hR3
            go_wp2_with fail
            go_roundw
            case rel => exact ⟨i + 1, by omega, by go_num, ⟨HR3.out.below.setCell (p := ⟨W.heap.size, i, none⟩) (Nat.le_refl _) _, by rw [firstK_succ, ← HLL.out i hin]; exact HR3.out.tab.set_ i _, HR3.out.ch.set_ i _⟩⟩
            case measure => simp [intOf]; omega
    · obtain rfl : n = i := by omega
      have c0 := (HREL.out wr hR.below).2.size
      obtain ⟨c1, c2, c3, c4, c5, c6, c7, c8, c9, c10, c11, c12⟩ := (HREL.out wr hR.below).2.rows
      obtain ⟨A0, cap0, rfl, _⟩ := id hR.ch
      have HR := Lib.hid hR
      clear hR
      go_wp2_with fail
      clear c0 c1 c2 c3 c4 c5 c6 c7 c8 c9 c10 c11 c12
      refine (HLA.out wr).mono ?_
      rintro e y1 ⟨va, rfl, hxa, hb1⟩
      have HY := Lib.hid (And.intro (HR.out.next hb1) hxa)
      clear hb1 hxa HR
      go_wp2_with fail
      go_loopw [22] (fun t wr => ∃ K : Nat, K ≤ Wd ∧ t = .int .i64 K ∧ Below y1.heap.size y1 wr) (fun t _ => Wd - (intOf t).toNat)
      case atStart => exact ⟨0, by omega, rfl, Below.refl _ _⟩
      case round =>
        obtain ⟨K, hK, rfl, hb⟩ := hrel
        have HB := Lib.hid hb
        have hL := HY.out.1.next hb
        have c0 := (HREL.out _ hL.below).1.size
        have d0 := (HREL.out _ hL.below).2.size
        obtain ⟨d1, d2, d3, d4, d5, d6, d7, d8, d9, d10, d11, d12⟩ := (HREL.out _ hL.below).2.rows
        clear hL hb
        by_cases hn0 : n = 0
        · have hW0 := HWZ.out hn0
          obtain rfl : Wd = K := by omega
          have hnot : ¬ ((0 : Int) < (n : Int)) := by omega
          clear hn0 hW0
          go_wp2_with fail
          clear c0 d0 d1 d2 d3 d4 d5 d6 d7 d8 d9 d10 d11 d12 hnot
          generalize wr = Z at HB ⊢
          have HZ := Lib.hid (FinR.make HW0.out.1 hle (HY.out.1.next HB.out) ((HY.out.2.below HB.out).mono HB.out.size))
          have HLN := Lib.hid (And.intro (show (bs n).length ≤ 1000000 from Nat.le_trans (HBL.out.1 n (Nat.le_refl _)) (by decide)) (fun f : Nat → Int => (show (listed n f).length ≤ 1000000 from Nat.le_trans (Nat.le_of_eq (listed_len n f)) (Nat.le_trans hle (by decide)))))
          clear HY HB
          refine (equal_same HZ.out.a1 HZ.out.a2 HLN.out.1).mono ?_
          rintro e z1 ⟨rfl, hb1⟩
          have HZ1 := Lib.hid (HZ.out.next hb1)
          clear hb1 HZ
          go_wp2_with fail
          refine (equal_same HZ1.out.b1 HZ1.out.b2 HIL.out).mono ?_
          rintro e z2 ⟨rfl, hb2⟩
          have HZ2 := Lib.hid (HZ1.out.next hb2)
          clear hb2 HZ1
          go_wp2_with fail
          refine (equal_same HZ2.out.c1 HZ2.out.c2 (HLN.out.2 rk)).mono ?_
          rintro e z3 ⟨rfl, hb3⟩
          have HZ3 := Lib.hid (HZ2.out.next hb3)
          clear hb3 HZ2
          have d0 := (HREL.out _ HZ3.out.below).2.size
          obtain ⟨d1, d2, d3, d4, d5, d6, d7, d8, d9, d10, d11, d12⟩ := (HREL.out _ HZ3.out.below).2.rows
          go_wp2_with fail
          clear d0 d1 d2 d3 d4 d5 d6 d7 d8 d9 d10 d11 d12
          refine (HCO.out Wd hw12 z3).mono ?_
          rintro e z4 ⟨vd, rfl, hcd⟩
          have HZ4 := Lib.hid (HZ3.out.next hcd.1)
          have HRD : Hid (IRd z4 z4.heap.size vd (listed n nu)) := Lib.hid (by
            obtain ⟨l', e1, e2⟩ := HCN.out.2.1
            have := hcd.2.1 l' e1
            rwa [e2] at this)
          clear hcd HZ3
          go_wp2_with fail
          refine (equal_same HZ4.out.d1 HRD.out (HLN.out.2 nu)).mono ?_
          rintro e z5 ⟨rfl, hb5⟩
          have HZ5 := Lib.hid (HZ4.out.next hb5)
          clear hb5 HZ4 HRD
          go_wp2_with fail
          go_ret
          exact ⟨rfl, HW0.out.1.o.below.trans (HZ5.out.below.mono HW0.out.1.o.below.size)⟩
        · have hpn : (0 : Int) < (n : Int) := by omega
          go_wp2_with fail
          clear c0 d0 d1 d2 d3 d4 d5 d6 d7 d8 d9 d10 d11 d12
          refine (HCO.out K (by omega) wr).mono ?_
          rintro e Z ⟨vc, rfl, hcv⟩
          have HB' := Lib.hid (HB.out.trans (hcv.1.mono HB.out.size))
          by_cases hKW : K < Wd
          · obtain rfl := hcv.2.2 (HCN.out.1 K hKW)
            have hnn := nil_eq
            clear hcv
            go_wp2_with fail
            go_roundw
            case rel => exact ⟨K + 1, by omega, by go_num, HB'.out⟩
            case measure => simp [intOf]; omega
          · obtain rfl : Wd = K := by omega
            obtain ⟨l', e1, e2⟩ := HCN.out.2.1
            have hl' := HCN.out.2.2 _ _ e1
            obtain ⟨A2, p2, rfl, hc2⟩ := hcv.2.1 l' e1
            obtain ⟨g2, rfl, _, _⟩ := hc2 (by rw [zs_len, hl']; simp; omega)
            have hnn := some_eq
            clear hcv hc2 e1 e2 hl' HB
            have HB := Lib.hid HB'.out
            clear HB'
            go_wp2_with fail
            clear hnn
            have HZ := Lib.hid (FinR.make HW0.out.1 hle (HY.out.1.next HB.out) ((HY.out.2.below HB.out).mono HB.out.size))
            have HLN := Lib.hid (And.intro (show (bs n).length ≤ 1000000 from Nat.le_trans (HBL.out.1 n (Nat.le_refl _)) (by decide)) (fun f : Nat → Int => (show (listed n f).length ≤ 1000000 from Nat.le_trans (Nat.le_of_eq (listed_len n f)) (Nat.le_trans hle (by decide)))))
            clear HY HB
            refine (equal_same HZ.out.a1 HZ.out.a2 HLN.out.1).mono ?_
            rintro e z1 ⟨rfl, hb1⟩
            have HZ1 := Lib.hid (HZ.out.next hb1)
            clear hb1 HZ
            go_wp2_with fail
            refine (equal_same HZ1.out.b1 HZ1.out.b2 HIL.out).mono ?_
            rintro e z2 ⟨rfl, hb2⟩
            have HZ2 := Lib.hid (HZ1.out.next hb2)
            clear hb2 HZ1
            go_wp2_with fail
            refine (equal_same HZ2.out.c1 HZ2.out.c2 (HLN.out.2 rk)).mono ?_
            rintro e z3 ⟨rfl, hb3⟩
            have HZ3 := Lib.hid (HZ2.out.next hb3)
            clear hb3 HZ2
            have d0 := (HREL.out _ HZ3.out.below).2.size
            obtain ⟨d1, d2, d3, d4, d5, d6, d7, d8, d9, d10, d11, d12⟩ := (HREL.out _ HZ3.out.below).2.rows
            go_wp2_with fail
            clear d0 d1 d2 d3 d4 d5 d6 d7 d8 d9 d10 d11 d12
            refine (HCO.out Wd hw12 z3).mono ?_
            rintro e z4 ⟨vd, rfl, hcd⟩
            have HZ4 := Lib.hid (HZ3.out.next hcd.1)
            have HRD : Hid (IRd z4 z4.heap.size vd (listed n nu)) := Lib.hid (by
              obtain ⟨l', e1, e2⟩ := HCN.out.2.1
              have := hcd.2.1 l' e1
              rwa [e2] at this)
            clear hcd HZ3
            go_wp2_with fail
            refine (equal_same HZ4.out.d1 HRD.out (HLN.out.2 nu)).mono ?_
            rintro e z5 ⟨rfl, hb5⟩
            have HZ5 := Lib.hid (HZ4.out.next hb5)
            clear hb5 HZ4 HRD
            go_wp2_with fail
            go_ret
            exact ⟨rfl, HW0.out.1.o.below.trans (HZ5.out.below.mono HW0.out.1.o.below.size)⟩
theorem lists_all (n : Int) (a : Nat → Nat) (w : World) (ha : ∀ i, a i < 65536) (hT : Tab w) (hpos : 0 < w.heap.size) :
    Calls Tryd.prog 4 #[relV n a] w fun e w' => e = .returned (.bool true) ∧ Below w.heap.size w w' := by
  rcases right_ways n a ha with ⟨E, hE, hc, hr⟩ | ⟨m, rfl, h, hc, hr⟩
  · exact lists_err n a E w hE hc hr
  · cases hy : cyc (clo m a) m with
    | true => exact lists_round m a w h hy hr
    | false => exact lists_good m a w h hy hT hpos hr
end Go.Proofs.YtkfijolimoehmaaDoor
