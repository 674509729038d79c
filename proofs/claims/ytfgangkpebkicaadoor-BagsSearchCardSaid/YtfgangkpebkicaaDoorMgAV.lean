/-
  Joined by a program out of: BagArgs, BagPart, BagShelf, AppInt.
-/
import Derived.Test.YtfgangkpebkicaaDoorMgAD
import Derived.Test.YtfgangkpebkicaaDoorMgAU
import Derived.Test.YtfgangkpebkicaaDoorProg
import Derived.Shelf.SortM.Plain
import Derived.Shelf.SortM.SortNone
import Derived.Shelf.Slices.CompactI
import Derived.Test.YtfgangkpebkicaaDoorMgAF
import Derived.Test.YtfgangkpebkicaaDoorMgAB

/-
  Contracts of bags.open, bags.arguments, bags.Part.
-/
namespace Go.Proofs.YtfgangkpebkicaaDoor
open Go.RowKit
set_option maxRecDepth 20000
theorem bopen_any {lv : Value} {l : List Ev} {w : World} (hl : ERd w w.heap.size lv l) :
    Calls Tryd.prog 28 #[lv] w fun e w' => Below w.heap.size w w' ∧ ∃ v, e = .returned (.tuple #[v, .int .i64 (callsOf [4] l).2.2]) ∧ CRd w' w'.heap.size v (callsOf [4] l).1 := by
  have hb1 : Below w.heap.size w (w.alloc (.cells #[.int .i64 4] 3)) := (Below.refl _ _).alloc (Nat.le_refl _) _
  have hts : NRd (w.alloc (.cells #[.int .i64 4] 3)) (w.alloc (.cells #[.int .i64 4] 3)).heap.size (.slice (some ⟨w.heap.size, 0, none⟩) 1 1) [4] := by
    have h9 := LRd.of_lit (f := intCs) (s := 1) (w := w) (l := [4]) (fun _ => rfl) 3 (cs := #[.int .i64 4]) rfl (n := 1) rfl (by unfold maxLen; omega)
    exact h9.mono (by simp)
  have HC := Lib.hid (calls_any hts ((hl.below hb1).mono hb1.size))
  obtain ⟨Al, capl, rfl, -, -⟩ := hl.is
  have H1 := Lib.hid hb1
  clear hl hb1 hts
  generalize callsOf [4] l = o at HC ⊢
  generalize l.length = L at HC ⊢
  go_enter Tryd.func28, Tryd.ntmps28
  go_wp2_with fail
  refine HC.out.mono ?_
  rintro e w1 ⟨v, rfl, hb1, hcr⟩
  obtain ⟨cs, at1, E0⟩ := o
  simp only at hcr ⊢
  have H2 := Lib.hid (And.intro (H1.out.trans (hb1.mono H1.out.size)) hcr)
  clear HC H1 hb1 hcr
  go_wp2_with fail
  go_ret2
  exact ⟨H2.out.1, _, rfl, H2.out.2⟩
def putA (f : Nat → Int) (c : Cl) : Nat → Int := if c.til ≠ -1 then (fun j => if j = c.til.toNat then c.arg else if j = c.frm.toNat then c.arg else f j) else fun j => if j = c.frm.toNat then c.arg else f j
/-- The argument of the call to which an event belongs. -/
def argF (cs : List Cl) : Nat → Int := cs.foldl putA fun _ => 0
theorem argF_take {cs : List Cl} {k : Nat} {c : Cl} (h : cs[k]? = some c) : argF (cs.take (k + 1)) = putA (argF (cs.take k)) c := by
  unfold argF
  rw [List.take_add_one, h, Option.toList_some, List.foldl_append]
  rfl
def hitA (z : Nat) (c : Cl) : Prop := c.frm.toNat = z ∨ (c.til ≠ -1 ∧ c.til.toNat = z)
theorem putA_hit {f : Nat → Int} {c : Cl} {z : Nat} (h : hitA z c) : putA f c z = c.arg := by
  unfold putA
  rcases h with h | ⟨h1, h2⟩
  · split
    · by_cases e : z = c.til.toNat
      · simp only [e, if_true]
      · simp only [if_neg e, if_pos h.symm]
    · simp only [if_pos h.symm]
  · rw [if_pos h1]
    simp only [if_pos h2.symm]
theorem putA_no {f : Nat → Int} {c : Cl} {z : Nat} (h : ¬ hitA z c) : putA f c z = f z := by
  unfold putA
  have h1 : ¬ z = c.frm.toNat := fun e => h (.inl e.symm)
  split
  · rename_i h2
    have h3 : ¬ z = c.til.toNat := fun e => h (.inr ⟨h2, e.symm⟩)
    simp only [if_neg h1, if_neg h3]
  · simp only [if_neg h1]
theorem fold_hit (z : Nat) : ∀ (cs : List Cl) (f : Nat → Int), ((∃ c ∈ cs, hitA z c) → ∃ c ∈ cs, hitA z c ∧ cs.foldl putA f z = c.arg) ∧ ((¬ ∃ c ∈ cs, hitA z c) → cs.foldl putA f z = f z)
  | [], f => ⟨fun ⟨c, hc, _⟩ => absurd hc List.not_mem_nil, fun _ => rfl⟩
  | c :: cs, f => by
    obtain ⟨h1, h2⟩ := fold_hit z cs (putA f c)
    rw [List.foldl_cons]
    by_cases hr : ∃ d ∈ cs, hitA z d
    · obtain ⟨d, hd, hz, e⟩ := h1 hr
      exact ⟨fun _ => ⟨d, List.mem_cons_of_mem _ hd, hz, e⟩, fun hn => absurd ⟨d, List.mem_cons_of_mem _ hd, hz⟩ hn⟩
    · rw [h2 hr]
      by_cases hc : hitA z c
      · exact ⟨fun _ => ⟨c, List.mem_cons_self, hc, putA_hit hc⟩, fun hn => absurd ⟨c, List.mem_cons_self, hc⟩ hn⟩
      · refine ⟨fun ⟨d, hd, hz⟩ => ?_, fun _ => putA_no hc⟩
        rcases List.mem_cons.1 hd with rfl | hd
        · exact absurd hz hc
        · exact absurd ⟨d, hd, hz⟩ hr
theorem argF_bag {l : List Ev} (h : (callsOf [4] l).2.2 = 0) {v : Int} (hv : v ≠ 0) (z : Nat) : bagK (callsOf [4] l).1 v (z : Int) = (argF (callsOf [4] l).1 z == v) := by
  have hB := calls_bagH h
  have hit : ∀ c ∈ (callsOf [4] l).1, hitA z c ↔ (c.frm = (z : Int) ∨ (c.til ≠ -1 ∧ c.til = (z : Int))) := fun c hc => by
    have h1 := hB.frm c hc
    have h2 := hB.ends c hc
    unfold hitA
    omega
  have one : ∀ c ∈ (callsOf [4] l).1, ∀ d ∈ (callsOf [4] l).1, hitA z c → hitA z d → c = d := fun c hc d hd h1 h2 => by
    have h3 := bag_one h hc hd
    have h4 := bag_one h hd hc
    rw [hit c hc] at h1
    rw [hit d hd] at h2
    rcases h1 with h1 | ⟨h5, h1⟩
    · rcases h2 with h2 | ⟨_, h2⟩
      · exact h3.1 (h1.trans h2.symm)
      · exact absurd (h2.trans h1.symm) h4.2.2
    · rcases h2 with h2 | ⟨_, h2⟩
      · exact absurd (h1.trans h2.symm) h3.2.2
      · exact h3.2.1 h5 (h1.trans h2.symm)
  obtain ⟨f1, f2⟩ := fold_hit z (callsOf [4] l).1 fun _ => 0
  rw [Bool.eq_iff_iff, bagK_iff, beq_iff_eq]
  constructor
  · rintro ⟨c, hc, rfl, hz⟩
    have hzc := (hit c hc).2 hz
    obtain ⟨d, hd, hz2, e⟩ := f1 ⟨c, hc, hzc⟩
    rw [one c hc d hd hzc hz2]
    exact e
  · intro e
    by_cases hx : ∃ c ∈ (callsOf [4] l).1, hitA z c
    · obtain ⟨d, hd, hz2, e2⟩ := f1 hx
      exact ⟨d, hd, e2.symm.trans e, (hit d hd).1 hz2⟩
    · exact absurd ((f2 hx).symm.trans e).symm hv
set_option maxHeartbeats 4000000 in
theorem bargs_any {v : Value} {cs : List Cl} {w : World} {n N : Nat} {li : Int} (h : CRd w w.heap.size v cs) (hN : N = n) (hli : li = (N : Int)) (hn : n ≤ 200) (hc : cs.length ≤ 200) (hr : ∀ c ∈ cs, 0 ≤ c.frm ∧ c.frm < n ∧ (c.til = -1 ∨ 0 ≤ c.til) ∧ c.til < n) :
    Calls Tryd.prog 60 #[v, .int .i64 li] w fun e w' => e = .returned (.slice (some ⟨w.heap.size, 0, none⟩) N N) ∧ Below w.heap.size w w' ∧ ITab w' w.heap.size N (argF cs) := by
  subst hN
  obtain ⟨A, c, rfl, m1, m2⟩ := h.is
  unfold maxLen at m2
  have H := Lib.hid (And.intro h hr)
  clear h hr
  obtain ⟨L, hL⟩ : ∃ L, L = cs.length := ⟨_, rfl⟩
  rw [← hL]
  rw [← hL] at m1 hc
  have HL := Lib.hid hL
  clear hL
  have hmk := made_ints N li hli (by omega) w
  have H0 := Lib.hid (And.intro ((Below.refl _ w).alloc (Nat.le_refl _) (.cells (tabCs N fun _ => 0) 3)) (show ITab _ w.heap.size N (fun _ => 0) from Lies.new w _ _))
  clear hli
  go_enter Tryd.func60, Tryd.ntmps60
  go_wp2_with fail
  go_loopw [12] (fun i wr => ∃ k : Nat, k ≤ L ∧ i = .int .i64 k ∧ Below w.heap.size w wr ∧ ITab wr w.heap.size N (argF (cs.take k))) (fun i _ => L - (intOf i).toNat)
  case atStart => exact ⟨0, by omega, rfl, H0.out.1, by rw [List.take_zero]; exact H0.out.2⟩
  case round =>
    clear H0 hmk
    obtain ⟨k, hk, rfl, hb, hT⟩ := hrel
    by_cases hkL : k < L
    · obtain ⟨x, hx⟩ : ∃ x, cs[k]? = some x := ⟨_, List.getElem?_eq_getElem (by rw [← HL.out]; exact hkL)⟩
      have h' := H.out.1.below hb
      rw [← HL.out] at h'
      obtain ⟨g, o, rfl, -, d0, d1, d2, d3, d4, d5, d6⟩ := h'.cl hx
      have i1 : (0 : Int) ≤ (k : Int) := by omega
      have i2 : (k : Int) < (L : Int) := by omega
      have hst := argF_take hx
      have hxr := H.out.2 x (List.mem_of_getElem? hx)
      obtain ⟨x0, x1, x2, x3, x4, x5, x6⟩ := x
      simp only at hxr
      obtain ⟨F, rfl⟩ : ∃ F : Nat, x5 = (F : Int) := ⟨x5.toNat, by omega⟩
      have hba : Below wr.heap.size wr (wr.alloc (.cells #[.int .i64 x0, .int .i64 x1, .int .i64 x2, .int .i64 x3, .int .i64 x4, .int .i64 (F : Int), .int .i64 x6] 51)) := (Below.refl _ _).alloc (Nat.le_refl _) _
      have hTl := Lies.lt hT
      have HW := Lib.hid (And.intro (hb.trans (hba.mono hb.size)) (And.intro (show ITab _ w.heap.size N _ from Lies.below hT hba hTl) (And.intro (Lies.new wr 51 #[.int .i64 x0, .int .i64 x1, .int .i64 x2, .int .i64 x3, .int .i64 x4, .int .i64 (F : Int), .int .i64 x6]) hTl)))
      have HS := Lib.hid hst
      have HX := Lib.hid hxr
      clear h' hx hb hst hba hT hTl
      go_upto_region 5 with fail
      clear d0 d1 d2 d3 d4 d5 d6
      change Code.wp _ _ _ _ (wr.alloc (.cells #[.int .i64 x0, .int .i64 x1, .int .i64 x2, .int .i64 x3, .int .i64 x4, .int .i64 (F : Int), .int .i64 x6] 51))
      generalize wr.alloc (.cells #[.int .i64 x0, .int .i64 x1, .int .i64 x2, .int .i64 x3, .int .i64 x4, .int .i64 (F : Int), .int .i64 x6] 51) = W2 at HW ⊢
      generalize wr.heap.size = X at HW ⊢
      have e3 := Lies.cell HW.out.2.2.1 3
      have e5 := Lies.cell HW.out.2.2.1 5
      have e6 := Lies.cell HW.out.2.2.1 6
      simp only [List.getElem?_toArray, List.getElem?_cons_zero, List.getElem?_cons_succ] at e3 e5 e6
      have hFN : F < N := by have := HX.out.2.1; omega
      have i3 : (0 : Int) ≤ (F : Int) := by omega
      have i4 : (F : Int) < (N : Int) := by omega
      have o5 := HW.out.2.1.cell hFN
      have f5 := HW.out.2.1.free F
      have HP := Lib.hid (And.intro (HW.out.1.setCell (p := ⟨w.heap.size, F, none⟩) (Nat.le_refl _) (.int .i64 x3)) (And.intro (HW.out.2.1.set_ F x3) (Lies.far HW.out.2.2.1 (p := ⟨w.heap.size, F, none⟩) (by have := HW.out.2.2.2; simp only; omega) (.int .i64 x3))))
      have HXl := Lib.hid HW.out.2.2.2
      clear HW
      go_upto_region 6 with fail
      clear o5 f5 e3 e5 e6
      change Code.wp _ _ _ _ (W2.setCell ⟨w.heap.size, F, none⟩ (.int .i64 x3))
      generalize W2.setCell ⟨w.heap.size, F, none⟩ (.int .i64 x3) = W3 at HP ⊢
      have e3 := Lies.cell HP.out.2.2 3
      have e6 := Lies.cell HP.out.2.2 6
      simp only [List.getElem?_toArray, List.getElem?_cons_zero, List.getElem?_cons_succ] at e3 e6
      by_cases t1 : x6 = -1
      · have hz : (x6 != -1) = false := by rw [bne_eq_false_iff_eq]; exact t1
        have HT := Lib.hid t1
        clear t1
        go_wp2_with fail
        go_roundw
        case rel =>
          refine ⟨k + 1, by omega, by go_num, HP.out.1, ?_⟩
          rw [HS.out]
          unfold putA
          rw [if_neg (fun h => h HT.out)]
          exact HP.out.2.1
        case measure => simp [intOf]; omega
      · have hz : (x6 != -1) = true := by rw [bne_iff_ne]; exact t1
        obtain ⟨Q, rfl⟩ : ∃ Q : Nat, x6 = (Q : Int) := ⟨x6.toNat, by have := HX.out.2.2.1; omega⟩
        have hQN : Q < N := by have := HX.out.2.2.2; omega
        have HT := Lib.hid t1
        have i5 : (0 : Int) ≤ (Q : Int) := by omega
        have i6 : (Q : Int) < (N : Int) := by omega
        have o6 := HP.out.2.1.cell hQN
        have f6 := HP.out.2.1.free Q
        have HZ := Lib.hid (And.intro (HP.out.1.setCell (p := ⟨w.heap.size, Q, none⟩) (Nat.le_refl _) (.int .i64 x3)) (HP.out.2.1.set_ Q x3))
        generalize hov : (if Q = F then x3 else argF (cs.take k) Q) = ov at o6
        clear t1 HP hov
        go_wp2_with fail
        go_roundw
        case rel =>
          refine ⟨k + 1, by omega, by go_num, HZ.out.1, ?_⟩
          rw [HS.out]
          unfold putA
          rw [if_pos HT.out]
          simp only [Int.toNat_natCast]
          exact HZ.out.2
        case measure => simp [intOf]; omega
    · obtain rfl : k = L := by omega
      have HB := Lib.hid (And.intro hb hT)
      clear hb hT
      go_wp2_with fail
      go_ret
      refine ⟨rfl, HB.out.1, ?_⟩
      have := HB.out.2
      rw [HL.out, List.take_length] at this
      exact this
end Go.Proofs.YtfgangkpebkicaaDoor

/-
  Contract of bags.Part.
-/
namespace Go.Proofs.YtfgangkpebkicaaDoor
open Go.RowKit
set_option maxRecDepth 20000
/-- The events of the calls of one number, or the error. -/
def bagP (l : List Ev) (n : Int) : List Ev × Int := if (callsOf [4] l).2.2 ≠ 0 then ([], (callsOf [4] l).2.2) else if ¬ (1 ≤ n ∧ n ≤ 1000) then ([], 1) else (bagL l n, 0)
def BPart (w : World) (o : List Ev × Int) (e : Ending) (w' : World) : Prop :=
  ∃ v, e = .returned (.tuple #[v, .int .i64 o.2]) ∧ Below w.heap.size w w' ∧ EOwn w' w.heap.size v o.1
theorem EOwn.base_mono {w : World} {B B' : Nat} {v : Value} {l : List Ev} (h : EOwn w B' v l) (hB : B ≤ B') : EOwn w B v l :=
  ⟨h.1, h.2.elim (fun h => .inl h) fun ⟨g, cap, cur, h1, h2, h3⟩ => .inr ⟨g, cap, cur, h1, Nat.le_trans hB h2, h3⟩⟩
set_option maxHeartbeats 4000000 in
theorem bpart_any {lv : Value} {l : List Ev} {w : World} (hl : ERd w w.heap.size lv l) (q : Int) :
    Calls Tryd.prog 33 #[lv, .int .i64 q] w (BPart w (bagP l q)) := by
  have er : bagP l q = if (callsOf [4] l).2.2 ≠ 0 then ([], (callsOf [4] l).2.2) else if ¬ (1 ≤ q ∧ q ≤ 1000) then ([], 1) else (bagL l q, 0) := rfl
  generalize bagP l q = o at er ⊢
  have HO := Lib.hid (bopen_any hl)
  have HL := Lib.hid hl
  obtain ⟨Al, capl, rfl, m3, m4⟩ := hl.is
  unfold maxLen at m4
  have HE := Lib.hid er
  obtain ⟨L, hL⟩ : ∃ L, L = l.length := ⟨_, rfl⟩
  rw [← hL] at m3 HO HL ⊢
  have HLL := Lib.hid hL
  clear hl er hL
  go_enter Tryd.func33, Tryd.ntmps33
  go_wp2_with fail
  refine HO.out.mono ?_
  rintro e w1 ⟨hb1, v1, rfl, hc1⟩
  by_cases h0 : (callsOf [4] l).2.2 = 0
  · have hlen := (calls_zero h0).2.1
    have er := HE.out
    rw [if_neg (by rw [h0]; decide)] at er
    rw [h0]
    by_cases c0 : q < 1
    · rw [if_pos (by omega)] at er
      subst er
      have H1 := Lib.hid hb1
      clear hc1 hb1 h0 HO HE
      go_wp2_with fail
      go_ret2
      exact ⟨_, rfl, H1.out, World.ownsRow_nil _ _ _ _⟩
    · by_cases c1 : (1000 : Int) < q
      · rw [if_pos (by omega)] at er
        subst er
        have H1 := Lib.hid hb1
        clear hc1 hb1 h0 HO HE
        go_wp2_with fail
        go_ret2
        exact ⟨_, rfl, H1.out, World.ownsRow_nil _ _ _ _⟩
      · rw [if_neg (by omega)] at er
        subst er
        have hL200 : L ≤ 200 := by rw [HLL.out]; exact hlen
        have hbag : ∀ z : Nat, bagK (callsOf [4] l).1 q (z : Int) = (argF (callsOf [4] l).1 z == q) := argF_bag h0 (by omega)
        have htd := (calls_orderly h0).1
        have hrg : ∀ c ∈ (callsOf [4] l).1, 0 ≤ c.frm ∧ c.frm < (L : Int) ∧ (c.til = -1 ∨ 0 ≤ c.til) ∧ c.til < (L : Int) := fun c hc => by
          have h1 := htd.tidy c hc
          have h2 := htd.ends c hc
          rw [HLL.out]
          omega
        have hcl : (callsOf [4] l).1.length ≤ 200 := calls_lenQ h0
        have HA := Lib.hid (bargs_any hc1 rfl rfl hL200 hcl hrg)
        have H1 := Lib.hid hb1
        have HK := Lib.hid hbag
        obtain ⟨Ac, cc, rfl, -, -⟩ := hc1.is
        generalize (callsOf [4] l).1.length = nc at HA ⊢
        clear hc1 hb1 h0 HO HE hbag htd hrg hcl hlen
        go_wp2_with fail
        refine HA.out.mono ?_
        rintro e w2 ⟨rfl, hb2, hT⟩
        have H2 := Lib.hid (And.intro (H1.out.trans (hb2.mono H1.out.size)) (And.intro hT (And.intro (Lies.lt hT) H1.out.size)))
        generalize w1.heap.size = G at H2
        clear HA H1 hb2 hT
        go_wp2_with fail
        go_loopw [8, 30] (fun v i wr => ∃ (k : Nat) (v0 : Value), k ≤ L ∧ i = .int .i64 k ∧ v0 = v ∧ EOwn wr (G + 1) v0 (subL (bagK (callsOf [4] l).1 q) 0 (l.take k)) ∧ Below w.heap.size w wr ∧ ITab wr G L (argF (callsOf [4] l).1) ∧ G < wr.heap.size) (fun _ i _ => L - (intOf i).toNat)
        case atStart => exact ⟨0, _, by omega, rfl, rfl, World.ownsRow_nil _ _ _ _, H2.out.1, H2.out.2.1, H2.out.2.2.1⟩
        case round =>
          have HG := Lib.hid H2.out.2.2.2
          clear H2
          obtain ⟨k, v0, hk, rfl, rfl, ho, hb, hT, hG⟩ := hrel
          by_cases hkL : k < L
          · obtain ⟨x, hx⟩ : ∃ x, l[k]? = some x := ⟨_, List.getElem?_eq_getElem (by rw [← HLL.out]; exact hkL)⟩
            have hst := subL_take (k := bagK (callsOf [4] l).1 q) hx
            rw [HK.out k] at hst
            have hl' := HL.out.below hb
            obtain ⟨g, o, rfl, -, d0, d1, d2, d3⟩ := hl'.ev hx
            have i1 : (0 : Int) ≤ (k : Int) := by omega
            have i2 : (k : Int) < (L : Int) := by omega
            have t0 := hT.cell hkL
            have hpl : (subL (bagK (callsOf [4] l).1 q) 0 (l.take k)).length ≤ 65536 := by
              have h1 := subL_len (bagK (callsOf [4] l).1 q) (l.take k) 0
              have h2 : (l.take k).length ≤ k := List.length_take_le _ _
              omega
            have hbs := hb.size
            have HB := Lib.hid (And.intro ho (And.intro hb (And.intro hst (And.intro hpl (And.intro hT hG)))))
            clear hl' hx ho hb hst hpl hT hG
            obtain ⟨xw, xt, xk, xv⟩ := x
            by_cases hq : argF (callsOf [4] l).1 k = q
            · have hz : (argF (callsOf [4] l).1 k == q) = true := by rw [beq_iff_eq]; exact hq
              have HQ := Lib.hid hq
              have HOW := Lib.hid (HB.out.1.alloc (.cells (evCs ⟨xw, xt, xk, xv⟩).toArray 84))
              have HW := Lib.hid (HB.out.2.1.alloc hbs (.cells (evCs ⟨xw, xt, xk, xv⟩).toArray 84))
              have HNC := Lib.hid (new_cells wr 84 (evCs ⟨xw, xt, xk, xv⟩))
              have HTA := Lib.hid (Lies.alloc HB.out.2.2.2.2.1 (.cells (evCs ⟨xw, xt, xk, xv⟩).toArray 84))
              generalize hFa : argF (callsOf [4] l).1 k = fa at hz t0
              clear hq hFa
              go_wp2_with (at_builtin; refine wpList_app_ev rfl (.tmp 38) (.tmp 43) rfl (G + 1) wr.heap.size _ (subL (bagK (callsOf [4] l).1 q) 0 (l.take k)) ⟨xw, xt, xk, xv⟩ rfl rfl HOW.out HNC.out HB.out.2.2.2.1 (Lies.lt HTA.out) ?_; intro v' w5 ho5 hb5 hg5; have HN := Lib.hid (And.intro ho5 (And.intro hb5 hg5)); clear ho5 hb5 hg5)
              go_roundw
              case rel =>
                have hne : some G ≠ v0.ownBlock := fun e => by
                  have := World.ownsRow.lt HB.out.1 G e.symm
                  omega
                refine ⟨k + 1, _, by omega, by go_num, rfl, ?_, HW.out.trans (HN.out.2.1.mono (by have := HG.out; omega)), ?_, ?_⟩
                · rw [HB.out.2.2.1, if_pos (by rw [beq_iff_eq]; exact HQ.out)]
                  exact HN.out.1
                · exact Lies.keep HTA.out (HN.out.2.2.block G (Lies.lt HTA.out) hne)
                · exact Nat.lt_of_lt_of_le (Lies.lt HTA.out) HN.out.2.1.size
              case measure => simp [intOf]; omega
            · have hz : (argF (callsOf [4] l).1 k == q) = false := by rw [beq_eq_false_iff_ne]; exact hq
              have HQ := Lib.hid hz
              generalize hFa : argF (callsOf [4] l).1 k = fa at hz t0
              clear hq hFa
              go_wp2_with fail
              go_roundw
              case rel =>
                refine ⟨k + 1, _, by omega, by go_num, rfl, ?_, HB.out.2.1, HB.out.2.2.2.2.1, HB.out.2.2.2.2.2⟩
                rw [HB.out.2.2.1, if_neg (by rw [HQ.out]; decide)]
                exact HB.out.1
              case measure => simp [intOf]; omega
          · obtain rfl : k = L := by omega
            have HB := Lib.hid (And.intro ho hb)
            have hbs := hb.size
            clear ho hb hT hG
            go_wp2_with fail
            go_ret2
            refine ⟨_, rfl, HB.out.2, ?_⟩
            have := (HB.out.1.base_mono (B := w.heap.size) (by have := HG.out; omega))
            rw [HLL.out, List.take_length] at this
            exact this
  · have er := HE.out
    rw [if_pos h0] at er
    have hz : ((callsOf [4] l).2.2 != 0) = true := by rw [bne_iff_ne]; exact h0
    generalize (callsOf [4] l).2.2 = r at hz er ⊢
    have H1 := Lib.hid (And.intro hb1 er)
    clear h0 HE er HO hb1 hc1
    go_wp2_with fail
    go_ret2
    have e := H1.out.2
    subst e
    exact ⟨_, rfl, H1.out.1, World.ownsRow_nil _ _ _ _⟩
end Go.Proofs.YtfgangkpebkicaaDoor

/-
  The library's contracts of slices.Sort and slices.Compact over int, laid at this program.
-/
namespace Go.Proofs.YtfgangkpebkicaaDoor
open Go.RowKit Go.Shelf Go.Sort
set_option maxRecDepth 20000

def srtRenB : Go.Shelf.Ren := ⟨fun | 5 => 54 | 7 => 69 | 8 => 70 | 10 => 81 | 11 => 82 | 12 => 83 | 13 => 84 | 14 => 85 | 15 => 86 | 16 => 87 | 17 => 88 | 18 => 89 | 19 => 90 | 20 => 91 | 30 => 100 | 31 => 101 | 32 => 102 | 33 => 103 | 34 => 104 | 35 => 105 | 40 => 112 | n => n,
  fun | 0 => 0 | 3 => 3 | 4 => 4 | 5 => 5 | 9 => 9 | 22 => 22 | 23 => 22 | 25 => 3 | 32 => 135 | 35 => 147 | 36 => 148 | 41 => 48 | 44 => 134 | 46 => 155 | 53 => 168 | 57 => 172 | 63 => 193 | 64 => 194 | n => n, fun n => n⟩
def cmpRenB : Go.Shelf.Ren := ⟨fun | 20 => 55 | n => n,
  fun | 0 => 0 | 3 => 3 | 4 => 4 | 22 => 22 | n => n, fun n => n⟩

theorem laysSortB : SlLaysM.n5 Tryd.prog srtRenB := {
  mixed := by kernel_rfl
  f5 := ⟨("slices.Sort[[]int,int]"), by decide, Tryd.func54.trans (congrArg some (by kernel_rfl))⟩
  f7 := ⟨("slices.pdqsortOrdered[int]"), by decide, Tryd.func69.trans (congrArg some (by kernel_rfl))⟩
  f8 := Tryd.func70.trans (congrArg some (by kernel_rfl))
  f10 := ⟨("slices.insertionSortOrdered[int]"), by decide, Tryd.func81.trans (congrArg some (by kernel_rfl))⟩
  f11 := ⟨("slices.heapSortOrdered[int]"), by decide, Tryd.func82.trans (congrArg some (by kernel_rfl))⟩
  f12 := ⟨("slices.breakPatternsOrdered[int]"), by decide, Tryd.func83.trans (congrArg some (by kernel_rfl))⟩
  f13 := ⟨("slices.choosePivotOrdered[int]"), by decide, Tryd.func84.trans (congrArg some (by kernel_rfl))⟩
  f14 := ⟨("slices.reverseRangeOrdered[int]"), by decide, Tryd.func85.trans (congrArg some (by kernel_rfl))⟩
  f15 := ⟨("slices.partialInsertionSortOrdered[int]"), by decide, Tryd.func86.trans (congrArg some (by kernel_rfl))⟩
  f16 := ⟨("cmp.Less[int]"), by decide, Tryd.func87.trans (congrArg some (by kernel_rfl))⟩
  f17 := ⟨("slices.partitionEqualOrdered[int]"), by decide, Tryd.func88.trans (congrArg some (by kernel_rfl))⟩
  f18 := ⟨("slices.partitionOrdered[int]"), by decide, Tryd.func89.trans (congrArg some (by kernel_rfl))⟩
  f19 := Tryd.func90.trans (congrArg some (by kernel_rfl))
  f20 := Tryd.func91.trans (congrArg some (by kernel_rfl))
  f30 := ⟨("slices.siftDownOrdered[int]"), by decide, Tryd.func100.trans (congrArg some (by kernel_rfl))⟩
  f31 := Tryd.func101.trans (congrArg some (by kernel_rfl))
  f32 := Tryd.func102.trans (congrArg some (by kernel_rfl))
  f33 := ⟨("slices.medianAdjacentOrdered[int]"), by decide, Tryd.func103.trans (congrArg some (by kernel_rfl))⟩
  f34 := ⟨("slices.medianOrdered[int]"), by decide, Tryd.func104.trans (congrArg some (by kernel_rfl))⟩
  f35 := ⟨("cmp.isNaN[int]"), by decide, Tryd.func105.trans (congrArg some (by kernel_rfl))⟩
  f40 := ⟨("slices.order2Ordered[int]"), by decide, Tryd.func112.trans (congrArg some (by kernel_rfl))⟩
  t0 := Tryd.underlying0
  a0 := Tryd.isAgg0
  z0 := Tryd.sizeOf0
  v0 := Tryd.zeroValue0
  t3 := Tryd.underlying3
  a3 := Tryd.isAgg3
  z3 := Tryd.sizeOf3
  v3 := Tryd.zeroValue3
  t4 := Tryd.underlying4
  a4 := Tryd.isAgg4
  z4 := Tryd.sizeOf4
  v4 := Tryd.zeroValue4
  t5 := Tryd.underlying5
  a5 := Tryd.isAgg5
  z5 := Tryd.sizeOf5
  v5 := Tryd.zeroValue5
  t9 := Tryd.underlying9
  a9 := Tryd.isAgg9
  z9 := Tryd.sizeOf9
  v9 := Tryd.zeroValue9
  t22 := Tryd.underlying22
  a22 := Tryd.isAgg22
  z22 := Tryd.sizeOf22
  v22 := Tryd.zeroValue22
  t23 := Tryd.underlying22
  a23 := Tryd.isAgg22
  z23 := Tryd.sizeOf22
  v23 := Tryd.zeroValue22
  t25 := Tryd.underlying3
  a25 := Tryd.isAgg3
  z25 := Tryd.sizeOf3
  v25 := Tryd.zeroValue3
  t32 := Tryd.underlying135
  a32 := Tryd.isAgg135
  z32 := Tryd.sizeOf135
  v32 := Tryd.zeroValue135
  t35 := Tryd.underlying147
  a35 := Tryd.isAgg147
  z35 := Tryd.sizeOf147
  v35 := Tryd.zeroValue147
  t36 := Tryd.underlying148
  a36 := Tryd.isAgg148
  z36 := Tryd.sizeOf148
  v36 := Tryd.zeroValue148
  t41 := Tryd.underlying48
  a41 := Tryd.isAgg48
  z41 := Tryd.sizeOf48
  v41 := Tryd.zeroValue48
  t44 := Tryd.underlying134
  a44 := Tryd.isAgg134
  z44 := Tryd.sizeOf134
  v44 := Tryd.zeroValue134
  t46 := Tryd.underlying155
  a46 := Tryd.isAgg155
  z46 := Tryd.sizeOf155
  v46 := Tryd.zeroValue155
  t53 := Tryd.underlying168
  a53 := Tryd.isAgg168
  z53 := Tryd.sizeOf168
  v53 := Tryd.zeroValue168
  t57 := Tryd.underlying172
  a57 := Tryd.isAgg172
  z57 := Tryd.sizeOf172
  v57 := Tryd.zeroValue172
  t63 := Tryd.underlying193
  a63 := Tryd.isAgg193
  z63 := Tryd.sizeOf193
  v63 := Tryd.zeroValue193
  t64 := Tryd.underlying194
  a64 := Tryd.isAgg194
  z64 := Tryd.sizeOf194
  v64 := Tryd.zeroValue194
  }

theorem laysCmpB : Lays2.n20 Tryd.prog cmpRenB := {
  mixed := by kernel_rfl
  f20 := Tryd.func55.trans (congrArg some (by kernel_rfl))
  t0 := Tryd.underlying0
  a0 := Tryd.isAgg0
  z0 := Tryd.sizeOf0
  v0 := Tryd.zeroValue0
  t3 := Tryd.underlying3
  a3 := Tryd.isAgg3
  z3 := Tryd.sizeOf3
  v3 := Tryd.zeroValue3
  t4 := Tryd.underlying4
  a4 := Tryd.isAgg4
  z4 := Tryd.sizeOf4
  v4 := Tryd.zeroValue4
  t22 := Tryd.underlying22
  a22 := Tryd.isAgg22
  z22 := Tryd.sizeOf22
  v22 := Tryd.zeroValue22
  i3 := by kernel_rfl
  }

end Go.Proofs.YtfgangkpebkicaaDoor

/-
  append(s, x): s the call's own row of integers, x one more in a block of its own; append(s, t..): s new and empty, t any slice of integers.
-/
namespace Go.Proofs.YtfgangkpebkicaaDoor
open Go.RowKit
set_option maxRecDepth 20000
/-- A slice of the call's own (in blocks from B on) that holds these numbers. -/
def NOwn (w : World) (B : Nat) (v : Value) (l : List Int) : Prop := w.ownsRow B 3 1 v l.length (l.flatMap intCs)
theorem NOwn.rd {w : World} {B : Nat} {v : Value} {l : List Int} (h : NOwn w B v l) : NRd w w.heap.size v l := LRd.of_own (fun _ => rfl) h
theorem NOwn.nil (w : World) (B : Nat) : NOwn w B (.slice none 0 0) [] := World.ownsRow_nil _ _ _ _
theorem NOwn.below {w w' : World} {B : Nat} {v : Value} {l : List Int} (h : NOwn w B v l) (hb : Below w.heap.size w w') : NOwn w' B v l := by
  refine ⟨h.1, h.2.elim (fun h => .inl h) fun ⟨g, cap, cur, h1, h2, h3, h4, h5, h6, h7⟩ => .inr ⟨g, cap, cur, h1, h2, ?_, h4, h5, h6, h7⟩⟩
  rw [hb.block g (Array.getElem?_eq_some_iff.1 h3).1]
  exact h3
theorem NOwn.alloc {w : World} {B : Nat} {v : Value} {l : List Int} (h : NOwn w B v l) (o : Obj) : NOwn (w.alloc o) B v l := h.below ((Below.refl _ _).alloc (Nat.le_refl _) o)
theorem run_app_int {W : World} {base G : Nat} {v : Value} {l : List Int} {y : Int} (ty : TypeId) (hown : NOwn W base v l) (hG : W.cell? ⟨G, 0, none⟩ = some (.int .i64 y)) (hlen : l.length ≤ 65536) (hbase : base ≤ W.heap.size) :
    ∃ v' w', (Builtin.append_ #[22, 22] ty #[v, .slice (some ⟨G, 0, none⟩) 1 1]).run Tryd.prog W = .ok v' w' ∧ NOwn w' base v' (l ++ [y]) ∧ Below base W w' := by
  obtain ⟨i0, hi, hz0, hz1, hz2⟩ := info_of info_int
  have hl := World.ownsRow.lt hown
  obtain ⟨v', w', hr, h2, h3, _⟩ := run_append_own (P := Tryd.prog) W base 22 ty 3 i0 (.int .i64 0) 1 8 Tryd.underlying22 hi hz0 hz1 hz2 rfl (by decide) v l.length (l.flatMap intCs) hown
    ⟨G, 0, none⟩ 1 1 (intCs y) rfl (fun j u hu => by
      rw [Addr.add_lit, Nat.zero_add]
      have hj : j = 0 := by
        have := (List.getElem?_eq_some_iff.1 hu).1
        simp at this
        omega
      subst hj
      simp only [List.getElem?_cons_zero, Option.some.injEq] at hu
      subst hu
      exact hG) (fun u hu => by
      simp only [List.mem_cons, List.not_mem_nil, or_false] at hu
      subst hu
      rfl) (by unfold maxLen; omega) (by omega) hbase
  refine ⟨v', w', hr, ?_, (Below.refl base W).grown h3 hbase (fun k hk => (hl k hk).1)⟩
  unfold NOwn
  rw [List.length_append, List.flatMap_append]
  simpa using h2
theorem wp_app_int {W : World} {o : Oper} {a : Act} {K : Act → World → Prop} {Q : Exit → Act → World → Prop} (s x : Operand)
    (ho : o.op = .call { callee := .builtin .append, args := #[s, x], argTypes := #[22, 22] })
    (base G : Nat) (v : Value) (l : List Int) (y : Int) (hs : a.eval s = v) (hx : a.eval x = .slice (some ⟨G, 0, none⟩) 1 1) (hown : NOwn W base v l) (hG : W.cell? ⟨G, 0, none⟩ = some (.int .i64 y)) (hlen : l.length ≤ 65536) (hbase : base ≤ W.heap.size)
    (h : ∀ v' w', NOwn w' base v' (l ++ [y]) → Below base W w' → K (a.put o.dst v') w') : Oper.wp Tryd.prog o a W K Q := by
  obtain ⟨v', w', hrun, r1, r2⟩ := run_app_int o.type hown hG hlen hbase
  unfold Oper.wp
  simp [execOp, ho, resolve, invoke, builtin, hs, hx, hrun, Result.andThen]
  exact h v' w' r1 r2
theorem wpList_app_int {W : World} {ops : Array Oper} {rest : List Oper} {o : Oper} {a : Act} {Q : Exit → Act → World → Prop} (hgd : o.guard = none) (s x : Operand)
    (ho : o.op = .call { callee := .builtin .append, args := #[s, x], argTypes := #[22, 22] })
    (base G : Nat) (v : Value) (l : List Int) (y : Int) (hs : a.eval s = v) (hx : a.eval x = .slice (some ⟨G, 0, none⟩) 1 1) (hown : NOwn W base v l) (hG : W.cell? ⟨G, 0, none⟩ = some (.int .i64 y)) (hlen : l.length ≤ 65536) (hbase : base ≤ W.heap.size)
    (h : ∀ v' w', NOwn w' base v' (l ++ [y]) → Below base W w' → wpList Tryd.prog ops Q rest (a.put o.dst v') w') : wpList Tryd.prog ops Q (o :: rest) a W :=
  wpList_plain hgd fun _ hK => wp_app_int s x ho base G v l y hs hx hown hG hlen hbase fun v' w' h1 h2 => hK _ _ (h v' w' h1 h2)
/-- Any slice of integers behind a row of one's own. -/
theorem run_app_ints {W : World} {base n cap : Nat} {v : Value} {A : Option Addr} {l ys : List Int} {B : Nat} (ty : TypeId) (hown : NOwn W base v l) (hr : NRd W B (.slice A n cap) ys) (hlen : l.length + ys.length ≤ 65536) (hbase : base ≤ W.heap.size) (hA : A ≠ none) :
    ∃ v' w', (Builtin.append_ #[22, 22] ty #[v, .slice A n cap]).run Tryd.prog W = .ok v' w' ∧ NOwn w' base v' (l ++ ys) ∧ Below base W w' := by
  obtain ⟨i0, hi, hz0, hz1, hz2⟩ := info_of info_int
  have hl := World.ownsRow.lt hown
  obtain ⟨A', cap', he, m1, m2, hc⟩ := hr
  injection he with e1 e2 e3
  subst e1 e2 e3
  cases A with
  | none => exact absurd rfl hA
  | some a =>
    have hlf : (ys.flatMap intCs).length = ys.length * 1 := flat_len (f := intCs) (s := 1) (fun _ => rfl) ys
    obtain ⟨v', w', hr, h2, h3, _⟩ := run_append_own (P := Tryd.prog) W base 22 ty 3 i0 (.int .i64 0) 1 8 Tryd.underlying22 hi hz0 hz1 hz2 rfl (by decide) v l.length (l.flatMap intCs) hown
      a ys.length cap (ys.flatMap intCs) hlf (fun j u hu => by
        have hj := (List.getElem?_eq_some_iff.1 hu).1
        rw [hlf] at hj
        obtain ⟨g, o, ha, _, hcell⟩ := hc (by omega)
        injection ha with ha
        subst ha
        have hx := List.getElem?_eq_getElem (show j < ys.length by omega)
        have hf := flat_at (l := ys) (f := intCs) (s := 1) (fun _ => rfl) hx (j := 0) rfl
        rw [Nat.mul_one, Nat.add_zero, hu] at hf
        injection hf with hf
        subst hf
        have := hcell j _ hx 0 _ rfl
        rw [Addr.add_lit]
        simpa using this) (fun u hu => by
        rw [List.mem_flatMap] at hu
        obtain ⟨x, _, hx⟩ := hu
        simp only [List.mem_cons, List.not_mem_nil, or_false] at hx
        subst hx
        rfl) (by unfold maxLen; omega) (by omega) hbase
    refine ⟨v', w', hr, ?_, (Below.refl base W).grown h3 hbase (fun k hk => (hl k hk).1)⟩
    unfold NOwn
    rw [List.length_append, List.flatMap_append]
    exact h2
end Go.Proofs.YtfgangkpebkicaaDoor
