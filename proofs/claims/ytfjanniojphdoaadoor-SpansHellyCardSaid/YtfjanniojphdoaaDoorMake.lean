/-
  Contract of spans.Make.
-/
import Derived.Test.YtfjanniojphdoaaDoorMakeParts
import Derived.Test.YtfjanniojphdoaaDoorGood
import Derived.WideShapes
import Derived.Deep.Slices
namespace Go.Proofs.YtfjanniojphdoaaDoor
open Go.RowKit
set_option maxRecDepth 20000

theorem mk_err (n : Int) (a : Nat → Nat) (E : Int) (w : World) (hE : (E != 0) = true) (hc : Checks n a E) :
    Calls Tryd.prog 45 #[relV n a] w fun e w' => e = .returned (.tuple #[.slice none 0 0, .int .i64 E]) ∧ Below w.heap.size w w' := by
  have hb0 : Below w.heap.size w (w.alloc (.cells (relCs n a) 25)) := (Below.refl _ _).alloc (Nat.le_refl _) _
  have HB := Lib.hid hb0
  clear hb0
  go_enter Tryd.func45, Tryd.ntmps45
  go_wp2_with fail
  refine (hc _).mono ?_
  rintro e w1 ⟨rfl, hb1⟩
  have HB1 := Lib.hid (HB.out.trans (hb1.mono HB.out.size))
  clear hb1
  go_wp2_with fail
  go_ret2
  exact ⟨rfl, HB1.out⟩

/-- Are all sets of those ahead in a chain, and is nobody ahead of himself? -/
def Chain2 (n : Nat) (a : Nat → Nat) : Prop := (∀ i j, i < n → j < n → Subs (rev n a i) (rev n a j) ∨ Subs (rev n a j) (rev n a i)) ∧ ∀ i, i < n → (a i).testBit i = false

theorem rev_lt16 (n : Nat) (a : Nat → Nat) (hn : n ≤ 12) (j : Nat) : rev n a j < 65536 := revs_lt n a 16 j n (by omega)
theorem rev_self {n : Nat} (a : Nat → Nat) {i : Nat} (hi : i < n) : (rev n a i).testBit i = (a i).testBit i := by
  rw [rev_bit]; simp [hi]
theorem rev_in {n : Nat} {a : Nat → Nat} {j t : Nat} (h : (rev n a j).testBit t = true) : t < n := (rev_at.1 h).1

theorem pop_all : ∀ n, n ≤ 12 → pop (2 ^ n - 1) ≤ n := by decide
theorem rev_pop {n : Nat} {a : Nat → Nat} (hn : n ≤ 12) {j : Nat} (hj : j < n) (hi : (a j).testBit j = false) : pop (rev n a j) < n := by
  have h1 : Subs (rev n a j) (2 ^ n - 1) := fun t ht => by rw [ones_bit]; exact decide_eq_true (rev_in ht)
  have h2 : rev n a j ≠ 2 ^ n - 1 := fun e => by
    have h3 := rev_self a hj
    rw [e, ones_bit, hi, decide_eq_true hj] at h3
    cases h3
  exact Nat.lt_of_lt_of_le (pop_lt h1 (rev_lt16 n a hn j) (ones_lt hn) h2) (pop_all n hn)
theorem rev_first {n k : Nat} {a h : Nat → Nat} (hir : ∀ i, i < n → (a i).testBit i = false) (v : Vals n (rev n a) k h) (c : Chained k h) (hk : 0 < k) : h 0 = 0 := by
  apply Nat.eq_of_testBit_eq
  intro t
  rw [Nat.zero_testBit]
  cases ht : (h 0).testBit t
  · rfl
  · exfalso
    obtain ⟨j, hj, e⟩ := v.to 0 hk
    have htn : t < n := by rw [e] at ht; exact rev_in ht
    obtain ⟨q, hq, e2⟩ := v.of t htn
    have h3 := c.sub 0 q (Nat.zero_le _) hq t ht
    rw [← e2, rev_self a htn, hir t htn] at h3
    cases h3

/-- The cells behind i rounds. -/
def mkAt (F T : Nat → Int) (i : Nat) : Nat → Int := fun c => if c < i * 2 then (if c % 2 = 0 then F (c / 2) else T (c / 2)) else 0
theorem mkAt_step (F T : Nat → Int) (i : Nat) : mkAt F T (i + 1) = fun c => if c = i * 2 + 1 then T i else if c = i * 2 then F i else mkAt F T i c := by
  funext c
  unfold mkAt
  by_cases h1 : c = i * 2 + 1
  · subst h1
    rw [if_pos (by omega), if_neg (by omega), if_pos rfl, show (i * 2 + 1) / 2 = i by omega]
  · by_cases h2 : c = i * 2
    · subst h2
      rw [if_pos (by omega), if_pos (by omega), if_neg h1, if_pos rfl, show i * 2 / 2 = i by omega]
    · rw [if_neg h1, if_neg h2]
      by_cases h3 : c < i * 2
      · rw [if_pos h3, if_pos (by omega)]
      · rw [if_neg h3, if_neg (by omega)]
theorem mkAt_at (F T : Nat → Int) {i j : Nat} (h : j < i) : mkAt F T i (j * 2) = F j ∧ mkAt F T i (j * 2 + 1) = T j := by
  unfold mkAt
  constructor
  · rw [if_pos (by omega), if_pos (by omega), show j * 2 / 2 = j by omega]
  · rw [if_pos (by omega), if_neg (by omega), show (j * 2 + 1) / 2 = j by omega]
theorem SRd.congr {w : World} {B m : Nat} {v : Value} {F T F' T' : Nat → Int} (h : SRd w B v m F T) (hF : ∀ j, j < m → F j = F' j) (hT : ∀ j, j < m → T j = T' j) : SRd w B v m F' T' := by
  obtain ⟨A, cap, hv, h2⟩ := h
  refine ⟨A, cap, hv, fun h0 => ?_⟩
  obtain ⟨g, o, hA, hg, hc⟩ := h2 h0
  exact ⟨g, o, hA, hg, fun j hj => by rw [← hF j hj, ← hT j hj]; exact hc j hj⟩
theorem SpB.lt {w : World} {g N : Nat} {f : Nat → Int} (h : SpB w g N f) : g + 1 ≤ w.heap.size := Lies.lt h
theorem mkAt_zero (F T : Nat → Int) : mkAt F T 0 = fun _ => 0 := by
  funext c
  unfold mkAt
  rw [if_neg (by omega)]

structure MkRel (w : World) (P g G n k : Nat) (b h : Nat → Nat) (f : Nat → Int) (wr : World) : Prop where
  below : Below w.heap.size w wr
  bef : ArrB wr P b
  sets : URow wr g k h
  sp : SpB wr G (n * 2) f
  p : w.heap.size ≤ P
  s : w.heap.size ≤ g
  t : w.heap.size ≤ G
  far : P < G
  far' : g < G
theorem MkRel.drewN {w wr : World} {P g G n k : Nat} {b h : Nat → Nat} {f : Nat → Int} (r : MkRel w P g G n k b h f wr) (q : Nat) : MkRel w P g G n k b h f (wr.drewN q) :=
  ⟨uBelowN r.below q, r.bef, r.sets, r.sp, r.p, r.s, r.t, r.far, r.far'⟩
theorem MkRel.put {w wr : World} {P g G n k : Nat} {b h : Nat → Nat} {F T : Nat → Int} {i : Nat} (r : MkRel w P g G n k b h (mkAt F T i) wr) :
    MkRel w P g G n k b h (mkAt F T (i + 1)) ((wr.setCell ⟨G, i * 2, none⟩ (.int .i64 (F i))).setCell ⟨G, i * 2 + 1, none⟩ (.int .i64 (T i))) := by
  have h1 := r.far
  have h2 := r.far'
  refine ⟨(r.below.setCell r.t _).setCell r.t _, Lies.far (Lies.far r.bef (by show P ≠ G; omega) _) (by show P ≠ G; omega) _,
    (r.sets.far (by show g ≠ G; omega) _).far (by show g ≠ G; omega) _, ?_, r.p, r.s, r.t, h1, h2⟩
  rw [mkAt_step]
  exact (r.sp.set_ (i * 2) (F i)).set_ (i * 2 + 1) (T i)

set_option maxHeartbeats 4000000 in
/-- Make, as it goes: the sets in h, the spans by their numbers. -/
theorem mk_go (n : Nat) (a : Nat → Nat) (w : World) (hg : Good n a) :
    Calls Tryd.prog 45 #[relV n a] w fun e w' => Below w.heap.size w w' ∧
      ((e = .returned (.tuple #[.slice none 0 0, .int .i64 4]) ∧ ¬ Chain2 n a) ∨
       (Chain2 n a ∧ ∃ v k h, ∃ ix : Nat → Nat, e = .returned (.tuple #[v, .int .i64 0]) ∧ Vals n (rev n a) k h ∧ Chained k h ∧ (∀ i, i < n → ix i < k ∧ h (ix i) = rev n a i) ∧
          SRd w' w'.heap.size v n (fun i => (ix i : Int)) (fun i => lastW h i k))) := by
  have hn := hg.le
  have hlt := hg.lt
  have hck := check_ok n a
  have HC := Lib.hid (fun w => hck w hn hlt hg.rows)
  have hb0 : Below w.heap.size w (w.alloc (.cells (relCs n a) 25)) := (Below.refl _ _).alloc (Nat.le_refl _) _
  have hR0 : RelB (w.alloc (.cells (relCs n a) 25)) w.heap.size n a := Lies.new _ _ _
  have HB := Lib.hid (And.intro hb0 hR0)
  clear hb0 hR0 hck
  go_enter Tryd.func45, Tryd.ntmps45
  go_wp2_with fail
  refine (HC.out _).mono ?_
  rintro e w1 ⟨rfl, hb1⟩
  have hw1 := HB.out.1.trans (hb1.mono HB.out.1.size)
  have hR1 : RelB w1 w.heap.size n a := Lies.below HB.out.2 hb1 HB.out.2.lt
  have c0 := hR1.size
  obtain ⟨c1, c2, c3, c4, c5, c6, c7, c8, c9, c10, c11, c12⟩ := hR1.rows
  have H1 := Lib.hid (And.intro hw1 hR1)
  clear hb1 hw1 hR1 HB HC
  go_wp2_with fail
  refine (pred_any n a w1 hn hlt).mono ?_
  rintro e w2 ⟨rfl, hb2⟩
  have hw2 := H1.out.1.trans (hb2.mono H1.out.1.size)
  have hR2 : RelB w2 w.heap.size n a := Lies.below H1.out.2 hb2 H1.out.2.lt
  clear c0 c1 c2 c3 c4 c5 c6 c7 c8 c9 c10 c11 c12
  obtain ⟨P, hP⟩ : ∃ P, P = w2.heap.size := ⟨_, rfl⟩
  obtain ⟨b, hb⟩ : ∃ b, b = rev n a := ⟨_, rfl⟩
  have hbl : ∀ j, b j < 65536 := fun j => by rw [hb]; exact rev_lt16 n a hn j
  have hA : ArrB (w2.alloc (.cells (rowCs b) 23)) P b := by rw [hP]; exact Lies.new _ _ _
  have hR3 : RelB (w2.alloc (.cells (rowCs b) 23)) w.heap.size n a := Lies.alloc hR2 _
  have hw3 := hw2.alloc hw2.size (.cells (rowCs b) 23)
  have hPw : w.heap.size < P := by rw [hP]; exact hR2.lt
  have H2 := Lib.hid (And.intro hw3 (And.intro hR3 hA))
  have HH := Lib.hid hb
  rw [← hb]
  have s0 := hR2.size
  have lt0 : w.heap.size < w2.heap.size := hR2.lt
  have s1 : (0 : Int) ≤ (n : Int) := by omega
  have s2 : (n : Int) ≤ 12 := by omega
  clear hb2 hw2 hR2 hA hR3 hw3 H1 hb
  go_wp2_with fail
  clear s0 lt0
  rw [← hP]
  change Calls _ _ _ (w2.alloc (.cells (rowCs b) 23)) _
  clear hP
  generalize w2.alloc (.cells (rowCs b) 23) = W2 at H2 ⊢
  refine (dist_any P n 12 b W2 hn (fun i _ => hbl i) (fun j hj => H2.out.2.2.row (by omega))).mono ?_
  rintro e w3 ⟨g, k, c, h, rfl, hD⟩
  have hw4 := H2.out.1.trans (hD.below.mono H2.out.1.size)
  have hR4 : RelB w3 w.heap.size n a := Lies.below H2.out.2.1 hD.below H2.out.2.1.lt
  have hA4 : ArrB w3 P b := Lies.below H2.out.2.2 hD.below H2.out.2.2.lt
  have hPg : P < g := Nat.lt_of_lt_of_le H2.out.2.2.lt hD.far
  have hhl : ∀ p, p < k → h p < 65536 := fun p hp => by
    obtain ⟨j, _, e⟩ := hD.vals.to p hp
    rw [e]; exact hbl j
  have hk := hD.le
  have hv : Vals n (rev n a) k h := by rw [← HH.out]; exact hD.vals
  have H3 := Lib.hid (And.intro hw4 (And.intro hR4 (And.intro hA4 (And.intro hD.row (And.intro hv hD.srt)))))
  clear hD hw4 hR4 hA4 H2 hv
  go_wp2_with fail
  refine (inc_any g k c h w3 (by omega) hhl H3.out.2.2.2.1).mono ?_
  rintro e w4 ⟨rfl, hb4⟩
  have hinc := @chained_of n k (rev n a) h (fun j _ => rev_lt16 n a hn j) H3.out.2.2.2.2.1
  have hback := fun hc => inc_of (fun j _ => rev_lt16 n a hn j) H3.out.2.2.2.2.1 H3.out.2.2.2.2.2 hc
  have hw5 := H3.out.1.trans (hb4.mono H3.out.1.size)
  have hR5 : RelB w4 w.heap.size n a := Lies.below H3.out.2.1 hb4 H3.out.2.1.lt
  have hA5 : ArrB w4 P b := Lies.below H3.out.2.2.1 hb4 H3.out.2.2.1.lt
  have hU5 : URow w4 g k h := H3.out.2.2.2.1.below hb4 H3.out.2.2.2.1.lt
  have HV := Lib.hid H3.out.2.2.2.2.1
  have H4 := Lib.hid (And.intro hw5 (And.intro hR5 (And.intro hA5 hU5)))
  clear hb4 hw5 hR5 hA5 hU5 H3
  cases hi : incUp h k
  · have hno : ¬ Chain2 n a := fun hc => by
      rw [hback hc.1] at hi
      cases hi
    have HN := Lib.hid hno
    clear hinc hback hi hno
    go_wp2_with fail
    go_ret2
    exact ⟨H4.out.1, Or.inl ⟨rfl, HN.out⟩⟩
  · have hc := hinc hi
    have HCH := Lib.hid hc
    clear hinc hback hi hc
    have s0 := H4.out.2.1.size
    have hmk := made_spans n hn w4
    go_wp2_with fail
    clear s0 hmk
    obtain ⟨G, hG⟩ : ∃ G, G = w4.heap.size := ⟨_, rfl⟩
    obtain ⟨ix, hix⟩ := Deep.choose_lt (n := n) (fun i hi => (show ∃ p, p < k ∧ h p = rev n a i from by
      obtain ⟨p, hp, e⟩ := HV.out.of i hi
      exact ⟨p, hp, e.symm⟩))
    have hM : MkRel w P g G n k b h (mkAt (fun i => (ix i : Int)) (fun i => lastW h i k) 0) (w4.alloc (.cells (spCs (n * 2) fun _ => 0) 54)) := by
      rw [mkAt_zero]
      refine ⟨H4.out.1.alloc H4.out.1.size _, Lies.alloc H4.out.2.2.1 _, URow.alloc H4.out.2.2.2 _, by rw [hG]; exact Lies.new _ _ _, by omega, by omega, by rw [hG]; exact H4.out.1.size, ?_, ?_⟩
      · rw [hG]; exact H4.out.2.2.1.lt
      · rw [hG]; exact H4.out.2.2.2.lt
    rw [← hG]
    have HIX := Lib.hid hix
    clear hG H4 hix
    generalize w4.alloc (.cells (spCs (n * 2) fun _ => 0) 54) = W5 at hM ⊢
    go_loopw [28] (fun t wr => ∃ i : Nat, i ≤ n ∧ t = .int .i64 i ∧ MkRel w P g G n k b h (mkAt (fun i => (ix i : Int)) (fun i => lastW h i k) i) wr ∧ ∀ j, j < i → (a j).testBit j = false) (fun t _ => n - (intOf t).toNat)
    case atStart => exact ⟨0, by omega, rfl, hM, fun j hj => by omega⟩
    case round =>
      clear hM
      obtain ⟨i, hi, rfl, hM, hir⟩ := hrel
      have HM := Lib.hid (And.intro hM hir)
      clear hM hir
      by_cases hin : i < n
      · obtain ⟨hp, hx⟩ := HIX.out i hin
        have d1 := HM.out.1.bef.row (k := i) (by omega)
        have ex : b i = rev n a i := by rw [HH.out]
        have huq : ∀ q, q < ix i → h q ≠ b i := fun q hq e => by
          have := HV.out.inj q (ix i) (by omega) hp (by rw [e, hx, ex])
          omega
        have hidx := indexU_any g k c h (ix i) (b i) wr (by omega) hp (by rw [hx, ex]) huq HM.out.1.sets
        have hlast := last_any g k c h i wr (by omega) (by omega) hhl HM.out.1.sets
        have h5 := HM.out.1.sp.free
        have e1 := HM.out.1.sp.cell (i := i * 2) (by omega)
        have e2 := HM.out.1.sp.cell (i := i * 2 + 1) (by omega)
        have i1 : (0 : Int) ≤ (i : Int) := by omega
        have i2 : (i : Int) < (n : Int) := by omega
        have i3 : (i : Int) < 12 := by omega
        have hput := MkRel.put HM.out.1
        have hlw := lastW_iff HCH.out i k (Nat.le_refl _) (ix i) hp
        rw [hx, rev_self a hin] at hlw
        have HP := Lib.hid (And.intro hput (And.intro hidx hlast))
        have HQ := Lib.hid (And.intro ex hlw)
        clear hput hidx hlast hlw ex huq hx
        generalize b i = x at d1 HP
        generalize mkAt (fun i => (ix i : Int)) (fun i => lastW h i k) i (i * 2) = y1 at e1
        generalize mkAt (fun i => (ix i : Int)) (fun i => lastW h i k) i (i * 2 + 1) = y2 at e2
        go_wp2_with fail
        refine HP.out.2.1.mono ?_
        rintro e w' ⟨rfl, rfl⟩
        go_wp2_with fail
        refine HP.out.2.2.mono ?_
        rintro e w' ⟨rfl, rfl⟩
        go_wp2_with fail
        have hW := HP.out.1
        clear HP e1 e2 d1 h5
        have f1 := hW.sp.cell (i := i * 2) (by omega)
        have f2 := hW.sp.cell (i := i * 2 + 1) (by omega)
        rw [(mkAt_at _ _ (show i < i + 1 by omega)).1] at f1
        rw [(mkAt_at _ _ (show i < i + 1 by omega)).2] at f2
        generalize (wr.setCell ⟨G, i * 2, none⟩ (.int .i64 (ix i : Int))).setCell ⟨G, i * 2 + 1, none⟩ (.int .i64 (lastW h i k)) = W6 at hW f1 f2 ⊢
        have HW := Lib.hid hW
        clear hW
        cases hb : (a i).testBit i
        · have hge : ¬ lastW h i k < (ix i : Int) := fun h => by
            rw [HQ.out.2.2 h] at hb
            cases hb
          have HBT := Lib.hid hb
          clear hb
          generalize lastW h i k = L at f2 hge ⊢
          generalize (ix i : Int) = I at f1 hge ⊢
          go_quiet (fail)
          go_wp2_with fail
          go_roundw
          case rel => exact ⟨i + 1, by omega, by go_num, HW.out.drewN _, fun j hj => by
            rcases Nat.lt_or_ge j i with h1 | h1
            · exact HM.out.2 j h1
            · obtain rfl : j = i := by omega
              exact HBT.out⟩
          case measure => simp [intOf]; omega
        · have hge : lastW h i k < (ix i : Int) := HQ.out.2.1 hb
          have HBT := Lib.hid hb
          clear hb
          generalize lastW h i k = L at f2 hge ⊢
          generalize (ix i : Int) = I at f1 hge ⊢
          go_quiet (fail)
          go_wp2_with fail
          go_ret2
          exact ⟨(HW.out.drewN _).below, Or.inl ⟨rfl, fun hc => by
            have h1 := hc.2 i (by omega)
            rw [HBT.out] at h1
            cases h1⟩⟩
      · obtain rfl : i = n := by omega
        go_wp2_with fail
        go_ret2
        refine ⟨HM.out.1.below, Or.inr ⟨?_, _, k, h, ix, rfl, HV.out, HCH.out, HIX.out, ?_⟩⟩
        · refine ⟨fun p q hp hq => ?_, HM.out.2⟩
          exact HCH.out.all HV.out p q hp hq
        · exact ((SpB.rd HM.out.1.sp i).mono HM.out.1.sp.lt).congr (fun j hj => (mkAt_at _ _ hj).1) (fun j hj => (mkAt_at _ _ hj).2)

theorem mk_no (n : Nat) (a : Nat → Nat) (w : World) (hg : Good n a) (hc : ¬ Chain2 n a) :
    Calls Tryd.prog 45 #[relV n a] w fun e w' => e = .returned (.tuple #[.slice none 0 0, .int .i64 4]) ∧ Below w.heap.size w w' := by
  refine (mk_go n a w hg).mono ?_
  rintro e w' ⟨hb, ⟨he, _⟩ | ⟨h, _⟩⟩
  · exact ⟨he, hb⟩
  · exact absurd h hc

/-- From and To, by how many stand ahead. -/
def frOf (n : Nat) (a : Nat → Nat) (i : Nat) : Nat := frUp n (rev n a) i n
def toOf (n : Nat) (a : Nat → Nat) (i : Nat) : Nat := toUp n (rev n a) i n
theorem mk_ok (n : Nat) (a : Nat → Nat) (w : World) (hg : Good n a) (hc : Chain2 n a) :
    Calls Tryd.prog 45 #[relV n a] w fun e w' => ∃ v, e = .returned (.tuple #[v, .int .i64 0]) ∧ Below w.heap.size w w' ∧
      SRd w' w'.heap.size v n (fun i => (frOf n a i : Int)) (fun i => (toOf n a i : Int)) ∧ (∀ i, i < n → frOf n a i ≤ toOf n a i ∧ toOf n a i < 12) ∧ ∀ i j, i < n → j < n → ((a i).testBit j = true ↔ toOf n a i < frOf n a j) := by
  refine (mk_go n a w hg).mono ?_
  rintro e w' ⟨hb, ⟨_, h⟩ | ⟨_, v, k, h, ix, he, hv, hch, hix, hS⟩⟩
  · exact absurd hc h
  have hN : ∀ j, j < n → pop (rev n a j) < n := fun j hj => rev_pop hg.le hj (hc.2 j hj)
  have hF : ∀ i, i < n → ix i = frOf n a i := fun i hi => (from_is hch hv hN (hix i hi).1 (hix i hi).2).symm
  have hgt : ∀ i, i < n → (ix i : Int) ≤ lastW h i k := fun i hi => by
    have h1 := lastW_iff hch i k (Nat.le_refl _) (ix i) (hix i hi).1
    rw [(hix i hi).2, rev_self a hi, hc.2 i hi] at h1
    rcases Int.lt_or_le (lastW h i k) (ix i) with h2 | h2
    · have := h1.2 h2
      cases this
    · exact h2
  have hT : ∀ i, i < n → lastW h i k = (toOf n a i : Int) := fun i hi => (to_is hch hv (rev_first hc.2 hv hch) hN i (by have := hgt i hi; omega)).symm
  have hk : k ≤ 12 := by
    rcases Nat.lt_or_ge 12 k with h1 | h1
    · exfalso
      have hinj : ∀ p, p < k → p ≤ pop (h p) := by
        intro p
        induction p with
        | zero => intro _; omega
        | succ p ih => intro hp; have := ih (by omega); have := hch.more p (p + 1) (by omega) hp; omega
      obtain ⟨j, hj, e⟩ := hv.to 12 h1
      have h2 := hinj 12 h1
      have h3 := hN j hj
      have := hg.le
      rw [e] at h2
      omega
    · exact h1
  refine ⟨v, he, hb, hS.congr (fun j hj => by rw [hF j hj]) hT, fun i hi => ?_, fun i j hi hj => ?_⟩
  · have h1 := hgt i hi
    have h2 := lastW_lt h i k
    rw [hT i hi] at h1 h2
    rw [hF i hi] at h1
    omega
  · have h1 := lastW_iff hch i k (Nat.le_refl _) (ix j) (hix j hj).1
    rw [(hix j hj).2, hT i hi, hF j hj] at h1
    rw [rev_bit, decide_eq_true hi, decide_eq_true hj] at h1
    simp only [Bool.true_and] at h1
    rw [h1]
    omega
end Go.Proofs.YtfjanniojphdoaaDoor
