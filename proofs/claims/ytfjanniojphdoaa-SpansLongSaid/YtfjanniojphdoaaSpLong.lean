/-
  alibkeep.SpansLong answers true.
-/
import Derived.Test.YtfjanniojphdoaaSpAlive
import Derived.Test.YtfjanniojphdoaaSpApp
namespace Go.Proofs.Ytfjanniojphdoaa
open Go.RowKit
set_option maxRecDepth 20000

theorem long_same (m : Nat) (F T : Nat → Int) (L : Int) : spRel m (fun i => F i + L) (fun i => T i + L) = spRel m F T := by
  funext i
  unfold spRel spRow
  split
  · exact pickS_congr fun j _ => by
      rw [Bool.eq_iff_iff, decide_eq_true_iff, decide_eq_true_iff]
      show T i + L < F j + L ↔ T i < F j
      omega
  · rfl
theorem long_less (m : Nat) (F T : Nat → Int) (k : Nat) (d : Int) (hd : 0 ≤ d) (hm : m ≤ 12) (i : Nat) : spRel m F (fun i => if i = k then T i + d else T i) i &&& (65535 - spRel m F T i) = 0 := by
  refine sub_zero (spRel_lt m F T hm i) fun j hj => ?_
  rw [spRel_bit] at hj ⊢
  simp only [Bool.and_eq_true, decide_eq_true_iff] at hj ⊢
  refine ⟨hj.1, ?_⟩
  have h2 := hj.2
  split at h2 <;> omega

set_option maxHeartbeats 4000000 in
theorem long_bad {B m : Nat} {v : Value} {F T : Nat → Int} {w : World} (h : SRd w B v m F T) (hB : B ≤ w.heap.size) (k more later : Int)
    (hbad : spErr m F T ≠ 0 ∨ k < 0 ∨ (m : Int) ≤ k ∨ more < 0 ∨ later < 0 ∨ 1000000 < more ∨ 1000000 < later) :
    Calls Try.prog 6 #[v, .int .i64 k, .int .i64 more, .int .i64 later] w fun e w' => e = .returned (.bool true) ∧ Below w.heap.size w w' := by
  obtain ⟨A, c, rfl⟩ := h.is
  obtain ⟨E, hE⟩ : ∃ E, E = spErr m F T := ⟨_, rfl⟩
  have hof : ∃ n a, Calls Try.prog 7 #[.slice A m c] w fun e w' => e = .returned (.tuple #[relV n a, .int .i64 E]) ∧ Below w.heap.size w w' := by
    rcases spErr_ways m F T with h0 | h0
    · have := of_ok h hB h0
      exact ⟨m, spRel m F T, by rw [hE, h0]; exact this⟩
    · have := of_err h hB rfl h0
      exact ⟨0, fun _ => 0, by rw [hE]; exact this⟩
  obtain ⟨n, a, hof⟩ := hof
  rw [← hE] at hbad
  have HO := Lib.hid hof
  have HBAD := Lib.hid hbad
  clear hof hbad h hE
  go_enter Try.func6, Try.ntmps6
  go_wp2_with fail
  refine HO.out.mono ?_
  rintro e w1 ⟨rfl, hb1⟩
  have H1 := Lib.hid hb1
  clear hb1
  go_wp2_with fail
  obtain ⟨W1, hW1⟩ : ∃ W1, W1 = w1.alloc (.cells (relCs n a) 26) := ⟨_, rfl⟩
  have H2 := Lib.hid (show Below w.heap.size w W1 from hW1 ▸ H1.out.alloc H1.out.size _)
  change Calls _ _ _ (w1.alloc (.cells (relCs n a) 26)) _
  rw [← hW1]
  clear hW1 H1
  refine (slives_true W1).mono ?_
  rintro e w2 ⟨rfl, hb2⟩
  have H3 := Lib.hid (H2.out.trans (hb2.mono H2.out.size))
  clear hb2 H2
  by_cases h1 : (E != 0) = true
  · go_wp2_with fail
    refine (slives_true _).mono ?_
    rintro e w3 ⟨rfl, hb3⟩
    have H4 := Lib.hid (H3.out.trans (hb3.mono H3.out.size))
    clear hb3
    go_wp2_with fail
    go_ret
    exact ⟨rfl, H4.out⟩
  · rw [Bool.not_eq_true] at h1
    go_wp2_with fail
    all_goals first
      | (refine (slives_true _).mono ?_
         rintro e w3 ⟨rfl, hb3⟩
         have H4 := Lib.hid (H3.out.trans (hb3.mono H3.out.size))
         clear hb3
         go_wp2_with fail
         go_ret
         exact ⟨rfl, H4.out⟩)
      | (exfalso
         rw [bne_eq_false_iff_eq] at h1
         rcases HBAD.out with h | h | h | h | h | h | h <;> omega)

/-- The first i spans later. -/
def laterAt (F T : Nat → Int) (L : Int) (i : Nat) : Nat → Int := fun c => if c < i * 2 then both F T c + L else both F T c
theorem laterAt_step (F T : Nat → Int) (L : Int) (i : Nat) : laterAt F T L (i + 1) = fun c => if c = i * 2 + 1 then T i + L else if c = i * 2 then F i + L else laterAt F T L i c := by
  funext c
  unfold laterAt
  by_cases h1 : c = i * 2 + 1
  · subst h1
    rw [if_pos (by omega), if_pos rfl, both_to]
  · by_cases h2 : c = i * 2
    · subst h2
      rw [if_pos (by omega), if_neg h1, if_pos rfl, both_from]
    · rw [if_neg h1, if_neg h2]
      by_cases h3 : c < i * 2
      · rw [if_pos h3, if_pos (by omega)]
      · rw [if_neg h3, if_neg (by omega)]

structure LgR (w : World) (B m c g o R G1 G2 : Nat) (F T : Nat → Int) (a : Nat → Nat) (f1 f2 : Nat → Int) (wr : World) : Prop where
  below : Below w.heap.size w wr
  arg : SRd wr B (.slice (some ⟨g, o, none⟩) m c) m F T
  rel : RelB wr R m a
  one : SpH wr G1 (m * 2) f1
  two : SpH wr G2 (m * 2) f2
  p : w.heap.size ≤ R
  q : R < G1
  r : G1 < G2
  b : B ≤ w.heap.size

theorem LgR.next {w wr wr' : World} {B m c g o R G1 G2 : Nat} {F T : Nat → Int} {a : Nat → Nat} {f1 f2 : Nat → Int} (h : LgR w B m c g o R G1 G2 F T a f1 f2 wr) (hb : Below wr.heap.size wr wr') : LgR w B m c g o R G1 G2 F T a f1 f2 wr' :=
  ⟨h.below.trans (hb.mono h.below.size), h.arg.below (hb.mono (Nat.le_trans h.b h.below.size)), Lies.below h.rel hb h.rel.lt, h.one.below hb h.one.lt, h.two.below hb h.two.lt, h.p, h.q, h.r, h.b⟩
theorem LgR.put1 {w wr : World} {B m c g o R G1 G2 : Nat} {F T : Nat → Int} {a : Nat → Nat} {f1 f2 : Nat → Int} (h : LgR w B m c g o R G1 G2 F T a f1 f2 wr) {i : Nat} (hi : i < m * 2) (x : Int) :
    LgR w B m c g o R G1 G2 F T a (fun c => if c = i then x else f1 c) f2 (wr.setCell ⟨G1, i, none⟩ (.int .i64 x)) := by
  have h1 := h.p
  have h2 := h.q
  have h3 := h.r
  have h4 := h.b
  exact ⟨h.below.setCell (by show w.heap.size ≤ G1; omega) _, h.arg.below ((Below.refl _ _).setCell (by show B ≤ G1; omega) _), Lies.far h.rel (by show R ≠ G1; omega) _, h.one.set_ hi x, h.two.far (by show G2 ≠ G1; omega) _, h1, h2, h3, h4⟩
theorem LgR.put2 {w wr : World} {B m c g o R G1 G2 : Nat} {F T : Nat → Int} {a : Nat → Nat} {f1 f2 : Nat → Int} (h : LgR w B m c g o R G1 G2 F T a f1 f2 wr) {i : Nat} (hi : i < m * 2) (x : Int) :
    LgR w B m c g o R G1 G2 F T a f1 (fun c => if c = i then x else f2 c) (wr.setCell ⟨G2, i, none⟩ (.int .i64 x)) := by
  have h1 := h.p
  have h2 := h.q
  have h3 := h.r
  have h4 := h.b
  exact ⟨h.below.setCell (by show w.heap.size ≤ G2; omega) _, h.arg.below ((Below.refl _ _).setCell (by show B ≤ G2; omega) _), Lies.far h.rel (by show R ≠ G2; omega) _, h.one.far (by show G1 ≠ G2; omega) _, h.two.set_ hi x, h1, h2, h3, h4⟩

theorem of_some {B m : Nat} {v : Value} {F T : Nat → Int} {w : World} (h : SRd w B v m F T) (hB : B ≤ w.heap.size) :
    ∃ n a, Calls Try.prog 7 #[v] w (fun e w' => e = .returned (.tuple #[relV n a, .int .i64 (spErr m F T)]) ∧ Below w.heap.size w w') ∧ (spErr m F T = 0 → n = m ∧ a = spRel m F T) ∧ ∀ i, a i < 65536 := by
  rcases spErr_ways m F T with h0 | h0
  · have hh := of_ok h hB h0
    refine ⟨m, spRel m F T, by rw [h0]; exact hh, fun _ => ⟨rfl, rfl⟩, fun i => spRel_lt m F T (spErr_zero.1 h0).1 i⟩
  · refine ⟨0, fun _ => 0, of_err h hB rfl h0, fun e => ?_, fun _ => by show 0 < 65536; decide⟩
    rw [bne_iff_ne] at h0
    exact absurd e h0

set_option maxHeartbeats 4000000 in
theorem long_good {B m c g o : Nat} {F T : Nat → Int} {w : World} (h : SRd w B (.slice (some ⟨g, o, none⟩) m c) m F T) (hB : B ≤ w.heap.size) (k : Nat) (more later : Int)
    (hE : spErr m F T = 0) (hk : k < m) (h1 : 0 ≤ more) (h2 : 0 ≤ later) (h3 : more ≤ 1000000) (h4 : later ≤ 1000000) :
    Calls Try.prog 6 #[.slice (some ⟨g, o, none⟩) m c, .int .i64 k, .int .i64 more, .int .i64 later] w fun e w' => e = .returned (.bool true) ∧ Below w.heap.size w w' := by
  have hm : m ≤ 12 := (spErr_zero.1 hE).1
  have hok : ∀ i, i < m → 0 ≤ F i ∧ F i ≤ T i ∧ T i ≤ 1000000 := fun i hi => by
    have := (spErr_zero.1 hE).2 i hi
    unfold spOk at this
    rwa [decide_eq_true_iff] at this
  have H := Lib.hid (And.intro h (And.intro hE hok))
  clear h hE hok
  go_enter Try.func6, Try.ntmps6
  go_wp2_with fail
  refine (of_ok H.out.1 hB H.out.2.1).mono ?_
  rintro e w1 ⟨rfl, hb1⟩
  have hS1 := H.out.1.below (hb1.mono hB)
  obtain ⟨a, ha⟩ : ∃ a, a = spRel m F T := ⟨_, rfl⟩
  rw [← ha]
  have HA := Lib.hid ha
  have H1 := Lib.hid (And.intro hb1 hS1)
  clear hb1 hS1 ha
  go_wp2_with fail
  obtain ⟨R, hR⟩ : ∃ R, R = w1.heap.size := ⟨_, rfl⟩
  have hl : RelB (w1.alloc (.cells (relCs m a) 26)) R m a := by rw [hR]; exact Lies.new _ _ _
  have hw2 := H1.out.1.alloc H1.out.1.size (.cells (relCs m a) 26)
  have hS2 := H1.out.2.below ((Below.refl B w1).alloc (Nat.le_trans hB H1.out.1.size) (.cells (relCs m a) 26))
  have hRw : w.heap.size ≤ R := by rw [hR]; exact H1.out.1.size
  rw [← hR]
  clear hR H1
  change Calls _ _ _ (w1.alloc (.cells (relCs m a) 26)) _
  generalize w1.alloc (.cells (relCs m a) 26) = W1 at hl hw2 hS2 ⊢
  have H2 := Lib.hid (And.intro hw2 (And.intro hl hS2))
  clear hl hw2 hS2
  refine (slives_true W1).mono ?_
  rintro e w2 ⟨rfl, hb2⟩
  have hw3 := H2.out.1.trans (hb2.mono H2.out.1.size)
  have H3 := Lib.hid (And.intro hw3 (And.intro (Lies.below H2.out.2.1 hb2 H2.out.2.1.lt : RelB w2 R m a) (H2.out.2.2.below (hb2.mono (Nat.le_trans hB H2.out.1.size)))))
  clear hb2 H2 hw3
  have k0 : ¬ (k : Int) < 0 := by omega
  have k1 : ¬ (m : Int) ≤ (k : Int) := by omega
  have k2 : ¬ more < 0 := by omega
  have k3 : ¬ later < 0 := by omega
  have k4 : ¬ 1000000 < more := by omega
  have k5 : ¬ 1000000 < later := by omega
  have hB2 : B ≤ w2.heap.size := Nat.le_trans hB H3.out.1.size
  have HO := Lib.hid (fun W => own_none W)
  have HK := Lib.hid (And.intro k0 (And.intro k1 (And.intro k2 (And.intro k3 (And.intro k4 k5)))))
  have hTk := H.out.2.2 k hk
  have HT := Lib.hid hTk
  clear hTk
  obtain ⟨t, ht⟩ : ∃ t, t = T k := ⟨_, rfl⟩
  rw [← ht] at HT
  have hwt : IntKind.i64.wrap (t + more) = t + more := by rw [IntKind.wrap_i64]; have := HT.out; omega
  have HTK := Lib.hid ht
  clear ht
  have i1 : (0 : Int) ≤ (k : Int) := by omega
  have i2 : (k : Int) < (m : Int) := by omega
  go_wp2_with (first
    | (at_builtin
       refine app_spans rfl (.tmp 57) (.tmp 58) rfl w2.heap.size _ rfl (HO.out _) g o m c (both F T) rfl (fun j hj => Lib.cell?_alloc_some _ (H3.out.2.2.both hj)) hm (by simp) ?_
       intro v' w5 ho5 hne hb5
       obtain ⟨G1, C1, rfl, hG1, -, hH1⟩ := spans_of_owned ho5 (fun e => by cases hne e)
       have hX5 := ((Below.refl w2.heap.size w2).alloc (Nat.le_refl _) (.cells #[] 34)).trans hb5
       have H5 := Lib.hid (And.intro hX5 (And.intro hH1 hG1))
       clear ho5 hne hb5 hG1 hH1 hX5)
    | (at_builtin
       refine app_spans rfl (.tmp 60) (.tmp 61) rfl w5.heap.size _ rfl (HO.out _) g o m c (both F T) rfl (fun j hj => Lib.cell?_alloc_some _ ((H3.out.2.2.below (H5.out.1.mono hB2)).both hj)) hm (by simp) ?_
       intro v' w6 ho6 hne hb6
       obtain ⟨G2, C2, rfl, hG2, -, hH2⟩ := spans_of_owned ho6 (fun e => by cases hne e)
       have hX6 := ((Below.refl w5.heap.size w5).alloc (Nat.le_refl _) (.cells #[] 34)).trans hb6
       have hL : LgR w B m c g o R G1 G2 F T a (both F T) (both F T) w6 := ⟨(H3.out.1.trans (H5.out.1.mono H3.out.1.size)).trans (hX6.mono (Nat.le_trans H3.out.1.size H5.out.1.size)),
         (H3.out.2.2.below (H5.out.1.mono hB2)).below (hX6.mono (Nat.le_trans hB2 H5.out.1.size)), Lies.below (Lies.below H3.out.2.1 H5.out.1 H3.out.2.1.lt) hX6 (Nat.lt_of_lt_of_le H3.out.2.1.lt H5.out.1.size),
         H5.out.2.1.below hX6 H5.out.2.1.lt, hH2, hRw, Nat.lt_of_lt_of_le H3.out.2.1.lt H5.out.2.2, Nat.lt_of_lt_of_le H5.out.2.1.lt hG2, hB⟩
       have d1 := hL.one.cell (j := k * 2 + 1) (by omega)
       rw [both_to, ← HTK.out] at d1
       have f1 := hL.one.free (k * 2 + 1)
       have HL := Lib.hid hL
       clear ho6 hne hb6 hG2 hH2 hX6 hL))
  have hL := HL.out.put1 (i := k * 2 + 1) (by omega) (t + more)
  clear HL d1 f1 hwt
  generalize w6.setCell ⟨G1, k * 2 + 1, none⟩ (.int .i64 (t + more)) = W6 at hL ⊢
  have hlz : both F T = laterAt F T later 0 := by
    funext c
    unfold laterAt
    rw [if_neg (by omega)]
  obtain ⟨f1, hf1⟩ : ∃ f1, f1 = fun c => if c = k * 2 + 1 then t + more else both F T c := ⟨_, rfl⟩
  rw [← hf1, hlz] at hL
  have HF1 := Lib.hid hf1
  clear hf1 hlz
  go_loopw [74] (fun v wr => ∃ i : Nat, i ≤ m ∧ v = .int .i64 i ∧ LgR w B m c g o R G1 G2 F T a f1 (laterAt F T later i) wr) (fun v _ => m - (intOf v).toNat)
  case atStart => exact ⟨0, by omega, rfl, hL⟩
  case round =>
    clear hL
    obtain ⟨i, hi, rfl, hL⟩ := hrel
    by_cases him : i < m
    · have hst := laterAt_step F T later i
      have d1 := hL.two.cell (j := i * 2) (by omega)
      have d2 := hL.two.cell (j := i * 2 + 1) (by omega)
      have hfr := hL.two.free
      have hoi := H.out.2.2 i him
      have e1 : laterAt F T later i (i * 2) = F i := by unfold laterAt; rw [if_neg (by omega), both_from]
      have e2 : laterAt F T later i (i * 2 + 1) = T i := by unfold laterAt; rw [if_neg (by omega), both_to]
      rw [e1] at d1
      rw [e2] at d2
      have hL2 := (hL.put2 (i := i * 2) (by omega) (F i + later)).put2 (i := i * 2 + 1) (by omega) (T i + later)
      have hL3 : LgR w B m c g o R G1 G2 F T a f1 (laterAt F T later (i + 1)) ((wr.setCell ⟨G2, i * 2, none⟩ (.int .i64 (F i + later))).setCell ⟨G2, i * 2 + 1, none⟩ (.int .i64 (T i + later))) := by
        rw [hst]; exact hL2
      have hw1 : IntKind.i64.wrap (F i + later) = F i + later := by rw [IntKind.wrap_i64]; omega
      have hw2 : IntKind.i64.wrap (T i + later) = T i + later := by rw [IntKind.wrap_i64]; omega
      clear hL hL2 hst e1 e2 hoi
      have j1 : (0 : Int) ≤ (i : Int) := by omega
      have j2 : (i : Int) < (m : Int) := by omega
      have HL3 := Lib.hid hL3
      clear hL3
      generalize F i = x at d1 hw1 HL3
      generalize T i = y at d2 hw2 HL3
      go_wp2_with fail
      have hL4 := HL3.out
      clear HL3 d1 d2 hfr hw1 hw2
      generalize (wr.setCell ⟨G2, i * 2, none⟩ (.int .i64 (x + later))).setCell ⟨G2, i * 2 + 1, none⟩ (.int .i64 (y + later)) = W7 at hL4 ⊢
      go_roundw
      case rel => exact ⟨i + 1, by omega, by go_num, hL4⟩
      case measure => simp [intOf]; omega
    · obtain rfl : i = m := by omega
      have hF1 : ∀ j, j < i → f1 (j * 2) = F j := fun j hj => by
        rw [HF1.out]
        show (if j * 2 = k * 2 + 1 then t + more else both F T (j * 2)) = F j
        rw [if_neg (by omega), both_from]
      have hT1 : ∀ j, j < i → f1 (j * 2 + 1) = if j = k then T j + more else T j := fun j hj => by
        rw [HF1.out]
        show (if j * 2 + 1 = k * 2 + 1 then t + more else both F T (j * 2 + 1)) = _
        by_cases e : j = k
        · rw [if_pos (by omega), if_pos e, e, HTK.out]
        · rw [if_neg (by omega), if_neg e, both_to]
      have hF2 : ∀ j, j < i → laterAt F T later i (j * 2) = F j + later := fun j hj => by
        unfold laterAt
        rw [if_pos (by omega), both_from]
      have hT2 : ∀ j, j < i → laterAt F T later i (j * 2 + 1) = T j + later := fun j hj => by
        unfold laterAt
        rw [if_pos (by omega), both_to]
      have HQ := Lib.hid (And.intro hF1 (And.intro hT1 (And.intro hF2 hT2)))
      clear hF1 hT1 hF2 hT2
      obtain ⟨n1, a1, ho1, ha1, hl1⟩ := of_some (hL.one.rd C1 HQ.out.1 HQ.out.2.1) hL.one.lt
      have HO1 := Lib.hid (And.intro ho1 (And.intro ha1 hl1))
      have HL1 := Lib.hid hL
      clear ho1 ha1 hl1 hL
      generalize hE1 : spErr i F (fun j => if j = k then T j + more else T j) = E1 at HO1
      clear hE1
      go_wp2_with fail
      refine HO1.out.1.mono ?_
      rintro e w8 ⟨rfl, hb8⟩
      have H8 := Lib.hid (HL1.out.next hb8)
      clear hb8 HL1
      go_wp2_with fail
      obtain ⟨X, hX⟩ : ∃ X, X = w8.heap.size := ⟨_, rfl⟩
      have hl : RelB (w8.alloc (.cells (relCs n1 a1) 26)) X n1 a1 := by rw [hX]; exact Lies.new _ _ _
      have hL9 := H8.out.next ((Below.refl _ _).alloc (Nat.le_refl _) (.cells (relCs n1 a1) 26))
      rw [← hX]
      clear hX H8
      change Calls _ _ _ (w8.alloc (.cells (relCs n1 a1) 26)) _
      generalize w8.alloc (.cells (relCs n1 a1) 26) = W9 at hl hL9 ⊢
      have H9 := Lib.hid (And.intro hL9 hl)
      clear hL9 hl
      obtain ⟨n2, a2, ho2, ha2, hl2⟩ := of_some (H9.out.1.two.rd C2 HQ.out.2.2.1 HQ.out.2.2.2) H9.out.1.two.lt
      have HO2 := Lib.hid (And.intro ho2 ha2)
      clear ho2 ha2 hl2
      generalize hE2 : spErr i (fun j => F j + later) (fun j => T j + later) = E2 at HO2
      clear hE2
      refine HO2.out.1.mono ?_
      rintro e w10 ⟨rfl, hb10⟩
      have H10 := Lib.hid (And.intro (H9.out.1.next hb10) (Lies.below H9.out.2 hb10 H9.out.2.lt : RelB w10 X n1 a1))
      clear hb10 H9
      obtain ⟨Y, hY⟩ : ∃ Y, Y = w10.heap.size := ⟨_, rfl⟩
      obtain ⟨W11, hW11⟩ : ∃ W11, W11 = w10.alloc (.cells (relCs n2 a2) 26) := ⟨_, rfl⟩
      have hX11 : LgR w B i c g o R G1 G2 F T a f1 (laterAt F T later i) W11 ∧ RelB W11 X n1 a1 := by
        rw [hW11]
        exact ⟨H10.out.1.next ((Below.refl _ _).alloc (Nat.le_refl _) _), Lies.alloc H10.out.2 _⟩
      have HX := Lib.hid hX11
      have c0 := H10.out.1.rel.size
      obtain ⟨c1, c2, c3, c4, c5, c6, c7, c8, c9, c10, c11, c12⟩ := H10.out.1.rel.rows
      have hlt := H10.out.1.rel.lt
      clear hX11 H10
      by_cases hE0 : E2 = 0
      · subst hE0
        obtain ⟨hn2, ha2⟩ := HO2.out.2 rfl
        rw [long_same, ← HA.out] at ha2
        subst hn2
        subst ha2
        have hq := fun W => rows_same (a2 0 : Nat) (a2 1 : Nat) (a2 2 : Nat) (a2 3 : Nat) (a2 4 : Nat) (a2 5 : Nat) (a2 6 : Nat) (a2 7 : Nat) (a2 8 : Nat) (a2 9 : Nat) (a2 10 : Nat) (a2 11 : Nat) W
        clear HO2
        go_wp2_with fail
        clear c0 c1 c2 c3 c4 c5 c6 c7 c8 c9 c10 c11 c12 hlt
        change Code.wp _ _ _ _ (w10.alloc (.cells (relCs i a2) 26))
        rw [← hW11]
        clear hW11
        go_loopw [113] (fun v wr => ∃ j : Nat, j ≤ 12 ∧ v = .int .i64 j ∧ LgR w B i c g o R G1 G2 F T a2 f1 (laterAt F T later i) wr ∧ RelB wr X n1 a1) (fun v _ => 12 - (intOf v).toNat)
        case atStart => exact ⟨0, by omega, rfl, HX.out⟩
        case round =>
          clear HX
          obtain ⟨j, hj, rfl, hL, hXr⟩ := hrel
          by_cases hj12 : j < 12
          · have d1 := hXr.row' hj12
            have d2 := hL.rel.row' hj12
            have HN := Lib.hid (And.intro hL hXr)
            clear hL hXr
            have j1 : (0 : Int) ≤ (j : Int) := by omega
            have j2 : (j : Int) < 12 := by omega
            by_cases he : E1 = 0
            · subst he
              have hv : (bits BinOp.andNot IntKind.u16 ((a1 j : Nat) : Int) ((a2 j : Nat) : Int) != 0) = false := by
                rw [andNot_any _ _ (HO1.out.2.2 j) (by rw [HA.out]; exact spRel_lt _ F T hm j), (HO1.out.2.1 rfl).2, HA.out, long_less _ F T k more h1 hm j]
                rfl
              generalize a1 j = x1 at d1 hv
              generalize a2 j = x2 at d2 hv
              go_wp2_with fail
              go_quiet (fail)
              go_wp2_with fail
              go_roundw
              case rel => exact ⟨j + 1, by omega, by go_num, HN.out.1.next (uBelowN (Below.refl _ _) _), HN.out.2⟩
              case measure => simp [intOf]; omega
            · have hz : (E1 == 0) = false := by rw [beq_eq_false_iff_ne]; exact he
              clear he
              go_wp2_with fail
              go_quiet (fail)
              go_wp2_with fail
              go_roundw
              case rel => exact ⟨j + 1, by omega, by go_num, HN.out.1.next (uBelowN (Below.refl _ _) _), HN.out.2⟩
              case measure => simp [intOf]; omega
          · obtain rfl : j = 12 := by omega
            have HN := Lib.hid hL.below
            clear hL hXr
            go_wp2_with fail
            go_ret
            exact ⟨rfl, HN.out⟩
      · have hz : (E2 == 0) = false := by rw [beq_eq_false_iff_ne]; exact hE0
        clear HO2 hE0
        go_wp2_with fail
        clear c0 c1 c2 c3 c4 c5 c6 c7 c8 c9 c10 c11 c12 hlt
        change Code.wp _ _ _ _ (w10.alloc (.cells (relCs n2 a2) 26))
        rw [← hW11]
        clear hW11
        go_loopw [113] (fun v wr => ∃ j : Nat, j ≤ 12 ∧ v = .int .i64 j ∧ LgR w B i c g o R G1 G2 F T a f1 (laterAt F T later i) wr ∧ RelB wr X n1 a1) (fun v _ => 12 - (intOf v).toNat)
        case atStart => exact ⟨0, by omega, rfl, HX.out⟩
        case round =>
          clear HX
          obtain ⟨j, hj, rfl, hL, hXr⟩ := hrel
          by_cases hj12 : j < 12
          · have d1 := hXr.row' hj12
            have d2 := hL.rel.row' hj12
            have HN := Lib.hid (And.intro hL hXr)
            clear hL hXr
            have j1 : (0 : Int) ≤ (j : Int) := by omega
            have j2 : (j : Int) < 12 := by omega
            by_cases he : E1 = 0
            · subst he
              have hv : (bits BinOp.andNot IntKind.u16 ((a1 j : Nat) : Int) ((a j : Nat) : Int) != 0) = false := by
                rw [andNot_any _ _ (HO1.out.2.2 j) (by rw [HA.out]; exact spRel_lt _ F T hm j), (HO1.out.2.1 rfl).2, HA.out, long_less _ F T k more h1 hm j]
                rfl
              generalize a1 j = x1 at d1 hv
              generalize a j = x2 at d2 hv
              go_wp2_with fail
              go_quiet (fail)
              go_wp2_with fail
              go_roundw
              case rel => exact ⟨j + 1, by omega, by go_num, HN.out.1.next (uBelowN (Below.refl _ _) _), HN.out.2⟩
              case measure => simp [intOf]; omega
            · have hz : (E1 == 0) = false := by rw [beq_eq_false_iff_ne]; exact he
              clear he
              go_wp2_with fail
              go_quiet (fail)
              go_wp2_with fail
              go_roundw
              case rel => exact ⟨j + 1, by omega, by go_num, HN.out.1.next (uBelowN (Below.refl _ _) _), HN.out.2⟩
              case measure => simp [intOf]; omega
          · obtain rfl : j = 12 := by omega
            have HN := Lib.hid hL.below
            clear hL hXr
            go_wp2_with fail
            go_ret
            exact ⟨rfl, HN.out⟩

theorem long_any {B m : Nat} {v : Value} {F T : Nat → Int} {w : World} (h : SRd w B v m F T) (hB : B ≤ w.heap.size) (k more later : Int) :
    Calls Try.prog 6 #[v, .int .i64 k, .int .i64 more, .int .i64 later] w fun e w' => e = .returned (.bool true) ∧ Below w.heap.size w w' := by
  by_cases hbad : spErr m F T ≠ 0 ∨ k < 0 ∨ (m : Int) ≤ k ∨ more < 0 ∨ later < 0 ∨ 1000000 < more ∨ 1000000 < later
  · exact long_bad h hB k more later hbad
  · obtain ⟨A, c, rfl⟩ := h.is
    have h0 : spErr m F T = 0 := by
      rcases Decidable.em (spErr m F T = 0) with h | h
      · exact h
      · exact absurd (Or.inl h) hbad
    have h1 : ¬ (k < 0 ∨ (m : Int) ≤ k ∨ more < 0 ∨ later < 0 ∨ 1000000 < more ∨ 1000000 < later) := fun h => hbad (Or.inr h)
    obtain ⟨n, rfl⟩ : ∃ n : Nat, k = n := ⟨k.toNat, by omega⟩
    obtain ⟨g, o, rfl, _⟩ := h.addr (by omega)
    exact long_good h hB n more later h0 (by omega) (by omega) (by omega) (by omega) (by omega)
end Go.Proofs.Ytfjanniojphdoaa
