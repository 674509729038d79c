/-
  Joined by a program out of: LCollect, LRelate, Has, Check, Close, Clo.
-/
import Derived.Test.YtfgangkpebkicaaDoorMgBB
import Derived.Test.YtfgangkpebkicaaDoorMgAJ
import Derived.WalkKit
import Derived.Deep.QuietTactic
import Derived.BigQuiet
import Derived.Lib.Hide

/-
  Contract of local.collect.
-/
namespace Go.Proofs.YtfgangkpebkicaaDoor
open Go.RowKit Go.Maps
set_option maxRecDepth 20000
/-- All steps, with their lists' numbers. -/
def flatF : Nat → List (List (Int × Int)) → List (Nat × (Int × Int))
  | _, [] => []
  | t, l :: r => l.map (fun x => (t, x)) ++ flatF (t + 1) r
/-- The steps by their calls, or none where one can't stand there. -/
def colF (cs : List Cl) : List (Nat × (Int × Int)) → (Int → Option Int) → Option (Int → Option Int)
  | [], F => some F
  | (t, x) :: r, F => if ¬ (0 ≤ x.1 ∧ x.1 < cs.length) ∨ (cs.getD x.1.toNat default).thing ≠ (t : Int) then none else if (F x.1).isSome = true then none else colF cs r (fun c => if c = x.1 then some x.2 else F c)
def cntF (F : Int → Option Int) (n : Nat) : Nat := (List.range n).countP fun (k : Nat) => (F (k : Int)).isSome
theorem cntF_le (F : Int → Option Int) (n : Nat) : cntF F n ≤ n := by unfold cntF; exact Nat.le_trans List.countP_le_length (by simp)
theorem cntF_put {F : Int → Option Int} {n k : Nat} (hk : k < n) (hF : (F (k : Int)).isSome = false) (r : Int) : cntF (fun c => if c = (k : Int) then some r else F c) n = cntF F n + 1 := by
  unfold cntF
  refine countP_less hk (by simp) hF (fun j hj => ?_)
  dsimp only
  rw [if_neg (by omega)]
def ColPost (w : World) (cs : List Cl) (ww : List (List (Int × Int))) (e : Ending) (w' : World) : Prop :=
  Below w.heap.size w w' ∧ ((colF cs (flatF 0 ww) (fun _ => none) = none ∧ e = .returned (.tuple #[.map none, .bool false])) ∨ ∃ F b n, colF cs (flatF 0 ww) (fun _ => none) = some F ∧ e = .returned (.tuple #[.map (some b), .bool true]) ∧ JMap w' b n F ∧ n ≤ 12)
set_option maxHeartbeats 4000000 in
theorem lcollect_any {cv wv : Value} {cs : List Cl} {ww : List (List (Int × Int))} {w : World} (hc : CRd w w.heap.size cv cs) (hw : QRd w w.heap.size wv ww) (hn : cs.length ≤ 12) (hl : ww.length ≤ 4) :
    Calls Tryd.prog 23 #[cv, wv] w (ColPost w cs ww) := by
  obtain ⟨Ac, cc, rfl, -, -⟩ := hc.is
  obtain ⟨Aw, cw, rfl, -, -⟩ := hw.is
  obtain ⟨n, hnn⟩ : ∃ n, n = cs.length := ⟨_, rfl⟩
  obtain ⟨m, hm⟩ : ∃ m, m = ww.length := ⟨_, rfl⟩
  rw [← hnn] at hc hn ⊢
  rw [← hm] at hw hl ⊢
  have HCW := Lib.hid (And.intro hc hw)
  have HN := Lib.hid (And.intro hnn hm)
  have hb0 : Below w.heap.size w (w.alloc (.map #[] 0)) := (Below.refl _ _).alloc (Nat.le_refl _) _
  have HJ0 := Lib.hid (And.intro hb0 (JMap.made w))
  obtain ⟨R, hR⟩ : ∃ R, R = colF cs (flatF 0 ww) (fun _ => none) := ⟨_, rfl⟩
  have HR := Lib.hid hR
  have hmm := @run_makeMap Tryd.prog
  clear hc hw hnn hm hb0 hR
  go_enter Tryd.func23, Tryd.ntmps23
  go_wp2_with fail
  clear hmm
  have hj0 := HJ0.out
  clear HJ0
  change Code.wp _ _ _ _ (w.alloc (.map #[] 0))
  generalize w.alloc (.map #[] 0) = W at hj0 ⊢
  obtain ⟨b, hb⟩ : ∃ b, b = w.heap.size := ⟨_, rfl⟩
  rw [← hb] at hj0 ⊢
  have HBB := Lib.hid hb
  clear hb
  go_loopw [16] (fun t wr => ∃ (k : Nat) (F : Int → Option Int), k ≤ m ∧ t = .int .i64 k ∧ Below w.heap.size w wr ∧ JMap wr b (cntF F n) F ∧ colF cs (flatF k (ww.drop k)) F = R) (fun t _ => m - (intOf t).toNat)
  case atStart => exact ⟨0, fun _ => none, by omega, rfl, by rw [← HBB.out] at *; exact hj0.1, by rw [show cntF (fun _ => none) n = 0 from List.countP_eq_zero.2 (fun _ _ h => by cases h)]; exact hj0.2, by rw [List.drop_zero, HR.out]⟩
  case round =>
    clear hj0
    obtain ⟨k, F0, hk, rfl, hb, hj, hcol⟩ := hrel
    by_cases hkm : k < m
    · obtain ⟨l, hx⟩ : ∃ l, ww[k]? = some l := ⟨_, List.getElem?_eq_getElem (by rw [← HN.out.2]; exact hkm)⟩
      have hdrop : ww.drop k = l :: ww.drop (k + 1) := by
        obtain ⟨h2, h3⟩ := List.getElem?_eq_some_iff.1 hx
        rw [List.drop_eq_getElem_cons h2, h3]
      rw [hdrop, flatF] at hcol
      obtain ⟨g, o, Al, cl, rfl, hg, d0, hrow⟩ := (HCW.out.2.below hb).at_ hx
      have i1 : (0 : Int) ≤ (k : Int) := by omega
      have i2 : (k : Int) < (m : Int) := by omega
      obtain ⟨L, hL⟩ : ∃ L, L = l.length := ⟨_, rfl⟩
      have hL8 : L ≤ 9223372036854775807 := by
        obtain ⟨_, _, _, h1, h2⟩ := hrow.is
        unfold maxLen at h2
        omega
      rw [← hL] at d0 hrow
      have hrow0 : SRd w w.heap.size (.slice Al L cl) l := by
        obtain ⟨g', o', Al', cl', e1, _, d0', h'⟩ := HCW.out.2.at_ hx
        injection e1 with e1
        injection e1 with e1 e2
        subst e1 e2
        have d1 := hb.cell (p := ⟨g, o + k, none⟩) hg
        rw [d0, d0'] at d1
        injection d1 with d1
        injection d1 with d1 d2 d3
        subst d1 d3
        rw [← hL] at h'
        exact h'
      have HRW := Lib.hid (And.intro hrow0 hL)
      have HB := Lib.hid (And.intro hb (And.intro hj hcol))
      clear hx hdrop hcol hrow hrow0 hL hb hj
      go_wp2_with fail
      go_loopw [23] (fun t wr => ∃ (i : Nat) (F : Int → Option Int), i ≤ L ∧ t = .int .i64 i ∧ Below w.heap.size w wr ∧ JMap wr b (cntF F n) F ∧ colF cs ((l.drop i).map (fun x => (k, x)) ++ flatF (k + 1) (ww.drop (k + 1))) F = R) (fun t _ => L - (intOf t).toNat)
      case atStart => exact ⟨0, F0, by omega, rfl, HB.out.1, HB.out.2.1, HB.out.2.2⟩
      case round =>
        obtain ⟨i, F, hi, rfl, hb, hj, hcol⟩ := hrel
        by_cases hiL : i < L
        · obtain ⟨x, hx⟩ : ∃ x, l[i]? = some x := ⟨_, List.getElem?_eq_getElem (by rw [← HRW.out.2]; exact hiL)⟩
          have hdrop : l.drop i = x :: l.drop (i + 1) := by
            obtain ⟨h2, h3⟩ := List.getElem?_eq_some_iff.1 hx
            rw [List.drop_eq_getElem_cons h2, h3]
          rw [hdrop, List.map_cons, List.cons_append, colF] at hcol
          obtain ⟨g2, o2, rfl, -, x0, x1⟩ := (HRW.out.1.below hb).sp hx
          obtain ⟨q1, q2⟩ := x
          simp only at x0 x1 hcol
          have j1 : (0 : Int) ≤ (i : Int) := by omega
          have j2 : (i : Int) < (L : Int) := by omega
          have hal : Below wr.heap.size wr (wr.alloc (.cells #[.int .i64 q1, .int .i64 q2] 38)) := (Below.refl _ _).alloc (Nat.le_refl _) _
          have hnew : Lies (wr.alloc (.cells #[.int .i64 q1, .int .i64 q2] 38)) wr.heap.size 38 #[.int .i64 q1, .int .i64 q2] := Lies.new _ _ _
          have HO := Lib.hid (And.intro (hb.trans (hal.mono hb.size)) (And.intro (hj.below hal) hcol))
          clear hb hj hcol hx hdrop hal d0
          go_upto_region 8 with fail
          change Code.wp _ _ _ _ (wr.alloc (.cells #[.int .i64 q1, .int .i64 q2] 38))
          generalize wr.alloc (.cells #[.int .i64 q1, .int .i64 q2] 38) = W2 at hnew HO ⊢
          generalize wr.heap.size = X at hnew ⊢
          have c0 : W2.cell? ⟨X, 0, none⟩ = some (.int .i64 q1) := Lies.cell hnew 0
          have c1 : W2.cell? ⟨X, 1, none⟩ = some (.int .i64 q2) := Lies.cell hnew 1
          clear x0 x1
          by_cases h1 : q1 < 0
          · have hcr := HO.out.2.2
            rw [if_pos (.inl (by omega))] at hcr
            have HCR := Lib.hid hcr
            clear hcr
            go_wp2_with fail
            go_ret2
            exact ⟨HO.out.1, .inl ⟨by rw [← HR.out, ← HCR.out], rfl⟩⟩
          · by_cases h2 : (n : Int) ≤ q1
            · have hcr := HO.out.2.2
              rw [if_pos (.inl (by have := HN.out.1; omega))] at hcr
              have HCR := Lib.hid hcr
              clear hcr
              go_wp2_with fail
              go_ret2
              exact ⟨HO.out.1, .inl ⟨by rw [← HR.out, ← HCR.out], rfl⟩⟩
            · obtain ⟨q, rfl⟩ : ∃ q : Nat, q1 = (q : Int) := ⟨q1.toNat, by omega⟩
              have hqn : q < n := by omega
              obtain ⟨y, hy⟩ : ∃ y, cs[q]? = some y := ⟨_, List.getElem?_eq_getElem (by have := HN.out.1; omega)⟩
              obtain ⟨g3, o3, rfl, -, y0, y1, -⟩ := (HCW.out.1.below HO.out.1).cl hy
              have hyd : cs.getD q default = y := by rw [List.getD_eq_getElem?_getD, hy]; rfl
              have hcr := HO.out.2.2
              rw [Int.toNat_natCast, hyd] at hcr
              generalize y.thing = yt at y1 hcr
              by_cases h3 : yt = (k : Int)
              · have hz : (yt != (k : Int)) = false := by rw [bne_eq_false_iff_eq]; exact h3
                rw [if_neg (fun h => by rcases h with h | h; exact h ⟨by omega, by have := HN.out.1; omega⟩; exact h h3)] at hcr
                have HCR := Lib.hid hcr
                clear hcr hy hyd y0
                have hq0 : (0 : Int) ≤ (q : Int) := by omega
                have hq1 : (q : Int) < (n : Int) := by omega
                clear h1 h2 h3
                cases hF : (F (q : Int)).isSome
                · have hcr := HCR.out
                  rw [hF, if_neg (by decide)] at hcr
                  have HC2 := Lib.hid (And.intro hcr hF)
                  clear hcr
                  go_upto_region 11 with (at_lookup; refine JMap.look rfl _ _ rfl HO.out.2.1 (q : Int) (by omega) (by omega) rfl rfl ?_; intro z r _; rw [HC2.out.2])
                  have hal3 : Below W2.heap.size W2 (W2.alloc (.cells #[.int .i64 z, .int .i64 r] 38)) := (Below.refl _ _).alloc (Nat.le_refl _) _
                  have HO3 := Lib.hid (And.intro (HO.out.1.trans (hal3.mono HO.out.1.size)) (HO.out.2.1.below hal3))
                  have e0 : (W2.alloc (.cells #[.int .i64 z, .int .i64 r] 38)).cell? ⟨X, 0, none⟩ = some (.int .i64 q) := Lies.cell (Lies.alloc hnew _) 0
                  have e1 : (W2.alloc (.cells #[.int .i64 z, .int .i64 r] 38)).cell? ⟨X, 1, none⟩ = some (.int .i64 q2) := Lies.cell (Lies.alloc hnew _) 1
                  clear hal3 c0 c1 hnew y1
                  change Code.wp _ _ _ _ (W2.alloc (.cells #[.int .i64 z, .int .i64 r] 38))
                  generalize W2.alloc (.cells #[.int .i64 z, .int .i64 r] 38) = W3 at HO3 e0 e1 ⊢
                  go_wp2_with (at_mapUpdate; refine JMap.put rfl _ _ _ rfl HO3.out.2 (q : Int) q2 (by omega) (by omega) (by have := cntF_le F n; omega) rfl rfl rfl ?_; intro w4 hj4 hg4)
                  have hb4 : Below w.heap.size w w4 := HO3.out.1.trans ⟨hg4.os, hg4.tape, hg4.output, hg4.size, fun k hk => hg4.block k (Nat.lt_of_lt_of_le hk HO3.out.1.size) (fun e => by injection e with e; have := HBB.out; omega)⟩
                  rw [← cntF_put hqn HC2.out.2 q2] at hj4
                  have HZ := Lib.hid (And.intro hb4 hj4)
                  clear hb4 hj4 hg4
                  go_wp2_with fail
                  go_roundw
                  case rel => exact ⟨i + 1, _, by omega, by go_num, HZ.out.1, HZ.out.2, HC2.out.1⟩
                  case measure => simp [intOf]; omega
                · have hcr := HCR.out
                  rw [hF, if_pos rfl] at hcr
                  have HC2 := Lib.hid (And.intro hcr hF)
                  clear hcr
                  go_wp2_with (at_lookup; refine JMap.look rfl _ _ rfl HO.out.2.1 (q : Int) (by omega) (by omega) rfl rfl ?_; intro z r _; rw [HC2.out.2])
                  go_ret2
                  exact ⟨HO.out.1.alloc HO.out.1.size _, .inl ⟨by rw [← HR.out, ← HC2.out.1], rfl⟩⟩
              · have hz : (yt != (k : Int)) = true := by rw [bne_iff_ne]; exact h3
                rw [if_pos (.inr h3)] at hcr
                have HCR := Lib.hid hcr
                clear hcr hy hyd y0 h3
                have hq0 : (0 : Int) ≤ (q : Int) := by omega
                have hq1 : (q : Int) < (n : Int) := by omega
                go_wp2_with fail
                go_ret2
                exact ⟨HO.out.1, .inl ⟨by rw [← HR.out, ← HCR.out], rfl⟩⟩
        · obtain rfl : L = i := by omega
          rw [List.drop_eq_nil_of_le (by rw [← HRW.out.2]; exact Nat.le_refl _), List.map_nil, List.nil_append] at hcol
          have HO := Lib.hid (And.intro hb (And.intro hj hcol))
          clear hb hj hcol
          go_wp2_with fail
          go_roundw
          case rel => exact ⟨k + 1, F, by omega, by go_num, HO.out⟩
          case measure => simp [intOf]; omega
    · obtain rfl : m = k := by omega
      rw [List.drop_eq_nil_of_le (by rw [← HN.out.2]; exact Nat.le_refl _), flatF, colF] at hcol
      have HO := Lib.hid (And.intro hb (And.intro hj hcol))
      clear hb hj hcol
      go_wp2_with fail
      go_ret2
      exact ⟨HO.out.1, .inr ⟨F0, b, _, by rw [← HR.out, ← HO.out.2.2], rfl, HO.out.2.1, Nat.le_trans (cntF_le _ _) hn⟩⟩
end Go.Proofs.YtfgangkpebkicaaDoor

/-
  Contract of local.relate.
-/
namespace Go.Proofs.YtfgangkpebkicaaDoor
open Go.RowKit Go.Maps
set_option maxRecDepth 20000
def setP (p : Nat → Nat → Bool) (a b : Nat) : Nat → Nat → Bool := fun i j => p i j || (decide (i = a) && decide (j = b))
/-- With the steps of a list, each ahead of the next one. -/
def lnkP (p : Nat → Nat → Bool) : List (Int × Int) → Nat → Nat → Bool
  | x :: y :: r => lnkP (setP p x.1.toNat y.1.toNat) (y :: r)
  | _ => p
def relF (p : Nat → Nat → Bool) : List (List (Int × Int)) → Nat → Nat → Bool
  | [] => p
  | l :: r => relF (lnkP p l) r
theorem relP_set {p : Nat → Nat → Bool} {n a b : Nat} (ha : a < n) (hb : b < n) : relP (setP p a b) n = fun i => if i = a then relP p n a ||| 2 ^ b else relP p n i := by
  funext i
  apply Nat.eq_of_testBit_eq
  intro j
  rw [relP_bit]
  unfold setP
  by_cases e : i = a
  · subst e
    rw [if_pos rfl, Nat.testBit_or, relP_bit, Nat.testBit_two_pow]
    by_cases e2 : j = b
    · subst e2
      simp [ha, hb]
    · have : ¬ b = j := fun h => e2 h.symm
      simp [e2, this]
  · rw [if_neg e, relP_bit]
    simp [e]
theorem lnkP_short {p : Nat → Nat → Bool} {l : List (Int × Int)} (h : l.length ≤ 1) : lnkP p l = p := by
  match l, h with
  | [], _ => rfl
  | [x], _ => rfl
set_option maxHeartbeats 4000000 in
theorem lrelate_any {cv wv : Value} {cs : List Cl} {ww : List (List (Int × Int))} {w : World} (hc : CRd w w.heap.size cv cs) (hw : QRd w w.heap.size wv ww) (hn : cs.length ≤ 12) (hr : ∀ l ∈ ww, ∀ x ∈ l, 0 ≤ x.1 ∧ x.1 < cs.length) :
    Calls Tryd.prog 24 #[cv, wv] w fun e w' => e = .returned (.tuple #[relV cs.length (relP (relF (aheadB cs) ww) cs.length), .int .i64 0]) ∧ Below w.heap.size w w' := by
  have hb0 : Below w.heap.size w (w.alloc (.cells (relCs 0 fun _ => 0) 46)) := (Below.refl _ _).alloc (Nat.le_refl _) _
  have HA := Lib.hid (ahead_few (hc.below hb0) (by have := hb0.size; exact this) hn)
  have hr0 : RelB (w.alloc (.cells (relCs 0 fun _ => 0) 46)) w.heap.size 0 (fun _ => 0) := Lies.new _ _ _
  obtain ⟨Ac, cc, rfl, -, -⟩ := hc.is
  obtain ⟨Aw, cw, rfl, -, hcw⟩ := hw.is
  unfold maxLen at hcw
  obtain ⟨n, hnn⟩ : ∃ n, n = cs.length := ⟨_, rfl⟩
  obtain ⟨m, hm⟩ : ∃ m, m = ww.length := ⟨_, rfl⟩
  rw [← hnn] at hn hr HA ⊢
  rw [← hm] at hw ⊢
  have hm8 : m ≤ 9223372036854775807 := by
    obtain ⟨_, _, _, h1, h2⟩ := hw.is
    unfold maxLen at h2
    omega
  have HW := Lib.hid (And.intro hw (And.intro hm hr))
  have H0 := Lib.hid (And.intro hb0 hr0)
  obtain ⟨R, hR⟩ : ∃ R, R = relF (aheadB cs) ww := ⟨_, rfl⟩
  have HR := Lib.hid hR
  rw [← hR]
  clear hc hw hnn hm hb0 hr0 hR hr hcw
  go_enter Tryd.func24, Tryd.ntmps24
  go_wp2_with fail
  refine HA.out.mono ?_
  rintro e w1 ⟨rfl, hb1⟩
  have hO : ORel w w.heap.size w1.heap.size n (relP (aheadB cs) n) (w1.alloc (.cells (relCs n (relP (aheadB cs) n)) 46)) := by
    have h2 := H0.out.1.trans (hb1.mono H0.out.1.size)
    have h3 : RelB w1 w.heap.size 0 (fun _ => 0) := Lies.below H0.out.2 hb1 H0.out.2.lt
    exact ⟨h2.alloc h2.size _, Lies.alloc h3 _, Lies.new _ _ _, Nat.le_refl _, h3.lt⟩
  have HO := Lib.hid hO
  clear hb1 hO H0 HA
  go_wp2_with fail
  have hO := HO.out
  clear HO
  change Code.wp _ _ _ _ (w1.alloc (.cells (relCs n (relP (aheadB cs) n)) 46))
  generalize w1.alloc (.cells (relCs n (relP (aheadB cs) n)) 46) = W at hO ⊢
  generalize w1.heap.size = G at hO ⊢
  go_loopw [22] (fun t wr => ∃ (k : Nat) (p : Nat → Nat → Bool), k ≤ m ∧ t = .int .i64 k ∧ ORel w w.heap.size G n (relP p n) wr ∧ relF p (ww.drop k) = R) (fun t _ => m - (intOf t).toNat)
  case atStart => exact ⟨0, aheadB cs, by omega, rfl, hO, by rw [List.drop_zero, HR.out]⟩
  case round =>
    clear hO
    obtain ⟨k, p0, hk, rfl, hO, hcol⟩ := hrel
    by_cases hkm : k < m
    · obtain ⟨l, hx⟩ : ∃ l, ww[k]? = some l := ⟨_, List.getElem?_eq_getElem (by rw [← HW.out.2.1]; exact hkm)⟩
      have hdrop : ww.drop k = l :: ww.drop (k + 1) := by
        obtain ⟨h2, h3⟩ := List.getElem?_eq_some_iff.1 hx
        rw [List.drop_eq_getElem_cons h2, h3]
      rw [hdrop, relF] at hcol
      have hb := hO.below
      obtain ⟨g, o, Al, cl, rfl, hg, d0, hrow⟩ := (HW.out.1.below hb).at_ hx
      have hlr := HW.out.2.2 l (List.mem_of_getElem? hx)
      have i1 : (0 : Int) ≤ (k : Int) := by omega
      have i2 : (k : Int) < (m : Int) := by omega
      obtain ⟨L, hL⟩ : ∃ L, L = l.length := ⟨_, rfl⟩
      have hL8 : L ≤ 9223372036854775807 := by
        obtain ⟨_, _, _, h1, h2⟩ := hrow.is
        unfold maxLen at h2
        omega
      rw [← hL] at d0 hrow
      have hrow0 : SRd w w.heap.size (.slice Al L cl) l := by
        obtain ⟨g', o', Al', cl', e1, _, d0', h'⟩ := HW.out.1.at_ hx
        injection e1 with e1
        injection e1 with e1 e2
        subst e1 e2
        have d1 := hb.cell (p := ⟨g, o + k, none⟩) hg
        rw [d0, d0'] at d1
        injection d1 with d1
        injection d1 with d1 d2 d3
        subst d1 d3
        rw [← hL] at h'
        exact h'
      have HRW := Lib.hid (And.intro hrow0 (And.intro hL hlr))
      have HB := Lib.hid (And.intro hO hcol)
      clear hx hdrop hcol hrow hrow0 hL hb hO hlr
      go_wp2_with fail
      go_loopw [10] (fun t wr => ∃ (i : Nat) (p : Nat → Nat → Bool), 1 ≤ i ∧ (i ≤ L ∨ i = 1) ∧ t = .int .i64 i ∧ ORel w w.heap.size G n (relP p n) wr ∧ relF (lnkP p (l.drop (i - 1))) (ww.drop (k + 1)) = R) (fun t _ => L - (intOf t).toNat)
      case atStart => exact ⟨1, p0, by omega, .inr rfl, rfl, HB.out.1, HB.out.2⟩
      case round =>
        obtain ⟨i, p, hi1, hi, rfl, hO, hcol⟩ := hrel
        by_cases hiL : i < L
        · obtain ⟨j, rfl⟩ : ∃ j, i = j + 1 := ⟨i - 1, by omega⟩
          obtain ⟨x, hx⟩ : ∃ x, l[j]? = some x := ⟨_, List.getElem?_eq_getElem (by rw [← HRW.out.2.1]; omega)⟩
          obtain ⟨y, hy⟩ : ∃ y, l[j + 1]? = some y := ⟨_, List.getElem?_eq_getElem (by rw [← HRW.out.2.1]; exact hiL)⟩
          have hdrop : l.drop j = x :: y :: l.drop (j + 2) := by
            obtain ⟨h2, h3⟩ := List.getElem?_eq_some_iff.1 hx
            obtain ⟨h4, h5⟩ := List.getElem?_eq_some_iff.1 hy
            rw [List.drop_eq_getElem_cons h2, h3, List.drop_eq_getElem_cons h4, h5]
          have hdrop2 : l.drop (j + 1) = y :: l.drop (j + 2) := by
            obtain ⟨h4, h5⟩ := List.getElem?_eq_some_iff.1 hy
            rw [List.drop_eq_getElem_cons h4, h5]
          rw [Nat.add_sub_cancel, hdrop, lnkP, ← hdrop2] at hcol
          have hxr := HRW.out.2.2 x (List.mem_of_getElem? hx)
          have hyr := HRW.out.2.2 y (List.mem_of_getElem? hy)
          have hb := hO.below
          obtain ⟨g2, o2, rfl, -, x0, -⟩ := (HRW.out.1.below hb).sp hx
          obtain ⟨g3, o3, e3, -, y0, -⟩ := (HRW.out.1.below hb).sp hy
          injection e3 with e3
          injection e3 with e3 e4
          subst e3 e4
          obtain ⟨x1, x2⟩ := x
          obtain ⟨y1, y2⟩ := y
          simp only at x0 y0 hcol hxr hyr
          obtain ⟨a, rfl⟩ : ∃ a : Nat, x1 = (a : Int) := ⟨x1.toNat, by omega⟩
          obtain ⟨b, rfl⟩ : ∃ b : Nat, y1 = (b : Int) := ⟨y1.toNat, by omega⟩
          rw [Int.toNat_natCast, Int.toNat_natCast] at hcol
          have han : a < n := by omega
          have hbn : b < n := by omega
          have hst := relP_set (p := p) han hbn
          have ck := hO.own.row' (k := a) (by omega)
          have fk := hO.own.free (1 + a)
          have hlt := relP_lt p hn a
          have HOO := Lib.hid (And.intro hO (And.intro hcol hst))
          clear hO hcol hx hy hdrop hdrop2 hxr hyr hb hst d0
          generalize hxx : relP p n a = z at ck hlt
          have ho := or_pow z b hlt (by omega)
          have hp := pow_u16 b (by omega)
          have HXX := Lib.hid hxx
          clear hxx
          have a0 : (0 : Int) ≤ (a : Int) := by omega
          have a1 : (a : Int) < 12 := by omega
          have b0 : (0 : Int) ≤ (b : Int) := by omega
          have j0 : (0 : Int) ≤ (j : Int) := by omega
          have j1 : (j : Int) < (L : Int) := by omega
          have j2 : (j : Int) + 1 < (L : Int) := by omega
          have j3 : (0 : Int) ≤ (j : Int) + 1 := by omega
          go_wp2_with fail
          go_region
          have h1 : ORel w w.heap.size G n (relP (setP p a b) n) (wr.setCell ⟨G, 1 + a, none⟩ (.int .u16 ((z ||| 2 ^ b : Nat) : Int))).drew := by
            have h2 := (HOO.out.1.set_ (k := a) (by omega) (z ||| 2 ^ b)).drew
            rw [HOO.out.2.2, HXX.out]
            exact h2
          clear ck fk ho hp x0 y0
          generalize (wr.setCell ⟨G, 1 + a, none⟩ (.int .u16 ((z ||| 2 ^ b : Nat) : Int))).drew = w5 at h1 ⊢
          have HX := Lib.hid h1
          clear h1
          go_wp2_with fail
          go_roundw
          case rel => exact ⟨j + 2, _, by omega, .inl (by omega), by go_num, HX.out, HOO.out.2.1⟩
          case measure => simp [intOf]; omega
        · have hls : lnkP p (l.drop (i - 1)) = p := lnkP_short (by rw [List.length_drop, ← HRW.out.2.1]; omega)
          rw [hls] at hcol
          have HO := Lib.hid (And.intro hO hcol)
          have hil : ¬ (i : Int) < (L : Int) := by omega
          clear hO hcol hls
          go_wp2_with fail
          go_roundw
          case rel => exact ⟨k + 1, p, by omega, by go_num, HO.out⟩
          case measure => simp [intOf]; omega
    · obtain rfl : k = m := by omega
      rw [List.drop_eq_nil_of_le (by rw [← HW.out.2.1]; exact Nat.le_refl _), relF] at hcol
      subst hcol
      have hr := hO.res.size
      obtain ⟨r0, r1, r2, r3, r4, r5, r6, r7, r8, r9, r10, r11⟩ := hO.res.rows
      have hc := hO.own.size
      obtain ⟨c0, c1, c2, c3, c4, c5, c6, c7, c8, c9, c10, c11⟩ := hO.own.rows
      have hf := hO.res.free
      go_wp2_with fail
      clear hr r0 r1 r2 r3 r4 r5 r6 r7 r8 r9 r10 r11 hc c0 c1 c2 c3 c4 c5 c6 c7 c8 c9 c10 c11 hf
      refine post_fill (W := wr) (g := w.heap.size) n (relP p0 n) hO.res hO.below (by omega) ?_
      intro wz hz hbz
      have hs := hz.size
      obtain ⟨c0, c1, c2, c3, c4, c5, c6, c7, c8, c9, c10, c11⟩ := hz.rows
      exact bodyPost_ret (v := .tuple #[relV n (relP p0 n), .int .i64 0])
        (by simp [results, Tryd.results24, go_sem, hs, c0, c1, c2, c3, c4, c5, c6, c7, c8, c9, c10, c11]) rfl ⟨rfl, hbz⟩
end Go.Proofs.YtfgangkpebkicaaDoor

/-
  Contracts of order.has and order.firstItems; the values in memory of a relation.
-/
namespace Go.Proofs.YtfgangkpebkicaaDoor
open Go.RowKit
set_option maxRecDepth 20000
theorem has_val (s i : Nat) (hs : s < 65536) : (bits BinOp.and IntKind.u16 ((s : Int) / 2 ^ ((i : Int).toNat)) 1 != 0) = s.testBit i := by
  have e : (s : Int) / 2 ^ ((i : Int).toNat) = ((s / 2 ^ i : Nat) : Int) := by simp
  rw [e, show (1 : Int) = ((1 : Nat) : Int) from rfl, u16_and_nat _ _ (Nat.lt_of_le_of_lt (Nat.div_le_self _ _) hs) (by omega)]
  rw [Nat.testBit, Nat.shiftRight_eq_div_pow, Nat.and_comm, Bool.eq_iff_iff, bne_iff_ne, bne_iff_ne]
  omega
theorem has_any (s i : Nat) (w : World) (hs : s < 65536) (h1 : i ≤ 15) :
    Calls Tryd.prog 68 #[.int .u16 s, .int .i64 i] w fun e w' => e = .returned (.bool (s.testBit i)) ∧ w = w' := by
  go_enter Tryd.func68, Tryd.ntmps68
  go_wp2
  go_ret
  exact ⟨ret_bool (by rw [← has_val s i hs]; simp), rfl⟩
theorem has_yes (s i : Nat) (w : World) (hs : s < 65536) (h1 : i ≤ 15) (h : s.testBit i = true) :
    Calls Tryd.prog 68 #[.int .u16 s, .int .i64 i] w fun e w' => e = .returned (.bool true) ∧ w = w' := h ▸ has_any s i w hs h1
theorem has_no (s i : Nat) (w : World) (hs : s < 65536) (h1 : i ≤ 15) (h : s.testBit i = false) :
    Calls Tryd.prog 68 #[.int .u16 s, .int .i64 i] w fun e w' => e = .returned (.bool false) ∧ w = w' := h ▸ has_any s i w hs h1
theorem first_val (n : Nat) (h : n ≤ 15) : IntKind.u16.wrap (IntKind.u16.wrap (2 ^ ((n : Int).toNat)) - 1) = ((2 ^ n - 1 : Nat) : Int) := by
  have h2 : 2 ^ n < 65536 := Nat.lt_of_le_of_lt (Nat.pow_le_pow_right (by omega) h) (by decide)
  have h1 : 1 ≤ 2 ^ n := Nat.one_le_two_pow
  rw [show ((2 : Int) ^ ((n : Int).toNat)) = ((2 ^ n : Nat) : Int) from by simp, wrap_u16_nat _ h2, ← Int.natCast_one, ← Int.natCast_sub h1]
  exact wrap_u16_nat _ (by omega)
theorem first_any (n : Nat) (w : World) (h1 : n ≤ 15) :
    Calls Tryd.prog 99 #[.int .i64 n] w fun e w' => e = .returned (.int .u16 ((2 ^ n - 1 : Nat) : Int)) ∧ w = w' := by
  go_enter Tryd.func99, Tryd.ntmps99
  go_wp2
  go_ret
  exact ⟨ret_int (by rw [← first_val n h1]; simp), rfl⟩
end Go.Proofs.YtfgangkpebkicaaDoor

/-
  Contract of order.Check.
-/
namespace Go.Proofs.YtfgangkpebkicaaDoor
open Go.RowKit
set_option maxRecDepth 20000
theorem idx12 (a : Nat → Nat) (k : Nat) (hk : k < 12) (w : World) :
    (Instr.index 44 (rowsV a) (.int .i64 k)).run Tryd.prog w = .ok (.int .u16 (a k)) w := by
  have h : k = 0 ∨ k = 1 ∨ k = 2 ∨ k = 3 ∨ k = 4 ∨ k = 5 ∨ k = 6 ∨ k = 7 ∨ k = 8 ∨ k = 9 ∨ k = 10 ∨ k = 11 := by omega
  clear hk
  rcases h with rfl | rfl | rfl | rfl | rfl | rfl | rfl | rfl | rfl | rfl | rfl | rfl <;> rfl
/-- What is wrong with a row: a bit from n on, or a row from n on that is not empty. -/
def rowBad (n i x : Nat) : Bool := (x &&& (65535 - (2 ^ n - 1))) != 0 || (decide (n ≤ i) && x != 0)
theorem andNot_val (n x : Nat) (hn : n ≤ 12) (hx : x < 65536) : (bits BinOp.andNot IntKind.u16 (x : Int) ((2 ^ n - 1 : Nat) : Int) != 0) = ((x &&& (65535 - (2 ^ n - 1))) != 0) := by
  have h2 : 2 ^ n < 65536 := Nat.lt_of_le_of_lt (Nat.pow_le_pow_right (by omega) hn) (by decide)
  rw [u16_andNot_nat _ _ hx (by omega), Bool.eq_iff_iff, bne_iff_ne, bne_iff_ne]
  omega
theorem check_ok (n : Nat) (a : Nat → Nat) (w : World) (hn : n ≤ 12) (ha : ∀ i, i < 12 → a i < 65536) (hg : ∀ i, i < 12 → rowBad n i (a i) = false) :
    Calls Tryd.prog 80 #[relV n a] w fun e w' => e = .returned (.int .i64 0) ∧ Below w.heap.size w w' := by
  have h0 : ¬ (n : Int) < 0 := by omega
  have h1 : ¬ 12 < (n : Int) := by omega
  go_enter Tryd.func80, Tryd.ntmps80
  go_wp2
  go_loop [15] (fun i => ∃ k : Nat, k ≤ 12 ∧ i = .int .i64 k) (fun i => 12 - (intOf i).toNat)
  case atStart => exact ⟨0, by omega, rfl⟩
  case round =>
    obtain ⟨k, hk, rfl⟩ := hrel
    by_cases hlt : k < 12
    · have hi := idx12 a k hlt
      have hv := andNot_val n (a k) hn (ha k hlt)
      have hb := hg k hlt
      unfold rowBad at hb
      rw [Bool.or_eq_false_iff, Bool.and_eq_false_iff] at hb
      obtain ⟨hb1, hb2⟩ := hb
      rw [hb1] at hv
      clear hb1
      have hz : n ≤ k → ((a k : Int) != 0) = false := by
        intro h
        rcases hb2 with h' | h'
        · simp at h'; omega
        · rw [bne_eq_false_iff_eq] at h' ⊢; omega
      clear hb2
      by_cases hnk : n ≤ k
      · have hz' := hz hnk
        clear hz
        go_wp2_with (go_at_call 99; refine (first_any n _ (by omega)).mono ?_; rintro e w' ⟨rfl, rfl⟩)
        go_round
        case rel => exact ⟨k + 1, by omega, by go_num⟩
        case measure => simp [intOf]; omega
      · clear hz
        go_wp2_with (go_at_call 99; refine (first_any n _ (by omega)).mono ?_; rintro e w' ⟨rfl, rfl⟩)
        go_round
        case rel => exact ⟨k + 1, by omega, by go_num⟩
        case measure => simp [intOf]; omega
    · go_wp2
      go_ret
      exact ⟨rfl, (Below.refl _ _).alloc (Nat.le_refl _) _⟩
end Go.Proofs.YtfgangkpebkicaaDoor

/-
  Contract of order.Close.
-/
namespace Go.Proofs.YtfgangkpebkicaaDoor
open Go.RowKit
set_option maxRecDepth 20000
/-- What stays true while the closure is made: old memory, the argument's block, the result's block, the closure's block. -/
structure CRel (w : World) (G n : Nat) (a c : Nat → Nat) (wr : World) : Prop where
  below : Below w.heap.size w wr
  arg : RelB wr w.heap.size n a
  res : RelB wr (w.heap.size + 1) 0 (fun _ => 0)
  clo : RelB wr G n c
  far : w.heap.size + 2 ≤ G
theorem CRel.set_ {w wr : World} {G n : Nat} {a c : Nat → Nat} (h : CRel w G n a c wr) {k : Nat} (hk : k < 12) (x : Nat) :
    CRel w G n a (fun i => if i = k then x else c i) (wr.setCell ⟨G, 1 + k, none⟩ (.int .u16 x)) :=
  ⟨h.below.setCell (by have := h.far; show w.heap.size ≤ G; omega) _, Lies.far h.arg (by have := h.far; show w.heap.size ≠ G; omega) _, Lies.far h.res (by have := h.far; show w.heap.size + 1 ≠ G; omega) _, h.clo.set' hk x, h.far⟩
theorem CRel.drew {w wr : World} {G n : Nat} {a c : Nat → Nat} (h : CRel w G n a c wr) : CRel w G n a c wr.drew :=
  ⟨h.below.drew, h.arg, h.res, h.clo, h.far⟩
theorem CRel.congr {w wr : World} {G n : Nat} {a c d : Nat → Nat} (h : CRel w G n a c wr) (e : ∀ i, i < 12 → c i = d i) : CRel w G n a d wr :=
  ⟨h.below, h.arg, h.res, h.clo.congr e, h.far⟩
set_option maxHeartbeats 1000000 in
theorem close_ok (n : Nat) (a : Nat → Nat) (w : World) (hn : n ≤ 12) (ha : ∀ i, i < 12 → a i < 65536) (hg : ∀ i, i < 12 → rowBad n i (a i) = false) :
    Calls Tryd.prog 67 #[relV n a] w fun e w' => e = .returned (.tuple #[relV n (warsh n a n), .bool (cyc (warsh n a n) n), .int .i64 0]) ∧ Below w.heap.size w w' := by
  go_enter Tryd.func67, Tryd.ntmps67
  go_wp2_with fail
  refine (check_ok n a _ hn ha hg).mono ?_
  rintro e w1 ⟨rfl, hb1⟩
  have hB1 : RelB w1 w.heap.size n a := Lies.below ((Lies.new w _ _).alloc _) hb1 (by rw [World.size_alloc, World.size_alloc]; omega)
  have hB0 : RelB w1 (w.heap.size + 1) 0 (fun _ => 0) := Lies.below (Lies.cast (by have h := Lies.new (w.alloc (.cells (relCs n a) 46)) 46 (relCs 0 fun _ => 0); rw [World.size_alloc] at h; exact h) rfl) hb1 (by rw [World.size_alloc, World.size_alloc]; omega)
  have hB2 : w.heap.size + 2 ≤ w1.heap.size := by have := hb1.size; simp at this; omega
  have hlt : w.heap.size < w1.heap.size := by omega
  have hbw : Below w.heap.size w w1 := (((Below.refl _ _).alloc (Nat.le_refl _) _).alloc (by simp) _).trans (hb1.mono (by simp; omega))
  have HC : CRel w w1.heap.size n a a (w1.alloc (.cells (relCs n a) 46)) := ⟨hbw.alloc (by omega) _, Lies.alloc hB1 _, Lies.alloc hB0 _, Lies.new _ _ _, hB2⟩
  have hs := hB1.size
  obtain ⟨c0, c1, c2, c3, c4, c5, c6, c7, c8, c9, c10, c11⟩ := hB1.rows
  clear hb1 hB1 hbw hB0
  go_wp2_with fail
  clear hs c0 c1 c2 c3 c4 c5 c6 c7 c8 c9 c10 c11
  generalize hG : w1.heap.size = G at *
  generalize hW : w1.alloc (Obj.cells #[Value.int IntKind.i64 ↑n, Value.int IntKind.u16 ↑(a 0), Value.int IntKind.u16 ↑(a 1), Value.int IntKind.u16 ↑(a 2), Value.int IntKind.u16 ↑(a 3), Value.int IntKind.u16 ↑(a 4), Value.int IntKind.u16 ↑(a 5), Value.int IntKind.u16 ↑(a 6), Value.int IntKind.u16 ↑(a 7), Value.int IntKind.u16 ↑(a 8), Value.int IntKind.u16 ↑(a 9), Value.int IntKind.u16 ↑(a 10), Value.int IntKind.u16 ↑(a 11)] 46) = W at *
  clear hG hW
  go_loopw [20] (fun i wr => ∃ k : Nat, k ≤ n ∧ i = .int .i64 k ∧ CRel w G n a (warsh n a k) wr) (fun i _ => n - (intOf i).toNat)
  case atStart => exact ⟨0, by omega, rfl, HC⟩
  case round =>
    obtain ⟨k, hk, rfl, hC⟩ := hrel
    have hs := hC.arg.size
    have hs2 := hC.res.size
    by_cases hkn : k < n
    · go_wp2_with fail
      obtain ⟨wo, rfl⟩ : ∃ wo : World, wo = wr := ⟨_, rfl⟩
      clear hs hs2
      go_loopw [25] (fun i wr => ∃ m : Nat, m ≤ n ∧ i = .int .i64 m ∧ CRel w G n a (stepV m (warsh n a k) k) wr) (fun i _ => n - (intOf i).toNat)
      case atStart => exact ⟨0, by omega, rfl, by rw [stepV_zero]; exact hC⟩
      case round =>
        clear hC
        obtain ⟨m, hm, rfl, hC⟩ := hrel
        by_cases hmn : m < n
        · have hm12 : m < 12 := by omega
          have hk12 : k < 12 := by omega
          have hlm := stepV_lt (m := m) (v := k) (warsh_lt (n := n) (B := 16) ha k (by omega)) hk12 m hm12
          have cm := hC.clo.row' hm12
          have ck := hC.clo.row' hk12
          have fm := hC.clo.free (1 + m)
          rw [stepV_at] at cm hlm
          rw [stepV_via] at ck
          have hlk := warsh_lt (n := n) (B := 16) ha k (by omega) k hk12
          have ho := u16_or_nat (warsh n a k m) (warsh n a k k) hlm hlk
          have hs := stepV_succ m (warsh n a k) k
          cases hb : (warsh n a k m).testBit k
          · rw [hb] at hs
            have HS := Lib.hid hs
            have Hb := Lib.hid hb
            clear hs hb
            go_wp2_with (go_at_call 68; refine (has_no _ k _ hlm (by omega) Hb.out).mono ?_; rintro e w' ⟨rfl, rfl⟩)
            go_roundw
            case rel => exact ⟨m + 1, by omega, by go_num, hC.congr (fun i hi => by rw [HS.out]; split <;> simp_all [stepV_at])⟩
            case measure => simp [intOf]; omega
          · rw [hb] at hs
            have HS := Lib.hid hs
            have Hb := Lib.hid hb
            clear hs hb
            go_wp2_with (go_at_call 68; refine (has_yes _ k _ hlm (by omega) Hb.out).mono ?_; rintro e w' ⟨rfl, rfl⟩)
            go_region
            go_wp2
            go_roundw
            case rel => exact ⟨m + 1, by omega, by go_num, (CRel.drew (hC.set_ hm12 _)).congr (fun i hi => by rw [HS.out]; split <;> simp_all)⟩
            case measure => simp [intOf]; omega
        · have hmn' : m = n := by omega
          subst hmn'
          go_wp2_with fail
          go_roundw
          case rel => exact ⟨k + 1, by omega, by go_num, hC⟩
          case measure => simp [intOf]; omega
    · have hkn' : k = n := by omega
      subst hkn'
      have hl := warsh_lt (n := k) (B := 16) ha k (by omega)
      go_wp2_with fail
      obtain ⟨wo, rfl⟩ : ∃ wo : World, wo = wr := ⟨_, rfl⟩
      clear hs hs2
      go_loop [9, 49] (fun b i => ∃ m : Nat, m ≤ k ∧ i = .int .i64 m ∧ b = .bool (cyc (warsh k a k) m)) (fun _ i => k - (intOf i).toNat)
      case atStart => exact ⟨0, by omega, rfl, rfl⟩
      case round =>
        obtain ⟨m, hm, rfl, rfl⟩ := hrel
        by_cases hmn : m < k
        · have hm12 : m < 12 := by omega
          have hlm := hl m hm12
          have cm := hC.clo.row' hm12
          have hcy : cyc (warsh k a k) (m + 1) = (cyc (warsh k a k) m || (warsh k a k m).testBit m) := rfl
          cases hb : cyc (warsh k a k) m
          · rw [hb, Bool.false_or] at hcy
            have HY := Lib.hid hcy
            clear hcy hb
            go_wp2_with (go_at_call 68; refine (has_any _ m _ hlm (by omega)).mono ?_; rintro e w' ⟨rfl, rfl⟩)
            go_round
            case rel => exact ⟨m + 1, by omega, by go_num, by rw [HY.out]⟩
            case measure => simp [intOf]; omega
          · rw [hb, Bool.true_or] at hcy
            have HY := Lib.hid hcy
            clear hcy hb
            go_wp2_with fail
            go_round
            case rel => exact ⟨m + 1, by omega, by go_num, by rw [HY.out]⟩
            case measure => simp [intOf]; omega
        · have hmn' : m = k := by omega
          subst hmn'
          have hr := hC.res.size
          obtain ⟨r0, r1, r2, r3, r4, r5, r6, r7, r8, r9, r10, r11⟩ := hC.res.rows
          have hs := hC.clo.size
          obtain ⟨c0, c1, c2, c3, c4, c5, c6, c7, c8, c9, c10, c11⟩ := hC.clo.rows
          have hf := hC.res.free
          have hfar := hC.far
          go_wp2_with fail
          have hz := hC.res.fill m (warsh m a m)
          have hbz := fillW_below hC.below (g := w.heap.size + 1) (by omega) m (warsh m a m)
          clear hr r0 r1 r2 r3 r4 r5 r6 r7 r8 r9 r10 r11 hs c0 c1 c2 c3 c4 c5 c6 c7 c8 c9 c10 c11 hf
          change bodyPost _ _ _ _ _ (fillW wo (w.heap.size + 1) m (warsh m a m))
          generalize fillW wo (w.heap.size + 1) m (warsh m a m) = wz at hz hbz ⊢
          have hs := hz.size
          obtain ⟨c0, c1, c2, c3, c4, c5, c6, c7, c8, c9, c10, c11⟩ := hz.rows
          exact bodyPost_ret (v := .tuple #[relV m (warsh m a m), .bool (cyc (warsh m a m) m), .int .i64 0])
            (by simp [results, Tryd.results67, go_sem, hs, c0, c1, c2, c3, c4, c5, c6, c7, c8, c9, c10, c11]) rfl ⟨rfl, hbz⟩
end Go.Proofs.YtfgangkpebkicaaDoor

/-
  Contracts of order.Close, by whether Check finds a fault.
-/
namespace Go.Proofs.YtfgangkpebkicaaDoor
open Go.RowKit
set_option maxRecDepth 20000
/-- The zero relation, as a value. -/
abbrev zeroV : Value := .agg #[.int .i64 0, .int .u16 0, .int .u16 0, .int .u16 0, .int .u16 0, .int .u16 0, .int .u16 0, .int .u16 0, .int .u16 0, .int .u16 0, .int .u16 0, .int .u16 0, .int .u16 0]
/-- A relation on n items that Check lets by. -/
structure Good (n : Nat) (a : Nat → Nat) : Prop where
  le : n ≤ 12
  lt : ∀ i, i < 12 → a i < 65536
  rows : ∀ i, i < 12 → rowBad n i (a i) = false
/-- Its closure. -/
def clo (n : Nat) (a : Nat → Nat) : Nat → Nat := warsh n a n
theorem close_any (n : Nat) (a : Nat → Nat) (w : World) (h : Good n a) :
    Calls Tryd.prog 67 #[relV n a] w fun e w' => e = .returned (.tuple #[relV n (clo n a), .bool (cyc (clo n a) n), .int .i64 0]) ∧ Below w.heap.size w w' :=
  close_ok n a w h.le h.lt h.rows
theorem close_yes (n : Nat) (a : Nat → Nat) (w : World) (h : Good n a) (hy : cyc (clo n a) n = true) :
    Calls Tryd.prog 67 #[relV n a] w fun e w' => e = .returned (.tuple #[relV n (clo n a), .bool true, .int .i64 0]) ∧ Below w.heap.size w w' := hy ▸ close_any n a w h
theorem close_no (n : Nat) (a : Nat → Nat) (w : World) (h : Good n a) (hy : cyc (clo n a) n = false) :
    Calls Tryd.prog 67 #[relV n a] w fun e w' => e = .returned (.tuple #[relV n (clo n a), .bool false, .int .i64 0]) ∧ Below w.heap.size w w' := hy ▸ close_any n a w h
end Go.Proofs.YtfgangkpebkicaaDoor
