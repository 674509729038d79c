/-
  Contract of history.Part.
-/
import Derived.Test.YtebcnhnkpmbgdaaCalls
import Derived.Test.YtebcnhnkpmbgdaaAppEv
import Derived.Test.YtebcnhnkpmbgdaaPartPure
namespace Go.Proofs.Ytebcnhnkpmbgdaa
open Go.RowKit
set_option maxRecDepth 20000

/-- The events of one thing, or the error. -/
def partOf (ts : List Int) (l : List Ev) (q : Int) : List Ev × Int := if (callsOf ts l).2.2 ≠ 0 then ([], (callsOf ts l).2.2) else if ¬ (0 ≤ q ∧ q < ts.length) then ([], 4) else (partL l q, 0)
def PartPost (w : World) (o : List Ev × Int) (e : Ending) (w' : World) : Prop :=
  ∃ v, e = .returned (.tuple #[v, .int .i64 o.2]) ∧ Below w.heap.size w w' ∧ ERd w' w'.heap.size v o.1

theorem partL_take {l : List Ev} {k : Nat} {x : Ev} (hx : l[k]? = some x) (q : Int) : partL (l.take (k + 1)) q = if x.thing = q then partL (l.take k) q ++ [x] else partL (l.take k) q := by
  unfold partL
  rw [List.take_add_one, hx, List.filter_append]
  by_cases h : x.thing = q <;> simp [h]

set_option maxHeartbeats 4000000 in
theorem part_any {tv lv : Value} {ts : List Int} {l : List Ev} {w : World} (ht : NRd w w.heap.size tv ts) (hl : ERd w w.heap.size lv l) (q : Int) :
    Calls Try.prog 10 #[tv, lv, .int .i64 q] w (PartPost w (partOf ts l q)) := by
  have er : partOf ts l q = if (callsOf ts l).2.2 ≠ 0 then ([], (callsOf ts l).2.2) else if ¬ (0 ≤ q ∧ q < ts.length) then ([], 4) else (partL l q, 0) := rfl
  generalize partOf ts l q = o at er ⊢
  obtain ⟨At, capt, rfl, m1, m2⟩ := ht.is
  obtain ⟨Al, capl, rfl, m3, m4⟩ := hl.is
  unfold maxLen at m2 m4
  have HL := Lib.hid hl
  have HC := Lib.hid (calls_any ht hl)
  have HE := Lib.hid er
  clear ht hl er
  obtain ⟨L, hL⟩ : ∃ L, L = l.length := ⟨_, rfl⟩
  rw [← hL]
  rw [← hL] at m3 HC
  have HLL := Lib.hid hL
  clear hL
  have hw : IntKind.i64.wrap ((ts.length : Int) - 1) = (ts.length : Int) - 1 := by rw [IntKind.wrap_i64]; omega
  go_enter Try.func10, Try.ntmps10
  go_wp2_with fail
  refine HC.out.mono ?_
  rintro e w1 ⟨v1, rfl, hb1, -⟩
  have H1 := Lib.hid hb1
  clear HC hb1
  by_cases h0 : (callsOf ts l).2.2 = 0
  · have hlen := (calls_zero h0).2.1
    have HZ := Lib.hid h0
    have er := HE.out
    rw [if_neg (by rw [h0]; decide)] at er
    rw [h0]
    generalize (callsOf ts l).2.1 = a
    clear h0 HE
    cases c1 : btw 0 q ((ts.length : Int) - 1)
    · have hc1 := btw_not.1 c1
      rw [if_pos (by omega)] at er
      subst er
      go_wp2_with fail
      refine (within_any _ _ _ _).mono ?_
      rintro e w' ⟨rfl, rfl⟩
      go_wp2_with fail
      go_ret2
      exact ⟨_, rfl, H1.out, LRd.nil _ _⟩
    · have hc1 := btw_iff.1 c1
      rw [if_neg (by omega)] at er
      subst er
      have hL200 : L ≤ 200 := by rw [HLL.out]; exact hlen
      clear hc1
      go_wp2_with fail
      refine (within_any _ _ _ _).mono ?_
      rintro e w' ⟨rfl, rfl⟩
      go_wp2_with fail
      clear c1
      go_loopw [11, 32] (fun v i wr => ∃ (k : Nat) (v0 : Value), k ≤ L ∧ i = .int .i64 k ∧ v0 = v ∧ EOwn wr w.heap.size v0 (partL (l.take k) q) ∧ Below w.heap.size w wr) (fun _ i _ => L - (intOf i).toNat)
      case atStart => exact ⟨0, _, by omega, rfl, rfl, World.ownsRow_nil _ _ _ _, H1.out⟩
      case round =>
        clear H1
        obtain ⟨k, v0, hk, rfl, rfl, ho, hb⟩ := hrel
        by_cases hkL : k < L
        · obtain ⟨x, hx⟩ : ∃ x, l[k]? = some x := ⟨_, List.getElem?_eq_getElem (by rw [← HLL.out]; exact hkL)⟩
          have hst := partL_take hx q
          have hl' := HL.out.below hb
          rw [← HLL.out] at hl'
          obtain ⟨g, o, rfl, -, d0, d1, d2, d3⟩ := hl'.ev hx
          have i1 : (0 : Int) ≤ (k : Int) := by omega
          have i2 : (k : Int) < (L : Int) := by omega
          have hpl : (partL (l.take k) q).length ≤ 65536 := by
            have h1 : (partL (l.take k) q).length ≤ (l.take k).length := List.length_filter_le _ _
            have h2 : (l.take k).length ≤ k := List.length_take_le _ _
            omega
          have hbs := hb.size
          have HB := Lib.hid (And.intro ho (And.intro hb (And.intro hst hpl)))
          clear hl' hx ho hb hst hpl
          obtain ⟨xw, xt, xk, xv⟩ := x
          by_cases hq : xt = q
          · subst hq
            have HO := Lib.hid ((HB.out.1.alloc (.cells (evCs ⟨xw, xt, xk, xv⟩).toArray 39)).alloc (.cells (evCs ⟨xw, xt, xk, xv⟩).toArray 39))
            have HW := Lib.hid ((HB.out.2.1.alloc hbs (.cells (evCs ⟨xw, xt, xk, xv⟩).toArray 39)).alloc (by simp; omega) (.cells (evCs ⟨xw, xt, xk, xv⟩).toArray 39))
            have HNC := Lib.hid (new_cells (wr.alloc (.cells (evCs ⟨xw, xt, xk, xv⟩).toArray 39)) 39 (evCs ⟨xw, xt, xk, xv⟩))
            go_wp2_with (at_builtin; refine wpList_app_ev rfl (.tmp 40) (.tmp 42) rfl w.heap.size (wr.heap.size + 1) _ (partL (l.take k) xt) ⟨xw, xt, xk, xv⟩ rfl rfl HO.out (by simp) HB.out.2.2.2 HW.out.size ?_; intro v' w5 ho5 hb5 hg5; have HN := Lib.hid (And.intro ho5 hb5); clear ho5 hb5 hg5)
            go_roundw
            case rel =>
              refine ⟨k + 1, _, by omega, by go_num, rfl, ?_, HW.out.trans HN.out.2⟩
              rw [HB.out.2.2.1, if_pos rfl]
              exact HN.out.1
            case measure => simp [intOf]; omega
          · have hz : (xt == q) = false := by rw [beq_eq_false_iff_ne]; exact hq
            have HQ := Lib.hid hq
            clear hq
            go_wp2_with fail
            go_roundw
            case rel =>
              refine ⟨k + 1, _, by omega, by go_num, rfl, ?_, HB.out.2.1.alloc hbs _⟩
              rw [HB.out.2.2.1, if_neg HQ.out]
              exact HB.out.1.alloc _
            case measure => simp [intOf]; omega
        · obtain rfl : k = L := by omega
          have HB := Lib.hid (And.intro ho hb)
          have hbs := hb.size
          clear ho hb
          go_wp2_with fail
          go_ret2
          refine ⟨_, rfl, HB.out.2, ?_⟩
          have := HB.out.1.rd
          rw [HLL.out, List.take_length] at this
          exact this
  · have er := HE.out
    rw [if_pos h0] at er
    have hz : ((callsOf ts l).2.2 != 0) = true := by rw [bne_iff_ne]; exact h0
    generalize (callsOf ts l).2.2 = r at hz er ⊢
    generalize (callsOf ts l).2.1 = a
    have HE2 := Lib.hid er
    clear h0 HE er
    go_wp2_with fail
    go_ret2
    have e := HE2.out
    subst e
    exact ⟨_, rfl, H1.out, LRd.nil _ _⟩
end Go.Proofs.Ytebcnhnkpmbgdaa
