/-
  Contract of history.Events.
-/
import Derived.Test.YtebcnhnkpmbgdaaPlaceE
import Derived.Test.YtebcnhnkpmbgdaaTypesFor
import Derived.Test.YtebcnhnkpmbgdaaCalls
import Derived.Test.YtebcnhnkpmbgdaaEqCl
namespace Go.Proofs.Ytebcnhnkpmbgdaa
open Go.RowKit
set_option maxRecDepth 20000

/-- The history for which these are the calls, or the error. -/
def eventsL (l : List Cl) : List Ev × Int := if 200 < l.length then ([], 2) else match placeL l with
  | none => ([], 3)
  | some es => if (callsOf (typesForL l) es).2.2 = 0 ∧ (callsOf (typesForL l) es).1 = l then (es, 0) else ([], 3)
def EventsPost (w : World) (o : List Ev × Int) (e : Ending) (w' : World) : Prop :=
  ∃ v, e = .returned (.tuple #[v, .int .i64 o.2]) ∧ Below w.heap.size w w' ∧ ERd w' w'.heap.size v o.1
theorem nums_rd {w : World} {G n : Nat} {ts : List Int} (h : Lies w G 3 (numCs ts)) (hn : n = ts.length) (hm : n ≤ maxLen) : NRd w w.heap.size (.slice (some ⟨G, 0, none⟩) n n) ts := by
  subst hn
  refine ⟨_, _, rfl, Nat.le_refl _, hm, fun _ => ⟨G, 0, rfl, h.lt, fun k x hk j u hu => ?_⟩⟩
  rw [Nat.zero_add, Lies.cell h]
  match j, hu with
  | 0, hu =>
    injection hu with hu
    subst hu
    simp [numCs, hk]
  | j + 1, hu => simp at hu

set_option maxHeartbeats 4000000 in
theorem events_any {v : Value} {l : List Cl} {w : World} (h : CRd w w.heap.size v l) :
    Calls Try.prog 9 #[v] w (EventsPost w (eventsL l)) := by
  obtain ⟨A, c, rfl, m1, m2⟩ := h.is
  clear m1 m2
  have er : eventsL l = if 200 < l.length then ([], (2 : Int)) else match placeL l with
    | none => ([], 3)
    | some es => if (callsOf (typesForL l) es).2.2 = 0 ∧ (callsOf (typesForL l) es).1 = l then (es, 0) else ([], 3) := rfl
  generalize eventsL l = out at er ⊢
  have H := Lib.hid h
  clear h
  by_cases hn : 200 < l.length
  · rw [if_pos hn] at er
    subst er
    have hn' : (200 : Int) < (l.length : Int) := by omega
    go_enter Try.func9, Try.ntmps9
    go_wp2_with fail
    go_ret2
    exact ⟨_, rfl, Below.refl _ _, LRd.nil _ _⟩
  · rw [if_neg hn] at er
    have hn' : ¬ (200 : Int) < (l.length : Int) := by omega
    have HP := Lib.hid (place_any' H.out (Nat.le_refl _) (by omega))
    have HE := Lib.hid er
    clear er
    go_enter Try.func9, Try.ntmps9
    go_wp2_with fail
    refine HP.out.mono ?_
    rintro e w1 ⟨hb1, hp⟩
    clear HP
    cases hpl : placeL l with
    | none =>
      rw [hpl] at hp
      simp only at hp
      subst hp
      have e := HE.out
      rw [hpl] at e
      simp only at e
      subst e
      have H1 := Lib.hid hb1
      clear hb1 hpl HE
      go_wp2_with fail
      go_ret2
      exact ⟨_, rfl, H1.out, LRd.nil _ _⟩
    | some es =>
      rw [hpl] at hp
      obtain ⟨pv, rfl, hr1⟩ := hp
      have e := HE.out
      rw [hpl] at e
      simp only at e
      have HE2 := Lib.hid e
      have H1 := Lib.hid (And.intro hb1 hr1)
      have HT := Lib.hid (typesFor_any ((H.out.below hb1).mono hb1.size) (Nat.le_refl _))
      clear hb1 hr1 hpl HE e
      obtain ⟨Ap, cp, rfl, k1, k2⟩ := H1.out.2.is
      clear k1 k2
      go_wp2_with fail
      refine HT.out.mono ?_
      rintro e w2 ⟨G, rfl, hl2, hb2⟩
      have hts := nums_rd hl2 (typesForL_len l).symm (by unfold maxLen; omega)
      have HC := Lib.hid (calls_any hts ((H1.out.2.below hb2).mono hb2.size))
      have H2 := Lib.hid (And.intro (H1.out.1.trans (hb2.mono H1.out.1.size)) ((H1.out.2.below hb2).mono hb2.size))
      clear hts hl2 hb2 H1 HT
      go_wp2_with fail
      refine HC.out.mono ?_
      rintro e w3 ⟨cv, rfl, hb3, hr3⟩
      have H3 := Lib.hid (And.intro (H2.out.1.trans (hb3.mono H2.out.1.size)) (And.intro ((H2.out.2.below hb3).mono hb3.size) hr3))
      have e := HE2.out
      clear hb3 hr3 H2 HC HE2
      generalize callsOf (typesForL l) es = o at e H3 ⊢
      obtain ⟨cs, at_, E⟩ := o
      simp only at e H3 ⊢
      by_cases hE : E = 0
      · subst hE
        have HQ := Lib.hid (eqCl_any H3.out.2.2 ((H.out.below H3.out.1).mono H3.out.1.size))
        have HE2 := Lib.hid e
        clear e
        go_wp2_with fail
        refine HQ.out.mono ?_
        rintro e w4 ⟨rfl, hb4⟩
        have H4 := Lib.hid (And.intro (H3.out.1.trans (hb4.mono H3.out.1.size)) ((H3.out.2.1.below hb4).mono hb4.size))
        clear hb4 H3 HQ
        by_cases hcl : cs = l
        · rw [decide_eq_true hcl]
          have e := HE2.out
          rw [if_pos ⟨by first | rfl | trivial, hcl⟩] at e
          have HF := Lib.hid e
          clear e hcl HE2
          go_wp2_with fail
          go_ret2
          have e := HF.out
          subst e
          exact ⟨_, rfl, H4.out⟩
        · rw [decide_eq_false hcl]
          have e := HE2.out
          rw [if_neg (fun h => hcl h.2)] at e
          have HF := Lib.hid e
          clear e hcl HE2
          go_wp2_with fail
          go_ret2
          have e := HF.out
          subst e
          exact ⟨_, rfl, H4.out.1, LRd.nil _ _⟩
      · rw [if_neg (fun h => hE h.1)] at e
        have hz : (E != 0) = true := by rw [bne_iff_ne]; exact hE
        have HF := Lib.hid e
        clear e hE
        go_wp2_with fail
        go_ret2
        have e := HF.out
        subst e
        exact ⟨_, rfl, H3.out.1, LRd.nil _ _⟩
end Go.Proofs.Ytebcnhnkpmbgdaa
