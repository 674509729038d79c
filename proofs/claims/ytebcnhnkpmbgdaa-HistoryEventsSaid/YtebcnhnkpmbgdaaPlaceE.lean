/-
  Contract of history.place.
-/
import Derived.Test.YtebcnhnkpmbgdaaAnswered
import Derived.Test.YtebcnhnkpmbgdaaPlacePure
import Derived.Test.YtebcnhnkpmbgdaaAppEv
import Derived.Test.YtebcnhnkpmbgdaaHistSmall
namespace Go.Proofs.Ytebcnhnkpmbgdaa
open Go.RowKit
set_option maxRecDepth 20000

def PlacePost (w : World) (o : Option (List Ev)) (e : Ending) (w' : World) : Prop :=
  Below w.heap.size w w' ∧ match o with
    | none => e = .returned (.tuple #[.slice none 0 0, .bool false])
    | some es => ∃ v, e = .returned (.tuple #[v, .bool true]) ∧ ERd w' w'.heap.size v es

/-- A block of events. -/
def EvB (w : World) (G : Nat) (es : List Ev) : Prop := Lies w G 39 (es.flatMap evCs).toArray
theorem EvB.put {w : World} {G : Nat} {es : List Ev} (h : EvB w G es) {q : Nat} (hq : q < es.length) (e : Ev) :
    EvB ((((w.setCell ⟨G, q * 4, none⟩ (.int .i64 e.who)).setCell ⟨G, q * 4 + 1, none⟩ (.int .i64 e.thing)).setCell ⟨G, q * 4 + 2, none⟩ (.int .i64 e.kind)).setCell ⟨G, q * 4 + 3, none⟩ (.int .i64 e.val)) G (es.set q e) := by
  have h4 := Lies.set_ (Lies.set_ (Lies.set_ (Lies.set_ h (q * 4) (.int .i64 e.who)) (q * 4 + 1) (.int .i64 e.thing)) (q * 4 + 2) (.int .i64 e.kind)) (q * 4 + 3) (.int .i64 e.val)
  refine Lies.cast h4 ?_
  simp only [List.setIfInBounds_toArray]
  rw [flat_put es q e hq]
theorem EvB.at_ {w : World} {G : Nat} {es : List Ev} (h : EvB w G es) {q : Nat} (hq : q < es.length) :
    ∃ y : Ev, w.cell? ⟨G, q * 4, none⟩ = some (.int .i64 y.who) ∧ w.cell? ⟨G, q * 4 + 1, none⟩ = some (.int .i64 y.thing) ∧ w.cell? ⟨G, q * 4 + 2, none⟩ = some (.int .i64 y.kind) ∧ w.cell? ⟨G, q * 4 + 3, none⟩ = some (.int .i64 y.val) := by
  have hy : es[q]? = some es[q] := List.getElem?_eq_getElem hq
  have key : ∀ j u, (evCs es[q])[j]? = some u → w.cell? ⟨G, q * 4 + j, none⟩ = some u := fun j u hu => by
    rw [Lies.cell h]
    have := flat_at (f := evCs) (s := 4) (fun _ => rfl) hy hu
    simpa using this
  exact ⟨es[q], key 0 _ rfl, key 1 _ rfl, key 2 _ rfl, key 3 _ rfl⟩
theorem flat_zero : ∀ n : Nat, (List.replicate n (default : Ev)).flatMap evCs = List.replicate (n * 4) (.int .i64 0)
  | 0 => rfl
  | n + 1 => by
    rw [List.replicate_succ, List.flatMap_cons, flat_zero n, show (n + 1) * 4 = n * 4 + 1 + 1 + 1 + 1 by omega]
    simp only [List.replicate_succ]
    rfl
theorem made_evs (w : World) (n : Nat) (hn : n ≤ 400) : (Instr.makeSlice 24 (.int .i64 n) (.int .i64 n)).run Try.prog w = .ok (.slice (some ⟨w.heap.size, 0, none⟩) n n) (w.alloc (.cells ((List.replicate n (default : Ev)).flatMap evCs).toArray 39)) := by
  obtain ⟨i0, hi, hz0, hz1, hz2⟩ := info_of info_ev
  rw [run_make w 24 39 i0 (evV default) Try.underlying24 hi hz0 .i64 .i64 n n (by omega) (by omega) (by rw [hz2]; omega) (by omega), hz1]
  simp only [Int.toNat_natCast]
  congr 3
  rw [flat_zero]
  apply Array.ext
  · simp [madeCells]
  · intro j h1 h2
    simp [madeCells, Value.cells]
    have : j % 4 = 0 ∨ j % 4 = 1 ∨ j % 4 = 2 ∨ j % 4 = 3 := by omega
    rcases this with e | e | e | e <;> simp [e] <;> rfl

set_option maxHeartbeats 4000000 in
theorem place_any' {B : Nat} {v : Value} {l : List Cl} {w : World} (h : CRd w B v l) (hB : B ≤ w.heap.size) (hl : l.length ≤ 200) :
    Calls Try.prog 31 #[v] w (PlacePost w (placeL l)) := by
  obtain ⟨A, c, rfl, m1, m2⟩ := h.is
  unfold maxLen at m2
  have H := Lib.hid (And.intro h hB)
  clear h hB
  obtain ⟨L, hL⟩ : ∃ L, L = l.length := ⟨_, rfl⟩
  rw [← hL]
  rw [← hL] at m1 hl
  have HL := Lib.hid hL
  clear hL
  have ho : placeL l = placeUp (placeN l) (List.replicate (placeN l) default) (l.drop 0) := rfl
  generalize placeL l = out at ho ⊢
  have HO := Lib.hid ho
  clear ho
  go_enter Try.func31, Try.ntmps31
  go_wp2_with fail
  go_loopw [4, 14] (fun n i wr => ∃ k S : Nat, k ≤ L ∧ i = .int .i64 k ∧ n = .int .i64 S ∧ S = L + ansUp (l.take k) ∧ Below w.heap.size w wr) (fun _ i _ => L - (intOf i).toNat)
  case atStart => exact ⟨0, L, by omega, rfl, rfl, rfl, Below.refl _ _⟩
  case round =>
    obtain ⟨k, S, hk, rfl, rfl, hS, hb⟩ := hrel
    have hS400 : S ≤ 400 := by
      have h1 := ansUp_le (l.take k)
      have h2 := List.length_take_le k l
      omega
    by_cases hkL : k < L
    · obtain ⟨x, hx⟩ : ∃ x, l[k]? = some x := ⟨_, List.getElem?_eq_getElem (by rw [← HL.out]; exact hkL)⟩
      have h' := H.out.1.below (hb.mono H.out.2)
      rw [← HL.out] at h'
      obtain ⟨g, o, rfl, -, d0, d1, d2, d3, d4, d5, d6⟩ := h'.cl hx
      have i1 : (0 : Int) ≤ (k : Int) := by omega
      have i2 : (k : Int) < (L : Int) := by omega
      have hst := ansUp_take hx
      obtain ⟨x0, x1, x2, x3, x4, x5, x6⟩ := x
      have hba : Below wr.heap.size wr (wr.alloc (.cells (clCs ⟨x0, x1, x2, x3, x4, x5, x6⟩).toArray 70)) := (Below.refl _ _).alloc (Nat.le_refl _) _
      have HW := Lib.hid (hb.trans (hba.mono hb.size))
      have HS := Lib.hid (And.intro hS hst)
      have hw : IntKind.i64.wrap ((S : Int) + 1) = ((S + 1 : Nat) : Int) := by rw [IntKind.wrap_i64]; omega
      clear h' hx hb hst hba hS
      go_wp2_with fail
      refine (answered_any ⟨x0, x1, x2, x3, x4, x5, x6⟩ _).mono ?_
      rintro e w' ⟨rfl, hb2⟩
      have HW2 := Lib.hid (HW.out.trans (hb2.mono HW.out.size))
      clear hb2 d0 d1 d2 d3 d4 d5 d6
      by_cases t1 : x6 = -1
      · have hz : (x6 != -1) = false := by rw [bne_eq_false_iff_eq]; exact t1
        have hs : S = L + ansUp (l.take (k + 1)) := by rw [HS.out.2, if_neg (fun h => h t1)]; exact HS.out.1
        have HS2 := Lib.hid hs
        simp only
        rw [hz]
        clear hs hz t1
        go_wp2_with fail
        go_roundw
        case rel => exact ⟨k + 1, S, by omega, by go_num, rfl, HS2.out, HW2.out⟩
        case measure => simp [intOf]; omega
      · have hz : (x6 != -1) = true := by rw [bne_iff_ne]; exact t1
        have hs : S + 1 = L + ansUp (l.take (k + 1)) := by rw [HS.out.2, if_pos t1]; have := HS.out.1; omega
        have HS2 := Lib.hid hs
        simp only
        rw [hz]
        clear hs hz t1
        go_wp2_with fail
        go_roundw
        case rel => exact ⟨k + 1, S + 1, by omega, by go_num, by go_num, HS2.out, HW2.out⟩
        case measure => simp [intOf]; omega
    · obtain rfl : k = L := by omega
      have hSn : S = placeN l := by rw [hS, HL.out, List.take_length]; rfl
      have hmk := made_evs wr S hS400
      have HSn := Lib.hid hSn
      have hB2 : Below w.heap.size w (wr.alloc (.cells ((List.replicate S (default : Ev)).flatMap evCs).toArray 39)) := hb.alloc hb.size _
      have HB2 := Lib.hid (And.intro hB2 (show EvB _ wr.heap.size (List.replicate S default) from Lies.new _ _ _))
      have HbS := Lib.hid hb.size
      clear hS hSn hB2 hb
      go_wp2_with fail
      have hB3 := HB2.out
      clear HB2 hmk
      generalize wr.alloc (.cells ((List.replicate S (default : Ev)).flatMap evCs).toArray 39) = W1 at hB3 ⊢
      obtain ⟨G, hG⟩ : ∃ G, G = wr.heap.size := ⟨_, rfl⟩
      have hGw : w.heap.size ≤ G := by rw [hG]; exact HbS.out
      rw [← hG] at hB3 ⊢
      clear hG HbS
      have hwr : IntKind.i64.wrap ((S : Int) - 1) = (S : Int) - 1 := by rw [IntKind.wrap_i64]; omega
      have HO2 := Lib.hid (show out = placeUp S (List.replicate S default) (l.drop 0) by rw [HO.out, HSn.out])
      go_loopw [27] (fun i wr => ∃ (j : Nat) (es : List Ev), j ≤ k ∧ i = .int .i64 j ∧ es.length = S ∧ out = placeUp S es (l.drop j) ∧ EvB wr G es ∧ Below w.heap.size w wr) (fun i _ => k - (intOf i).toNat)
      case atStart => exact ⟨0, List.replicate S default, by omega, rfl, by simp, HO2.out, hB3.2, hB3.1⟩
      case round =>
        clear hB3 HO2
        obtain ⟨j, es, hj, rfl, hes, hout, hE, hb⟩ := hrel
        by_cases hjk : j < k
        · obtain ⟨x, hx⟩ : ∃ x, l[j]? = some x := ⟨_, List.getElem?_eq_getElem (by rw [← HL.out]; exact hjk)⟩
          have h' := H.out.1.below (hb.mono H.out.2)
          rw [← HL.out] at h'
          obtain ⟨g, o, rfl, -, d0, d1, d2, d3, d4, d5, d6⟩ := h'.cl hx
          have i1 : (0 : Int) ≤ (j : Int) := by omega
          have i2 : (j : Int) < (k : Int) := by omega
          have hst := placeUp_drop (n := S) hx es
          obtain ⟨x0, x1, x2, x3, x4, x5, x6⟩ := x
          have hba : Below wr.heap.size wr (wr.alloc (.cells (clCs ⟨x0, x1, x2, x3, x4, x5, x6⟩).toArray 70)) := (Below.refl _ _).alloc (Nat.le_refl _) _
          have hGl : G < wr.heap.size := Lies.lt hE
          have HW := Lib.hid (And.intro (hb.trans (hba.mono hb.size)) (And.intro (show EvB _ G es from Lies.below hE hba hGl) (Lies.new wr 70 (clCs ⟨x0, x1, x2, x3, x4, x5, x6⟩).toArray)))
          rw [← hout] at hst
          simp only at hst
          have HS := Lib.hid hst
          have HES := Lib.hid hes
          clear h' hx hb hst hba hE hout hes
          go_wp2_with fail
          have HW' := HW.out
          clear HW d0 d1 d2 d3 d4 d5 d6
          change Calls _ _ _ (wr.alloc (.cells (clCs ⟨x0, x1, x2, x3, x4, x5, x6⟩).toArray 70)) _
          generalize wr.alloc (.cells (clCs ⟨x0, x1, x2, x3, x4, x5, x6⟩).toArray 70) = W2 at HW' ⊢
          obtain ⟨P, hP⟩ : ∃ P, P = wr.heap.size := ⟨_, rfl⟩
          rw [← hP] at HW' ⊢
          have hGP : G < P := by rw [hP]; exact hGl
          clear hP hGl
          have b : ∀ i, W2.cell? ⟨P, i, none⟩ = (clCs ⟨x0, x1, x2, x3, x4, x5, x6⟩).toArray[i]? := fun i => Lies.cell HW'.2.2 i
          obtain ⟨b0, b1, b2, b3, b4, b5, b6⟩ : W2.cell? ⟨P, 0, none⟩ = some (.int .i64 x0) ∧ W2.cell? ⟨P, 1, none⟩ = some (.int .i64 x1) ∧ W2.cell? ⟨P, 2, none⟩ = some (.int .i64 x2) ∧ W2.cell? ⟨P, 3, none⟩ = some (.int .i64 x3) ∧ W2.cell? ⟨P, 4, none⟩ = some (.int .i64 x4) ∧ W2.cell? ⟨P, 5, none⟩ = some (.int .i64 x5) ∧ W2.cell? ⟨P, 6, none⟩ = some (.int .i64 x6) := ⟨b 0, b 1, b 2, b 3, b 4, b 5, b 6⟩
          clear b
          have HWW := Lib.hid HW'
          clear HW'
          refine (within_any _ _ _ _).mono ?_
          rintro e w' ⟨rfl, rfl⟩
          cases c1 : btw 0 x5 ((S : Int) - 1)
          · have hs := HS.out
            rw [c1, if_pos (.inl rfl)] at hs
            subst hs
            go_wp2_with fail
            go_ret2
            exact ⟨HWW.out.1, rfl⟩
          · go_wp2_with fail
            refine (within_any _ _ _ _).mono ?_
            rintro e w' ⟨rfl, rfl⟩
            cases c2 : btw (-1) x6 ((S : Int) - 1)
            · have hs := HS.out
              rw [c2, if_pos (.inr rfl)] at hs
              subst hs
              go_wp2_with fail
              go_ret2
              exact ⟨HWW.out.1, rfl⟩
            · have hs := HS.out
              rw [c1, c2, if_neg (by simp)] at hs
              have hc1 := btw_iff.1 c1
              have hc2 := btw_iff.1 c2
              obtain ⟨q, rfl⟩ : ∃ q : Nat, x5 = (q : Int) := ⟨x5.toNat, by omega⟩
              have hq : q < es.length := by rw [HES.out]; omega
              obtain ⟨y, y0, y1, y2, y3⟩ := HWW.out.2.1.at_ hq
              have hfz : ∀ i, W2.frozen? ⟨G, i, none⟩ = false := fun i => Lies.frozen HWW.out.2.1 i
              have q1 : (0 : Int) ≤ (q : Int) := by omega
              have q2 : (q : Int) < (S : Int) := by omega
              have HS2 := Lib.hid (And.intro hs (And.intro hc2 hq))
              clear hs hc1 hc2 c1 c2 hq
              go_wp2_with fail
              change Calls _ _ _ ((((W2.setCell ⟨G, q * 4, none⟩ (.int .i64 x0)).setCell ⟨G, q * 4 + 1, none⟩ (.int .i64 x1)).setCell ⟨G, q * 4 + 2, none⟩ (.int .i64 x2)).setCell ⟨G, q * 4 + 3, none⟩ (.int .i64 x3)) _
              have hE3 := HWW.out.2.1.put HS2.out.2.2 (evInv ⟨x0, x1, x2, x3, x4, q, x6⟩)
              have hL3 := Lies.far (Lies.far (Lies.far (Lies.far HWW.out.2.2 (p := ⟨G, q * 4, none⟩) (by show P ≠ G; omega) (.int .i64 x0)) (p := ⟨G, q * 4 + 1, none⟩) (by show P ≠ G; omega) (.int .i64 x1)) (p := ⟨G, q * 4 + 2, none⟩) (by show P ≠ G; omega) (.int .i64 x2)) (p := ⟨G, q * 4 + 3, none⟩) (by show P ≠ G; omega) (.int .i64 x3)
              have hW3 := (((HWW.out.1.setCell (p := ⟨G, q * 4, none⟩) hGw (.int .i64 x0)).setCell (p := ⟨G, q * 4 + 1, none⟩) hGw (.int .i64 x1)).setCell (p := ⟨G, q * 4 + 2, none⟩) hGw (.int .i64 x2)).setCell (p := ⟨G, q * 4 + 3, none⟩) hGw (.int .i64 x3)
              simp only [evInv] at hE3
              clear y0 y1 y2 y3 hfz b0 b1 b2 b3 b4 b5 b6
              generalize ((((W2.setCell ⟨G, q * 4, none⟩ (.int .i64 x0)).setCell ⟨G, q * 4 + 1, none⟩ (.int .i64 x1)).setCell ⟨G, q * 4 + 2, none⟩ (.int .i64 x2)).setCell ⟨G, q * 4 + 3, none⟩ (.int .i64 x3)) = W3 at hE3 hL3 hW3 ⊢
              refine (answered_any ⟨x0, x1, x2, x3, x4, q, x6⟩ W3).mono ?_
              rintro e w4 ⟨rfl, hb4⟩
              have hE4 : EvB w4 G (es.set q ⟨x0, x1, x2, x3⟩) := Lies.below hE3 hb4 (Lies.lt hE3)
              have hL4 := Lies.below hL3 hb4 hL3.lt
              have hW4 := hW3.trans (hb4.mono hW3.size)
              clear hE3 hL3 hW3 hb4 W3 HWW
              by_cases t1 : x6 = -1
              · have hz : (x6 != -1) = false := by rw [bne_eq_false_iff_eq]; exact t1
                have hs := HS2.out.1
                unfold putOne at hs
                rw [if_neg (fun h => h t1)] at hs
                have HR := Lib.hid (And.intro hs (And.intro hE4 hW4))
                clear hs hE4 hW4 hL4 t1
                simp only
                rw [hz]
                clear hz
                go_wp2_with fail
                go_roundw
                case rel => exact ⟨j + 1, _, by omega, by go_num, by rw [List.length_set]; exact HES.out, HR.out.1, HR.out.2⟩
                case measure => simp [intOf]; omega
              · have hz : (x6 != -1) = true := by rw [bne_iff_ne]; exact t1
                have hc2 := HS2.out.2.1
                obtain ⟨r, rfl⟩ : ∃ r : Nat, x6 = (r : Int) := ⟨x6.toNat, by omega⟩
                have hs := HS2.out.1
                unfold putOne at hs
                rw [if_pos t1] at hs
                simp only [Int.toNat_natCast, evInv, evRes] at hs
                have hr : r < (es.set q ⟨x0, x1, x2, x3⟩).length := by rw [List.length_set, HES.out]; omega
                obtain ⟨y, y0, y1, y2, y3⟩ := hE4.at_ hr
                have hfz : ∀ i, w4.frozen? ⟨G, i, none⟩ = false := fun i => Lies.frozen hE4 i
                have b : ∀ i, w4.cell? ⟨P, i, none⟩ = (clCs ⟨x0, x1, x2, x3, x4, q, r⟩).toArray[i]? := fun i => Lies.cell hL4 i
                obtain ⟨b0, b1, b4, b6⟩ : w4.cell? ⟨P, 0, none⟩ = some (.int .i64 x0) ∧ w4.cell? ⟨P, 1, none⟩ = some (.int .i64 x1) ∧ w4.cell? ⟨P, 4, none⟩ = some (.int .i64 x4) ∧ w4.cell? ⟨P, 6, none⟩ = some (.int .i64 (r : Int)) := ⟨b 0, b 1, b 4, b 6⟩
                have r1 : (0 : Int) ≤ (r : Int) := by omega
                have r2 : (r : Int) < (S : Int) := by omega
                have hE5 := hE4.put hr ⟨x0, x1, 0, x4⟩
                have hW5 := (((hW4.setCell (p := ⟨G, r * 4, none⟩) hGw (.int .i64 x0)).setCell (p := ⟨G, r * 4 + 1, none⟩) hGw (.int .i64 x1)).setCell (p := ⟨G, r * 4 + 2, none⟩) hGw (.int .i64 0)).setCell (p := ⟨G, r * 4 + 3, none⟩) hGw (.int .i64 x4)
                have HR := Lib.hid (And.intro hs (And.intro hE5 hW5))
                clear hs hE4 hW4 hL4 t1 hc2 hr hE5 hW5 b
                simp only
                rw [hz]
                clear hz
                go_wp2_with fail
                go_roundw
                case rel => exact ⟨j + 1, _, by omega, by go_num, by rw [List.length_set, List.length_set]; exact HES.out, HR.out.1, HR.out.2⟩
                case measure => simp [intOf]; omega
        · obtain rfl : j = k := by omega
          have hs : out = some es := by rw [hout, HL.out, List.drop_length]; rfl
          have HZ := Lib.hid (And.intro hs (And.intro hb hE))
          have HES := Lib.hid hes
          clear hs hb hE hout hes
          go_wp2_with fail
          go_ret2
          have e := HZ.out.1
          subst e
          refine ⟨HZ.out.2.1, _, rfl, ?_⟩
          have hn : S = es.length := HES.out.symm
          subst hn
          refine ⟨_, _, rfl, Nat.le_refl _, by unfold maxLen; omega, fun _ => ⟨G, 0, rfl, Lies.lt HZ.out.2.2, fun i x hi u z hz => ?_⟩⟩
          rw [Nat.zero_add, Lies.cell HZ.out.2.2]
          have := flat_at (f := evCs) (s := 4) (fun _ => rfl) hi hz
          simpa using this
end Go.Proofs.Ytebcnhnkpmbgdaa
