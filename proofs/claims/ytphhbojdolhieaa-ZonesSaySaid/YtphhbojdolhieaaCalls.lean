/-
  Contract of history.Calls.
-/
import Derived.Test.YtphhbojdolhieaaAdd
namespace Go.Proofs.Ytphhbojdolhieaa
open Go.RowKit
set_option maxRecDepth 20000
/-- What Calls answers: the calls, where, and what went wrong. -/
def CallsPost (w : World) (o : List Cl × Nat × Int) (e : Ending) (w' : World) : Prop :=
  ∃ v, e = .returned (.tuple #[v, .int .i64 (o.2.1 : Nat), .int .i64 o.2.2]) ∧ Below w.heap.size w w' ∧ CRd w' w'.heap.size v o.1
theorem rec_start (w : World) (tv : Value) (ts : List Int) (h : NRd w w.heap.size tv ts) : RecS w.heap.size tv ts [] (w.alloc (.cells (recCs tv (.slice none 0 0) (fun _ => false) (fun _ => 0)) 72)) := by
  refine ⟨⟨.slice none 0 0, _, _, Lies.new w _ _, World.ownsRow_nil _ _ _ _, OneOpen.nil, fun p _ => ?_, fun p _ h => by cases h⟩, h.below ((Below.refl _ _).alloc (Nat.le_refl _) _)⟩
  simp [openOf, openFrom]
set_option maxHeartbeats 4000000 in
theorem calls_any {tv lv : Value} {ts : List Int} {l : List Ev} {w : World} (ht : NRd w w.heap.size tv ts) (hl : ERd w w.heap.size lv l) :
    Calls Try.prog 13 #[tv, lv] w (CallsPost w (callsOf ts l)) := by
  have er : callsOf ts l = if typesB ts = false then ([], 0, 1) else if 200 < l.length then ([], 0, 2) else run ts 0 [] l := rfl
  generalize callsOf ts l = o at er ⊢
  obtain ⟨At, capt, rfl, m1, m2⟩ := ht.is
  obtain ⟨Al, capl, rfl, m3, m4⟩ := hl.is
  unfold maxLen at m2 m4
  have HT := Lib.hid ht
  have HL := Lib.hid hl
  clear ht hl
  cases hb : typesB ts
  · rw [if_pos hb] at er
    subst er
    have HV := Lib.hid (valid_any HT.out)
    rw [hb] at HV
    clear hb
    go_enter Try.func13, Try.ntmps13
    go_wp2_with fail
    refine HV.out.mono ?_
    rintro e w' ⟨rfl, rfl⟩
    go_wp2_with fail
    go_ret3
    exact ⟨_, rfl, Below.refl _ _, LRd.nil _ _⟩
  · rw [if_neg (by rw [hb]; decide)] at er
    have HV := Lib.hid (valid_any HT.out)
    rw [hb] at HV
    clear hb
    by_cases hn : 200 < l.length
    · rw [if_pos hn] at er
      subst er
      have hn' : (200 : Int) < (l.length : Int) := by omega
      go_enter Try.func13, Try.ntmps13
      go_wp2_with fail
      refine HV.out.mono ?_
      rintro e w' ⟨rfl, rfl⟩
      go_wp2_with fail
      go_ret3
      exact ⟨_, rfl, Below.refl _ _, LRd.nil _ _⟩
    · rw [if_neg hn] at er
      have hn' : ¬ (200 : Int) < (l.length : Int) := by omega
      have HE := Lib.hid er
      have HR0 := Lib.hid (rec_start w _ ts HT.out)
      clear er
      go_enter Try.func13, Try.ntmps13
      go_wp2_with fail
      refine HV.out.mono ?_
      rintro e w' ⟨rfl, rfl⟩
      go_wp2_with fail
      obtain ⟨L, hL⟩ : ∃ L, L = l.length := ⟨_, rfl⟩
      have HR1 := HR0.out
      clear HR0
      change Code.wp _ _ _ _ (w.alloc (.cells (recCs (.slice At ts.length capt) (.slice none 0 0) (fun _ => false) (fun _ => 0)) 72))
      have hb0 : Below w.heap.size w (w.alloc (.cells (recCs (.slice At ts.length capt) (.slice none 0 0) (fun _ => false) (fun _ => 0)) 72)) := (Below.refl _ _).alloc (Nat.le_refl _) _
      obtain ⟨g, hg⟩ : ∃ g, g = w.heap.size := ⟨_, rfl⟩
      rw [← hg] at HR1
      rw [← hg]
      have HG := Lib.hid hg
      clear hg
      generalize w.alloc (.cells (recCs (.slice At ts.length capt) (.slice none 0 0) (fun _ => false) (fun _ => 0)) 72) = W at HR1 hb0 ⊢
      rw [← hL]
      rw [← hL] at m3 hn hn'
      have HLL := Lib.hid hL
      clear hL
      go_loopw [21] (fun i wr => ∃ (k : Nat) (cs : List Cl), k ≤ L ∧ i = .int .i64 k ∧ cs.length ≤ k ∧ run ts 0 [] l = run ts k cs (l.drop k) ∧ RecS g (.slice At ts.length capt) ts cs wr ∧ Below w.heap.size w wr) (fun i _ => L - (intOf i).toNat)
      case atStart => exact ⟨0, [], by omega, rfl, by simp, by simp, HR1, hb0⟩
      case round =>
        clear HR1 hb0
        obtain ⟨k, cs, hk, rfl, hck, hrun, hR, hB⟩ := hrel
        have HA := Lib.hid (And.intro hrun (And.intro hR hB))
        by_cases hkL : k < L
        · have hkl : k < l.length := by rw [← HLL.out]; exact hkL
          obtain ⟨x, hx⟩ : ∃ x, l[k]? = some x := ⟨_, List.getElem?_eq_getElem hkl⟩
          have hxe : l[k] = x := (List.getElem?_eq_some_iff.1 hx).2
          have hL' := HL.out.below hB
          rw [← HLL.out] at hL'
          obtain ⟨gl, o', rfl, hgl, d0, d1, d2, d3⟩ := hL'.ev hx
          have hst := run_drop (ts := ts) hkl cs
          rw [hxe] at hst
          generalize hs : step ts k cs x = s at hst
          have i1 : (0 : Int) ≤ (k : Int) := by omega
          have i2 : (k : Int) < (L : Int) := by omega
          obtain ⟨xw, xt, xk, xv⟩ := x
          have hR2 := hR.next ((Below.refl _ _).alloc (Nat.le_refl _) (.cells (evCs ⟨xw, xt, xk, xv⟩).toArray 55))
          have hl2 := Lies.new wr 55 (evCs ⟨xw, xt, xk, xv⟩).toArray
          have hb2 : Below w.heap.size w (wr.alloc (.cells (evCs ⟨xw, xt, xk, xv⟩).toArray 55)) := hB.alloc hB.size _
          have HX := Lib.hid (And.intro hst (And.intro hs (And.intro hR2 (And.intro hl2 hb2))))
          clear hx hxe hL' hst hs hrun hR hB hR2 hl2 hb2
          go_wp2_with fail
          change Calls _ _ _ (wr.alloc (.cells (evCs ⟨xw, xt, xk, xv⟩).toArray 55)) _
          generalize wr.alloc (.cells (evCs ⟨xw, xt, xk, xv⟩).toArray 55) = W2 at HX ⊢
          have hc := add_any HX.out.2.2.1 k ⟨xw, xt, xk, xv⟩ (by omega)
          rw [HX.out.2.1] at hc
          clear d0 d1 d2 d3
          refine hc.mono ?_
          rintro e w' ⟨hbw, hd⟩
          have hb' : Below w.heap.size w w' := HX.out.2.2.2.2.trans (by rw [← HG.out]; exact hbw)
          cases s with
          | inl r =>
            simp only at hd
            subst hd
            have hr : (r != 0) = true := by rw [bne_iff_ne]; exact step_err HX.out.2.1
            have HY := Lib.hid hb'
            clear hb' hbw hc
            go_wp2_with fail
            go_ret3
            have e := HE.out
            rw [HA.out.1, HX.out.1] at e
            subst e
            exact ⟨_, rfl, HY.out, LRd.nil _ _⟩
          | inr cs' =>
            obtain ⟨rfl, hd⟩ := hd
            have HY := Lib.hid (And.intro hb' hd)
            have HLN := Lib.hid (step_len HX.out.2.1)
            clear hb' hbw hd hc
            go_wp2_with fail
            go_roundw
            case rel => exact ⟨k + 1, cs', by omega, by go_num, by have := HLN.out; omega, HA.out.1.trans HX.out.1, HY.out.2, HY.out.1⟩
            case measure => simp [intOf]; omega
        · obtain rfl : k = L := by omega
          have hre : run ts 0 [] l = (cs, 0, 0) := by rw [HA.out.1, HLL.out, List.drop_length]; rfl
          have HZ := Lib.hid hre
          obtain ⟨⟨cv, b, c, h1, h2, h3⟩, h4⟩ := hR
          have r1 := h1.calls
          have HW := Lib.hid (And.intro h1 h2)
          clear hre hrun h1 h2 h3 h4 hB
          go_wp2_with fail
          go_ret3
          have e := HE.out
          rw [HZ.out] at e
          subst e
          exact ⟨_, rfl, HA.out.2.2, HW.out.2.rd⟩
end Go.Proofs.Ytphhbojdolhieaa
