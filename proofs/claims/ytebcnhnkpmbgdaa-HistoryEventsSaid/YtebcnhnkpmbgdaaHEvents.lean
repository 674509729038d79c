/-
  aliblaw.HistoryEvents answers true, whatever is handed in.
-/
import Derived.Test.YtebcnhnkpmbgdaaEvOf
import Derived.Test.YtebcnhnkpmbgdaaAheadOf
import Derived.Test.YtebcnhnkpmbgdaaCallRel
import Derived.Test.YtebcnhnkpmbgdaaPart
import Derived.Test.YtebcnhnkpmbgdaaEqEv
import Derived.Test.YtebcnhnkpmbgdaaSame
import Derived.Deep.RegionHeld3
namespace Go.Proofs.Ytebcnhnkpmbgdaa
open Go.RowKit
set_option maxRecDepth 20000

theorem ahead_any {v : Value} {l : List Cl} {w : World} (h : CRd w w.heap.size v l) : ∃ (n : Int) (c : Nat → Nat) (g : Int),
    ((12 < l.length ∧ n = 0 ∧ c = (fun _ => 0) ∧ g = 2) ∨ (¬ 12 < l.length ∧ n = (l.length : Int) ∧ c = relP (aheadB l) l.length ∧ g = 0)) ∧
    Calls Try.prog 11 #[v] w fun e w' => e = .returned (.tuple #[relV n c, .int .i64 g]) ∧ Below w.heap.size w w' := by
  by_cases hl : 12 < l.length
  · exact ⟨0, fun _ => 0, 2, .inl ⟨hl, rfl, rfl, rfl⟩, ahead_many h hl⟩
  · exact ⟨l.length, relP (aheadB l) l.length, 0, .inr ⟨hl, rfl, rfl, rfl⟩, ahead_few h (Nat.le_refl _) (by omega)⟩
theorem events_ways (l : List Cl) : (200 < l.length ∧ eventsL l = ([], 2)) ∨ (¬ 200 < l.length ∧ (evOfL l).2 = true ∧ eventsL l = ((evOfL l).1, 0)) ∨ (¬ 200 < l.length ∧ (evOfL l).2 = false ∧ eventsL l = ([], 3)) := by
  by_cases hl : 200 < l.length
  · exact .inl ⟨hl, if_pos hl⟩
  · exact .inr ((evOf_events hl).imp (fun h => ⟨hl, h⟩) (fun h => ⟨hl, h⟩))
theorem part_ways (ts : List Int) (l : List Ev) (q : Int) : ((callsOf ts l).2.2 ≠ 0 ∧ partOf ts l q = ([], (callsOf ts l).2.2)) ∨ ((callsOf ts l).2.2 = 0 ∧ btw 0 q ((ts.length : Int) - 1) = false ∧ partOf ts l q = ([], 4)) ∨
    ((callsOf ts l).2.2 = 0 ∧ btw 0 q ((ts.length : Int) - 1) = true ∧ partOf ts l q = (partL l q, 0) ∧ l.length ≤ 200) := by
  unfold partOf
  by_cases h : (callsOf ts l).2.2 = 0
  · rw [if_neg (fun h' => h' h)]
    cases hb : btw 0 q ((ts.length : Int) - 1)
    · have := btw_not.1 hb
      exact .inr (.inl ⟨h, rfl, if_pos (by omega)⟩)
    · have := btw_iff.1 hb
      exact .inr (.inr ⟨h, rfl, if_neg (by omega), (calls_zero h).2.1⟩)
  · exact .inl ⟨h, if_pos h⟩

/-- What is kept: the relation's block; the events told, those of the part, those of the reference. -/
structure EvS (w0 : World) (C : Nat) (n : Int) (c : Nat → Nat) (v1 v2 v4 : Value) (xs ps ws : List Ev) (w : World) : Prop where
  below : Below w0.heap.size w0 w
  one : RelB w C n c
  r1 : ERd w w.heap.size v1 xs
  r2 : ERd w w.heap.size v2 ps
  r4 : ERd w w.heap.size v4 ws
theorem EvS.next {w0 w w' : World} {C : Nat} {n : Int} {c : Nat → Nat} {v1 v2 v4 : Value} {xs ps ws : List Ev} (h : EvS w0 C n c v1 v2 v4 xs ps ws w) (hb : Below w.heap.size w w') : EvS w0 C n c v1 v2 v4 xs ps ws w' :=
  ⟨h.below.trans (hb.mono h.below.size), Lies.below h.one hb h.one.lt, (h.r1.below hb).mono hb.size, (h.r2.below hb).mono hb.size, (h.r4.below hb).mono hb.size⟩
def prt (E : Int) (l : List Ev) (q : Int) : List Ev := if E = 0 then partL l q else []

set_option maxHeartbeats 8000000 in
theorem hevents_any {cv tv lv : Value} {cs : List Cl} {ts : List Int} {l : List Ev} {w : World} (hc : CRd w w.heap.size cv cs) (ht : NRd w w.heap.size tv ts) (hl : ERd w w.heap.size lv l) (q : Int) (hsz : cs.length * 56 ≤ 140737488355328) :
    Calls Try.prog 3 #[cv, tv, lv, .int .i64 q] w fun e w' => e = .returned (.bool true) ∧ Below w.heap.size w w' := by
  obtain ⟨Ac, capc, rfl, m1, m2⟩ := hc.is
  obtain ⟨At, capt, rfl, m3, m4⟩ := ht.is
  obtain ⟨Al, capl, rfl, m5, m6⟩ := hl.is
  unfold maxLen at m2 m4 m6
  have HEV := Lib.hid (events_any hc)
  have HCS := Lib.hid hc
  have HT := Lib.hid ht
  have HL := Lib.hid hl
  have HSZ := Lib.hid hsz
  obtain ⟨L, hL⟩ : ∃ L, L = l.length := ⟨_, rfl⟩
  rw [← hL]
  rw [← hL] at m5
  have HLL := Lib.hid hL
  have HPT0 := Lib.hid (fun (W : World) (hb : Below w.heap.size w W) => part_any ((ht.below hb).mono hb.size) ((hl.below hb).mono hb.size) q)
  rw [← hL] at HPT0
  clear hc ht hl hsz hL
  go_enter Try.func3, Try.ntmps3
  go_wp2_with fail
  refine HEV.out.mono ?_
  rintro e w1 ⟨v1, rfl, hb1, hr1⟩
  have HPT := Lib.hid (HPT0.out _ hb1)
  have H1 := Lib.hid (And.intro hb1 hr1)
  clear HEV hb1 hr1
  go_wp2_with fail
  refine HPT.out.mono ?_
  rintro e w2 ⟨v2, rfl, hb2, hr2⟩
  have H2 := Lib.hid (And.intro (H1.out.1.trans (hb2.mono H1.out.1.size)) (And.intro ((H1.out.2.below hb2).mono hb2.size) hr2))
  clear HPT hb2 hr2 H1
  obtain ⟨n, c, g, hways, hah⟩ := ahead_any ((HCS.out.below H2.out.1).mono H2.out.1.size)
  have HWY := Lib.hid hways
  have HAH := Lib.hid hah
  clear hways hah
  go_wp2_with fail
  refine HAH.out.mono ?_
  rintro e w3 ⟨rfl, hb3⟩
  have H3 := Lib.hid (And.intro (H2.out.1.trans (hb3.mono H2.out.1.size)) (And.intro ((H2.out.2.1.below hb3).mono hb3.size) ((H2.out.2.2.below hb3).mono hb3.size)))
  clear HAH hb3 H2
  go_wp2_with fail
  obtain ⟨C, hC⟩ : ∃ C, C = w3.heap.size := ⟨_, rfl⟩
  have hba : Below w3.heap.size w3 (w3.alloc (.cells (relCs n c) 32)) := (Below.refl _ _).alloc (Nat.le_refl _) _
  have h1 : Below w.heap.size w (w3.alloc (.cells (relCs n c) 32)) ∧ RelB (w3.alloc (.cells (relCs n c) 32)) C n c ∧
      ERd (w3.alloc (.cells (relCs n c) 32)) (w3.alloc (.cells (relCs n c) 32)).heap.size v1 (eventsL cs).1 ∧ ERd (w3.alloc (.cells (relCs n c) 32)) (w3.alloc (.cells (relCs n c) 32)).heap.size v2 (partOf ts l q).1 :=
    ⟨H3.out.1.trans (hba.mono H3.out.1.size), by rw [hC]; exact Lies.new _ _ _, (H3.out.2.1.below hba).mono hba.size, (H3.out.2.2.below hba).mono hba.size⟩
  rw [← hC]
  clear hC H3 hba
  change Calls _ _ _ (w3.alloc (.cells (relCs n c) 32)) _
  generalize w3.alloc (.cells (relCs n c) 32) = W3 at h1 ⊢
  have H3 := Lib.hid h1
  clear h1
  refine (evOf_any ((HCS.out.below H3.out.1).mono H3.out.1.size) HSZ.out).mono ?_
  rintro e w4 ⟨v4, rfl, hb4, hr4⟩
  have h4 : EvS w C n c v1 v2 v4 (eventsL cs).1 (partOf ts l q).1 (evOfL cs).1 w4 :=
    ⟨H3.out.1.trans (hb4.mono H3.out.1.size), Lies.below H3.out.2.1 hb4 H3.out.2.1.lt, (H3.out.2.2.1.below hb4).mono hb4.size, (H3.out.2.2.2.below hb4).mono hb4.size, hr4⟩
  have hew := events_ways cs
  have hpw := part_ways ts l q
  generalize eventsL cs = X at h4 hew ⊢
  generalize evOfL cs = Y at h4 hew ⊢
  generalize partOf ts l q = Z at h4 hpw ⊢
  obtain ⟨xs, E1⟩ := X
  obtain ⟨ws, b⟩ := Y
  obtain ⟨ps, E3⟩ := Z
  simp only [Prod.mk.injEq] at h4 hew hpw ⊢
  obtain ⟨A1, c1, rfl, k1, k2⟩ := h4.r1.is
  have H4 := Lib.hid h4
  have HW := Lib.hid hew
  have HP := Lib.hid hpw
  clear hb4 hr4 H3 h4 hew hpw k1 k2
  have hmm : ∀ x y : Int, (x = y) → (x != y) = false := fun x y h => by rw [bne_eq_false_iff_eq]; exact h
  have HMM := Lib.hid hmm
  clear hmm
  go_upto_if 45 with fail
  go_cut [17] from 43 to 47 (fun s wx => s = .int .i64 E1 ∧ wx = w4)
  case first =>
    rcases HW.out with ⟨h2, h3, h5⟩ | ⟨h2, h3, h5, h6⟩ | ⟨h2, h3, h5, h6⟩
    · subst h5
      have hz : (200 : Int) < (cs.length : Int) := by omega
      clear h2 h3
      go_wp2_with fail
      go_meet
      exact ⟨rfl, rfl⟩
    · subst h6
      subst h3
      have hz : ¬ (200 : Int) < (cs.length : Int) := by omega
      clear h2 h5
      go_wp2_with fail
      go_meet
      exact ⟨rfl, rfl⟩
    · subst h6
      subst h3
      have hz : ¬ (200 : Int) < (cs.length : Int) := by omega
      clear h2 h5
      go_wp2_with fail
      go_meet
      exact ⟨rfl, rfl⟩
  case rest =>
    obtain ⟨rfl, rfl⟩ := hcut
    go_upto_region 10 with fail
    go_cut [69] from 48 to 69 (fun d wx => d = .bool false ∧ EvS w C n c (.slice A1 xs.length c1) v2 v4 xs ps ws wx)
    case first =>
      rcases HW.out with ⟨h2, h3, h5⟩ | ⟨h2, h3, h5, h6⟩ | ⟨h2, h3, h5, h6⟩
      · subst h3
        subst h5
        have hz : ¬ (0 : Int) < (([] : List Ev).length : Int) := by simp
        clear h2
        go_wp2_with fail
        go_meet
        exact ⟨rfl, H4.out⟩
      · subst h6
        subst h5
        clear h2 h3
        go_wp2_with fail
        refine (eqEv_any H4.out.r1 H4.out.r4).mono ?_
        rintro e w5 ⟨rfl, hb5⟩
        rw [decide_eq_true (by rfl)]
        have H5 := Lib.hid (H4.out.next hb5)
        clear hb5
        go_wp2_with fail
        go_meet
        exact ⟨rfl, H5.out⟩
      · subst h5
        subst h6
        have hz : ¬ (0 : Int) < (([] : List Ev).length : Int) := by simp
        clear h2 h3
        go_wp2_with fail
        go_meet
        exact ⟨rfl, H4.out⟩
    case rest =>
      obtain ⟨rfl, h5⟩ := hcut
      have H5 := Lib.hid h5
      have hcc := callsOf_any ((HT.out.below h5.below).mono h5.below.size) ((HL.out.below h5.below).mono h5.below.size)
      rw [← HLL.out] at hcc
      have HCC := Lib.hid hcc
      clear h5 hcc H4 HW
      go_wp2_with fail
      refine HCC.out.mono ?_
      rintro e w6 ⟨v6, rfl, hb6, -⟩
      have H6 := Lib.hid (H5.out.next hb6)
      clear hb6 H5 HCC
      generalize callsOf ts l = oo at HP ⊢
      obtain ⟨o1, at_, E2⟩ := oo
      simp only at HP ⊢
      have hwr : IntKind.i64.wrap ((ts.length : Int) - 1) = (ts.length : Int) - 1 := by rw [IntKind.wrap_i64]; omega
      go_upto_region 13 with fail
      go_cut [86] from 77 to 86 (fun d wx => d = .bool (E2 == 0 && !(btw 0 q ((ts.length : Int) - 1))) ∧ EvS w C n c (.slice A1 xs.length c1) v2 v4 xs ps ws wx)
      case first =>
        rcases HP.out with ⟨p1, p2, p3⟩ | ⟨p1, p2, p3, p4⟩ | ⟨p1, p2, ⟨p3, p4⟩, p5⟩
        · have hz : (E2 == 0) = false := by rw [beq_eq_false_iff_ne]; exact p1
          clear p1 p2 p3
          go_wp2_with fail
          go_meet
          exact ⟨by rw [hz]; rfl, H6.out⟩
        all_goals
          subst p1
          have HP2 := Lib.hid p2
          clear p3 p4 p2
          try clear p5
          go_wp2_with fail
          refine (btwn_any _ _ _ _).mono ?_
          rw [HP2.out]
          rintro e w' ⟨rfl, rfl⟩
          go_wp2_with fail
          go_meet
          exact ⟨by rw [HP2.out]; rfl, H6.out⟩
      case rest =>
        obtain ⟨rfl, h7⟩ := hcut
        have H7 := Lib.hid h7
        clear h7 H6 hwr
        go_upto_if 86 with fail
        go_cut [17] from 77 to 86 (fun s wx => s = .int .i64 E3 ∧ EvS w C n c (.slice A1 xs.length c1) v2 v4 xs ps ws wx)
        case first =>
          rcases HP.out with ⟨p1, p2, p3⟩ | ⟨p1, p2, p3, p4⟩ | ⟨p1, p2, ⟨p3, p4⟩, p5⟩
          · have hz : (E2 == 0 && !(btw 0 q ((ts.length : Int) - 1))) = false := by rw [show (E2 == 0) = false by rw [beq_eq_false_iff_ne]; exact p1]; rfl
            rw [hz]
            subst p3
            clear p1 p2 hz
            go_wp2_with fail
            go_meet
            exact ⟨rfl, H7.out⟩
          · have hz : (E2 == 0 && !(btw 0 q ((ts.length : Int) - 1))) = true := by rw [p1, p2]; rfl
            rw [hz]
            subst p4
            clear p1 p2 p3 hz
            go_wp2_with fail
            go_meet
            exact ⟨rfl, H7.out⟩
          · have hz : (E2 == 0 && !(btw 0 q ((ts.length : Int) - 1))) = false := by rw [p1, p2]; rfl
            rw [hz]
            subst p4
            subst p1
            clear p2 p3 p5 hz
            go_wp2_with fail
            go_meet
            exact ⟨rfl, H7.out⟩
        case rest =>
          obtain ⟨rfl, h8⟩ := hcut
          have H8 := Lib.hid h8
          have hps : prt E3 l q = ps ∧ (E3 = 0 → l.length ≤ 200) := by
            unfold prt
            rcases HP.out with ⟨p1, p2, p3⟩ | ⟨p1, p2, p3, p4⟩ | ⟨p1, p2, ⟨p3, p4⟩, p5⟩
            · rw [p3, if_neg p1, p2]; exact ⟨rfl, fun h => absurd h p1⟩
            · rw [p4, if_neg (by decide), p3]; exact ⟨rfl, fun h => absurd h (by decide)⟩
            · rw [p4, if_pos rfl, p3]; exact ⟨rfl, fun _ => p5⟩
          have HPS := Lib.hid hps
          obtain ⟨w8, rfl⟩ : ∃ w8 : World, w8 = wc := ⟨_, rfl⟩
          clear h8 H7 hps HP
          go_wp2_with fail
          go_loopw [18, 89] (fun v i wr => ∃ (k : Nat) (v0 : Value), k ≤ L ∧ i = .int .i64 k ∧ v0 = v ∧ EOwn wr w8.heap.size v0 (prt E3 (l.take k) q) ∧ Below w8.heap.size w8 wr) (fun _ i _ => L - (intOf i).toNat)
          case atStart => exact ⟨0, _, by omega, rfl, rfl, by rw [show prt E3 (l.take 0) q = [] by unfold prt; split <;> rfl]; exact World.ownsRow_nil _ _ _ _, Below.refl _ _⟩
          case round =>
            obtain ⟨k, v0, hk, rfl, rfl, ho, hb⟩ := hrel
            by_cases hkL : k < L
            · obtain ⟨x, hx⟩ : ∃ x, l[k]? = some x := ⟨_, List.getElem?_eq_getElem (by rw [← HLL.out]; exact hkL)⟩
              have hst := partL_take hx q
              have hl' := HL.out.below (H8.out.below.trans (hb.mono H8.out.below.size))
              rw [← HLL.out] at hl'
              obtain ⟨g', o, rfl, -, d0, d1, d2, d3⟩ := hl'.ev hx
              have i1 : (0 : Int) ≤ (k : Int) := by omega
              have i2 : (k : Int) < (L : Int) := by omega
              have hbs := hb.size
              have HB := Lib.hid (And.intro ho (And.intro hb hst))
              clear hl' hx ho hb hst
              obtain ⟨xw, xt, xk, xv⟩ := x
              have HEA := Lib.hid (HB.out.2.1.alloc hbs (.cells (evCs ⟨xw, xt, xk, xv⟩).toArray 39))
              by_cases hE : E3 = 0
              · by_cases hq : xt = q
                · have hlen : ((prt E3 (l.take k) q).length + 1 + ((prt E3 (l.take k) q).length + 1) / 4 + 192) * 32 ≤ 281474976710656 := by
                    have h0 := HPS.out.2 hE
                    have h1 : (partL (l.take k) q).length ≤ (l.take k).length := List.length_filter_le _ _
                    have h2 : (l.take k).length ≤ k := List.length_take_le _ _
                    have h3 := HLL.out
                    unfold prt
                    rw [if_pos hE]
                    omega
                  have HLE := Lib.hid hlen
                  have HST : Hid (prt E3 (l.take (k + 1)) q = prt E3 (l.take k) q ++ [⟨xw, xt, xk, xv⟩]) := Lib.hid (by unfold prt; rw [if_pos hE, if_pos hE, HB.out.2.2, if_pos hq])
                  subst hE
                  subst hq
                  have HO := Lib.hid ((HB.out.1.alloc (.cells (evCs ⟨xw, xt, xk, xv⟩).toArray 39)).alloc (.cells (evCs ⟨xw, xt, xk, xv⟩).toArray 39))
                  have HWW := Lib.hid (HEA.out.alloc (by simp; omega) (.cells (evCs ⟨xw, xt, xk, xv⟩).toArray 39))
                  clear hlen
                  go_wp2_with (at_builtin; refine wpList_app_evW rfl (.tmp 101) (.tmp 103) rfl w8.heap.size (wr.heap.size + 1) _ (prt 0 (l.take k) xt) ⟨xw, xt, xk, xv⟩ rfl rfl HO.out (by simp) HLE.out HWW.out.size ?_; intro v' w5 ho5 hb5 hg5; have HN := Lib.hid (And.intro ho5 hb5); clear ho5 hb5 hg5)
                  go_roundw
                  case rel =>
                    refine ⟨k + 1, _, by omega, by go_num, rfl, ?_, HWW.out.trans HN.out.2⟩
                    rw [HST.out]
                    exact HN.out.1
                  case measure => simp [intOf]; omega
                · have HST : Hid (prt E3 (l.take (k + 1)) q = prt E3 (l.take k) q) := Lib.hid (by unfold prt; rw [if_pos hE, if_pos hE, HB.out.2.2, if_neg hq])
                  have hz : (xt == q) = false := by rw [beq_eq_false_iff_ne]; exact hq
                  subst hE
                  clear hq
                  go_wp2_with fail
                  go_roundw
                  case rel =>
                    refine ⟨k + 1, _, by omega, by go_num, rfl, ?_, HEA.out⟩
                    rw [HST.out]
                    exact HB.out.1.alloc _
                  case measure => simp [intOf]; omega
              · have HST : Hid (prt E3 (l.take (k + 1)) q = prt E3 (l.take k) q) := Lib.hid (by unfold prt; rw [if_neg hE, if_neg hE])
                have hz : (E3 == 0) = false := by rw [beq_eq_false_iff_ne]; exact hE
                clear hE
                go_wp2_with fail
                go_roundw
                case rel =>
                  refine ⟨k + 1, _, by omega, by go_num, rfl, ?_, HEA.out⟩
                  rw [HST.out]
                  exact HB.out.1.alloc _
                case measure => simp [intOf]; omega
            · obtain rfl : k = L := by omega
              have h9 := H8.out.next hb
              have hp := ho.rd
              rw [HLL.out, List.take_length, HPS.out.1] at hp
              have H9 := Lib.hid (And.intro h9 hp)
              have hz : (E3 != E3) = false := HMM.out _ _ rfl
              clear ho hb h9 hp H8
              go_wp2_with fail
              refine (eqEv_any H9.out.1.r2 H9.out.2).mono ?_
              rintro e w10 ⟨rfl, hb10⟩
              rw [decide_eq_true (by rfl)]
              have HA := Lib.hid (H9.out.1.next hb10)
              clear hb10 H9
              rcases HWY.out with ⟨g1, rfl, rfl, rfl⟩ | ⟨g1, rfl, rfl, rfl⟩
              · have hz2 : (12 : Int) < (cs.length : Int) := by omega
                have c0 := HA.out.one.size
                obtain ⟨e1, e2, e3, e4, e5, e6, e7, e8, e9, e10, e11, e12⟩ := HA.out.one.rows
                have hq := rows_same 0 0 0 0 0 0 0 0 0 0 0 0 w10
                clear g1
                go_wp2_with fail
                go_ret
                exact ⟨rfl, HA.out.below⟩
              · have hz2 : ¬ (12 : Int) < (cs.length : Int) := by omega
                go_wp2_with fail
                have hfun := fun (W : World) (hW : EvS w C (cs.length : Int) (relP (aheadB cs) cs.length) (.slice A1 xs.length c1) v2 v4 xs ps ws W) => callrel_any (HCS.out.below hW.below) hW.below.size (by omega)
                have HF := Lib.hid hfun
                have hF : ∀ w', EvS w C (cs.length : Int) (relP (aheadB cs) cs.length) (.slice A1 xs.length c1) v2 v4 xs ps ws w' → (w'.cell? ⟨C, 0, none⟩ = some (.int .i64 (cs.length : Int)) ∧ w'.cell? ⟨C, 1, none⟩ = some (.int .u16 (relP (aheadB cs) cs.length 0 : Nat)) ∧ w'.cell? ⟨C, 2, none⟩ = some (.int .u16 (relP (aheadB cs) cs.length 1 : Nat)) ∧ w'.cell? ⟨C, 3, none⟩ = some (.int .u16 (relP (aheadB cs) cs.length 2 : Nat)) ∧ w'.cell? ⟨C, 4, none⟩ = some (.int .u16 (relP (aheadB cs) cs.length 3 : Nat)) ∧ w'.cell? ⟨C, 5, none⟩ = some (.int .u16 (relP (aheadB cs) cs.length 4 : Nat)) ∧ w'.cell? ⟨C, 6, none⟩ = some (.int .u16 (relP (aheadB cs) cs.length 5 : Nat)) ∧ w'.cell? ⟨C, 7, none⟩ = some (.int .u16 (relP (aheadB cs) cs.length 6 : Nat)) ∧ w'.cell? ⟨C, 8, none⟩ = some (.int .u16 (relP (aheadB cs) cs.length 7 : Nat)) ∧ w'.cell? ⟨C, 9, none⟩ = some (.int .u16 (relP (aheadB cs) cs.length 8 : Nat)) ∧ w'.cell? ⟨C, 10, none⟩ = some (.int .u16 (relP (aheadB cs) cs.length 9 : Nat)) ∧ w'.cell? ⟨C, 11, none⟩ = some (.int .u16 (relP (aheadB cs) cs.length 10 : Nat)) ∧ w'.cell? ⟨C, 12, none⟩ = some (.int .u16 (relP (aheadB cs) cs.length 11 : Nat)) ∧ EvS w C (cs.length : Int) (relP (aheadB cs) cs.length) (.slice A1 xs.length c1) v2 v4 xs ps ws w') := fun w' h => by
                  obtain ⟨q1, q2, q3, q4, q5, q6, q7, q8, q9, q10, q11, q12⟩ := h.one.rows
                  exact ⟨h.one.size, q1, q2, q3, q4, q5, q6, q7, q8, q9, q10, q11, q12, h⟩
                have HK := Lib.hid hF
                have hq := fun W => rows_same (relP (aheadB cs) cs.length 0 : Nat) (relP (aheadB cs) cs.length 1 : Nat) (relP (aheadB cs) cs.length 2 : Nat) (relP (aheadB cs) cs.length 3 : Nat) (relP (aheadB cs) cs.length 4 : Nat) (relP (aheadB cs) cs.length 5 : Nat) (relP (aheadB cs) cs.length 6 : Nat) (relP (aheadB cs) cs.length 7 : Nat) (relP (aheadB cs) cs.length 8 : Nat) (relP (aheadB cs) cs.length 9 : Nat) (relP (aheadB cs) cs.length 10 : Nat) (relP (aheadB cs) cs.length 11 : Nat) W
                have HR := HA
                have HD := Lib.hid (HA.out.next (Below.refl _ _).drew)
                clear hfun hF HA g1
                go_region_held3 (fun w' => w'.cell? ⟨C, 0, none⟩ = some (.int .i64 (cs.length : Int)) ∧ w'.cell? ⟨C, 1, none⟩ = some (.int .u16 (relP (aheadB cs) cs.length 0 : Nat)) ∧ w'.cell? ⟨C, 2, none⟩ = some (.int .u16 (relP (aheadB cs) cs.length 1 : Nat)) ∧ w'.cell? ⟨C, 3, none⟩ = some (.int .u16 (relP (aheadB cs) cs.length 2 : Nat)) ∧ w'.cell? ⟨C, 4, none⟩ = some (.int .u16 (relP (aheadB cs) cs.length 3 : Nat)) ∧ w'.cell? ⟨C, 5, none⟩ = some (.int .u16 (relP (aheadB cs) cs.length 4 : Nat)) ∧ w'.cell? ⟨C, 6, none⟩ = some (.int .u16 (relP (aheadB cs) cs.length 5 : Nat)) ∧ w'.cell? ⟨C, 7, none⟩ = some (.int .u16 (relP (aheadB cs) cs.length 6 : Nat)) ∧ w'.cell? ⟨C, 8, none⟩ = some (.int .u16 (relP (aheadB cs) cs.length 7 : Nat)) ∧ w'.cell? ⟨C, 9, none⟩ = some (.int .u16 (relP (aheadB cs) cs.length 8 : Nat)) ∧ w'.cell? ⟨C, 10, none⟩ = some (.int .u16 (relP (aheadB cs) cs.length 9 : Nat)) ∧ w'.cell? ⟨C, 11, none⟩ = some (.int .u16 (relP (aheadB cs) cs.length 10 : Nat)) ∧ w'.cell? ⟨C, 12, none⟩ = some (.int .u16 (relP (aheadB cs) cs.length 11 : Nat)) ∧ EvS w C (cs.length : Int) (relP (aheadB cs) cs.length) (.slice A1 xs.length c1) v2 v4 xs ps ws w') ((refine HK.out _ ?_; first | exact HR.out | exact HD.out | exact hN.out | exact (hN.out).next (Below.refl _ _).drew)) (first
                  | (go_at_call 16; refine (HF.out _ HD.out).mono ?_; rintro e w' ⟨rfl, hb'⟩; have hN := Lib.hid ((HD.out).next hb'); clear hb'))
                go_wp2_with fail
                go_ret
                exact ⟨rfl, hN.out.below⟩
end Go.Proofs.Ytebcnhnkpmbgdaa
