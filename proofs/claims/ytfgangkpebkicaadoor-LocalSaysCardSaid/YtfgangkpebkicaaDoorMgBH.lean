/-
  Joined by a program out of: RefLoc, EqSt, LSaysW, HistArg, PowArg, End.
-/
import Derived.Test.YtfgangkpebkicaaDoorMgBF
import Derived.Test.YtfgangkpebkicaaDoorMgBG
import Derived.Test.YtfgangkpebkicaaDoorMgAP
import Derived.Laws.StructEq
import Derived.Deep.QuietTactic
import Derived.BigQuiet
import Derived.Test.YtfgangkpebkicaaDoorMgAS
import Derived.Test.YtfgangkpebkicaaDoorMgBB
import Derived.Test.YtfgangkpebkicaaDoorMgAR
import Derived.Test.YtfgangkpebkicaaDoorMgAT
import Derived.Test.YtfgangkpebkicaaDoorMgAA
import Derived.Test.YtfgangkpebkicaaDoorRows
import Derived.Carry
import Derived.Deep.Slices
import Derived.OpenShut
import Derived.ProofKit
import Derived.Test.YtfgangkpebkicaaDoorMgAQ
import Derived.Lib.LaidTab
import Derived.LaidMore
import Derived.Lay
import Derived.Below

/-
  Contract of alibref.Locals.
-/
namespace Go.Proofs.YtfgangkpebkicaaDoor
open Go.RowKit
set_option maxRecDepth 20000
theorem cntT_all (cs : List Cl) (q : Int) : cntT cs q cs.length = ownN cs q := by
  have h : (prt (fun z => z) q cs).length = (idxQ cs q).length := prt_len
  unfold prt at h
  rw [List.length_map] at h
  exact h.symm
theorem ownN_mem {cs : List Cl} {q : Int} (h : 0 < ownN cs q) : ∃ c ∈ cs, c.thing = q := by
  unfold ownN at h
  obtain ⟨c, hc⟩ := List.exists_mem_of_length_pos h
  rw [List.mem_filter, beq_iff_eq] at hc
  exact ⟨c, hc.1, hc.2⟩
theorem openE_big {ts : List Int} {l : List Ev} (h : (callsOf ts l).2.2 = 0) {q : Int} (hq : 9 < ownN (callsOf ts l).1 q ∨ 12 < (callsOf ts l).1.length) : openE ts l = 2 := by
  unfold openE
  rw [if_neg (by simp [h])]
  by_cases h1 : 12 < (callsOf ts l).1.length
  · rw [if_pos h1]
  · rw [if_neg h1]
    have h2 := hq.resolve_right h1
    obtain ⟨c, hc, e⟩ := ownN_mem (show 0 < ownN (callsOf ts l).1 q by omega)
    rw [if_pos (List.any_eq_true.2 ⟨c, hc, by rw [e]; exact decide_eq_true h2⟩)]
theorem openE_small {ts : List Int} {l : List Ev} (h : (callsOf ts l).2.2 = 0) (hq : ∀ t : Nat, t < ts.length → ¬ (9 < ownN (callsOf ts l).1 (t : Int) ∨ 12 < (callsOf ts l).1.length)) (h1 : 1 ≤ ts.length) : openE ts l = 0 := by
  unfold openE
  rw [if_neg (by simp [h]), if_neg (fun h2 => hq 0 (by omega) (.inr h2)), if_neg]
  rw [List.any_eq_true]
  rintro ⟨c, hc, h2⟩
  have h3 := (calls_callOk h c hc).thing
  refine hq c.thing.toNat (by omega) (.inl ?_)
  rw [Int.toNat_of_nonneg h3.1]
  exact of_decide_eq_true h2
set_option maxHeartbeats 4000000 in
theorem locals_any {tv lv : Value} {ts : List Int} {l : List Ev} {w : World} (ht : NRd w w.heap.size tv ts) (hl : ERd w w.heap.size lv l) :
    Calls Tryd.prog 8 #[tv, lv] w (LOpenPost w (callsOf ts l).1 (openE ts l)) := by
  have HC := Lib.hid (callsOf_any ht hl)
  obtain ⟨At, capt, rfl, -, -⟩ := ht.is
  obtain ⟨Al, capl, rfl, -, -⟩ := hl.is
  clear ht hl
  have hbig := @openE_big ts l
  have hsm := @openE_small ts l
  have hbad : (callsOf ts l).2.2 ≠ 0 → openE ts l = (callsOf ts l).2.2 := fun h => by unfold openE; rw [if_pos h]
  have hty := fun h => (calls_types (ts := ts) (l := l) h)
  have h1 : (callsOf ts l).2.2 = 0 → 1 ≤ ts.length := fun h => by
    have h1 := (calls_zero h).1
    unfold typesB at h1
    rw [Bool.and_eq_true, decide_eq_true_iff] at h1
    exact h1.1.1
  generalize openE ts l = X at hbig hsm hbad ⊢
  generalize callsOf ts l = o at HC hbig hsm hbad hty h1 ⊢
  obtain ⟨cs, at1, E⟩ := o
  simp only at hbig hsm hbad hty h1
  obtain ⟨tl, htl⟩ : ∃ tl, tl = ts.length := ⟨_, rfl⟩
  rw [← htl] at HC hsm hty h1 ⊢
  clear htl
  generalize l.length = L at HC ⊢
  have HP := Lib.hid (And.intro @hbig (And.intro hsm (And.intro hbad (And.intro hty h1))))
  clear hbig hsm hbad hty h1
  go_enter Tryd.func8, Tryd.ntmps8
  go_wp2_with fail
  refine HC.out.mono ?_
  rintro e w1 ⟨v, rfl, hb, hc⟩
  simp only at hc ⊢
  have H1 := Lib.hid hb
  have HCC := Lib.hid hc
  obtain ⟨Ac, cc, rfl, -, hcc⟩ := hc.is
  unfold maxLen at hcc
  clear hb hc HC
  by_cases hE : E = 0
  · subst hE
    obtain ⟨hbig, hsm, -, hty, h1⟩ := HP.out
    have htl4 := hty rfl
    have HQ := Lib.hid (And.intro (@hbig rfl) (And.intro (hsm rfl) (h1 rfl)))
    obtain ⟨n, hn⟩ : ∃ n, n = cs.length := ⟨_, rfl⟩
    have hn8 : n ≤ 9223372036854775807 := by
      obtain ⟨_, _, _, a1, a2⟩ := HCC.out.is
      unfold maxLen at a2
      omega
    have HNN := Lib.hid hn
    rw [← hn] at HCC ⊢
    clear hn hbig hsm hty h1 HP
    have hb0 : Below w1.heap.size w1 w1 := Below.refl _ _
    go_wp2_with fail
    go_loopw [25] (fun i wr => ∃ k : Nat, k ≤ tl ∧ i = .int .i64 k ∧ Below w1.heap.size w1 wr ∧ ∀ t : Nat, t < k → ¬ (9 < ownN cs (t : Int) ∨ 12 < cs.length)) (fun i _ => tl - (intOf i).toNat)
    case atStart => exact ⟨0, by omega, rfl, hb0, fun t h => by omega⟩
    case round =>
      clear hb0
      obtain ⟨k, hk, rfl, hbr, hno⟩ := hrel
      by_cases hkt : k < tl
      · have HBR := Lib.hid (And.intro hbr hno)
        have i1 : (0 : Int) ≤ (k : Int) := by omega
        have i2 : (k : Int) < (tl : Int) := by omega
        have hb0 : Below w1.heap.size w1 wr := hbr
        clear hbr hno
        go_wp2_with fail
        go_loopw [10, 30] (fun c i wq => ∃ t : Nat, t ≤ n ∧ i = .int .i64 t ∧ c = .int .i64 (cntT cs (k : Int) t) ∧ Below w1.heap.size w1 wq) (fun _ i _ => n - (intOf i).toNat)
        case atStart => exact ⟨0, by omega, rfl, rfl, hb0⟩
        case round =>
          clear hb0
          obtain ⟨t, htq, rfl, rfl, hb2⟩ := hrel
          by_cases htt : t < n
          · obtain ⟨y, hy⟩ : ∃ y, cs[t]? = some y := ⟨_, List.getElem?_eq_getElem (by have := HNN.out; omega)⟩
            have hcs2 := cntT_succ cs (k : Int) t
            rw [List.getD_eq_getElem?_getD, hy, Option.getD_some] at hcs2
            have hct := cntT_le cs (k : Int) t
            obtain ⟨g3, o3, rfl, -, y0, y1, y2, y3, y4, y5, y6⟩ := (HCC.out.below hb2).cl hy
            have t1 : (0 : Int) ≤ (t : Int) := by omega
            have t2 : (t : Int) < (n : Int) := by omega
            have HB2 := Lib.hid hb2
            clear hb2 hy
            generalize y.thing = yt at y1 hcs2
            by_cases h3 : yt = (k : Int)
            · have hz : (yt == (k : Int)) = true := by rw [beq_iff_eq]; exact h3
              rw [if_pos h3] at hcs2
              clear h3
              have HC2 := Lib.hid hcs2
              clear hcs2
              generalize cntT cs (k : Int) t = c1 at hct HC2 ⊢
              go_wp2_with fail
              go_roundw
              case rel => exact ⟨t + 1, by omega, by go_num, by rw [HC2.out]; go_num, HB2.out.alloc HB2.out.size _⟩
              case measure => simp [intOf]; omega
            · have hz : (yt == (k : Int)) = false := by rw [beq_eq_false_iff_ne]; exact h3
              rw [if_neg h3] at hcs2
              have HC2 := Lib.hid hcs2
              clear h3 hcs2
              go_wp2_with fail
              go_roundw
              case rel => exact ⟨t + 1, by omega, by go_num, by rw [HC2.out]; rfl, HB2.out.alloc HB2.out.size _⟩
              case measure => simp [intOf]; omega
          · obtain rfl : t = n := by omega
            have hcn : cntT cs (k : Int) t = ownN cs (k : Int) := by rw [HNN.out]; exact cntT_all _ _
            rw [hcn]
            have hle : ownN cs (k : Int) ≤ t := by rw [← hcn]; exact cntT_le _ _ _
            have HB2 := Lib.hid hb2
            have hbq := @HQ.out.1
            have hno := HBR.out.2
            have hbg : 9 < ownN cs (k : Int) ∨ 12 < cs.length → X = 2 := fun h => hbq h
            have HBG := Lib.hid hbg
            have HNO := Lib.hid hno
            have HON := Lib.hid (show ∃ q, q = ownN cs (k : Int) from ⟨_, rfl⟩)
            obtain ⟨q, hq⟩ := HON.out
            rw [← hq] at HBG hle ⊢
            have HQQ := Lib.hid hq
            clear hcn hbq hno hbg HON hq hb2
            by_cases h5 : 9 < q
            · have h6 : (9 : Int) < (q : Int) := by omega
              have hX := HBG.out (.inl h5)
              subst hX
              go_wp2_with fail
              go_ret2
              exact ⟨H1.out.trans (HB2.out.mono H1.out.size), _, rfl, (fun h => by cases h), fun _ => rfl⟩
            · by_cases h7 : 12 < t
              · have h6 : ¬ (9 : Int) < (q : Int) := by omega
                have h8 : (12 : Int) < (t : Int) := by omega
                have hX := HBG.out (.inr (by rw [← HNN.out]; exact h7))
                subst hX
                go_wp2_with fail
                go_ret2
                exact ⟨H1.out.trans (HB2.out.mono H1.out.size), _, rfl, (fun h => by cases h), fun _ => rfl⟩
              · have h6 : ¬ (9 : Int) < (q : Int) := by omega
                have h8 : ¬ (12 : Int) < (t : Int) := by omega
                go_wp2_with fail
                go_roundw
                case rel => exact ⟨k + 1, by omega, by go_num, HB2.out, fun u hu => by
                  rcases Nat.lt_or_ge u k with h9 | h9
                  · exact HNO.out u h9
                  · obtain rfl : u = k := by omega
                    rw [← HQQ.out, ← HNN.out]
                    omega⟩
                case measure => simp [intOf]; omega
      · obtain rfl : k = tl := by omega
        have hX := HQ.out.2.1 hno HQ.out.2.2
        subst hX
        have HB := Lib.hid hbr
        clear hbr hno
        go_wp2_with fail
        go_ret2
        exact ⟨H1.out.trans (HB.out.mono H1.out.size), _, rfl, fun _ => (HCC.out.below HB.out).mono HB.out.size, fun h => absurd rfl h⟩
  · have hez : (E != 0) = true := by rw [bne_iff_ne]; exact hE
    obtain rfl := HP.out.2.2.1 hE
    have HE := Lib.hid hE
    clear hE HP
    generalize cs.length = n
    go_wp2_with fail
    go_ret2
    exact ⟨H1.out, _, rfl, fun h => absurd h HE.out, fun _ => rfl⟩
end Go.Proofs.YtfgangkpebkicaaDoor

/-
  slices.Equal of two lists of steps.
-/
namespace Go.Proofs.YtfgangkpebkicaaDoor
open Go.RowKit
set_option maxRecDepth 20000

theorem take_eqS {α : Type} {xs ys : List α} (hl : xs.length = ys.length) (h : ∀ (j : Nat) (x y : α), xs[j]? = some x → ys[j]? = some y → x = y) : xs = ys := by
  apply List.ext_getElem hl
  intro j h1 h2
  exact h j _ _ (List.getElem?_eq_getElem h1) (List.getElem?_eq_getElem h2)
/-- The first field in which two steps differ. -/
theorem st_ne (x0 x1 y0 y1 : Int) (h : (x0, x1) ≠ (y0, y1)) : (x0 == y0) = false ∨ (x0 = y0 ∧ (x1 == y1) = false) := by
  simp only [beq_eq_false_iff_ne]
  by_cases h0 : x0 = y0
  · by_cases h1 : x1 = y1
    · exact absurd (by rw [h0, h1]) h
    · simp [*]
  · simp [*]

set_option maxHeartbeats 2000000 in
theorem eqSt_any {B1 B2 : Nat} {v1 v2 : Value} {xs ys : List (Int × Int)} {w : World} (h1 : SRd w B1 v1 xs) (h2 : SRd w B2 v2 ys) :
    Calls Tryd.prog 10 #[v1, v2] w fun e w' => e = .returned (.bool (decide (xs = ys))) ∧ Below w.heap.size w w' := by
  obtain ⟨A1, c1, rfl, m1, m2⟩ := h1.is
  obtain ⟨A2, c2, rfl, m3, m4⟩ := h2.is
  unfold maxLen at m2 m4
  have H1 := Lib.hid h1
  have H2 := Lib.hid h2
  clear h1 h2
  obtain ⟨n, hn⟩ : ∃ n, n = xs.length := ⟨_, rfl⟩
  obtain ⟨n', hn'⟩ : ∃ n, n = ys.length := ⟨_, rfl⟩
  rw [← hn, ← hn']
  rw [← hn] at m1
  rw [← hn'] at m3
  have HN := Lib.hid hn
  have HN' := Lib.hid hn'
  clear hn hn'
  by_cases hl : n = n'
  · subst hl
    go_enter Tryd.func10, Tryd.ntmps10
    go_wp2_with fail
    go_loopw [13] (fun i wr => ∃ k : Nat, k ≤ n ∧ i = .int .i64 k ∧ (∀ (j : Nat) (x y : Int × Int), j < k → xs[j]? = some x → ys[j]? = some y → x = y) ∧ ∃ nq, wr = w.drewN nq) (fun i _ => n - (intOf i).toNat)
    case atStart => exact ⟨0, by omega, rfl, fun j x y hj => by omega, 0, rfl⟩
    case round =>
      obtain ⟨k, hk, rfl, ha, nq, rfl⟩ := hrel
      have HA := Lib.hid ha
      clear ha
      by_cases hkn : k < n
      · obtain ⟨x, hx⟩ : ∃ x, xs[k]? = some x := ⟨_, List.getElem?_eq_getElem (by rw [← HN.out]; exact hkn)⟩
        obtain ⟨y, hy⟩ : ∃ y, ys[k]? = some y := ⟨_, List.getElem?_eq_getElem (by rw [← HN'.out]; exact hkn)⟩
        have h1' := H1.out
        have h2' := H2.out
        rw [← HN.out] at h1'
        rw [← HN'.out] at h2'
        obtain ⟨g1, o1, rfl, -, b0, b1⟩ := h1'.sp hx
        obtain ⟨g2, o2, rfl, -, d0, d1⟩ := h2'.sp hy
        have HX := Lib.hid (And.intro hx hy)
        clear h1' h2' hx hy
        have i1 : (0 : Int) ≤ (k : Int) := by omega
        have i2 : (k : Int) < (n : Int) := by omega
        by_cases hxy : x = y
        · have HXY := Lib.hid hxy
          subst hxy
          obtain ⟨x0, x1⟩ := x
          go_wp2_with fail
          go_quiet (fail)
          go_wp2_with fail
          go_roundw
          case rel => exact ⟨k + 1, by omega, by go_num, fun j a b hj ha hb => by
            rcases Nat.lt_or_ge j k with h | h
            · exact HA.out j a b h ha hb
            · obtain rfl : j = k := by omega
              rw [HX.out.1] at ha
              rw [HX.out.2] at hb
              exact Option.some.inj (ha.symm.trans hb), _, rfl⟩
          case measure => simp [intOf]; omega
        · obtain ⟨x0, x1⟩ := x
          obtain ⟨y0, y1⟩ := y
          simp only at b0 b1 d0 d1
          have hz := st_ne _ _ _ _ hxy
          have HXY := Lib.hid hxy
          clear hxy
          rcases hz with hz | ⟨rfl, hz⟩
          all_goals (
            go_wp2_with fail
            go_quiet (fail)
            go_wp2_with fail
            go_ret
            exact ⟨ret_bool (decide_eq_false (fun e => HXY.out (by
              have h1 := HX.out.1
              rw [e, HX.out.2] at h1
              exact (Option.some.inj h1).symm))).symm, belowN (belowN (Below.refl _ _) _) _⟩)
      · obtain rfl : k = n := by omega
        go_wp2_with fail
        go_ret
        exact ⟨ret_bool (decide_eq_true (take_eqS (HN.out.symm.trans HN'.out) (fun j x y hx hy => HA.out j x y (by rw [HN.out]; exact (List.getElem?_eq_some_iff.1 hx).1) hx hy))).symm, belowN (Below.refl _ _) _⟩
  · have hz : ((n : Int) != (n' : Int)) = true := by rw [bne_iff_ne]; omega
    have hne : decide (xs = ys) = false := decide_eq_false (fun e => hl (by rw [HN.out, HN'.out, e]))
    rw [hne]
    clear hne hl
    go_enter Tryd.func10, Tryd.ntmps10
    go_wp2_with fail
    go_ret
    exact ⟨rfl, Below.refl _ _⟩
end Go.Proofs.YtfgangkpebkicaaDoor

/-
  aliblaw.LocalSays answers true, whatever is handed in.
-/
namespace Go.Proofs.YtfgangkpebkicaaDoor
open Go.RowKit Go.Maps
set_option maxRecDepth 20000

/-- Have all of the first k an order? -/
def allP (ts : List Int) (l : List Ev) (k : Nat) : Bool := (List.range k).all fun t => pB ts l t
theorem allP_succ (ts : List Int) (l : List Ev) (k : Nat) : allP ts l (k + 1) = (allP ts l k && pB ts l k) := by
  unfold allP
  rw [List.range_succ, List.all_append]
  simp
theorem allP_iff {ts : List Int} {l : List Ev} {k : Nat} : allP ts l k = true ↔ ∀ t, t < k → pB ts l t = true := by
  unfold allP
  rw [List.all_eq_true]
  exact ⟨fun h t ht => h t (List.mem_range.2 ht), fun h t ht => h t (List.mem_range.1 ht)⟩
theorem st_nil_neL (w : World) : (binOp .neq 34 (.slice none 0 0) (.slice none 0 0)).run Tryd.prog w = .ok (.bool false) w := by kernel_rfl
theorem st_some_neL (a : Addr) (m c : Nat) (w : World) : (binOp .neq 34 (.slice (some a) m c) (.slice none 0 0)).run Tryd.prog w = .ok (.bool true) w := by kernel_rfl
set_option maxHeartbeats 16000000 in
theorem lsays_any {tv lv : Value} {ts : List Int} {l : List Ev} {w : World} (ht : NRd w w.heap.size tv ts) (hl : ERd w w.heap.size lv l) (hp : Pow10 w.heap.size w) :
    Calls Tryd.prog 3 #[tv, lv] w fun e w' => e = .returned (.bool true) ∧ Below w.heap.size w w' := by
  have HPA := Lib.hid (lparts_any ht hl hp)
  have HIN := Lib.hid (And.intro ht (And.intro hl hp))
  obtain ⟨At, capt, rfl, t1, t2⟩ := ht.is
  obtain ⟨Al, capl, rfl, -, -⟩ := hl.is
  unfold maxLen at t2
  obtain ⟨tl, htl⟩ : ∃ tl, tl = ts.length := ⟨_, rfl⟩
  obtain ⟨L, hL⟩ : ∃ L, L = l.length := ⟨_, rfl⟩
  rw [← htl, ← hL] at HPA HIN
  rw [← htl, ← hL]
  rw [← htl] at t1
  have HTL := Lib.hid htl
  clear ht hl hp htl hL
  go_enter Tryd.func3, Tryd.ntmps3
  by_cases hX : openE ts l = 0
  · have HX := Lib.hid hX
    go_wp2_with fail
    refine HPA.out.mono ?_
    rintro e w1 ⟨hb1, ⟨h, -⟩ | ⟨-, gp, rfl, hbt⟩⟩
    · exact absurd hX h
    have HOR := Lib.hid (lorders_any ((HIN.out.1.below hb1).mono hb1.size) ((HIN.out.2.1.below hb1).mono hb1.size) ((HIN.out.2.2.on hb1).mono hb1.size))
    have H1 := Lib.hid (And.intro hb1 hbt)
    clear hb1 hbt HPA hX
    go_wp2_with fail
    refine HOR.out.mono ?_
    intro e w2 hor
    unfold LOrdPost at hor
    obtain ⟨hb2, hor⟩ := hor
    have hbw := H1.out.1.trans (hb2.mono H1.out.1.size)
    have hbt2 : BTab w2 gp tl (pB ts l) := Lies.below H1.out.2 hb2 (Lies.lt H1.out.2)
    have HLO := Lib.hid (locals_any ((HIN.out.1.below hbw).mono hbw.size) ((HIN.out.2.1.below hbw).mono hbw.size))
    have H2 := Lib.hid (And.intro hbw hbt2)
    rw [HX.out] at hor HLO
    rw [← HTL.out] at hor
    clear hbw hbt2 HOR
    rcases hor with ⟨h, -⟩ | ⟨-, hex, rfl⟩ | ⟨-, hall, g, F, rfl, hgB, hvt, hown⟩
    · exact absurd rfl h
    · have HEX := Lib.hid hex
      clear hex hb2 H1
      go_wp2_with fail
      refine HLO.out.mono ?_
      rintro e w3 ⟨hb3, vc, rfl, hc1, -⟩
      have hc3 := hc1 rfl
      have H3 := Lib.hid (And.intro (H2.out.1.trans (hb3.mono H2.out.1.size)) (And.intro (show BTab w3 gp tl (pB ts l) from Lies.below H2.out.2 hb3 (Lies.lt H2.out.2)) hc3))
      clear hb3 hc1 hc3 HLO H2
      go_wp2_with fail
      go_loopw [11, 63] (fun al i wr => ∃ k : Nat, k ≤ tl ∧ i = .int .i64 k ∧ al = .bool (allP ts l k) ∧ Below w.heap.size w wr ∧ Below w3.heap.size w3 wr) (fun _ i _ => tl - (intOf i).toNat)
      case atStart => exact ⟨0, by omega, rfl, rfl, H3.out.1, Below.refl _ _⟩
      case round =>
        obtain ⟨k, hk, rfl, rfl, hb, hbb⟩ := hrel
        by_cases hkT : k < tl
        · have hbc : BTab wr gp tl (pB ts l) := Lies.below H3.out.2.1 hbb (Lies.lt H3.out.2.1)
          have hcr := (H3.out.2.2.below hbb).mono hbb.size
          have HOW := Lib.hid (lown_any HX.out ((HIN.out.1.below hb).mono hb.size) hcr k)
          have i1 : (0 : Int) ≤ (k : Int) := by omega
          have i2 : (k : Int) < (tl : Int) := by omega
          have hpo := pB_own HX.out k
          have has := allP_succ ts l k
          have HB := Lib.hid (And.intro hb (And.intro hbb (And.intro hbc has)))
          obtain ⟨pk, hpk⟩ : ∃ pk, pk = pB ts l k := ⟨_, rfl⟩
          rw [← hpk] at hpo has
          have HPK := Lib.hid (And.intro hpk (And.intro hpo has))
          obtain ⟨ak, hak⟩ : ∃ ak, ak = allP ts l k := ⟨_, rfl⟩
          rw [← hak] at HPK ⊢
          clear hb hbb hbc hcr hpo has hpk hak
          go_wp2_with fail
          refine HOW.out.mono ?_
          rintro e w4 ⟨hb4, ⟨hn, rfl⟩ | ⟨S, a, m, c, hs, rfl, -⟩⟩
          · obtain rfl : pk = false := by rw [HPK.out.2.1, hn]; rfl
            have d0 : w4.cell? ⟨gp, k, none⟩ = some (.bool false) := by
              have h4 : BTab w4 gp tl (pB ts l) := Lies.below HB.out.2.2.1 hb4 (Lies.lt HB.out.2.2.1)
              rw [h4.cell hkT, ← HPK.out.1]
            have H4 := Lib.hid (And.intro (HB.out.1.trans (hb4.mono HB.out.1.size)) (HB.out.2.1.trans (hb4.mono HB.out.2.1.size)))
            have hq1 := fun W : World => st_nil_neL W
            clear hb4 hn HOW
            cases ak
            · go_wp2_with fail
              go_roundw
              case rel => exact ⟨k + 1, by omega, by go_num, by rw [HPK.out.2.2]; rfl, H4.out.1, H4.out.2⟩
              case measure => simp [intOf]; omega
            · go_wp2_with fail
              go_roundw
              case rel => exact ⟨k + 1, by omega, by go_num, by rw [HPK.out.2.2]; rfl, H4.out.1, H4.out.2⟩
              case measure => simp [intOf]; omega
          · obtain rfl : pk = true := by rw [HPK.out.2.1, hs]; rfl
            have d0 : w4.cell? ⟨gp, k, none⟩ = some (.bool true) := by
              have h4 : BTab w4 gp tl (pB ts l) := Lies.below HB.out.2.2.1 hb4 (Lies.lt HB.out.2.2.1)
              rw [h4.cell hkT, ← HPK.out.1]
            have H4 := Lib.hid (And.intro (HB.out.1.trans (hb4.mono HB.out.1.size)) (HB.out.2.1.trans (hb4.mono HB.out.2.1.size)))
            have hq2 := fun W : World => st_some_neL a m c W
            clear hb4 hs HOW
            cases ak
            · go_wp2_with fail
              go_roundw
              case rel => exact ⟨k + 1, by omega, by go_num, by rw [HPK.out.2.2]; rfl, H4.out.1, H4.out.2⟩
              case measure => simp [intOf]; omega
            · go_wp2_with fail
              go_roundw
              case rel => exact ⟨k + 1, by omega, by go_num, by rw [HPK.out.2.2]; rfl, H4.out.1, H4.out.2⟩
              case measure => simp [intOf]; omega
        · obtain rfl : k = tl := by omega
          have haf : allP ts l k = false := by
            rw [Bool.eq_false_iff]
            intro h
            obtain ⟨t, ht, hf⟩ := HEX.out
            rw [allP_iff.1 h t ht] at hf
            cases hf
          rw [haf]
          have HB := Lib.hid hb
          clear hb hbb haf
          go_wp2_with fail
          go_ret
          exact ⟨rfl, HB.out⟩
    · have HF := Lib.hid hall
      have HV := Lib.hid (And.intro hvt hown)
      have HG := Lib.hid hgB
      clear hall hvt hown hgB hb2 H1
      go_wp2_with fail
      refine HLO.out.mono ?_
      rintro e w3 ⟨hb3, vc, rfl, hc1, -⟩
      have hc3 := hc1 rfl
      have H3 := Lib.hid (And.intro (H2.out.1.trans (hb3.mono H2.out.1.size)) (And.intro (show BTab w3 gp tl (pB ts l) from Lies.below H2.out.2 hb3 (Lies.lt H2.out.2)) (And.intro hc3 (And.intro (show VTab w3 g tl F from Lies.below HV.out.1 hb3 (Lies.lt HV.out.1)) (fun t ht => (HV.out.2 t ht).below hb3)))))
      clear hb3 hc1 hc3 HLO H2 HV
      go_wp2_with fail
      go_loopw [11, 63] (fun al i wr => ∃ k : Nat, k ≤ tl ∧ i = .int .i64 k ∧ al = .bool true ∧ Below w.heap.size w wr ∧ Below w3.heap.size w3 wr) (fun _ i _ => tl - (intOf i).toNat)
      case atStart => exact ⟨0, by omega, rfl, rfl, H3.out.1, Below.refl _ _⟩
      case round =>
        obtain ⟨k, hk, rfl, rfl, hb, hbb⟩ := hrel
        by_cases hkT : k < tl
        · have hbc : BTab wr gp tl (pB ts l) := Lies.below H3.out.2.1 hbb (Lies.lt H3.out.2.1)
          have hcr := (H3.out.2.2.1.below hbb).mono hbb.size
          have hvr : VTab wr g tl F := Lies.below H3.out.2.2.2.1 hbb (Lies.lt H3.out.2.2.2.1)
          have hrow := ((H3.out.2.2.2.2 k hkT).below hbb)
          have HOW := Lib.hid (lown_any HX.out ((HIN.out.1.below hb).mono hb.size) hcr k)
          have i1 : (0 : Int) ≤ (k : Int) := by omega
          have i2 : (k : Int) < (tl : Int) := by omega
          have hpo := pB_own HX.out k
          have hor := ordL_own HX.out k
          have hpk := HF.out k hkT
          have HB := Lib.hid (And.intro hb (And.intro hbb (And.intro hbc (And.intro hvr hrow))))
          have HPK := Lib.hid (And.intro hpk (And.intro hpo hor))
          clear hb hbb hbc hcr hpo hpk hor hvr hrow
          go_wp2_with fail
          refine HOW.out.mono ?_
          rintro e w4 ⟨hb4, ⟨hn, rfl⟩ | ⟨S, a, m, c, hs, rfl, how⟩⟩
          · have h := HPK.out.1
            rw [HPK.out.2.1, hn] at h
            cases h
          · have d0 : w4.cell? ⟨gp, k, none⟩ = some (.bool true) := by
              have h4 : BTab w4 gp tl (pB ts l) := Lies.below HB.out.2.2.1 hb4 (Lies.lt HB.out.2.2.1)
              rw [h4.cell hkT, HPK.out.1]
            have d1 : w4.cell? ⟨g, k, none⟩ = some (F k) := by
              have h4 : VTab w4 g tl F := Lies.below HB.out.2.2.2.1 hb4 (Lies.lt HB.out.2.2.2.1)
              exact h4.cell hkT
            have hee : Calls Tryd.prog 10 #[F k, .slice (some a) m c] w4 fun e w' => e = .returned (.bool true) ∧ Below w4.heap.size w4 w' := by
              have h := eqSt_any (HB.out.2.2.2.2.below hb4).rd how.rd
              rw [HPK.out.2.2, hs, Option.getD_some, decide_eq_true rfl] at h
              exact h
            obtain ⟨Af, cf, hFk, -, -⟩ := (HB.out.2.2.2.2.below hb4).rd.is
            have HEE := Lib.hid hee
            have H4 := Lib.hid (And.intro (HB.out.1.trans (hb4.mono HB.out.1.size)) (HB.out.2.1.trans (hb4.mono HB.out.2.1.size)))
            have hq2 := fun W : World => st_some_neL a m c W
            generalize F k = Fk at d1 HEE hFk
            clear hb4 hs HOW how hee hFk
            go_wp2_with fail
            refine HEE.out.mono ?_
            rintro e w5 ⟨rfl, hb5⟩
            have hsz : w.heap.size ≤ w4.heap.size := H4.out.1.size
            have hsz3 : w3.heap.size ≤ w4.heap.size := H4.out.2.size
            have H5 := Lib.hid (And.intro (H4.out.1.trans (hb5.mono hsz)) (H4.out.2.trans (hb5.mono hsz3)))
            clear hb5 HEE hsz hsz3
            go_wp2_with fail
            go_roundw
            case rel => exact ⟨k + 1, by omega, by go_num, rfl, H5.out.1, H5.out.2⟩
            case measure => simp [intOf]; omega
        · obtain rfl : k = tl := by omega
          have HB := Lib.hid hb
          clear hb hbb
          go_wp2_with fail
          go_ret
          exact ⟨rfl, HB.out⟩
  · have bX : (openE ts l == 0) = false := beq_eq_false_iff_ne.2 hX
    have bY : (openE ts l != 0) = true := by rw [bne_iff_ne]; exact hX
    have bZ : (openE ts l == openE ts l) = true := by rw [beq_iff_eq]
    have HOR := Lib.hid (fun W (hb : Below w.heap.size w W) => lorders_any ((HIN.out.1.below hb).mono hb.size) ((HIN.out.2.1.below hb).mono hb.size) ((HIN.out.2.2.on hb).mono hb.size))
    have HLO := Lib.hid (fun W (hb : Below w.heap.size w W) => locals_any ((HIN.out.1.below hb).mono hb.size) ((HIN.out.2.1.below hb).mono hb.size))
    have HX := Lib.hid hX
    generalize openE ts l = X at bX bY bZ HPA HOR HLO HX hX
    clear hX
    go_wp2_with fail
    refine HPA.out.mono ?_
    rintro e w1 ⟨hb1, ⟨-, rfl⟩ | ⟨h, -⟩⟩
    · have HO1 := Lib.hid (HOR.out w1 hb1)
      have H1 := Lib.hid hb1
      clear hb1 HPA
      go_wp2_with fail
      refine HO1.out.mono ?_
      intro e w2 hor
      obtain ⟨hb2, ⟨-, rfl⟩ | ⟨h, -⟩ | ⟨h, -⟩⟩ := hor
      · have hbw := H1.out.trans (hb2.mono H1.out.size)
        have HL1 := Lib.hid (HLO.out w2 hbw)
        have H2 := Lib.hid hbw
        clear hb2 hbw HO1
        go_wp2_with fail
        refine HL1.out.mono ?_
        rintro e w3 ⟨hb3, vc, rfl, -, -⟩
        have H3 := Lib.hid (H2.out.trans (hb3.mono H2.out.size))
        clear hb3 HL1
        go_wp2_with fail
        go_ret
        exact ⟨rfl, H3.out⟩
      · exact absurd h HX.out
      · exact absurd h HX.out
    · exact absurd h HX.out
end Go.Proofs.YtfgangkpebkicaaDoor

/-
  Slices of numbers, of events, of calls as arguments of a law.
-/
namespace Go.Proofs.YtfgangkpebkicaaDoor
open Go.RowKit Go.ChangeShapes Go.WideShapes Go.ChangeAt
set_option maxRecDepth 20000
theorem laidOutIt : laidOutB Tryd.prog = true := by kernel_rfl
theorem evShape : ∃ f0 f1 f2 f3, Tryd.prog.underlying 84 = some (.struct #[f0, f1, f2, f3]) ∧ (f0.type = 3 ∧ f0.offset = 0) ∧ (f1.type = 3 ∧ f1.offset = 1) ∧ (f2.type = 3 ∧ f2.offset = 2) ∧ (f3.type = 3 ∧ f3.offset = 3) :=
  ⟨_, _, _, _, Tryd.underlying84, ⟨rfl, rfl⟩, ⟨rfl, rfl⟩, ⟨rfl, rfl⟩, rfl, rfl⟩
theorem evSize : Tryd.prog.cellsOf 84 = 4 := by kernel_rfl
theorem clSize : Tryd.prog.cellsOf 51 = 7 := by kernel_rfl
theorem intSize : Tryd.prog.cellsOf 3 = 1 := by kernel_rfl
theorem cell_in {w : World} {p : Addr} {v : Value} (h : w.cell? p = some v) : p.block < w.heap.size := World.block_lt_of_cell? w p h
theorem plus_plain (g o j : Nat) : (⟨g, o, none⟩ : Addr).add j = ⟨g, o + j, none⟩ := WideShapes.add_plain g o j
section
variable {H : Type} {enc : TypeId × Value → H} {α : Type} {s : Nat} {f : α → List Value}
/-- A slice whose elements read each as one of α reads as a list of these. -/
theorem open_list {t e : TypeId} (ht : Tryd.prog.underlying t = some (.slice e)) (hs : Tryd.prog.cellsOf e = s) (hs0 : 0 < s) (hf : ∀ x, (f x).length = s) {w : World} {r : Reach} {b0 : Nat} {v : Value} {d : DataW H} {p : List MemPlace}
    (key : ∀ (fuel : Nat) (cs : List Value) (x : DataW H × List MemPlace), DataW.trod enc Tryd.prog w 0 (fun _ => true) true fuel e cs = some x → ∃ y : α, cs = f y)
    (hv : Value.okWide Tryd.prog w r b0 t v) (h : DataW.Trod enc Tryd.prog w 0 (fun _ => true) true t v d p) : ∃ l : List α, LRd s f w w.heap.size v l := by
  obtain ⟨A, len, cap, rfl⟩ := okWide_slice ht hv
  obtain ⟨fuel, hfu⟩ := h
  rcases Deep.open_slice ht hfu with ⟨hc, _⟩ | ⟨a, len', cap', m, n, D, Pl, hc, _, hl, hm, hmm, _, hi⟩
  · simp only [Value.cells, List.cons.injEq, Value.slice.injEq, and_true] at hc
    obtain ⟨rfl, rfl, rfl⟩ := hc
    exact ⟨[], LRd.nil _ _⟩
  · simp only [Value.cells, List.cons.injEq, Value.slice.injEq, and_true] at hc
    obtain ⟨rfl, rfl, rfl⟩ := hc
    rw [hs] at hi
    have hlm : len ≤ m := by rw [hmm]; split <;> omega
    have each : ∀ i, i < len → ∃ y : α, ∀ j u, (f y)[j]? = some u → w.cell? (a.add (i * s + j)) = some u := by
      intro i hil
      obtain ⟨cs, hcs, htr⟩ := hi i (by omega)
      obtain ⟨_, hlen, hcell⟩ := World.cells?_some hcs
      obtain ⟨y, rfl⟩ := key _ _ _ htr
      refine ⟨y, fun j u hu => ?_⟩
      have hj : j < s := by rw [← hf y]; exact (List.getElem?_eq_some_iff.1 hu).1
      have := hcell j hj
      rw [Deep.add_add] at this
      rw [this, hu]
    have pick : ∃ l : List α, l.length = len ∧ ∀ k x, l[k]? = some x → ∀ j u, (f x)[j]? = some u → w.cell? (a.add (k * s + j)) = some u := by
      have all : ∀ q, q ≤ len → ∃ l : List α, l.length = q ∧ ∀ k x, l[k]? = some x → ∀ j u, (f x)[j]? = some u → w.cell? (a.add (k * s + j)) = some u := by
        intro q
        induction q with
        | zero => intro _; exact ⟨[], rfl, fun k x h => by simp at h⟩
        | succ q ih =>
          intro hq
          obtain ⟨l, hl1, hl2⟩ := ih (by omega)
          obtain ⟨y, hy⟩ := each q (by omega)
          refine ⟨l ++ [y], by simp [hl1], fun k x hk => ?_⟩
          rw [List.getElem?_append] at hk
          split at hk
          · exact hl2 k x hk
          · have hkq : k = q := by
              have := (List.getElem?_eq_some_iff.1 hk).1
              simp at this
              omega
            subst hkq
            rw [hl1, Nat.sub_self] at hk
            injection hk with hk
            subst hk
            exact hy
      exact all len (Nat.le_refl _)
    obtain ⟨l, hl1, hl2⟩ := pick
    subst hl1
    refine ⟨l, some a, cap, rfl, hl, hm, fun h0 => ?_⟩
    obtain ⟨g, o, spot⟩ := a
    have h00 : ∃ u, (f l[0])[0]? = some u := ⟨_, List.getElem?_eq_getElem (by rw [hf]; exact hs0)⟩
    obtain ⟨u, hu⟩ := h00
    have h1 := hl2 0 l[0] (List.getElem?_eq_getElem h0) 0 u hu
    have hspot : spot = none := by simpa [Addr.add] using World.cell?_spot h1
    subst hspot
    have hg := cell_in h1
    rw [plus_plain] at hg
    refine ⟨g, o, rfl, hg, fun k x hk j u hu => ?_⟩
    have := hl2 k x hk j u hu
    rwa [plus_plain, ← Nat.add_assoc] at this
theorem open_nums {w : World} {r : Reach} {b0 : Nat} {v : Value} {d : DataW H} {p : List MemPlace} (hv : Value.okWide Tryd.prog w r b0 22 v) (h : DataW.Trod enc Tryd.prog w 0 (fun _ => true) true 22 v d p) : ∃ l, NRd w w.heap.size v l :=
  open_list Tryd.underlying22 intSize (by decide) (fun _ => rfl) (fun fuel cs x h => by
    obtain ⟨n, h1, _, _⟩ := DataW.trod_int Tryd.underlying3 h
    exact ⟨n, h1⟩) hv h
theorem open_evs {w : World} {r : Reach} {b0 : Nat} {v : Value} {d : DataW H} {p : List MemPlace} (hv : Value.okWide Tryd.prog w r b0 23 v) (h : DataW.Trod enc Tryd.prog w 0 (fun _ => true) true 23 v d p) : ∃ l, ERd w w.heap.size v l :=
  open_list Tryd.underlying23 evSize (by decide) (fun _ => rfl) (fun fuel cs x h => by
    obtain ⟨f0, f1, f2, f3, hs, ⟨t0, o0⟩, ⟨t1, o1⟩, ⟨t2, o2⟩, t3, o3⟩ := evShape
    obtain ⟨xs, n, _, _, hlen, hxl, hg⟩ := DataW.trod_struct hs h
    rw [evSize] at hlen
    have hxl' : xs.length = 4 := hxl
    have g0 := hg 0 f0 rfl
    have g1 := hg 1 f1 rfl
    have g2 := hg 2 f2 rfl
    have g3 := hg 3 f3 rfl
    rw [t0, o0, intSize, List.getElem?_eq_getElem (by omega)] at g0
    rw [t1, o1, intSize, List.getElem?_eq_getElem (by omega)] at g1
    rw [t2, o2, intSize, List.getElem?_eq_getElem (by omega)] at g2
    rw [t3, o3, intSize, List.getElem?_eq_getElem (by omega)] at g3
    obtain ⟨n0, e0, _, _⟩ := DataW.trod_int Tryd.underlying3 g0
    obtain ⟨n1, e1, _, _⟩ := DataW.trod_int Tryd.underlying3 g1
    obtain ⟨n2, e2, _, _⟩ := DataW.trod_int Tryd.underlying3 g2
    obtain ⟨n3, e3, _, _⟩ := DataW.trod_int Tryd.underlying3 g3
    match cs, hlen, e0, e1, e2, e3 with
    | [c0, c1, c2, c3], _, e0, e1, e2, e3 =>
      simp at e0 e1 e2 e3
      subst e0 e1 e2 e3
      exact ⟨⟨n0, n1, n2, n3⟩, rfl⟩) hv h
end
end Go.Proofs.YtfgangkpebkicaaDoor

/-
  The three listed tables: the powers of ten as they lie. Slices of steps as arguments.
-/
namespace Go.Proofs.YtfgangkpebkicaaDoor
open Go.ChangeShapes Go.WideShapes Go.ChangeAt Go.RowKit
set_option maxRecDepth 20000
def tab3Laid : List (String × DataW Unit) := [("math/bits.deBruijn32tab", Rows.laid_math_bits_deBruijn32tab), ("math/bits.deBruijn64tab", Rows.laid_math_bits_deBruijn64tab), ("internal/strconv.uint64pow10", Rows.laid_internal_strconv_uint64pow10)]
theorem laid_behind {P : Program} {x : String × DataW Unit} {rest : List (String × DataW Unit)} {W : World} (h : laidMet P (x :: rest) W) : laidMet P rest W := by
  obtain ⟨ps, ⟨g', t', cs, fuel, p, q, hg', ht', hvar, hd, hrest, hps⟩, hn, hc⟩ := h
  subst hps
  exact ⟨q, hrest, (List.nodup_append.1 hn).2.1, fun b off hm => hc b off (List.mem_append.2 (.inr hm))⟩
theorem pow_of_laid {W : World} (h : laidMetH Tryd.prog tab3Laid W) : Pow10 W.heap.size W := by
  rw [MakeChecks.laidMetH_plain _ _ _ (by kernel_rfl)] at h
  have h3 := laid_behind (laid_behind h)
  have hT : Lib.TabIs Tryd.prog W "internal/strconv.uint64pow10" .u64 Lib.pow10Tab :=
    Lib.tabIs_of_head (rest := []) (show Tryd.prog.globalNamed "internal/strconv.uint64pow10" = some 1 by kernel_rfl) (show (Tryd.prog.globals[1]?).map (·.type) = some 202 by kernel_rfl) Tryd.underlying202 Tryd.underlying155 (by kernel_rfl) (by kernel_rfl) h3
  exact Lib.tabBelow_of_tabIs hT
theorem spShape : ∃ f0 f1, Tryd.prog.underlying 38 = some (.struct #[f0, f1]) ∧ (f0.type = 3 ∧ f0.offset = 0) ∧ (f1.type = 3 ∧ f1.offset = 1) :=
  ⟨_, _, Tryd.underlying38, ⟨rfl, rfl⟩, rfl, rfl⟩
theorem spSize : Tryd.prog.cellsOf 38 = 2 := by kernel_rfl
theorem open_sps {H : Type} {enc : TypeId × Value → H} {w : World} {r : Reach} {b0 : Nat} {v : Value} {d : DataW H} {p : List MemPlace} (hv : Value.okWide Tryd.prog w r b0 34 v) (h : DataW.Trod enc Tryd.prog w 0 (fun _ => true) true 34 v d p) : ∃ l, SRd w w.heap.size v l :=
  open_list Tryd.underlying34 spSize (by decide) (fun _ => rfl) (fun fuel cs x h => by
    obtain ⟨f0, f1, hs, ⟨t0, o0⟩, t1, o1⟩ := spShape
    obtain ⟨xs, n, _, _, hlen, hxl, hg⟩ := DataW.trod_struct hs h
    rw [spSize] at hlen
    have hxl' : xs.length = 2 := hxl
    have g0 := hg 0 f0 rfl
    have g1 := hg 1 f1 rfl
    rw [t0, o0, intSize, List.getElem?_eq_getElem (by omega)] at g0
    rw [t1, o1, intSize, List.getElem?_eq_getElem (by omega)] at g1
    obtain ⟨n0, e0, _, _⟩ := DataW.trod_int Tryd.underlying3 g0
    obtain ⟨n1, e1, _, _⟩ := DataW.trod_int Tryd.underlying3 g1
    match cs, hlen, e0, e1 with
    | [c0, c1], _, e0, e1 =>
      simp at e0 e1
      subst e0 e1
      exact ⟨(n0, n1), rfl⟩) hv h
end Go.Proofs.YtfgangkpebkicaaDoor

/-
  The last step of a row: a walk that leaves all old memory as it was ('Below') pays what the row asks.
-/
namespace Go.Proofs.YtfgangkpebkicaaDoor
open Go.ChangeShapes Go.WideShapes Go.ChangeAt Go.RowKit
set_option maxRecDepth 20000
section
variable {H : Type} {enc : TypeId × Value → H} {P : Program} {f : Func} {s : ChangeSpec} {ap fr ho ag : Bool} {W W' : World} {args : Array Value} {v : Value} {ds gs : List (DataW H)} {met pa pv : List MemPlace}
/-- What was met in reading the arguments is old, so it is as it was. -/
theorem end_of_below (hW : DataW.Whole enc P f.params.toList s.vars ap W args.toList ds gs met) (hb : Below W.heap.size W W') (hmet : met = pa ++ pv)
    (hr : ∀ (b : Nat) (sp : Nat → Bool) (hd : Bool), DataW.TrodAll enc P W' b sp hd f.resultTypes.toList (v.resultList f.resultTypes.size) (s.fn H (ds ++ gs)).results [])
    (ha : ∀ sp : Nat → Bool, (∀ p ∈ met, sp p.block = true) → DataW.TrodAll enc P W' 0 sp true f.params.toList args.toList (s.fn H (ds ++ gs)).args pa)
    (hv : ∀ sp : Nat → Bool, (∀ p ∈ met, sp p.block = true) → DataW.TrodVars enc P W' sp s.vars (s.fn H (ds ++ gs)).vars pv)
    (hok : ∀ (j : Nat) (t : TypeId) (r : Value), f.resultTypes[j]? = some t → (v.resultList f.resultTypes.size)[j]? = some r → Value.okWide P W' .any 0 t r) :
    s.post enc P f ap fr ho ag W args v W' := by
  subst hmet
  have old : ∀ {p : MemPlace}, p ∈ pa ++ pv → p.block < W.heap.size := fun hp => hW.lt _ hp
  have mark : ∀ p ∈ pa ++ pv, decide (p.block < W.heap.size) = true := fun p hp => decide_eq_true (old hp)
  have always : ∀ p ∈ pa ++ pv, (fun _ : Nat => true) p.block = true := fun _ _ => rfl
  have same : ([] ++ pa) ++ pv = pa ++ pv := by rw [List.nil_append]
  have keep : W.keptBut W' (fun p => p ∈ pa ++ pv ∧ (p ∈ pa ++ pv)) := World.keptBut_mono (fun p hp => ⟨hp, hp⟩) (hb.frame (· ∈ pa ++ pv))
  have frz : ∀ b off, MemPlace.cell b off ∈ ([] ++ pa) ++ pv → W'.frozen? ⟨b, off, none⟩ = W.frozen? ⟨b, off, none⟩ := fun b off hp => hb.frozen (p := ⟨b, off, none⟩) (old (p := .cell b off) (same ▸ hp))
  have whole := hW
  obtain ⟨_, _, _, _, _, hz, hn⟩ := hW
  refine ⟨ds, gs, pa ++ pv, [], pa, pv, whole, hr _ _ _, ha _ mark, hv _ mark, World.keptBut_mono (fun p hp => ⟨hp.1, Or.inr (List.mem_append.1 hp.2)⟩) keep, fun _ => ⟨hok, _, _, ([] ++ pa) ++ pv, ⟨[] ++ pa, pv, trodAll_append (ha _ always) (hr _ _ _), hv _ always, rfl, ?_, ?_⟩, ?_⟩⟩
  · exact fun b off hp => (frz b off hp).trans (hz b off (same ▸ hp))
  · exact fun h => same ▸ hn h
  · exact fun p hp _ => by simpa using hp
end
end Go.Proofs.YtfgangkpebkicaaDoor
