/-
  Joined by a program out of: RCheck, RForms.
-/
import Derived.Test.YthjmncngegchjaaMgAI
import Derived.Test.YthjmncngegchjaaMgAL
import Derived.Test.YthjmncngegchjaaMgAN
import Derived.Test.YthjmncngegchjaaMgAP

/-
  Contracts of rows.Stays and rows.Check.
-/
namespace Go.Proofs.Ythjmncngegchjaa
open Go.RowKit Go.Maps
set_option maxRecDepth 20000

/-- What is left to tell behind k of the five. -/
def partQ (cs : List Cl) : Nat → Bz
  | 0 => firstD 1 (strayF cs) 0 cs
  | 1 => firstD 2 (twiceF cs) 0 cs
  | 2 => firstD 3 (earlyF cs) 0 cs
  | 3 => ordQ cs (valsQ cs) (valsQ cs)
  | 4 => firstD 7 (emptyF (staysL cs)) 0 cs
  | _ => noBz
/-- The first behind k of the five that is told: m are left. -/
def remQ (cs : List Cl) : Nat → Nat → Bz
  | _, 0 => noBz
  | k, m + 1 => orZ (partQ cs k) (remQ cs (k + 1) m)
theorem orZ_no (x : Bz) (h : x.kind = 0 → x = noBz) : orZ x noBz = x := by
  unfold orZ
  split
  · rfl
  · rename_i h1
    exact (h (Classical.byContradiction h1)).symm
theorem badQ_rem (cs : List Cl) : badQ cs = remQ cs 0 5 := by
  unfold badQ
  simp only [remQ, partQ]
  rw [orZ_no (firstD 7 (emptyF (staysL cs)) 0 cs)]
  intro h
  rcases firstD_cases (kd := 7) (f := emptyF (staysL cs)) cs 0 with ⟨_, e⟩ | ⟨i, c, _, _, _, _, e⟩
  · exact e
  · rw [e] at h
    cases h
theorem remQ_hit {cs : List Cl} {k m : Nat} {k0 k1 k2 : Int} (h : partQ cs k = ⟨k0, k1, k2⟩) (h0 : k0 ≠ 0) : remQ cs k (m + 1) = ⟨k0, k1, k2⟩ := by
  rw [remQ, h]
  exact if_pos h0
theorem remQ_next {cs : List Cl} {k m : Nat} {k0 k1 k2 : Int} (h : partQ cs k = ⟨k0, k1, k2⟩) (h0 : k0 = 0) : remQ cs k (m + 1) = remQ cs (k + 1) m := by
  rw [remQ, h]
  exact if_neg (fun hh => hh h0)
/-- What the loop of Check keeps. -/
structure CqR (w : World) (B Q : Nat) (A : Option Addr) (cap n : Nat) (cs : List Cl) (M1 M2 G : Nat) (W : World) : Prop where
  rec_ : OvS w B Q A cap n cs M1 M2 W
  res : Lies W w.heap.size 28 #[.int .i64 0, .int .i64 0, .int .i64 0]
  fns : Lies W G 60 #[.func (.func 21) #[.pointer (some ⟨Q, 0, none⟩)] #[], .func (.func 22) #[.pointer (some ⟨Q, 0, none⟩)] #[], .func (.func 23) #[.pointer (some ⟨Q, 0, none⟩)] #[], .func (.func 24) #[.pointer (some ⟨Q, 0, none⟩)] #[], .func (.func 25) #[.pointer (some ⟨Q, 0, none⟩)] #[]]
theorem CqR.next {w : World} {B Q : Nat} {A : Option Addr} {cap n : Nat} {cs : List Cl} {M1 M2 G : Nat} {W w' : World} (h : CqR w B Q A cap n cs M1 M2 G W) (hb : Below W.heap.size W w') : CqR w B Q A cap n cs M1 M2 G w' :=
  ⟨h.rec_.next hb, Lies.below h.res hb h.res.lt, Lies.below h.fns hb h.fns.lt⟩
/-- What Check answers. -/
def CheckR (w : World) (l : List Ev) (e : Ending) (w' : World) : Prop :=
  Below w.heap.size w w' ∧ ((rowsE l ≠ 0 ∧ e = .returned (.tuple #[.bool false, bzV noBz, .int .i64 (rowsE l)])) ∨
    (rowsE l = 0 ∧ e = .returned (.tuple #[.bool ((badQ (callsOf [2] l).1).kind == 0), bzV (badQ (callsOf [2] l).1), .int .i64 0])))
theorem rowsE_facts {l : List Ev} (h : rowsE l = 0) : (callsOf [2] l).1.length ≤ 200 ∧ (∀ c ∈ (callsOf [2] l).1, c.kind = 4 → -1 ≤ c.res ∧ c.res ≤ 1000) ∧ (∀ x, (pAt (callsOf [2] l).1 x).isSome = true → 0 ≤ x ∧ x ≤ 1000) ∧
    ∀ c ∈ (callsOf [2] l).1, 0 ≤ c.frm ∧ c.frm < 200 ∧ -1 ≤ c.til ∧ c.til < 200 ∧ (c.kind = 4 → c.frm < c.til) := by
  have h1 := rowsE_que h
  have h0 := (rowsE_calls h).1
  refine ⟨calls_lenQ h0, fun c hc => que_res h0 hc, fun x hx => ?_, fun c hc => ?_⟩
  · obtain ⟨i, c, a1, a2, _⟩ := p_get hx
    have := h1.val (List.mem_of_getElem? a1) a2
    omega
  · have a := h1.frm hc
    refine ⟨a.1, a.2.1, by omega, a.2.2.1, fun h4 => ?_⟩
    have := h1.ans c hc h4
    omega
set_option maxHeartbeats 8000000 in
theorem rcheck_any {lv : Value} {l : List Ev} {w : World} (hl : ERd w w.heap.size lv l) :
    Calls Try.prog 8 #[lv] w (CheckR w l) := by
  have hb0 : Below w.heap.size w (w.alloc (.cells #[.int .i64 0, .int .i64 0, .int .i64 0] 28)) := (Below.refl _ _).alloc (Nat.le_refl _) _
  have HO := Lib.hid (ropen_any ((hl.below hb0).mono hb0.size))
  obtain ⟨Al, capl, rfl, -, -⟩ := hl.is
  have H0 := Lib.hid (And.intro hb0 (Lies.new w 28 #[.int .i64 0, .int .i64 0, .int .i64 0]))
  have hfacts := @rowsE_facts l
  have HFA := Lib.hid hfacts
  clear hl hb0 hfacts
  unfold CheckR
  unfold OpenR at HO
  generalize l.length = L at HO ⊢
  generalize hE : rowsE l = E at HO HFA ⊢
  clear hE
  generalize (callsOf [2] l).1 = cs at HO HFA ⊢
  go_enter Try.func8, Try.ntmps8
  go_wp2_with fail
  refine HO.out.mono ?_
  rintro e w1 ⟨hb1, hor⟩
  have hbw : Below w.heap.size w w1 := H0.out.1.trans (hb1.mono H0.out.1.size)
  have hres := Lies.below H0.out.2 hb1 H0.out.2.lt
  rcases hor with ⟨hE, rfl⟩ | ⟨hE, B, Q, A, cap, M1, M2, rfl, hB, hrec⟩
  · have hz : (E != 0) = true := by rw [bne_iff_ne]; exact hE
    have HE := Lib.hid (And.intro hE (And.intro hbw hres))
    have r0 := Lies.cell hres 0
    have r1 := Lies.cell hres 1
    have r2 := Lies.cell hres 2
    have rf : ∀ i, w1.frozen? ⟨w.heap.size, i, none⟩ = false := fun i => Lies.frozen hres i
    simp only [List.getElem?_toArray, List.getElem?_cons_zero, List.getElem?_cons_succ] at r0 r1 r2
    clear hE hb1 hbw hres HO H0
    go_wp2_with fail
    clear r0 r1 r2 rf
    have hl := fill3_lies (a := .int .i64 0) (b := .int .i64 0) (c := .int .i64 0) HE.out.2.2
    have hb := fill3_below (a := .int .i64 0) (b := .int .i64 0) (c := .int .i64 0) HE.out.2.1 (g := w.heap.size) (Nat.le_refl _)
    change bodyPost _ _ _ _ _ (fill3 w1 w.heap.size (.int .i64 0) (.int .i64 0) (.int .i64 0))
    generalize fill3 w1 w.heap.size (.int .i64 0) (.int .i64 0) (.int .i64 0) = wz at hl hb ⊢
    have q0 := Lies.cell hl 0
    have q1 := Lies.cell hl 1
    have q2 := Lies.cell hl 2
    simp only [List.getElem?_toArray, List.getElem?_cons_zero, List.getElem?_cons_succ] at q0 q1 q2
    exact bodyPost_ret (v := .tuple #[.bool false, bzV noBz, .int .i64 E]) (by simp [results, Try.results8, go_sem, q0, q1, q2, noBz]) rfl ⟨hb, .inl ⟨HE.out.1, rfl⟩⟩
  · subst hE
    obtain ⟨n, hn⟩ : ∃ n, n = cs.length := ⟨_, rfl⟩
    rw [← hn] at hrec
    have HN := Lib.hid (And.intro hn (And.intro (show n ≤ 200 by rw [hn]; exact (HFA.out rfl).1) (And.intro (HFA.out rfl).2.1 (And.intro (HFA.out rfl).2.2.1 (HFA.out rfl).2.2.2))))
    have hal : Below w1.heap.size w1 (w1.alloc (.cells #[.func (.func 21) #[.pointer (some ⟨Q, 0, none⟩)] #[], .func (.func 22) #[.pointer (some ⟨Q, 0, none⟩)] #[], .func (.func 23) #[.pointer (some ⟨Q, 0, none⟩)] #[], .func (.func 24) #[.pointer (some ⟨Q, 0, none⟩)] #[], .func (.func 25) #[.pointer (some ⟨Q, 0, none⟩)] #[]] 60)) := (Below.refl _ _).alloc (Nat.le_refl _) _
    have hC : CqR w B Q A cap n cs M1 M2 w1.heap.size (w1.alloc (.cells #[.func (.func 21) #[.pointer (some ⟨Q, 0, none⟩)] #[], .func (.func 22) #[.pointer (some ⟨Q, 0, none⟩)] #[], .func (.func 23) #[.pointer (some ⟨Q, 0, none⟩)] #[], .func (.func 24) #[.pointer (some ⟨Q, 0, none⟩)] #[], .func (.func 25) #[.pointer (some ⟨Q, 0, none⟩)] #[]] 60)) :=
      ⟨⟨hrec.next hal, hbw.trans (hal.mono hbw.size)⟩, Lies.alloc hres _, Lies.new _ _ _⟩
    have HC := Lib.hid hC
    have HBQ := Lib.hid (badQ_rem cs)
    clear hb1 hbw hres hrec hal hC HO H0 hn hB
    go_wp2_with fail
    have h0 := HC.out
    clear HC
    change Code.wp _ _ _ _ (w1.alloc (.cells #[.func (.func 21) #[.pointer (some ⟨Q, 0, none⟩)] #[], .func (.func 22) #[.pointer (some ⟨Q, 0, none⟩)] #[], .func (.func 23) #[.pointer (some ⟨Q, 0, none⟩)] #[], .func (.func 24) #[.pointer (some ⟨Q, 0, none⟩)] #[], .func (.func 25) #[.pointer (some ⟨Q, 0, none⟩)] #[]] 60))
    generalize w1.alloc (.cells #[.func (.func 21) #[.pointer (some ⟨Q, 0, none⟩)] #[], .func (.func 22) #[.pointer (some ⟨Q, 0, none⟩)] #[], .func (.func 23) #[.pointer (some ⟨Q, 0, none⟩)] #[], .func (.func 24) #[.pointer (some ⟨Q, 0, none⟩)] #[], .func (.func 25) #[.pointer (some ⟨Q, 0, none⟩)] #[]] 60) = W2 at h0 ⊢
    generalize w1.heap.size = G at h0 ⊢
    go_loopw [31] (fun i wr => ∃ k : Nat, k ≤ 5 ∧ i = .int .i64 k ∧ remQ cs k (5 - k) = badQ cs ∧ CqR w B Q A cap n cs M1 M2 G wr) (fun i _ => 5 - (intOf i).toNat)
    case atStart => exact ⟨0, by omega, rfl, HBQ.out.symm, h0⟩
    case round =>
      clear h0
      obtain ⟨k, hk, rfl, hq, hO⟩ := hrel
      have H := Lib.hid hO
      obtain rfl | rfl | rfl | rfl | rfl | rfl : k = 0 ∨ k = 1 ∨ k = 2 ∨ k = 3 ∨ k = 4 ∨ k = 5 := by omega
      · have HK := Lib.hid (rstray_any H.out.rec_.rec_ HN.out.1 HN.out.2.1 HN.out.2.2.1)
        have f0 := Lies.cell hO.fns 0
        simp only [List.getElem?_toArray, List.getElem?_cons_zero] at f0
        obtain ⟨R, hR⟩ : ∃ R, R = partQ cs 0 := ⟨_, rfl⟩
        rw [show firstD 1 (strayF cs) 0 cs = R from hR.symm] at HK
        obtain ⟨k0, k1, k2⟩ := R
        have HQ := Lib.hid (And.intro hq hR.symm)
        clear hO hq hR
        go_wp2_with fail
        refine HK.out.mono ?_
        rintro e w3 ⟨rfl, hb3⟩
        have hb4 : Below w3.heap.size w3 (w3.alloc (.cells #[.int .i64 k0, .int .i64 k1, .int .i64 k2] 28)) := (Below.refl _ _).alloc (Nat.le_refl _) _
        have H4 := Lib.hid (And.intro ((H.out.next hb3).next hb4) (Lies.new w3 28 #[.int .i64 k0, .int .i64 k1, .int .i64 k2]))
        clear HK H hb3 hb4 f0
        by_cases hk0 : k0 = 0
        · have hz : (k0 != 0) = false := by rw [hk0]; rfl
          have hn4 := remQ_next (m := 4) HQ.out.2 hk0
          have HZ := Lib.hid (And.intro (hn4.symm.trans HQ.out.1) H4.out.1)
          clear hk0 hn4 H4 HQ
          go_wp2_with fail
          go_roundw
          case rel => exact ⟨0 + 1, by omega, by go_num, HZ.out⟩
          case measure => simp [intOf]
        · have hz : (k0 != 0) = true := by rw [bne_iff_ne]; exact hk0
          have hbad : badQ cs = ⟨k0, k1, k2⟩ := HQ.out.1.symm.trans (remQ_hit (m := 4) HQ.out.2 hk0)
          have HBD := Lib.hid (And.intro hbad hk0)
          clear hk0 hbad HQ
          go_upto_region 9 with fail
          change Code.wp _ _ _ _ (w3.alloc (.cells #[.int .i64 k0, .int .i64 k1, .int .i64 k2] 28))
          generalize w3.alloc (.cells #[.int .i64 k0, .int .i64 k1, .int .i64 k2] 28) = W4 at H4 ⊢
          generalize w3.heap.size = Y at H4 ⊢
          have e0 := Lies.cell H4.out.2 0
          have e1 := Lies.cell H4.out.2 1
          have e2 := Lies.cell H4.out.2 2
          have r0 := Lies.cell H4.out.1.res 0
          have r1 := Lies.cell H4.out.1.res 1
          have r2 := Lies.cell H4.out.1.res 2
          have rf : ∀ i, W4.frozen? ⟨w.heap.size, i, none⟩ = false := fun i => Lies.frozen H4.out.1.res i
          simp only [List.getElem?_toArray, List.getElem?_cons_zero, List.getElem?_cons_succ] at e0 e1 e2 r0 r1 r2
          go_region
          clear e0 e1 e2 r0 r1 r2 rf
          have hl := fill3_lies (a := .int .i64 k0) (b := .int .i64 k1) (c := .int .i64 k2) H4.out.1.res
          have hb := fill3_below (a := .int .i64 k0) (b := .int .i64 k1) (c := .int .i64 k2) H4.out.1.rec_.below (g := w.heap.size) (Nat.le_refl _)
          have HZ := Lib.hid (And.intro hl hb)
          change Exit.then _ _ _ _ (fill3 W4 w.heap.size (.int .i64 k0) (.int .i64 k1) (.int .i64 k2)).drew
          clear hl hb H4
          generalize fill3 W4 w.heap.size (.int .i64 k0) (.int .i64 k1) (.int .i64 k2) = wz at HZ ⊢
          have q0 := Lies.cell HZ.out.1 0
          have q1 := Lies.cell HZ.out.1 1
          have q2 := Lies.cell HZ.out.1 2
          simp only [List.getElem?_toArray, List.getElem?_cons_zero, List.getElem?_cons_succ] at q0 q1 q2
          go_wp2_with fail
          exact bodyPost_ret (v := .tuple #[.bool false, bzV ⟨k0, k1, k2⟩, .int .i64 0]) (by simp [results, Try.results8, go_sem, q0, q1, q2]) rfl ⟨HZ.out.2.drew, by
            have h9 : ((⟨k0, k1, k2⟩ : Bz).kind == 0) = false := by rw [beq_eq_false_iff_ne]; exact HBD.out.2
            first
              | exact .inr ⟨rfl, by rw [HBD.out.1, h9]⟩
              | (rw [HBD.out.1, h9])⟩
      · have HK := Lib.hid (rtwice_any H.out.rec_.rec_ HN.out.1 HN.out.2.1 HN.out.2.2.1)
        have f0 := Lies.cell hO.fns 1
        simp only [List.getElem?_toArray, List.getElem?_cons_zero, List.getElem?_cons_succ] at f0
        obtain ⟨R, hR⟩ : ∃ R, R = partQ cs 1 := ⟨_, rfl⟩
        rw [show firstD 2 (twiceF cs) 0 cs = R from hR.symm] at HK
        obtain ⟨k0, k1, k2⟩ := R
        have HQ := Lib.hid (And.intro hq hR.symm)
        clear hO hq hR
        go_wp2_with fail
        refine HK.out.mono ?_
        rintro e w3 ⟨rfl, hb3⟩
        have hb4 : Below w3.heap.size w3 (w3.alloc (.cells #[.int .i64 k0, .int .i64 k1, .int .i64 k2] 28)) := (Below.refl _ _).alloc (Nat.le_refl _) _
        have H4 := Lib.hid (And.intro ((H.out.next hb3).next hb4) (Lies.new w3 28 #[.int .i64 k0, .int .i64 k1, .int .i64 k2]))
        clear HK H hb3 hb4 f0
        by_cases hk0 : k0 = 0
        · have hz : (k0 != 0) = false := by rw [hk0]; rfl
          have hn4 := remQ_next (m := 3) HQ.out.2 hk0
          have HZ := Lib.hid (And.intro (hn4.symm.trans HQ.out.1) H4.out.1)
          clear hk0 hn4 H4 HQ
          go_wp2_with fail
          go_roundw
          case rel => exact ⟨1 + 1, by omega, by go_num, HZ.out⟩
          case measure => simp [intOf]
        · have hz : (k0 != 0) = true := by rw [bne_iff_ne]; exact hk0
          have hbad : badQ cs = ⟨k0, k1, k2⟩ := HQ.out.1.symm.trans (remQ_hit (m := 3) HQ.out.2 hk0)
          have HBD := Lib.hid (And.intro hbad hk0)
          clear hk0 hbad HQ
          go_upto_region 9 with fail
          change Code.wp _ _ _ _ (w3.alloc (.cells #[.int .i64 k0, .int .i64 k1, .int .i64 k2] 28))
          generalize w3.alloc (.cells #[.int .i64 k0, .int .i64 k1, .int .i64 k2] 28) = W4 at H4 ⊢
          generalize w3.heap.size = Y at H4 ⊢
          have e0 := Lies.cell H4.out.2 0
          have e1 := Lies.cell H4.out.2 1
          have e2 := Lies.cell H4.out.2 2
          have r0 := Lies.cell H4.out.1.res 0
          have r1 := Lies.cell H4.out.1.res 1
          have r2 := Lies.cell H4.out.1.res 2
          have rf : ∀ i, W4.frozen? ⟨w.heap.size, i, none⟩ = false := fun i => Lies.frozen H4.out.1.res i
          simp only [List.getElem?_toArray, List.getElem?_cons_zero, List.getElem?_cons_succ] at e0 e1 e2 r0 r1 r2
          go_region
          clear e0 e1 e2 r0 r1 r2 rf
          have hl := fill3_lies (a := .int .i64 k0) (b := .int .i64 k1) (c := .int .i64 k2) H4.out.1.res
          have hb := fill3_below (a := .int .i64 k0) (b := .int .i64 k1) (c := .int .i64 k2) H4.out.1.rec_.below (g := w.heap.size) (Nat.le_refl _)
          have HZ := Lib.hid (And.intro hl hb)
          change Exit.then _ _ _ _ (fill3 W4 w.heap.size (.int .i64 k0) (.int .i64 k1) (.int .i64 k2)).drew
          clear hl hb H4
          generalize fill3 W4 w.heap.size (.int .i64 k0) (.int .i64 k1) (.int .i64 k2) = wz at HZ ⊢
          have q0 := Lies.cell HZ.out.1 0
          have q1 := Lies.cell HZ.out.1 1
          have q2 := Lies.cell HZ.out.1 2
          simp only [List.getElem?_toArray, List.getElem?_cons_zero, List.getElem?_cons_succ] at q0 q1 q2
          go_wp2_with fail
          exact bodyPost_ret (v := .tuple #[.bool false, bzV ⟨k0, k1, k2⟩, .int .i64 0]) (by simp [results, Try.results8, go_sem, q0, q1, q2]) rfl ⟨HZ.out.2.drew, by
            have h9 : ((⟨k0, k1, k2⟩ : Bz).kind == 0) = false := by rw [beq_eq_false_iff_ne]; exact HBD.out.2
            first
              | exact .inr ⟨rfl, by rw [HBD.out.1, h9]⟩
              | (rw [HBD.out.1, h9])⟩
      · have HK := Lib.hid (rearly_any H.out.rec_.rec_ HN.out.1 HN.out.2.1 HN.out.2.2.1)
        have f0 := Lies.cell hO.fns 2
        simp only [List.getElem?_toArray, List.getElem?_cons_zero, List.getElem?_cons_succ] at f0
        obtain ⟨R, hR⟩ : ∃ R, R = partQ cs 2 := ⟨_, rfl⟩
        rw [show firstD 3 (earlyF cs) 0 cs = R from hR.symm] at HK
        obtain ⟨k0, k1, k2⟩ := R
        have HQ := Lib.hid (And.intro hq hR.symm)
        clear hO hq hR
        go_wp2_with fail
        refine HK.out.mono ?_
        rintro e w3 ⟨rfl, hb3⟩
        have hb4 : Below w3.heap.size w3 (w3.alloc (.cells #[.int .i64 k0, .int .i64 k1, .int .i64 k2] 28)) := (Below.refl _ _).alloc (Nat.le_refl _) _
        have H4 := Lib.hid (And.intro ((H.out.next hb3).next hb4) (Lies.new w3 28 #[.int .i64 k0, .int .i64 k1, .int .i64 k2]))
        clear HK H hb3 hb4 f0
        by_cases hk0 : k0 = 0
        · have hz : (k0 != 0) = false := by rw [hk0]; rfl
          have hn4 := remQ_next (m := 2) HQ.out.2 hk0
          have HZ := Lib.hid (And.intro (hn4.symm.trans HQ.out.1) H4.out.1)
          clear hk0 hn4 H4 HQ
          go_wp2_with fail
          go_roundw
          case rel => exact ⟨2 + 1, by omega, by go_num, HZ.out⟩
          case measure => simp [intOf]
        · have hz : (k0 != 0) = true := by rw [bne_iff_ne]; exact hk0
          have hbad : badQ cs = ⟨k0, k1, k2⟩ := HQ.out.1.symm.trans (remQ_hit (m := 2) HQ.out.2 hk0)
          have HBD := Lib.hid (And.intro hbad hk0)
          clear hk0 hbad HQ
          go_upto_region 9 with fail
          change Code.wp _ _ _ _ (w3.alloc (.cells #[.int .i64 k0, .int .i64 k1, .int .i64 k2] 28))
          generalize w3.alloc (.cells #[.int .i64 k0, .int .i64 k1, .int .i64 k2] 28) = W4 at H4 ⊢
          generalize w3.heap.size = Y at H4 ⊢
          have e0 := Lies.cell H4.out.2 0
          have e1 := Lies.cell H4.out.2 1
          have e2 := Lies.cell H4.out.2 2
          have r0 := Lies.cell H4.out.1.res 0
          have r1 := Lies.cell H4.out.1.res 1
          have r2 := Lies.cell H4.out.1.res 2
          have rf : ∀ i, W4.frozen? ⟨w.heap.size, i, none⟩ = false := fun i => Lies.frozen H4.out.1.res i
          simp only [List.getElem?_toArray, List.getElem?_cons_zero, List.getElem?_cons_succ] at e0 e1 e2 r0 r1 r2
          go_region
          clear e0 e1 e2 r0 r1 r2 rf
          have hl := fill3_lies (a := .int .i64 k0) (b := .int .i64 k1) (c := .int .i64 k2) H4.out.1.res
          have hb := fill3_below (a := .int .i64 k0) (b := .int .i64 k1) (c := .int .i64 k2) H4.out.1.rec_.below (g := w.heap.size) (Nat.le_refl _)
          have HZ := Lib.hid (And.intro hl hb)
          change Exit.then _ _ _ _ (fill3 W4 w.heap.size (.int .i64 k0) (.int .i64 k1) (.int .i64 k2)).drew
          clear hl hb H4
          generalize fill3 W4 w.heap.size (.int .i64 k0) (.int .i64 k1) (.int .i64 k2) = wz at HZ ⊢
          have q0 := Lies.cell HZ.out.1 0
          have q1 := Lies.cell HZ.out.1 1
          have q2 := Lies.cell HZ.out.1 2
          simp only [List.getElem?_toArray, List.getElem?_cons_zero, List.getElem?_cons_succ] at q0 q1 q2
          go_wp2_with fail
          exact bodyPost_ret (v := .tuple #[.bool false, bzV ⟨k0, k1, k2⟩, .int .i64 0]) (by simp [results, Try.results8, go_sem, q0, q1, q2]) rfl ⟨HZ.out.2.drew, by
            have h9 : ((⟨k0, k1, k2⟩ : Bz).kind == 0) = false := by rw [beq_eq_false_iff_ne]; exact HBD.out.2
            first
              | exact .inr ⟨rfl, by rw [HBD.out.1, h9]⟩
              | (rw [HBD.out.1, h9])⟩
      · have HK := Lib.hid (runord_any H.out.rec_.rec_ HN.out.1 HN.out.2.2.2.1)
        have f0 := Lies.cell hO.fns 3
        simp only [List.getElem?_toArray, List.getElem?_cons_zero, List.getElem?_cons_succ] at f0
        obtain ⟨R, hR⟩ : ∃ R, R = partQ cs 3 := ⟨_, rfl⟩
        rw [show ordQ cs (valsQ cs) (valsQ cs) = R from hR.symm] at HK
        obtain ⟨k0, k1, k2⟩ := R
        have HQ := Lib.hid (And.intro hq hR.symm)
        clear hO hq hR
        go_wp2_with fail
        refine HK.out.mono ?_
        rintro e w3 ⟨rfl, hb3⟩
        have hb4 : Below w3.heap.size w3 (w3.alloc (.cells #[.int .i64 k0, .int .i64 k1, .int .i64 k2] 28)) := (Below.refl _ _).alloc (Nat.le_refl _) _
        have H4 := Lib.hid (And.intro ((H.out.next hb3).next hb4) (Lies.new w3 28 #[.int .i64 k0, .int .i64 k1, .int .i64 k2]))
        clear HK H hb3 hb4 f0
        by_cases hk0 : k0 = 0
        · have hz : (k0 != 0) = false := by rw [hk0]; rfl
          have hn4 := remQ_next (m := 1) HQ.out.2 hk0
          have HZ := Lib.hid (And.intro (hn4.symm.trans HQ.out.1) H4.out.1)
          clear hk0 hn4 H4 HQ
          go_wp2_with fail
          go_roundw
          case rel => exact ⟨3 + 1, by omega, by go_num, HZ.out⟩
          case measure => simp [intOf]
        · have hz : (k0 != 0) = true := by rw [bne_iff_ne]; exact hk0
          have hbad : badQ cs = ⟨k0, k1, k2⟩ := HQ.out.1.symm.trans (remQ_hit (m := 1) HQ.out.2 hk0)
          have HBD := Lib.hid (And.intro hbad hk0)
          clear hk0 hbad HQ
          go_upto_region 9 with fail
          change Code.wp _ _ _ _ (w3.alloc (.cells #[.int .i64 k0, .int .i64 k1, .int .i64 k2] 28))
          generalize w3.alloc (.cells #[.int .i64 k0, .int .i64 k1, .int .i64 k2] 28) = W4 at H4 ⊢
          generalize w3.heap.size = Y at H4 ⊢
          have e0 := Lies.cell H4.out.2 0
          have e1 := Lies.cell H4.out.2 1
          have e2 := Lies.cell H4.out.2 2
          have r0 := Lies.cell H4.out.1.res 0
          have r1 := Lies.cell H4.out.1.res 1
          have r2 := Lies.cell H4.out.1.res 2
          have rf : ∀ i, W4.frozen? ⟨w.heap.size, i, none⟩ = false := fun i => Lies.frozen H4.out.1.res i
          simp only [List.getElem?_toArray, List.getElem?_cons_zero, List.getElem?_cons_succ] at e0 e1 e2 r0 r1 r2
          go_region
          clear e0 e1 e2 r0 r1 r2 rf
          have hl := fill3_lies (a := .int .i64 k0) (b := .int .i64 k1) (c := .int .i64 k2) H4.out.1.res
          have hb := fill3_below (a := .int .i64 k0) (b := .int .i64 k1) (c := .int .i64 k2) H4.out.1.rec_.below (g := w.heap.size) (Nat.le_refl _)
          have HZ := Lib.hid (And.intro hl hb)
          change Exit.then _ _ _ _ (fill3 W4 w.heap.size (.int .i64 k0) (.int .i64 k1) (.int .i64 k2)).drew
          clear hl hb H4
          generalize fill3 W4 w.heap.size (.int .i64 k0) (.int .i64 k1) (.int .i64 k2) = wz at HZ ⊢
          have q0 := Lies.cell HZ.out.1 0
          have q1 := Lies.cell HZ.out.1 1
          have q2 := Lies.cell HZ.out.1 2
          simp only [List.getElem?_toArray, List.getElem?_cons_zero, List.getElem?_cons_succ] at q0 q1 q2
          go_wp2_with fail
          exact bodyPost_ret (v := .tuple #[.bool false, bzV ⟨k0, k1, k2⟩, .int .i64 0]) (by simp [results, Try.results8, go_sem, q0, q1, q2]) rfl ⟨HZ.out.2.drew, by
            have h9 : ((⟨k0, k1, k2⟩ : Bz).kind == 0) = false := by rw [beq_eq_false_iff_ne]; exact HBD.out.2
            first
              | exact .inr ⟨rfl, by rw [HBD.out.1, h9]⟩
              | (rw [HBD.out.1, h9])⟩
      · have HK := Lib.hid (rempty_any H.out.rec_.rec_ HN.out.1 HN.out.2.1 HN.out.2.2.2.1 HN.out.2.2.2.2)
        have f0 := Lies.cell hO.fns 4
        simp only [List.getElem?_toArray, List.getElem?_cons_zero, List.getElem?_cons_succ] at f0
        obtain ⟨R, hR⟩ : ∃ R, R = partQ cs 4 := ⟨_, rfl⟩
        rw [show firstD 7 (emptyF (staysL cs)) 0 cs = R from hR.symm] at HK
        obtain ⟨k0, k1, k2⟩ := R
        have HQ := Lib.hid (And.intro hq hR.symm)
        clear hO hq hR
        go_wp2_with fail
        refine HK.out.mono ?_
        rintro e w3 ⟨rfl, hb3⟩
        have hb4 : Below w3.heap.size w3 (w3.alloc (.cells #[.int .i64 k0, .int .i64 k1, .int .i64 k2] 28)) := (Below.refl _ _).alloc (Nat.le_refl _) _
        have H4 := Lib.hid (And.intro ((H.out.next hb3).next hb4) (Lies.new w3 28 #[.int .i64 k0, .int .i64 k1, .int .i64 k2]))
        clear HK H hb3 hb4 f0
        by_cases hk0 : k0 = 0
        · have hz : (k0 != 0) = false := by rw [hk0]; rfl
          have hn4 := remQ_next (m := 0) HQ.out.2 hk0
          have HZ := Lib.hid (And.intro (hn4.symm.trans HQ.out.1) H4.out.1)
          clear hk0 hn4 H4 HQ
          go_wp2_with fail
          go_roundw
          case rel => exact ⟨4 + 1, by omega, by go_num, HZ.out⟩
          case measure => simp [intOf]
        · have hz : (k0 != 0) = true := by rw [bne_iff_ne]; exact hk0
          have hbad : badQ cs = ⟨k0, k1, k2⟩ := HQ.out.1.symm.trans (remQ_hit (m := 0) HQ.out.2 hk0)
          have HBD := Lib.hid (And.intro hbad hk0)
          clear hk0 hbad HQ
          go_upto_region 9 with fail
          change Code.wp _ _ _ _ (w3.alloc (.cells #[.int .i64 k0, .int .i64 k1, .int .i64 k2] 28))
          generalize w3.alloc (.cells #[.int .i64 k0, .int .i64 k1, .int .i64 k2] 28) = W4 at H4 ⊢
          generalize w3.heap.size = Y at H4 ⊢
          have e0 := Lies.cell H4.out.2 0
          have e1 := Lies.cell H4.out.2 1
          have e2 := Lies.cell H4.out.2 2
          have r0 := Lies.cell H4.out.1.res 0
          have r1 := Lies.cell H4.out.1.res 1
          have r2 := Lies.cell H4.out.1.res 2
          have rf : ∀ i, W4.frozen? ⟨w.heap.size, i, none⟩ = false := fun i => Lies.frozen H4.out.1.res i
          simp only [List.getElem?_toArray, List.getElem?_cons_zero, List.getElem?_cons_succ] at e0 e1 e2 r0 r1 r2
          go_region
          clear e0 e1 e2 r0 r1 r2 rf
          have hl := fill3_lies (a := .int .i64 k0) (b := .int .i64 k1) (c := .int .i64 k2) H4.out.1.res
          have hb := fill3_below (a := .int .i64 k0) (b := .int .i64 k1) (c := .int .i64 k2) H4.out.1.rec_.below (g := w.heap.size) (Nat.le_refl _)
          have HZ := Lib.hid (And.intro hl hb)
          change Exit.then _ _ _ _ (fill3 W4 w.heap.size (.int .i64 k0) (.int .i64 k1) (.int .i64 k2)).drew
          clear hl hb H4
          generalize fill3 W4 w.heap.size (.int .i64 k0) (.int .i64 k1) (.int .i64 k2) = wz at HZ ⊢
          have q0 := Lies.cell HZ.out.1 0
          have q1 := Lies.cell HZ.out.1 1
          have q2 := Lies.cell HZ.out.1 2
          simp only [List.getElem?_toArray, List.getElem?_cons_zero, List.getElem?_cons_succ] at q0 q1 q2
          go_wp2_with fail
          exact bodyPost_ret (v := .tuple #[.bool false, bzV ⟨k0, k1, k2⟩, .int .i64 0]) (by simp [results, Try.results8, go_sem, q0, q1, q2]) rfl ⟨HZ.out.2.drew, by
            have h9 : ((⟨k0, k1, k2⟩ : Bz).kind == 0) = false := by rw [beq_eq_false_iff_ne]; exact HBD.out.2
            first
              | exact .inr ⟨rfl, by rw [HBD.out.1, h9]⟩
              | (rw [HBD.out.1, h9])⟩
      · have hbad : badQ cs = noBz := hq.symm
        have r0 := Lies.cell hO.res 0
        have r1 := Lies.cell hO.res 1
        have r2 := Lies.cell hO.res 2
        have rf : ∀ i, wr.frozen? ⟨w.heap.size, i, none⟩ = false := fun i => Lies.frozen hO.res i
        simp only [List.getElem?_toArray, List.getElem?_cons_zero, List.getElem?_cons_succ] at r0 r1 r2
        have HZ := Lib.hid hbad
        clear hO hq hbad
        go_wp2_with fail
        clear r0 r1 r2 rf
        have hl := fill3_lies (a := .int .i64 0) (b := .int .i64 0) (c := .int .i64 0) H.out.res
        have hb := fill3_below (a := .int .i64 0) (b := .int .i64 0) (c := .int .i64 0) H.out.rec_.below (g := w.heap.size) (Nat.le_refl _)
        change bodyPost _ _ _ _ _ (fill3 wr w.heap.size (.int .i64 0) (.int .i64 0) (.int .i64 0))
        generalize fill3 wr w.heap.size (.int .i64 0) (.int .i64 0) (.int .i64 0) = wz at hl hb ⊢
        have q0 := Lies.cell hl 0
        have q1 := Lies.cell hl 1
        have q2 := Lies.cell hl 2
        simp only [List.getElem?_toArray, List.getElem?_cons_zero, List.getElem?_cons_succ] at q0 q1 q2
        exact bodyPost_ret (v := .tuple #[.bool true, bzV noBz, .int .i64 0]) (by simp [results, Try.results8, go_sem, q0, q1, q2, noBz]) rfl ⟨hb, by
          first
            | exact .inr ⟨rfl, by rw [HZ.out]; rfl⟩
            | (rw [HZ.out]; rfl)⟩
/-- What Stays answers. -/
def StaysR (w : World) (l : List Ev) (e : Ending) (w' : World) : Prop :=
  Below w.heap.size w w' ∧ ((rowsE l ≠ 0 ∧ e = .returned (.tuple #[.slice none 0 0, .int .i64 (rowsE l)])) ∨
    (rowsE l = 0 ∧ ∃ v, e = .returned (.tuple #[v, .int .i64 0]) ∧ SnRd w' w'.heap.size v (staysL (callsOf [2] l).1)))
set_option maxHeartbeats 4000000 in
theorem rstaysF_any {lv : Value} {l : List Ev} {w : World} (hl : ERd w w.heap.size lv l) :
    Calls Try.prog 7 #[lv] w (StaysR w l) := by
  have HO := Lib.hid (ropen_any hl)
  obtain ⟨Al, capl, rfl, -, -⟩ := hl.is
  have hfacts := @rowsE_facts l
  have HFA := Lib.hid hfacts
  clear hl hfacts
  unfold StaysR
  unfold OpenR at HO
  generalize l.length = L at HO ⊢
  generalize hE : rowsE l = E at HO HFA ⊢
  clear hE
  generalize (callsOf [2] l).1 = cs at HO HFA ⊢
  go_enter Try.func7, Try.ntmps7
  go_wp2_with fail
  refine HO.out.mono ?_
  rintro e w1 ⟨hb1, hor⟩
  rcases hor with ⟨hE, rfl⟩ | ⟨hE, B, Q, A, cap, M1, M2, rfl, hB, hrec⟩
  · have hz : (E != 0) = true := by rw [bne_iff_ne]; exact hE
    have HE := Lib.hid (And.intro hE hb1)
    clear hE hb1 HO
    go_wp2_with fail
    exact bodyPost_ret (v := .tuple #[.slice none 0 0, .int .i64 E]) (by simp [results, Try.results7, go_sem]) rfl ⟨HE.out.2, .inl ⟨HE.out.1, rfl⟩⟩
  · subst hE
    have HS := Lib.hid (rstays_any hrec rfl (HFA.out rfl).2.2.1 (fun c hc => by have := (HFA.out rfl).2.2.2 c hc; omega))
    have H1 := Lib.hid hb1
    clear hb1 hrec hB HO
    go_wp2_with fail
    refine HS.out.mono ?_
    rintro e w2 ⟨v, rfl, hv, hb2, -⟩
    obtain ⟨Av, cv, rfl, -, -⟩ := hv.is
    have HZ := Lib.hid (And.intro (H1.out.trans (hb2.mono H1.out.size)) hv)
    clear HS hv hb2 H1
    generalize (staysL cs).length = ln at HZ ⊢
    go_wp2_with fail
    exact bodyPost_ret (v := .tuple #[.slice Av ln cv, .int .i64 0]) (by simp [results, Try.results7, go_sem]) rfl ⟨HZ.out.1, by first | exact .inr ⟨rfl, _, rfl, HZ.out.2⟩ | exact ⟨_, rfl, HZ.out.2⟩⟩
end Go.Proofs.Ythjmncngegchjaa

/-
  What rows.Check answers, in one form.
-/
namespace Go.Proofs.Ythjmncngegchjaa
open Go.RowKit Go.Maps
set_option maxRecDepth 20000

theorem CheckR.forms {w w' : World} {l : List Ev} {e : Ending} (h : CheckR w l e w') : ∃ b k x y, e = .returned (.tuple #[.bool b, .agg #[.int .i64 k, .int .i64 x, .int .i64 y], .int .i64 (rowsE l)]) ∧ Below w.heap.size w w' ∧
    (rowsE l = 0 → b = (k == 0) ∧ badQ (callsOf [2] l).1 = ⟨k, x, y⟩) ∧ (rowsE l ≠ 0 → b = false ∧ k = 0 ∧ x = 0 ∧ y = 0) := by
  obtain ⟨hb, ⟨h1, h2⟩ | ⟨h1, h2⟩⟩ := h
  · exact ⟨false, 0, 0, 0, h2, hb, fun h => absurd h h1, fun _ => ⟨rfl, rfl, rfl, rfl⟩⟩
  · exact ⟨_, _, _, _, by rw [h1]; exact h2, hb, fun _ => ⟨rfl, rfl⟩, fun h => absurd h1 h⟩
/-- What Check tells may be exactly where it tells nothing. -/
theorem badQ_none {l : List Ev} (h : rowsE l = 0) {k x y : Int} (hb : badQ (callsOf [2] l).1 = ⟨k, x, y⟩) (hk : k = 0) : x = 0 ∧ y = 0 := by
  rcases (rowsE_que h).bad with ⟨e, _⟩ | ⟨_, _, _, _, _, _, e⟩ | ⟨_, _, _, _, _, _, _, _, _, _, _, _, e⟩ | ⟨_, _, _, _, _, _, _, _, _, _, _, e⟩ | ⟨_, _, _, _, _, _, e⟩ | ⟨_, _, _, _, _, _, _, _, _, _, e⟩
  · rw [e] at hb
    unfold noBz at hb
    injection hb with h1 h2 h3
    exact ⟨h2.symm, h3.symm⟩
  all_goals
    rw [e] at hb
    injection hb with h1 h2 h3
    omega
end Go.Proofs.Ythjmncngegchjaa
