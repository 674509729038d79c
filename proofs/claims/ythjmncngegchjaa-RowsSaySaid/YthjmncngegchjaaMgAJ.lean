/-
  Joined by a program out of: RFirst, SkipAt.
-/
import Derived.Test.YthjmncngegchjaaMgAF
import Derived.Test.YthjmncngegchjaaMgAH

/-
  Contract of (*rows.record).firstDequeue, by each of its four closures.
-/
namespace Go.Proofs.Ythjmncngegchjaa
open Go.RowKit Go.Maps
set_option maxRecDepth 20000

abbrev clQ (c : Cl) : Value := .agg #[.int .i64 c.who, .int .i64 c.thing, .int .i64 c.kind, .int .i64 c.arg, .int .i64 c.res, .int .i64 c.frm, .int .i64 c.til]
theorem firstD_step {kd : Int} {f : Nat → Cl → Int × Bool} {cs : List Cl} {k : Nat} {c : Cl} (h : cs[k]? = some c) : firstD kd f k (cs.drop k) = if c.kind = 4 ∧ (f k c).2 = true then ⟨kd, k, (f k c).1⟩ else firstD kd f (k + 1) (cs.drop (k + 1)) := by
  obtain ⟨h2, h3⟩ := List.getElem?_eq_some_iff.1 h
  rw [List.drop_eq_getElem_cons h2, h3, firstD]
set_option maxHeartbeats 8000000 in
theorem rfirstS_any {P : Nat} {f : Nat → Cl → Int × Bool} {w : World} {B Q : Nat} {A : Option Addr} {cap n : Nat} {cs : List Cl} {M1 M2 : Nat} {F1 F2 : Int → Option Int} (h : Rec w B Q 1000 A cap n cs M1 M2 F1 F2) (hn : n = cs.length) (hm : n ≤ 200) (kd : Int)
    (hcl : ∀ (k : Nat) (c : Cl) (W : World), cs[k]? = some c → c.kind = 4 → Below w.heap.size w W → Calls Try.prog 39 #[.int .i64 k, clQ c, .pointer (some ⟨P, 0, none⟩)] W fun e w' => e = .returned (.tuple #[.int .i64 (f k c).1, .bool (f k c).2]) ∧ Below W.heap.size W w') :
    Calls Try.prog 38 #[.pointer (some ⟨Q, 0, none⟩), .int .i64 kd, .func (.func 39) #[] #[.pointer (some ⟨P, 0, none⟩)]] w fun e w' => e = .returned (bzV (firstD kd f 0 cs)) ∧ Below w.heap.size w w' := by
  obtain ⟨R, hR⟩ : ∃ R, R = firstD kd f 0 cs := ⟨_, rfl⟩
  rw [← hR]
  have hb0 : Below w.heap.size w (w.alloc (.cells #[.int .i64 0, .int .i64 0, .int .i64 0] 28)) := (Below.refl _ _).alloc (Nat.le_refl _) _
  have hc0 : CRd w w.heap.size (.slice A n cap) cs := h.cls.mono (by have := h.sz; have := h.rcd.lt; omega)
  obtain ⟨_, _, hsl, hm1, hm2⟩ := hc0.is
  injection hsl with hs1 hs2 hs3
  subst hs1 hs3
  unfold maxLen at hm2
  have hr0 := Lies.cell (h.next hb0).rcd 0
  simp only [List.getElem?_toArray, List.getElem?_cons_zero] at hr0
  have H0 := Lib.hid (And.intro hb0 (And.intro (Lies.new w 28 #[.int .i64 0, .int .i64 0, .int .i64 0]) hc0))
  have HC := Lib.hid hcl
  have HN := Lib.hid (And.intro hn hR)
  clear h hn hR hb0 hc0 hcl hs2 hm1
  go_enter Try.func38, Try.ntmps38
  go_wp2_with fail
  clear hr0
  have h0 := And.intro H0.out.1 H0.out.2.1
  have HCR := Lib.hid H0.out.2.2
  clear H0
  change Code.wp _ _ _ _ (w.alloc (.cells #[.int .i64 0, .int .i64 0, .int .i64 0] 28))
  generalize w.alloc (.cells #[.int .i64 0, .int .i64 0, .int .i64 0] 28) = W at h0 ⊢
  go_loopw [16] (fun i wr => ∃ k : Nat, k ≤ n ∧ i = .int .i64 k ∧ firstD kd f k (cs.drop k) = R ∧ Below w.heap.size w wr ∧ Lies wr w.heap.size 28 #[.int .i64 0, .int .i64 0, .int .i64 0]) (fun i _ => n - (intOf i).toNat)
  case atStart => exact ⟨0, by omega, rfl, by rw [List.drop_zero, HN.out.2], h0⟩
  case round =>
    clear h0
    obtain ⟨k, hk, rfl, hq, hb, hres⟩ := hrel
    by_cases hkn : k < n
    · obtain ⟨y, hy⟩ : ∃ y, cs[k]? = some y := ⟨_, List.getElem?_eq_getElem (by rw [← HN.out.1]; exact hkn)⟩
      rw [firstD_step hy] at hq
      obtain ⟨g, o, hA, -, d0, d1, d2, d3, d4, d5, d6⟩ := (HCR.out.below hb).cl hy
      subst hA
      obtain ⟨fk, hfk⟩ : ∃ fk, fk = f k y := ⟨_, rfl⟩
      have hcy := fun (W : World) (hk4 : y.kind = 4) (hW : Below w.heap.size w W) => HC.out k y W hy hk4 hW
      rw [← hfk] at hq hcy
      obtain ⟨y0, y1, y2, y3, y4, y5, y6⟩ := y
      simp only at d0 d1 d2 d3 d4 d5 d6 hq hcy
      have i1 : (0 : Int) ≤ (k : Int) := by omega
      have i2 : (k : Int) < (n : Int) := by omega
      have hal : Below wr.heap.size wr (wr.alloc (.cells #[.int .i64 y0, .int .i64 y1, .int .i64 y2, .int .i64 y3, .int .i64 y4, .int .i64 y5, .int .i64 y6] 49)) := (Below.refl _ _).alloc (Nat.le_refl _) _
      have HO := Lib.hid (And.intro (hb.trans (hal.mono hb.size)) (And.intro (Lies.below hres hal hres.lt) (Lies.new wr 49 #[.int .i64 y0, .int .i64 y1, .int .i64 y2, .int .i64 y3, .int .i64 y4, .int .i64 y5, .int .i64 y6])))
      have HY := Lib.hid (And.intro hq hcy)
      clear hy hq hal hcy hfk hb hres
      go_upto_region 4 with fail
      clear d0 d1 d2 d3 d4 d5 d6
      change Code.wp _ _ _ _ (wr.alloc (.cells #[.int .i64 y0, .int .i64 y1, .int .i64 y2, .int .i64 y3, .int .i64 y4, .int .i64 y5, .int .i64 y6] 49))
      generalize wr.alloc (.cells #[.int .i64 y0, .int .i64 y1, .int .i64 y2, .int .i64 y3, .int .i64 y4, .int .i64 y5, .int .i64 y6] 49) = W2 at HO ⊢
      generalize wr.heap.size = X at HO ⊢
      have e0 := Lies.cell HO.out.2.2 0
      have e1 := Lies.cell HO.out.2.2 1
      have e2 := Lies.cell HO.out.2.2 2
      have e3 := Lies.cell HO.out.2.2 3
      have e4 := Lies.cell HO.out.2.2 4
      have e5 := Lies.cell HO.out.2.2 5
      have e6 := Lies.cell HO.out.2.2 6
      simp only [List.getElem?_toArray, List.getElem?_cons_zero, List.getElem?_cons_succ] at e0 e1 e2 e3 e4 e5 e6
      by_cases h4 : y2 = 4
      · subst h4
        have HK := Lib.hid (HY.out.2 W2 rfl HO.out.1)
        obtain ⟨fb, fi⟩ := fk
        go_wp2_with fail
        refine HK.out.mono ?_
        rintro e w3 ⟨rfl, hb3⟩
        have H3 := Lib.hid (And.intro (HO.out.1.trans (hb3.mono HO.out.1.size)) (Lies.below HO.out.2.1 hb3 HO.out.2.1.lt))
        have hq := HY.out.1
        clear HK HO HY hb3 e0 e1 e2 e3 e4 e5 e6
        cases fi
        · rw [if_neg (by simp)] at hq
          have HZ := Lib.hid hq
          clear hq
          go_wp2_with fail
          go_roundw
          case rel => exact ⟨k + 1, by omega, by go_num, HZ.out, H3.out⟩
          case measure => simp [intOf]; omega
        · rw [if_pos (by simp)] at hq
          have HZ := Lib.hid hq
          have r0 := Lies.cell H3.out.2 0
          have r1 := Lies.cell H3.out.2 1
          have r2 := Lies.cell H3.out.2 2
          have rf : ∀ i, w3.frozen? ⟨w.heap.size, i, none⟩ = false := fun i => Lies.frozen H3.out.2 i
          simp only [List.getElem?_toArray, List.getElem?_cons_zero, List.getElem?_cons_succ] at r0 r1 r2
          clear hq
          go_wp2_with fail
          clear r0 r1 r2 rf
          have hl := fill3_lies (a := .int .i64 kd) (b := .int .i64 k) (c := .int .i64 fb) H3.out.2
          have hb := fill3_below (a := .int .i64 kd) (b := .int .i64 k) (c := .int .i64 fb) H3.out.1 (g := w.heap.size) (Nat.le_refl _)
          change bodyPost _ _ _ _ _ (fill3 w3 w.heap.size (.int .i64 kd) (.int .i64 k) (.int .i64 fb))
          generalize fill3 w3 w.heap.size (.int .i64 kd) (.int .i64 k) (.int .i64 fb) = wz at hl hb ⊢
          have q0 := Lies.cell hl 0
          have q1 := Lies.cell hl 1
          have q2 := Lies.cell hl 2
          simp only [List.getElem?_toArray, List.getElem?_cons_zero, List.getElem?_cons_succ] at q0 q1 q2
          exact bodyPost_ret (v := bzV ⟨kd, k, fb⟩) (by simp [results, Try.results38, go_sem, q0, q1, q2]) rfl ⟨by rw [← HZ.out], hb⟩
      · have hz : (y2 != 4) = true := by rw [bne_iff_ne]; exact h4
        have hq := HY.out.1
        rw [if_neg (fun hh => h4 hh.1)] at hq
        have HZ := Lib.hid (And.intro hq (And.intro HO.out.1 HO.out.2.1))
        clear hq h4 HO HY
        go_wp2_with fail
        go_roundw
        case rel => exact ⟨k + 1, by omega, by go_num, HZ.out⟩
        case measure => simp [intOf]; omega
    · obtain rfl : n = k := by omega
      rw [List.drop_eq_nil_of_le (by rw [← HN.out.1]; exact Nat.le_refl _), firstD] at hq
      have r0 := Lies.cell hres 0
      have r1 := Lies.cell hres 1
      have r2 := Lies.cell hres 2
      have rf : ∀ i, wr.frozen? ⟨w.heap.size, i, none⟩ = false := fun i => Lies.frozen hres i
      simp only [List.getElem?_toArray, List.getElem?_cons_zero, List.getElem?_cons_succ] at r0 r1 r2
      have HZ := Lib.hid (And.intro hb (And.intro hres hq))
      clear hb hres hq
      go_wp2_with fail
      clear r0 r1 r2 rf
      have hl := fill3_lies (a := .int .i64 0) (b := .int .i64 0) (c := .int .i64 0) HZ.out.2.1
      have hb := fill3_below (a := .int .i64 0) (b := .int .i64 0) (c := .int .i64 0) HZ.out.1 (g := w.heap.size) (Nat.le_refl _)
      change bodyPost _ _ _ _ _ (fill3 wr w.heap.size (.int .i64 0) (.int .i64 0) (.int .i64 0))
      generalize fill3 wr w.heap.size (.int .i64 0) (.int .i64 0) (.int .i64 0) = wz at hl hb ⊢
      have q0 := Lies.cell hl 0
      have q1 := Lies.cell hl 1
      have q2 := Lies.cell hl 2
      simp only [List.getElem?_toArray, List.getElem?_cons_zero, List.getElem?_cons_succ] at q0 q1 q2
      exact bodyPost_ret (v := bzV ⟨0, 0, 0⟩) (by simp [results, Try.results38, go_sem, q0, q1, q2]) rfl ⟨by rw [← HZ.out.2.2] <;> rfl, hb⟩
set_option maxHeartbeats 8000000 in
theorem rfirstT_any {P : Nat} {f : Nat → Cl → Int × Bool} {w : World} {B Q : Nat} {A : Option Addr} {cap n : Nat} {cs : List Cl} {M1 M2 : Nat} {F1 F2 : Int → Option Int} (h : Rec w B Q 1000 A cap n cs M1 M2 F1 F2) (hn : n = cs.length) (hm : n ≤ 200) (kd : Int)
    (hcl : ∀ (k : Nat) (c : Cl) (W : World), cs[k]? = some c → c.kind = 4 → Below w.heap.size w W → Calls Try.prog 41 #[.int .i64 k, clQ c, .pointer (some ⟨P, 0, none⟩)] W fun e w' => e = .returned (.tuple #[.int .i64 (f k c).1, .bool (f k c).2]) ∧ Below W.heap.size W w') :
    Calls Try.prog 38 #[.pointer (some ⟨Q, 0, none⟩), .int .i64 kd, .func (.func 41) #[] #[.pointer (some ⟨P, 0, none⟩)]] w fun e w' => e = .returned (bzV (firstD kd f 0 cs)) ∧ Below w.heap.size w w' := by
  obtain ⟨R, hR⟩ : ∃ R, R = firstD kd f 0 cs := ⟨_, rfl⟩
  rw [← hR]
  have hb0 : Below w.heap.size w (w.alloc (.cells #[.int .i64 0, .int .i64 0, .int .i64 0] 28)) := (Below.refl _ _).alloc (Nat.le_refl _) _
  have hc0 : CRd w w.heap.size (.slice A n cap) cs := h.cls.mono (by have := h.sz; have := h.rcd.lt; omega)
  obtain ⟨_, _, hsl, hm1, hm2⟩ := hc0.is
  injection hsl with hs1 hs2 hs3
  subst hs1 hs3
  unfold maxLen at hm2
  have hr0 := Lies.cell (h.next hb0).rcd 0
  simp only [List.getElem?_toArray, List.getElem?_cons_zero] at hr0
  have H0 := Lib.hid (And.intro hb0 (And.intro (Lies.new w 28 #[.int .i64 0, .int .i64 0, .int .i64 0]) hc0))
  have HC := Lib.hid hcl
  have HN := Lib.hid (And.intro hn hR)
  clear h hn hR hb0 hc0 hcl hs2 hm1
  go_enter Try.func38, Try.ntmps38
  go_wp2_with fail
  clear hr0
  have h0 := And.intro H0.out.1 H0.out.2.1
  have HCR := Lib.hid H0.out.2.2
  clear H0
  change Code.wp _ _ _ _ (w.alloc (.cells #[.int .i64 0, .int .i64 0, .int .i64 0] 28))
  generalize w.alloc (.cells #[.int .i64 0, .int .i64 0, .int .i64 0] 28) = W at h0 ⊢
  go_loopw [16] (fun i wr => ∃ k : Nat, k ≤ n ∧ i = .int .i64 k ∧ firstD kd f k (cs.drop k) = R ∧ Below w.heap.size w wr ∧ Lies wr w.heap.size 28 #[.int .i64 0, .int .i64 0, .int .i64 0]) (fun i _ => n - (intOf i).toNat)
  case atStart => exact ⟨0, by omega, rfl, by rw [List.drop_zero, HN.out.2], h0⟩
  case round =>
    clear h0
    obtain ⟨k, hk, rfl, hq, hb, hres⟩ := hrel
    by_cases hkn : k < n
    · obtain ⟨y, hy⟩ : ∃ y, cs[k]? = some y := ⟨_, List.getElem?_eq_getElem (by rw [← HN.out.1]; exact hkn)⟩
      rw [firstD_step hy] at hq
      obtain ⟨g, o, hA, -, d0, d1, d2, d3, d4, d5, d6⟩ := (HCR.out.below hb).cl hy
      subst hA
      obtain ⟨fk, hfk⟩ : ∃ fk, fk = f k y := ⟨_, rfl⟩
      have hcy := fun (W : World) (hk4 : y.kind = 4) (hW : Below w.heap.size w W) => HC.out k y W hy hk4 hW
      rw [← hfk] at hq hcy
      obtain ⟨y0, y1, y2, y3, y4, y5, y6⟩ := y
      simp only at d0 d1 d2 d3 d4 d5 d6 hq hcy
      have i1 : (0 : Int) ≤ (k : Int) := by omega
      have i2 : (k : Int) < (n : Int) := by omega
      have hal : Below wr.heap.size wr (wr.alloc (.cells #[.int .i64 y0, .int .i64 y1, .int .i64 y2, .int .i64 y3, .int .i64 y4, .int .i64 y5, .int .i64 y6] 49)) := (Below.refl _ _).alloc (Nat.le_refl _) _
      have HO := Lib.hid (And.intro (hb.trans (hal.mono hb.size)) (And.intro (Lies.below hres hal hres.lt) (Lies.new wr 49 #[.int .i64 y0, .int .i64 y1, .int .i64 y2, .int .i64 y3, .int .i64 y4, .int .i64 y5, .int .i64 y6])))
      have HY := Lib.hid (And.intro hq hcy)
      clear hy hq hal hcy hfk hb hres
      go_upto_region 4 with fail
      clear d0 d1 d2 d3 d4 d5 d6
      change Code.wp _ _ _ _ (wr.alloc (.cells #[.int .i64 y0, .int .i64 y1, .int .i64 y2, .int .i64 y3, .int .i64 y4, .int .i64 y5, .int .i64 y6] 49))
      generalize wr.alloc (.cells #[.int .i64 y0, .int .i64 y1, .int .i64 y2, .int .i64 y3, .int .i64 y4, .int .i64 y5, .int .i64 y6] 49) = W2 at HO ⊢
      generalize wr.heap.size = X at HO ⊢
      have e0 := Lies.cell HO.out.2.2 0
      have e1 := Lies.cell HO.out.2.2 1
      have e2 := Lies.cell HO.out.2.2 2
      have e3 := Lies.cell HO.out.2.2 3
      have e4 := Lies.cell HO.out.2.2 4
      have e5 := Lies.cell HO.out.2.2 5
      have e6 := Lies.cell HO.out.2.2 6
      simp only [List.getElem?_toArray, List.getElem?_cons_zero, List.getElem?_cons_succ] at e0 e1 e2 e3 e4 e5 e6
      by_cases h4 : y2 = 4
      · subst h4
        have HK := Lib.hid (HY.out.2 W2 rfl HO.out.1)
        obtain ⟨fb, fi⟩ := fk
        go_wp2_with fail
        refine HK.out.mono ?_
        rintro e w3 ⟨rfl, hb3⟩
        have H3 := Lib.hid (And.intro (HO.out.1.trans (hb3.mono HO.out.1.size)) (Lies.below HO.out.2.1 hb3 HO.out.2.1.lt))
        have hq := HY.out.1
        clear HK HO HY hb3 e0 e1 e2 e3 e4 e5 e6
        cases fi
        · rw [if_neg (by simp)] at hq
          have HZ := Lib.hid hq
          clear hq
          go_wp2_with fail
          go_roundw
          case rel => exact ⟨k + 1, by omega, by go_num, HZ.out, H3.out⟩
          case measure => simp [intOf]; omega
        · rw [if_pos (by simp)] at hq
          have HZ := Lib.hid hq
          have r0 := Lies.cell H3.out.2 0
          have r1 := Lies.cell H3.out.2 1
          have r2 := Lies.cell H3.out.2 2
          have rf : ∀ i, w3.frozen? ⟨w.heap.size, i, none⟩ = false := fun i => Lies.frozen H3.out.2 i
          simp only [List.getElem?_toArray, List.getElem?_cons_zero, List.getElem?_cons_succ] at r0 r1 r2
          clear hq
          go_wp2_with fail
          clear r0 r1 r2 rf
          have hl := fill3_lies (a := .int .i64 kd) (b := .int .i64 k) (c := .int .i64 fb) H3.out.2
          have hb := fill3_below (a := .int .i64 kd) (b := .int .i64 k) (c := .int .i64 fb) H3.out.1 (g := w.heap.size) (Nat.le_refl _)
          change bodyPost _ _ _ _ _ (fill3 w3 w.heap.size (.int .i64 kd) (.int .i64 k) (.int .i64 fb))
          generalize fill3 w3 w.heap.size (.int .i64 kd) (.int .i64 k) (.int .i64 fb) = wz at hl hb ⊢
          have q0 := Lies.cell hl 0
          have q1 := Lies.cell hl 1
          have q2 := Lies.cell hl 2
          simp only [List.getElem?_toArray, List.getElem?_cons_zero, List.getElem?_cons_succ] at q0 q1 q2
          exact bodyPost_ret (v := bzV ⟨kd, k, fb⟩) (by simp [results, Try.results38, go_sem, q0, q1, q2]) rfl ⟨by rw [← HZ.out], hb⟩
      · have hz : (y2 != 4) = true := by rw [bne_iff_ne]; exact h4
        have hq := HY.out.1
        rw [if_neg (fun hh => h4 hh.1)] at hq
        have HZ := Lib.hid (And.intro hq (And.intro HO.out.1 HO.out.2.1))
        clear hq h4 HO HY
        go_wp2_with fail
        go_roundw
        case rel => exact ⟨k + 1, by omega, by go_num, HZ.out⟩
        case measure => simp [intOf]; omega
    · obtain rfl : n = k := by omega
      rw [List.drop_eq_nil_of_le (by rw [← HN.out.1]; exact Nat.le_refl _), firstD] at hq
      have r0 := Lies.cell hres 0
      have r1 := Lies.cell hres 1
      have r2 := Lies.cell hres 2
      have rf : ∀ i, wr.frozen? ⟨w.heap.size, i, none⟩ = false := fun i => Lies.frozen hres i
      simp only [List.getElem?_toArray, List.getElem?_cons_zero, List.getElem?_cons_succ] at r0 r1 r2
      have HZ := Lib.hid (And.intro hb (And.intro hres hq))
      clear hb hres hq
      go_wp2_with fail
      clear r0 r1 r2 rf
      have hl := fill3_lies (a := .int .i64 0) (b := .int .i64 0) (c := .int .i64 0) HZ.out.2.1
      have hb := fill3_below (a := .int .i64 0) (b := .int .i64 0) (c := .int .i64 0) HZ.out.1 (g := w.heap.size) (Nat.le_refl _)
      change bodyPost _ _ _ _ _ (fill3 wr w.heap.size (.int .i64 0) (.int .i64 0) (.int .i64 0))
      generalize fill3 wr w.heap.size (.int .i64 0) (.int .i64 0) (.int .i64 0) = wz at hl hb ⊢
      have q0 := Lies.cell hl 0
      have q1 := Lies.cell hl 1
      have q2 := Lies.cell hl 2
      simp only [List.getElem?_toArray, List.getElem?_cons_zero, List.getElem?_cons_succ] at q0 q1 q2
      exact bodyPost_ret (v := bzV ⟨0, 0, 0⟩) (by simp [results, Try.results38, go_sem, q0, q1, q2]) rfl ⟨by rw [← HZ.out.2.2] <;> rfl, hb⟩
set_option maxHeartbeats 8000000 in
theorem rfirstE_any {P : Nat} {f : Nat → Cl → Int × Bool} {w : World} {B Q : Nat} {A : Option Addr} {cap n : Nat} {cs : List Cl} {M1 M2 : Nat} {F1 F2 : Int → Option Int} (h : Rec w B Q 1000 A cap n cs M1 M2 F1 F2) (hn : n = cs.length) (hm : n ≤ 200) (kd : Int)
    (hcl : ∀ (k : Nat) (c : Cl) (W : World), cs[k]? = some c → c.kind = 4 → Below w.heap.size w W → Calls Try.prog 42 #[.int .i64 k, clQ c, .pointer (some ⟨P, 0, none⟩)] W fun e w' => e = .returned (.tuple #[.int .i64 (f k c).1, .bool (f k c).2]) ∧ Below W.heap.size W w') :
    Calls Try.prog 38 #[.pointer (some ⟨Q, 0, none⟩), .int .i64 kd, .func (.func 42) #[] #[.pointer (some ⟨P, 0, none⟩)]] w fun e w' => e = .returned (bzV (firstD kd f 0 cs)) ∧ Below w.heap.size w w' := by
  obtain ⟨R, hR⟩ : ∃ R, R = firstD kd f 0 cs := ⟨_, rfl⟩
  rw [← hR]
  have hb0 : Below w.heap.size w (w.alloc (.cells #[.int .i64 0, .int .i64 0, .int .i64 0] 28)) := (Below.refl _ _).alloc (Nat.le_refl _) _
  have hc0 : CRd w w.heap.size (.slice A n cap) cs := h.cls.mono (by have := h.sz; have := h.rcd.lt; omega)
  obtain ⟨_, _, hsl, hm1, hm2⟩ := hc0.is
  injection hsl with hs1 hs2 hs3
  subst hs1 hs3
  unfold maxLen at hm2
  have hr0 := Lies.cell (h.next hb0).rcd 0
  simp only [List.getElem?_toArray, List.getElem?_cons_zero] at hr0
  have H0 := Lib.hid (And.intro hb0 (And.intro (Lies.new w 28 #[.int .i64 0, .int .i64 0, .int .i64 0]) hc0))
  have HC := Lib.hid hcl
  have HN := Lib.hid (And.intro hn hR)
  clear h hn hR hb0 hc0 hcl hs2 hm1
  go_enter Try.func38, Try.ntmps38
  go_wp2_with fail
  clear hr0
  have h0 := And.intro H0.out.1 H0.out.2.1
  have HCR := Lib.hid H0.out.2.2
  clear H0
  change Code.wp _ _ _ _ (w.alloc (.cells #[.int .i64 0, .int .i64 0, .int .i64 0] 28))
  generalize w.alloc (.cells #[.int .i64 0, .int .i64 0, .int .i64 0] 28) = W at h0 ⊢
  go_loopw [16] (fun i wr => ∃ k : Nat, k ≤ n ∧ i = .int .i64 k ∧ firstD kd f k (cs.drop k) = R ∧ Below w.heap.size w wr ∧ Lies wr w.heap.size 28 #[.int .i64 0, .int .i64 0, .int .i64 0]) (fun i _ => n - (intOf i).toNat)
  case atStart => exact ⟨0, by omega, rfl, by rw [List.drop_zero, HN.out.2], h0⟩
  case round =>
    clear h0
    obtain ⟨k, hk, rfl, hq, hb, hres⟩ := hrel
    by_cases hkn : k < n
    · obtain ⟨y, hy⟩ : ∃ y, cs[k]? = some y := ⟨_, List.getElem?_eq_getElem (by rw [← HN.out.1]; exact hkn)⟩
      rw [firstD_step hy] at hq
      obtain ⟨g, o, hA, -, d0, d1, d2, d3, d4, d5, d6⟩ := (HCR.out.below hb).cl hy
      subst hA
      obtain ⟨fk, hfk⟩ : ∃ fk, fk = f k y := ⟨_, rfl⟩
      have hcy := fun (W : World) (hk4 : y.kind = 4) (hW : Below w.heap.size w W) => HC.out k y W hy hk4 hW
      rw [← hfk] at hq hcy
      obtain ⟨y0, y1, y2, y3, y4, y5, y6⟩ := y
      simp only at d0 d1 d2 d3 d4 d5 d6 hq hcy
      have i1 : (0 : Int) ≤ (k : Int) := by omega
      have i2 : (k : Int) < (n : Int) := by omega
      have hal : Below wr.heap.size wr (wr.alloc (.cells #[.int .i64 y0, .int .i64 y1, .int .i64 y2, .int .i64 y3, .int .i64 y4, .int .i64 y5, .int .i64 y6] 49)) := (Below.refl _ _).alloc (Nat.le_refl _) _
      have HO := Lib.hid (And.intro (hb.trans (hal.mono hb.size)) (And.intro (Lies.below hres hal hres.lt) (Lies.new wr 49 #[.int .i64 y0, .int .i64 y1, .int .i64 y2, .int .i64 y3, .int .i64 y4, .int .i64 y5, .int .i64 y6])))
      have HY := Lib.hid (And.intro hq hcy)
      clear hy hq hal hcy hfk hb hres
      go_upto_region 4 with fail
      clear d0 d1 d2 d3 d4 d5 d6
      change Code.wp _ _ _ _ (wr.alloc (.cells #[.int .i64 y0, .int .i64 y1, .int .i64 y2, .int .i64 y3, .int .i64 y4, .int .i64 y5, .int .i64 y6] 49))
      generalize wr.alloc (.cells #[.int .i64 y0, .int .i64 y1, .int .i64 y2, .int .i64 y3, .int .i64 y4, .int .i64 y5, .int .i64 y6] 49) = W2 at HO ⊢
      generalize wr.heap.size = X at HO ⊢
      have e0 := Lies.cell HO.out.2.2 0
      have e1 := Lies.cell HO.out.2.2 1
      have e2 := Lies.cell HO.out.2.2 2
      have e3 := Lies.cell HO.out.2.2 3
      have e4 := Lies.cell HO.out.2.2 4
      have e5 := Lies.cell HO.out.2.2 5
      have e6 := Lies.cell HO.out.2.2 6
      simp only [List.getElem?_toArray, List.getElem?_cons_zero, List.getElem?_cons_succ] at e0 e1 e2 e3 e4 e5 e6
      by_cases h4 : y2 = 4
      · subst h4
        have HK := Lib.hid (HY.out.2 W2 rfl HO.out.1)
        obtain ⟨fb, fi⟩ := fk
        go_wp2_with fail
        refine HK.out.mono ?_
        rintro e w3 ⟨rfl, hb3⟩
        have H3 := Lib.hid (And.intro (HO.out.1.trans (hb3.mono HO.out.1.size)) (Lies.below HO.out.2.1 hb3 HO.out.2.1.lt))
        have hq := HY.out.1
        clear HK HO HY hb3 e0 e1 e2 e3 e4 e5 e6
        cases fi
        · rw [if_neg (by simp)] at hq
          have HZ := Lib.hid hq
          clear hq
          go_wp2_with fail
          go_roundw
          case rel => exact ⟨k + 1, by omega, by go_num, HZ.out, H3.out⟩
          case measure => simp [intOf]; omega
        · rw [if_pos (by simp)] at hq
          have HZ := Lib.hid hq
          have r0 := Lies.cell H3.out.2 0
          have r1 := Lies.cell H3.out.2 1
          have r2 := Lies.cell H3.out.2 2
          have rf : ∀ i, w3.frozen? ⟨w.heap.size, i, none⟩ = false := fun i => Lies.frozen H3.out.2 i
          simp only [List.getElem?_toArray, List.getElem?_cons_zero, List.getElem?_cons_succ] at r0 r1 r2
          clear hq
          go_wp2_with fail
          clear r0 r1 r2 rf
          have hl := fill3_lies (a := .int .i64 kd) (b := .int .i64 k) (c := .int .i64 fb) H3.out.2
          have hb := fill3_below (a := .int .i64 kd) (b := .int .i64 k) (c := .int .i64 fb) H3.out.1 (g := w.heap.size) (Nat.le_refl _)
          change bodyPost _ _ _ _ _ (fill3 w3 w.heap.size (.int .i64 kd) (.int .i64 k) (.int .i64 fb))
          generalize fill3 w3 w.heap.size (.int .i64 kd) (.int .i64 k) (.int .i64 fb) = wz at hl hb ⊢
          have q0 := Lies.cell hl 0
          have q1 := Lies.cell hl 1
          have q2 := Lies.cell hl 2
          simp only [List.getElem?_toArray, List.getElem?_cons_zero, List.getElem?_cons_succ] at q0 q1 q2
          exact bodyPost_ret (v := bzV ⟨kd, k, fb⟩) (by simp [results, Try.results38, go_sem, q0, q1, q2]) rfl ⟨by rw [← HZ.out], hb⟩
      · have hz : (y2 != 4) = true := by rw [bne_iff_ne]; exact h4
        have hq := HY.out.1
        rw [if_neg (fun hh => h4 hh.1)] at hq
        have HZ := Lib.hid (And.intro hq (And.intro HO.out.1 HO.out.2.1))
        clear hq h4 HO HY
        go_wp2_with fail
        go_roundw
        case rel => exact ⟨k + 1, by omega, by go_num, HZ.out⟩
        case measure => simp [intOf]; omega
    · obtain rfl : n = k := by omega
      rw [List.drop_eq_nil_of_le (by rw [← HN.out.1]; exact Nat.le_refl _), firstD] at hq
      have r0 := Lies.cell hres 0
      have r1 := Lies.cell hres 1
      have r2 := Lies.cell hres 2
      have rf : ∀ i, wr.frozen? ⟨w.heap.size, i, none⟩ = false := fun i => Lies.frozen hres i
      simp only [List.getElem?_toArray, List.getElem?_cons_zero, List.getElem?_cons_succ] at r0 r1 r2
      have HZ := Lib.hid (And.intro hb (And.intro hres hq))
      clear hb hres hq
      go_wp2_with fail
      clear r0 r1 r2 rf
      have hl := fill3_lies (a := .int .i64 0) (b := .int .i64 0) (c := .int .i64 0) HZ.out.2.1
      have hb := fill3_below (a := .int .i64 0) (b := .int .i64 0) (c := .int .i64 0) HZ.out.1 (g := w.heap.size) (Nat.le_refl _)
      change bodyPost _ _ _ _ _ (fill3 wr w.heap.size (.int .i64 0) (.int .i64 0) (.int .i64 0))
      generalize fill3 wr w.heap.size (.int .i64 0) (.int .i64 0) (.int .i64 0) = wz at hl hb ⊢
      have q0 := Lies.cell hl 0
      have q1 := Lies.cell hl 1
      have q2 := Lies.cell hl 2
      simp only [List.getElem?_toArray, List.getElem?_cons_zero, List.getElem?_cons_succ] at q0 q1 q2
      exact bodyPost_ret (v := bzV ⟨0, 0, 0⟩) (by simp [results, Try.results38, go_sem, q0, q1, q2]) rfl ⟨by rw [← HZ.out.2.2] <;> rfl, hb⟩
set_option maxHeartbeats 8000000 in
theorem rfirstM_any {P : Nat} {f : Nat → Cl → Int × Bool} {w : World} {B Q : Nat} {A : Option Addr} {cap n : Nat} {cs : List Cl} {M1 M2 : Nat} {F1 F2 : Int → Option Int} (h : Rec w B Q 1000 A cap n cs M1 M2 F1 F2) (hn : n = cs.length) (hm : n ≤ 200) (kd : Int)
    (hcl : ∀ (k : Nat) (c : Cl) (W : World), cs[k]? = some c → c.kind = 4 → Below w.heap.size w W → Calls Try.prog 45 #[.int .i64 k, clQ c, .pointer (some ⟨P, 0, none⟩)] W fun e w' => e = .returned (.tuple #[.int .i64 (f k c).1, .bool (f k c).2]) ∧ Below W.heap.size W w') :
    Calls Try.prog 38 #[.pointer (some ⟨Q, 0, none⟩), .int .i64 kd, .func (.func 45) #[] #[.pointer (some ⟨P, 0, none⟩)]] w fun e w' => e = .returned (bzV (firstD kd f 0 cs)) ∧ Below w.heap.size w w' := by
  obtain ⟨R, hR⟩ : ∃ R, R = firstD kd f 0 cs := ⟨_, rfl⟩
  rw [← hR]
  have hb0 : Below w.heap.size w (w.alloc (.cells #[.int .i64 0, .int .i64 0, .int .i64 0] 28)) := (Below.refl _ _).alloc (Nat.le_refl _) _
  have hc0 : CRd w w.heap.size (.slice A n cap) cs := h.cls.mono (by have := h.sz; have := h.rcd.lt; omega)
  obtain ⟨_, _, hsl, hm1, hm2⟩ := hc0.is
  injection hsl with hs1 hs2 hs3
  subst hs1 hs3
  unfold maxLen at hm2
  have hr0 := Lies.cell (h.next hb0).rcd 0
  simp only [List.getElem?_toArray, List.getElem?_cons_zero] at hr0
  have H0 := Lib.hid (And.intro hb0 (And.intro (Lies.new w 28 #[.int .i64 0, .int .i64 0, .int .i64 0]) hc0))
  have HC := Lib.hid hcl
  have HN := Lib.hid (And.intro hn hR)
  clear h hn hR hb0 hc0 hcl hs2 hm1
  go_enter Try.func38, Try.ntmps38
  go_wp2_with fail
  clear hr0
  have h0 := And.intro H0.out.1 H0.out.2.1
  have HCR := Lib.hid H0.out.2.2
  clear H0
  change Code.wp _ _ _ _ (w.alloc (.cells #[.int .i64 0, .int .i64 0, .int .i64 0] 28))
  generalize w.alloc (.cells #[.int .i64 0, .int .i64 0, .int .i64 0] 28) = W at h0 ⊢
  go_loopw [16] (fun i wr => ∃ k : Nat, k ≤ n ∧ i = .int .i64 k ∧ firstD kd f k (cs.drop k) = R ∧ Below w.heap.size w wr ∧ Lies wr w.heap.size 28 #[.int .i64 0, .int .i64 0, .int .i64 0]) (fun i _ => n - (intOf i).toNat)
  case atStart => exact ⟨0, by omega, rfl, by rw [List.drop_zero, HN.out.2], h0⟩
  case round =>
    clear h0
    obtain ⟨k, hk, rfl, hq, hb, hres⟩ := hrel
    by_cases hkn : k < n
    · obtain ⟨y, hy⟩ : ∃ y, cs[k]? = some y := ⟨_, List.getElem?_eq_getElem (by rw [← HN.out.1]; exact hkn)⟩
      rw [firstD_step hy] at hq
      obtain ⟨g, o, hA, -, d0, d1, d2, d3, d4, d5, d6⟩ := (HCR.out.below hb).cl hy
      subst hA
      obtain ⟨fk, hfk⟩ : ∃ fk, fk = f k y := ⟨_, rfl⟩
      have hcy := fun (W : World) (hk4 : y.kind = 4) (hW : Below w.heap.size w W) => HC.out k y W hy hk4 hW
      rw [← hfk] at hq hcy
      obtain ⟨y0, y1, y2, y3, y4, y5, y6⟩ := y
      simp only at d0 d1 d2 d3 d4 d5 d6 hq hcy
      have i1 : (0 : Int) ≤ (k : Int) := by omega
      have i2 : (k : Int) < (n : Int) := by omega
      have hal : Below wr.heap.size wr (wr.alloc (.cells #[.int .i64 y0, .int .i64 y1, .int .i64 y2, .int .i64 y3, .int .i64 y4, .int .i64 y5, .int .i64 y6] 49)) := (Below.refl _ _).alloc (Nat.le_refl _) _
      have HO := Lib.hid (And.intro (hb.trans (hal.mono hb.size)) (And.intro (Lies.below hres hal hres.lt) (Lies.new wr 49 #[.int .i64 y0, .int .i64 y1, .int .i64 y2, .int .i64 y3, .int .i64 y4, .int .i64 y5, .int .i64 y6])))
      have HY := Lib.hid (And.intro hq hcy)
      clear hy hq hal hcy hfk hb hres
      go_upto_region 4 with fail
      clear d0 d1 d2 d3 d4 d5 d6
      change Code.wp _ _ _ _ (wr.alloc (.cells #[.int .i64 y0, .int .i64 y1, .int .i64 y2, .int .i64 y3, .int .i64 y4, .int .i64 y5, .int .i64 y6] 49))
      generalize wr.alloc (.cells #[.int .i64 y0, .int .i64 y1, .int .i64 y2, .int .i64 y3, .int .i64 y4, .int .i64 y5, .int .i64 y6] 49) = W2 at HO ⊢
      generalize wr.heap.size = X at HO ⊢
      have e0 := Lies.cell HO.out.2.2 0
      have e1 := Lies.cell HO.out.2.2 1
      have e2 := Lies.cell HO.out.2.2 2
      have e3 := Lies.cell HO.out.2.2 3
      have e4 := Lies.cell HO.out.2.2 4
      have e5 := Lies.cell HO.out.2.2 5
      have e6 := Lies.cell HO.out.2.2 6
      simp only [List.getElem?_toArray, List.getElem?_cons_zero, List.getElem?_cons_succ] at e0 e1 e2 e3 e4 e5 e6
      by_cases h4 : y2 = 4
      · subst h4
        have HK := Lib.hid (HY.out.2 W2 rfl HO.out.1)
        obtain ⟨fb, fi⟩ := fk
        go_wp2_with fail
        refine HK.out.mono ?_
        rintro e w3 ⟨rfl, hb3⟩
        have H3 := Lib.hid (And.intro (HO.out.1.trans (hb3.mono HO.out.1.size)) (Lies.below HO.out.2.1 hb3 HO.out.2.1.lt))
        have hq := HY.out.1
        clear HK HO HY hb3 e0 e1 e2 e3 e4 e5 e6
        cases fi
        · rw [if_neg (by simp)] at hq
          have HZ := Lib.hid hq
          clear hq
          go_wp2_with fail
          go_roundw
          case rel => exact ⟨k + 1, by omega, by go_num, HZ.out, H3.out⟩
          case measure => simp [intOf]; omega
        · rw [if_pos (by simp)] at hq
          have HZ := Lib.hid hq
          have r0 := Lies.cell H3.out.2 0
          have r1 := Lies.cell H3.out.2 1
          have r2 := Lies.cell H3.out.2 2
          have rf : ∀ i, w3.frozen? ⟨w.heap.size, i, none⟩ = false := fun i => Lies.frozen H3.out.2 i
          simp only [List.getElem?_toArray, List.getElem?_cons_zero, List.getElem?_cons_succ] at r0 r1 r2
          clear hq
          go_wp2_with fail
          clear r0 r1 r2 rf
          have hl := fill3_lies (a := .int .i64 kd) (b := .int .i64 k) (c := .int .i64 fb) H3.out.2
          have hb := fill3_below (a := .int .i64 kd) (b := .int .i64 k) (c := .int .i64 fb) H3.out.1 (g := w.heap.size) (Nat.le_refl _)
          change bodyPost _ _ _ _ _ (fill3 w3 w.heap.size (.int .i64 kd) (.int .i64 k) (.int .i64 fb))
          generalize fill3 w3 w.heap.size (.int .i64 kd) (.int .i64 k) (.int .i64 fb) = wz at hl hb ⊢
          have q0 := Lies.cell hl 0
          have q1 := Lies.cell hl 1
          have q2 := Lies.cell hl 2
          simp only [List.getElem?_toArray, List.getElem?_cons_zero, List.getElem?_cons_succ] at q0 q1 q2
          exact bodyPost_ret (v := bzV ⟨kd, k, fb⟩) (by simp [results, Try.results38, go_sem, q0, q1, q2]) rfl ⟨by rw [← HZ.out], hb⟩
      · have hz : (y2 != 4) = true := by rw [bne_iff_ne]; exact h4
        have hq := HY.out.1
        rw [if_neg (fun hh => h4 hh.1)] at hq
        have HZ := Lib.hid (And.intro hq (And.intro HO.out.1 HO.out.2.1))
        clear hq h4 HO HY
        go_wp2_with fail
        go_roundw
        case rel => exact ⟨k + 1, by omega, by go_num, HZ.out⟩
        case measure => simp [intOf]; omega
    · obtain rfl : n = k := by omega
      rw [List.drop_eq_nil_of_le (by rw [← HN.out.1]; exact Nat.le_refl _), firstD] at hq
      have r0 := Lies.cell hres 0
      have r1 := Lies.cell hres 1
      have r2 := Lies.cell hres 2
      have rf : ∀ i, wr.frozen? ⟨w.heap.size, i, none⟩ = false := fun i => Lies.frozen hres i
      simp only [List.getElem?_toArray, List.getElem?_cons_zero, List.getElem?_cons_succ] at r0 r1 r2
      have HZ := Lib.hid (And.intro hb (And.intro hres hq))
      clear hb hres hq
      go_wp2_with fail
      clear r0 r1 r2 rf
      have hl := fill3_lies (a := .int .i64 0) (b := .int .i64 0) (c := .int .i64 0) HZ.out.2.1
      have hb := fill3_below (a := .int .i64 0) (b := .int .i64 0) (c := .int .i64 0) HZ.out.1 (g := w.heap.size) (Nat.le_refl _)
      change bodyPost _ _ _ _ _ (fill3 wr w.heap.size (.int .i64 0) (.int .i64 0) (.int .i64 0))
      generalize fill3 wr w.heap.size (.int .i64 0) (.int .i64 0) (.int .i64 0) = wz at hl hb ⊢
      have q0 := Lies.cell hl 0
      have q1 := Lies.cell hl 1
      have q2 := Lies.cell hl 2
      simp only [List.getElem?_toArray, List.getElem?_cons_zero, List.getElem?_cons_succ] at q0 q1 q2
      exact bodyPost_ret (v := bzV ⟨0, 0, 0⟩) (by simp [results, Try.results38, go_sem, q0, q1, q2]) rfl ⟨by rw [← HZ.out.2.2] <;> rfl, hb⟩
end Go.Proofs.Ythjmncngegchjaa

/-
  An operation that its guard passes by, in a region that draws its order.
-/
namespace Go.Proofs.Ythjmncngegchjaa
set_option maxRecDepth 20000

/-- What may be passed by: its guard says so. -/
theorem skipAt (i d : Nat) {P : Program} {md : Region.Mode} {Q : Exit → Act → World → Prop} {ops : Array Oper} {S : World → Prop} {oi : Oper} {fuel : Nat} {listed : Array Bool} {a : Act} {w : World} (hi : ops[i]? = some oi) (hd : oi.dst = some d)
    (hs : Region.noSelect ops = true) (hf : Region.free md ops listed i = true) (hr : (Region.ready md ops listed).contains i = true)
    (hQ : ∀ c a w, Q (.panic c) (a.put (some d) undef) w → Q (.panic c) a w) (hy : Region.wanted oi (yielded ops a.tmps) = false) (hS : S w)
    (h : wpAnyH P md ops Q S fuel (listed.setIfInBounds i true) (a.put (some d) undef) w) : wpAnyH P md ops Q S (fuel + 1) listed a w := by
  rw [← hd] at hQ h
  exact wpAnyH_take hi hs hf hr hQ (.inr ⟨hy, rfl⟩) hS h
end Go.Proofs.Ythjmncngegchjaa
