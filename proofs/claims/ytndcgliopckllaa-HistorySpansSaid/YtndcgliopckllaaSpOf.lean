/-
  Contract of spans.Of.
-/
import Derived.Test.YtndcgliopckllaaSpRd
import Derived.Test.YtndcgliopckllaaMem
namespace Go.Proofs.Ytndcgliopckllaa
open Go.RowKit
set_option maxRecDepth 20000

/-- The relation behind k whole rows and the first j of row k. -/
def oAt (m : Nat) (F T : Nat → Int) (k j : Nat) : Nat → Nat := fun i => if i < k then spRow m F T i else if i = k then pickS (fun j => decide (T k < F j)) j else 0
theorem oAt_end (m : Nat) (F T : Nat → Int) (k : Nat) : oAt m F T k m = oAt m F T (k + 1) 0 := by
  funext i
  unfold oAt
  by_cases h1 : i < k
  · rw [if_pos h1, if_pos (by omega)]
  rw [if_neg h1]
  by_cases h2 : i = k
  · subst h2
    rw [if_pos rfl, if_pos (by omega)]
    rfl
  · rw [if_neg h2, if_neg (by omega)]
    by_cases h3 : i = k + 1
    · rw [if_pos h3]; rfl
    · rw [if_neg h3]
theorem oAt_step (m : Nat) (F T : Nat → Int) (k j : Nat) : oAt m F T k (j + 1) = if T k < F j then (fun i => if i = k then oAt m F T k j k ||| 2 ^ j else oAt m F T k j i) else oAt m F T k j := by
  split
  · rename_i h
    funext i
    unfold oAt
    by_cases h1 : i = k
    · subst h1
      simp [pickS, h]
    · simp [h1]
  · rename_i h
    funext i
    unfold oAt
    have hd : decide (T k < F j) = false := by simpa using h
    simp [pickS, hd]
theorem oAt_lt (m : Nat) (F T : Nat → Int) (k j : Nat) (hm : m ≤ 12) (hj : j ≤ 12) (i : Nat) : oAt m F T k j i < 65536 := by
  unfold oAt
  split
  · exact pickS_lt16 _ hm
  split
  · exact pickS_lt16 _ hj
  · decide
theorem oAt_all (m : Nat) (F T : Nat → Int) : oAt m F T m 0 = spRel m F T := by
  funext i
  unfold oAt spRel
  split
  · rfl
  · split <;> rfl
theorem oAt_none (m : Nat) (F T : Nat → Int) : oAt m F T 0 0 = fun _ => 0 := by
  funext i
  unfold oAt
  rw [if_neg (by omega)]
  split <;> rfl

structure ORel (w : World) (R G m : Nat) (c : Nat → Nat) (wr : World) : Prop where
  below : Below w.heap.size w wr
  res : RelB wr R 0 (fun _ => 0)
  own : RelB wr G m c
  ge : w.heap.size ≤ R
  far : R < G
theorem ORel.far' {w wr : World} {R G m : Nat} {c : Nat → Nat} (h : ORel w R G m c wr) : w.heap.size ≤ G := by
  have := h.ge
  have := h.far
  omega
theorem ORel.set_ {w wr : World} {R G m : Nat} {c : Nat → Nat} (h : ORel w R G m c wr) {k : Nat} (hk : k < 12) (x : Nat) :
    ORel w R G m (fun i => if i = k then x else c i) (wr.setCell ⟨G, 1 + k, none⟩ (.int .u16 x)) :=
  ⟨h.below.setCell h.far' _, Lies.far h.res (by have := h.far; show R ≠ G; omega) _, h.own.set' hk x, h.ge, h.far⟩
theorem ORel.drew {w wr : World} {R G m : Nat} {c : Nat → Nat} (h : ORel w R G m c wr) : ORel w R G m c wr.drew := ⟨h.below.drew, h.res, h.own, h.ge, h.far⟩
theorem ORel.alloc {w wr : World} {R G m : Nat} {c : Nat → Nat} (h : ORel w R G m c wr) (o : Obj) : ORel w R G m c (wr.alloc o) := ⟨h.below.alloc h.below.size _, Lies.alloc h.res _, Lies.alloc h.own _, h.ge, h.far⟩
theorem ORel.congr {w wr : World} {R G m : Nat} {c d : Nat → Nat} (h : ORel w R G m c wr) (e : ∀ i, i < 12 → c i = d i) : ORel w R G m d wr := ⟨h.below, h.res, h.own.congr e, h.ge, h.far⟩

theorem of_err {B m : Nat} {v : Value} {F T : Nat → Int} {w : World} (h : SRd w B v m F T) (hB : B ≤ w.heap.size) {E : Int} (hE : spErr m F T = E) (hz : (E != 0) = true) :
    Calls Try.prog 26 #[v] w fun e w' => e = .returned (.tuple #[relV 0 (fun _ => 0), .int .i64 E]) ∧ Below w.heap.size w w' := by
  have hc := chk_any (h.below ((Below.refl B w).alloc hB (.cells (relCs 0 fun _ => 0) 41))) (Nat.le_trans hB (by simp))
  rw [hE] at hc
  obtain ⟨A, c, rfl⟩ := h.is
  clear h hE
  go_enter Try.func26, Try.ntmps26
  go_wp2_with fail
  refine hc.mono ?_
  rintro e w1 ⟨rfl, hb1⟩
  clear hc
  have hw1 : Below w.heap.size w w1 := ((Below.refl _ _).alloc (Nat.le_refl _) _).trans (hb1.mono (by simp))
  have hr : RelB w1 w.heap.size 0 (fun _ => 0) := Lies.below (Lies.new w 41 (relCs 0 fun _ => 0)) hb1 (by simp)
  have HH := Lib.hid (And.intro hw1 hr)
  clear hb1 hw1
  have hs := hr.size
  obtain ⟨c0, c1, c2, c3, c4, c5, c6, c7, c8, c9, c10, c11⟩ := hr.rows
  have cf := hr.free
  clear hr
  go_wp2_with fail
  clear hs c0 c1 c2 c3 c4 c5 c6 c7 c8 c9 c10 c11 cf
  refine post_fill (W := w1) (g := w.heap.size) 0 (fun _ => 0) HH.out.2 HH.out.1 (by omega) ?_
  intro wz hz hbz
  have hs := hz.size
  obtain ⟨c0, c1, c2, c3, c4, c5, c6, c7, c8, c9, c10, c11⟩ := hz.rows
  exact bodyPost_ret (v := .tuple #[relV 0 (fun _ => 0), .int .i64 E])
    (by simp [results, Try.results26, go_sem, hs, c0, c1, c2, c3, c4, c5, c6, c7, c8, c9, c10, c11]) rfl ⟨rfl, hbz⟩

set_option maxHeartbeats 2000000 in
theorem of_ok {B m : Nat} {v : Value} {F T : Nat → Int} {w : World} (h : SRd w B v m F T) (hB : B ≤ w.heap.size) (hE : spErr m F T = 0) :
    Calls Try.prog 26 #[v] w fun e w' => e = .returned (.tuple #[relV m (spRel m F T), .int .i64 0]) ∧ Below w.heap.size w w' := by
  have hc := chk_any (h.below ((Below.refl B w).alloc hB (.cells (relCs 0 fun _ => 0) 41))) (Nat.le_trans hB (by simp))
  rw [hE] at hc
  have hm : m ≤ 12 := (spErr_zero.1 hE).1
  obtain ⟨A, c, rfl⟩ := h.is
  have H := Lib.hid (And.intro h hB)
  clear h hE hB
  go_enter Try.func26, Try.ntmps26
  go_wp2_with fail
  refine hc.mono ?_
  rintro e w1 ⟨rfl, hb1⟩
  clear hc
  have hw1 : Below w.heap.size w w1 := ((Below.refl _ _).alloc (Nat.le_refl _) _).trans (hb1.mono (by simp))
  have hr : RelB w1 w.heap.size 0 (fun _ => 0) := Lies.below (Lies.new w 41 (relCs 0 fun _ => 0)) hb1 (by simp)
  have hsz : w.heap.size < w1.heap.size := by have := hb1.size; simp at this; omega
  have hO : ORel w w.heap.size w1.heap.size m (oAt m F T 0 0) (w1.alloc (.cells (relCs m fun _ => 0) 41)) := by
    rw [oAt_none]
    exact ⟨hw1.alloc hw1.size _, Lies.alloc hr _, Lies.new _ _ _, Nat.le_refl _, hsz⟩
  have HO := Lib.hid hO
  clear hb1 hw1 hr hsz hO
  go_wp2_with fail
  have hO := HO.out
  clear HO
  change Code.wp _ _ _ _ (w1.alloc (.cells (relCs m fun _ => 0) 41))
  generalize w1.alloc (.cells (relCs m fun _ => 0) 41) = W at hO ⊢
  generalize w1.heap.size = G at hO ⊢
  go_loopw [21] (fun i wr => ∃ k : Nat, k ≤ m ∧ i = .int .i64 k ∧ ORel w w.heap.size G m (oAt m F T k 0) wr) (fun i _ => m - (intOf i).toNat)
  case atStart => exact ⟨0, by omega, rfl, hO⟩
  case round =>
    clear hO
    obtain ⟨k, hk, rfl, hO⟩ := hrel
    by_cases hkm : k < m
    · obtain ⟨g, o, rfl, hg⟩ := H.out.1.addr (by omega)
      have hb := hO.below
      obtain ⟨d1, d2⟩ := (H.out.1.below (hb.mono H.out.2)).cells hkm
      have HO := Lib.hid hO
      clear hb hg hO
      have i1 : (0 : Int) ≤ (k : Int) := by omega
      have i2 : (k : Int) < (m : Int) := by omega
      generalize hf : F k = f at d1
      generalize ht : T k = t at d2
      have HF := Lib.hid (And.intro hf ht)
      clear hf ht
      go_wp2_with fail
      obtain ⟨P, hP⟩ : ∃ P, P = wr.heap.size := ⟨_, rfl⟩
      have hl : Lies (wr.alloc (.cells #[.int .i64 f, .int .i64 t] 61)) P 61 #[.int .i64 f, .int .i64 t] := by rw [hP]; exact Lies.new _ _ _
      have hGP : G < P := by rw [hP]; exact HO.out.own.lt
      have hO := HO.out.alloc (.cells #[.int .i64 f, .int .i64 t] 61)
      rw [← hP]
      clear hP HO d1 d2
      generalize wr.alloc (.cells #[.int .i64 f, .int .i64 t] 61) = W2 at hl hO ⊢
      go_loopw [28] (fun i wr => ∃ j : Nat, j ≤ m ∧ i = .int .i64 j ∧ ORel w w.heap.size G m (oAt m F T k j) wr ∧ Lies wr P 61 #[.int .i64 f, .int .i64 t]) (fun i _ => m - (intOf i).toNat)
      case atStart => exact ⟨0, by omega, rfl, hO, hl⟩
      case round =>
        clear hO hl
        obtain ⟨j, hj, rfl, hO, hl⟩ := hrel
        by_cases hjm : j < m
        · have hb := hO.below
          obtain ⟨d1, d2⟩ := (H.out.1.below (hb.mono H.out.2)).cells hjm
          have hk12 : k < 12 := by omega
          have hst := oAt_step m F T k j
          have ck := hO.own.row' hk12
          have fk := hO.own.free (1 + k)
          have hlt := oAt_lt m F T k j hm (by omega) k
          have e2 : wr.cell? ⟨P, 1, none⟩ = some (.int .i64 t) := Lies.cell hl 1
          have hPl := hl.lt
          have hGl : G < wr.heap.size := hO.own.lt
          have k12 : (k : Int) < 12 := by omega
          have HO := Lib.hid (And.intro hO hl)
          clear hb hO hl
          have j1 : (0 : Int) ≤ (j : Int) := by omega
          have j2 : (j : Int) < (m : Int) := by omega
          generalize hx : oAt m F T k j k = x at ck hlt hst
          have ho := or_pow x j hlt (by omega)
          have hp := pow_u16 j (by omega)
          rw [HF.out.2] at hst
          generalize hf' : F j = f' at d1 hst
          generalize ht' : T j = t' at d2
          clear ht' hf'
          by_cases hcmp : t < f'
          · rw [if_pos hcmp] at hst
            have HS := Lib.hid (And.intro hst hx)
            clear hst hx
            go_wp2_with fail
            go_region
            have h1 : ORel w w.heap.size G m (oAt m F T k (j + 1)) ((wr.setCell ⟨G, 1 + k, none⟩ (.int .u16 ((x ||| 2 ^ j : Nat) : Int))).alloc (.cells #[.int .i64 f', .int .i64 t'] 61)).drew := by
              rw [HS.out.1]
              exact ((HO.out.1.set_ hk12 _).alloc _).drew
            have h2 : Lies ((wr.setCell ⟨G, 1 + k, none⟩ (.int .u16 ((x ||| 2 ^ j : Nat) : Int))).alloc (.cells #[.int .i64 f', .int .i64 t'] 61)).drew P 61 #[.int .i64 f, .int .i64 t] :=
              ((Lies.far HO.out.2 (by show P ≠ G; omega) _).alloc _).drew
            clear ck fk e2 d1 d2 ho hp
            generalize ((wr.setCell ⟨G, 1 + k, none⟩ (.int .u16 ((x ||| 2 ^ j : Nat) : Int))).alloc (.cells #[.int .i64 f', .int .i64 t'] 61)).drew = w5 at h1 h2 ⊢
            have HX := Lib.hid (And.intro h1 h2)
            clear h1 h2 hPl hGl
            go_wp2_with fail
            go_roundw
            case rel => exact ⟨j + 1, by omega, by go_num, HX.out⟩
            case measure => simp [intOf]; omega
          · rw [if_neg hcmp] at hst
            have HS := Lib.hid (And.intro hst hx)
            clear hst hx
            go_wp2_with fail
            go_roundw
            case rel => exact ⟨j + 1, by omega, by go_num, by rw [HS.out.1]; exact HO.out.1.alloc _, HO.out.2.alloc _⟩
            case measure => simp [intOf]; omega
        · obtain rfl : j = m := by omega
          rw [oAt_end] at hO
          go_wp2_with fail
          go_roundw
          case rel => exact ⟨k + 1, by omega, by go_num, hO⟩
          case measure => simp [intOf]; omega
    · obtain rfl : k = m := by omega
      rw [oAt_all] at hO
      have hr := hO.res.size
      obtain ⟨r0, r1, r2, r3, r4, r5, r6, r7, r8, r9, r10, r11⟩ := hO.res.rows
      have hc := hO.own.size
      obtain ⟨c0, c1, c2, c3, c4, c5, c6, c7, c8, c9, c10, c11⟩ := hO.own.rows
      have hf := hO.res.free
      go_wp2_with fail
      clear hr r0 r1 r2 r3 r4 r5 r6 r7 r8 r9 r10 r11 hc c0 c1 c2 c3 c4 c5 c6 c7 c8 c9 c10 c11 hf
      refine post_fill (W := wr) (g := w.heap.size) k (spRel k F T) hO.res hO.below (by omega) ?_
      intro wz hz hbz
      have hs := hz.size
      obtain ⟨c0, c1, c2, c3, c4, c5, c6, c7, c8, c9, c10, c11⟩ := hz.rows
      exact bodyPost_ret (v := .tuple #[relV k (spRel k F T), .int .i64 0])
        (by simp [results, Try.results26, go_sem, hs, c0, c1, c2, c3, c4, c5, c6, c7, c8, c9, c10, c11]) rfl ⟨rfl, hbz⟩
end Go.Proofs.Ytndcgliopckllaa
