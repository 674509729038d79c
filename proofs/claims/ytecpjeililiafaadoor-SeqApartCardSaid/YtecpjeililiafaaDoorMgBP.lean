/-
  Joined by a program out of: SeqRel, SeqEpo.
-/
import Derived.Test.YtecpjeililiafaaDoorMgBO
import Derived.Test.YtecpjeililiafaaDoorMgAE
import Derived.Test.YtecpjeililiafaaDoorMgAB
import Derived.Test.YtecpjeililiafaaDoorMgAD
import Derived.Test.YtecpjeililiafaaDoorMgBD

/-
  Contracts of package seq's relations: relate, byProcess, byEpoch and their closures.
-/
namespace Go.Proofs.YtecpjeililiafaaDoor
open Go.RowKit
set_option maxRecDepth 20000

set_option maxHeartbeats 4000000 in
theorem relateP_any {P : Nat} {m : Nat} {p : Nat → Nat → Bool} {w : World} (hm : m ≤ 12)
    (hf : ∀ (i j : Nat) (W : World), i < m → j < m → Below w.heap.size w W → Calls Tryd.prog 104 #[.int .i64 i, .int .i64 j, .pointer (some ⟨P, 0, none⟩)] W fun e W' => e = .returned (.bool (p i j)) ∧ Below W.heap.size W W') :
    Calls Tryd.prog 103 #[.int .i64 m, .func (.func 104) #[] #[.pointer (some ⟨P, 0, none⟩)]] w fun e w' => e = .returned (relV m (relP p m)) ∧ Below w.heap.size w w' := by
  have hO : ORel w w.heap.size (w.heap.size + 1) m (upP p m 0 0) ((w.alloc (.cells (relCs 0 fun _ => 0) 36)).alloc (.cells (relCs m fun _ => 0) 36)) := by
    rw [upP_none]
    have h2 := Lies.new (w.alloc (.cells (relCs 0 fun _ => 0) 36)) 36 (relCs m fun _ => 0)
    rw [World.size_alloc] at h2
    exact ⟨((Below.refl _ _).alloc (Nat.le_refl _) _).alloc (by simp) _, Lies.alloc (Lies.new _ _ _) _, h2, Nat.le_refl _, by omega⟩
  have HO := Lib.hid hO
  have HF := Lib.hid hf
  clear hf hO
  go_enter Tryd.func103, Tryd.ntmps103
  go_wp2_with fail
  have hO := HO.out
  clear HO
  change Code.wp _ _ _ _ ((w.alloc (.cells (relCs 0 fun _ => 0) 36)).alloc (.cells (relCs m fun _ => 0) 36))
  generalize (w.alloc (.cells (relCs 0 fun _ => 0) 36)).alloc (.cells (relCs m fun _ => 0) 36) = W at hO ⊢
  obtain ⟨G, hG⟩ : ∃ G, G = w.heap.size + 1 := ⟨_, rfl⟩
  rw [← hG] at hO ⊢
  clear hG
  go_loopw [11] (fun i wr => ∃ k : Nat, k ≤ m ∧ i = .int .i64 k ∧ ORel w w.heap.size G m (upP p m k 0) wr) (fun i _ => m - (intOf i).toNat)
  case atStart => exact ⟨0, by omega, rfl, hO⟩
  case round =>
    clear hO
    obtain ⟨k, hk, rfl, hO⟩ := hrel
    by_cases hkm : k < m
    · have i2 : (k : Int) < (m : Int) := by omega
      have HO := Lib.hid hO
      clear hO
      go_wp2_with fail
      go_loopw [15] (fun i wr => ∃ j : Nat, j ≤ m ∧ i = .int .i64 j ∧ ORel w w.heap.size G m (upP p m k j) wr) (fun i _ => m - (intOf i).toNat)
      case atStart => exact ⟨0, by omega, rfl, HO.out⟩
      case round =>
        clear HO
        obtain ⟨j, hj, rfl, hO⟩ := hrel
        by_cases hjm : j < m
        · have j2 : (j : Int) < (m : Int) := by omega
          have hst := upP_step p m k j
          have HC := Lib.hid (HF.out k j wr hkm hjm hO.below)
          have HO := Lib.hid hO
          have HS := Lib.hid hst
          clear hO hst
          go_wp2_with fail
          refine HC.out.mono ?_
          rintro e w4 ⟨rfl, hb4⟩
          have hO := HO.out.next hb4
          clear HC HO hb4
          cases hb : p k j
          · have hs := HS.out
            rw [hb, if_neg (by decide)] at hs
            have HS2 := Lib.hid hs
            have HOO := Lib.hid hO
            clear hs hb hO
            go_wp2_with fail
            go_roundw
            case rel => exact ⟨j + 1, by omega, by go_num, by rw [HS2.out]; exact HOO.out⟩
            case measure => simp [intOf]; omega
          · have hs := HS.out
            rw [hb, if_pos rfl] at hs
            have HS2 := Lib.hid hs
            have k12 : (k : Int) < 12 := by omega
            have hk12 : k < 12 := by omega
            have ck := hO.own.row' hk12
            have fk := hO.own.free (1 + k)
            have hlt := upP_lt p m k j hm (by omega) k
            have HOO := Lib.hid hO
            clear hO hs hb
            generalize hxx : upP p m k j k = z at ck hlt HS2
            have ho := or_pow z j hlt (by omega)
            have hp := pow_u16 j (by omega)
            have HXX := Lib.hid hxx
            clear hxx
            go_wp2_with fail
            go_region
            have h1 : ORel w w.heap.size G m (upP p m k (j + 1)) (w4.setCell ⟨G, 1 + k, none⟩ (.int .u16 ((z ||| 2 ^ j : Nat) : Int))).drew := by
              rw [HS2.out]
              exact (HOO.out.set_ hk12 _).drew
            clear ck fk ho hp
            generalize (w4.setCell ⟨G, 1 + k, none⟩ (.int .u16 ((z ||| 2 ^ j : Nat) : Int))).drew = w5 at h1 ⊢
            have HX := Lib.hid h1
            clear h1
            go_wp2_with fail
            go_roundw
            case rel => exact ⟨j + 1, by omega, by go_num, HX.out⟩
            case measure => simp [intOf]; omega
        · obtain rfl : j = m := by omega
          rw [upP_end] at hO
          have HOO := Lib.hid hO
          clear hO
          go_wp2_with fail
          go_roundw
          case rel => exact ⟨k + 1, by omega, by go_num, HOO.out⟩
          case measure => simp [intOf]; omega
    · obtain rfl : k = m := by omega
      rw [upP_all] at hO
      have hr := hO.res.size
      obtain ⟨r0, r1, r2, r3, r4, r5, r6, r7, r8, r9, r10, r11⟩ := hO.res.rows
      have hc := hO.own.size
      obtain ⟨c0, c1, c2, c3, c4, c5, c6, c7, c8, c9, c10, c11⟩ := hO.own.rows
      have hf := hO.res.free
      go_wp2_with fail
      clear hr r0 r1 r2 r3 r4 r5 r6 r7 r8 r9 r10 r11 hc c0 c1 c2 c3 c4 c5 c6 c7 c8 c9 c10 c11 hf
      refine post_fill (W := wr) (g := w.heap.size) k (relP p k) hO.res hO.below (by omega) ?_
      intro wz hz hbz
      have hs := hz.size
      obtain ⟨c0, c1, c2, c3, c4, c5, c6, c7, c8, c9, c10, c11⟩ := hz.rows
      exact bodyPost_ret (v := relV k (relP p k))
        (by simp [results, Tryd.results103, go_sem, hs, c0, c1, c2, c3, c4, c5, c6, c7, c8, c9, c10, c11]) rfl ⟨rfl, hbz⟩

set_option maxHeartbeats 4000000 in
theorem relateE_any {P : Nat} {m : Nat} {p : Nat → Nat → Bool} {w : World} (hm : m ≤ 12)
    (hf : ∀ (i j : Nat) (W : World), i < m → j < m → Below w.heap.size w W → Calls Tryd.prog 105 #[.int .i64 i, .int .i64 j, .pointer (some ⟨P, 0, none⟩)] W fun e W' => e = .returned (.bool (p i j)) ∧ Below W.heap.size W W') :
    Calls Tryd.prog 103 #[.int .i64 m, .func (.func 105) #[] #[.pointer (some ⟨P, 0, none⟩)]] w fun e w' => e = .returned (relV m (relP p m)) ∧ Below w.heap.size w w' := by
  have hO : ORel w w.heap.size (w.heap.size + 1) m (upP p m 0 0) ((w.alloc (.cells (relCs 0 fun _ => 0) 36)).alloc (.cells (relCs m fun _ => 0) 36)) := by
    rw [upP_none]
    have h2 := Lies.new (w.alloc (.cells (relCs 0 fun _ => 0) 36)) 36 (relCs m fun _ => 0)
    rw [World.size_alloc] at h2
    exact ⟨((Below.refl _ _).alloc (Nat.le_refl _) _).alloc (by simp) _, Lies.alloc (Lies.new _ _ _) _, h2, Nat.le_refl _, by omega⟩
  have HO := Lib.hid hO
  have HF := Lib.hid hf
  clear hf hO
  go_enter Tryd.func103, Tryd.ntmps103
  go_wp2_with fail
  have hO := HO.out
  clear HO
  change Code.wp _ _ _ _ ((w.alloc (.cells (relCs 0 fun _ => 0) 36)).alloc (.cells (relCs m fun _ => 0) 36))
  generalize (w.alloc (.cells (relCs 0 fun _ => 0) 36)).alloc (.cells (relCs m fun _ => 0) 36) = W at hO ⊢
  obtain ⟨G, hG⟩ : ∃ G, G = w.heap.size + 1 := ⟨_, rfl⟩
  rw [← hG] at hO ⊢
  clear hG
  go_loopw [11] (fun i wr => ∃ k : Nat, k ≤ m ∧ i = .int .i64 k ∧ ORel w w.heap.size G m (upP p m k 0) wr) (fun i _ => m - (intOf i).toNat)
  case atStart => exact ⟨0, by omega, rfl, hO⟩
  case round =>
    clear hO
    obtain ⟨k, hk, rfl, hO⟩ := hrel
    by_cases hkm : k < m
    · have i2 : (k : Int) < (m : Int) := by omega
      have HO := Lib.hid hO
      clear hO
      go_wp2_with fail
      go_loopw [15] (fun i wr => ∃ j : Nat, j ≤ m ∧ i = .int .i64 j ∧ ORel w w.heap.size G m (upP p m k j) wr) (fun i _ => m - (intOf i).toNat)
      case atStart => exact ⟨0, by omega, rfl, HO.out⟩
      case round =>
        clear HO
        obtain ⟨j, hj, rfl, hO⟩ := hrel
        by_cases hjm : j < m
        · have j2 : (j : Int) < (m : Int) := by omega
          have hst := upP_step p m k j
          have HC := Lib.hid (HF.out k j wr hkm hjm hO.below)
          have HO := Lib.hid hO
          have HS := Lib.hid hst
          clear hO hst
          go_wp2_with fail
          refine HC.out.mono ?_
          rintro e w4 ⟨rfl, hb4⟩
          have hO := HO.out.next hb4
          clear HC HO hb4
          cases hb : p k j
          · have hs := HS.out
            rw [hb, if_neg (by decide)] at hs
            have HS2 := Lib.hid hs
            have HOO := Lib.hid hO
            clear hs hb hO
            go_wp2_with fail
            go_roundw
            case rel => exact ⟨j + 1, by omega, by go_num, by rw [HS2.out]; exact HOO.out⟩
            case measure => simp [intOf]; omega
          · have hs := HS.out
            rw [hb, if_pos rfl] at hs
            have HS2 := Lib.hid hs
            have k12 : (k : Int) < 12 := by omega
            have hk12 : k < 12 := by omega
            have ck := hO.own.row' hk12
            have fk := hO.own.free (1 + k)
            have hlt := upP_lt p m k j hm (by omega) k
            have HOO := Lib.hid hO
            clear hO hs hb
            generalize hxx : upP p m k j k = z at ck hlt HS2
            have ho := or_pow z j hlt (by omega)
            have hp := pow_u16 j (by omega)
            have HXX := Lib.hid hxx
            clear hxx
            go_wp2_with fail
            go_region
            have h1 : ORel w w.heap.size G m (upP p m k (j + 1)) (w4.setCell ⟨G, 1 + k, none⟩ (.int .u16 ((z ||| 2 ^ j : Nat) : Int))).drew := by
              rw [HS2.out]
              exact (HOO.out.set_ hk12 _).drew
            clear ck fk ho hp
            generalize (w4.setCell ⟨G, 1 + k, none⟩ (.int .u16 ((z ||| 2 ^ j : Nat) : Int))).drew = w5 at h1 ⊢
            have HX := Lib.hid h1
            clear h1
            go_wp2_with fail
            go_roundw
            case rel => exact ⟨j + 1, by omega, by go_num, HX.out⟩
            case measure => simp [intOf]; omega
        · obtain rfl : j = m := by omega
          rw [upP_end] at hO
          have HOO := Lib.hid hO
          clear hO
          go_wp2_with fail
          go_roundw
          case rel => exact ⟨k + 1, by omega, by go_num, HOO.out⟩
          case measure => simp [intOf]; omega
    · obtain rfl : k = m := by omega
      rw [upP_all] at hO
      have hr := hO.res.size
      obtain ⟨r0, r1, r2, r3, r4, r5, r6, r7, r8, r9, r10, r11⟩ := hO.res.rows
      have hc := hO.own.size
      obtain ⟨c0, c1, c2, c3, c4, c5, c6, c7, c8, c9, c10, c11⟩ := hO.own.rows
      have hf := hO.res.free
      go_wp2_with fail
      clear hr r0 r1 r2 r3 r4 r5 r6 r7 r8 r9 r10 r11 hc c0 c1 c2 c3 c4 c5 c6 c7 c8 c9 c10 c11 hf
      refine post_fill (W := wr) (g := w.heap.size) k (relP p k) hO.res hO.below (by omega) ?_
      intro wz hz hbz
      have hs := hz.size
      obtain ⟨c0, c1, c2, c3, c4, c5, c6, c7, c8, c9, c10, c11⟩ := hz.rows
      exact bodyPost_ret (v := relV k (relP p k))
        (by simp [results, Tryd.results103, go_sem, hs, c0, c1, c2, c3, c4, c5, c6, c7, c8, c9, c10, c11]) rfl ⟨rfl, hbz⟩

/-- One's own calls: the closure. -/
theorem ownF_any {P : Nat} {A : Option Addr} {c n B : Nat} {cs : List Cl} {w : World} (hP : w.cell? ⟨P, 0, none⟩ = some (.slice A n c)) (hc : CRd w B (.slice A n c) cs) (hn : n = cs.length) {i j : Nat} (hi : i < n) (hj : j < n) :
    Calls Tryd.prog 104 #[.int .i64 i, .int .i64 j, .pointer (some ⟨P, 0, none⟩)] w fun e w' => e = .returned (.bool (ownB cs i j)) ∧ Below w.heap.size w w' := by
  obtain ⟨x, hx⟩ : ∃ x, cs[i]? = some x := ⟨_, List.getElem?_eq_getElem (by omega)⟩
  obtain ⟨y, hy⟩ : ∃ y, cs[j]? = some y := ⟨_, List.getElem?_eq_getElem (by omega)⟩
  have hv : ownB cs i j = decide (i < j ∧ x.who = y.who) := by
    unfold ownB
    rw [List.getD_eq_getElem?_getD, List.getD_eq_getElem?_getD, hx, hy]
    rfl
  obtain ⟨g, o, hA, -, d0, -⟩ := hc.cl hx
  obtain ⟨g', o', hA', -, e0, -⟩ := hc.cl hy
  subst hA
  injection hA' with hA'
  injection hA' with h1 h2
  subst h1
  subst h2
  rw [hv]
  clear hv hx hy hc
  have i0 : (0 : Int) ≤ (i : Int) := by omega
  have i1 : (i : Int) < (n : Int) := by omega
  have j0 : (0 : Int) ≤ (j : Int) := by omega
  have j1 : (j : Int) < (n : Int) := by omega
  generalize x.who = xw at d0 ⊢
  generalize y.who = yw at e0 ⊢
  by_cases h : i < j
  · have hd : decide (i < j ∧ xw = yw) = (xw == yw) := by rw [Bool.eq_iff_iff, decide_eq_true_iff, beq_iff_eq]; exact ⟨fun h => h.2, fun k => ⟨h, k⟩⟩
    rw [hd]
    clear hd
    generalize hbb : (xw == yw) = b
    have hij : (i : Int) < (j : Int) := by omega
    clear h
    go_enter Tryd.func104, Tryd.ntmps104
    go_wp2_with fail
    go_quiet (fail)
    go_wp2_with fail
    go_ret
    exact ⟨rfl, belowN (Below.refl _ _) _⟩
  · have hd : decide (i < j ∧ xw = yw) = false := decide_eq_false fun k => h k.1
    rw [hd]
    clear hd
    have hij : ¬ (i : Int) < (j : Int) := by omega
    have hij2 : decide (i < j) = false := decide_eq_false h
    have hij3 : ¬ i < j := h
    clear h
    go_enter Tryd.func104, Tryd.ntmps104
    go_wp2_with fail
    go_quiet (fail)
    go_wp2_with fail
    go_ret
    exact ⟨rfl, belowN (Below.refl _ _) _⟩
/-- The lesser calm: the closure. -/
theorem epoF_any {P : Nat} {A : Option Addr} {c n B : Nat} {es : List Int} {w : World} (hP : w.cell? ⟨P, 0, none⟩ = some (.slice A n c)) (hc : NRd w B (.slice A n c) es) (hn : n = es.length) {i j : Nat} (hi : i < n) (hj : j < n) :
    Calls Tryd.prog 105 #[.int .i64 i, .int .i64 j, .pointer (some ⟨P, 0, none⟩)] w fun e w' => e = .returned (.bool (decide (es.getD i 0 < es.getD j 0))) ∧ Below w.heap.size w w' := by
  obtain ⟨x, hx⟩ : ∃ x, es[i]? = some x := ⟨_, List.getElem?_eq_getElem (by omega)⟩
  obtain ⟨y, hy⟩ : ∃ y, es[j]? = some y := ⟨_, List.getElem?_eq_getElem (by omega)⟩
  have hv : decide (es.getD i 0 < es.getD j 0) = decide (x < y) := by
    rw [List.getD_eq_getElem?_getD, List.getD_eq_getElem?_getD, hx, hy]
    rfl
  obtain ⟨g, o, hA, -, d0⟩ := hc.num hx
  obtain ⟨g', o', hA', -, e0⟩ := hc.num hy
  subst hA
  injection hA' with hA'
  injection hA' with h1 h2
  subst h1
  subst h2
  rw [hv]
  clear hv hx hy hc
  have i0 : (0 : Int) ≤ (i : Int) := by omega
  have i1 : (i : Int) < (n : Int) := by omega
  have j0 : (0 : Int) ≤ (j : Int) := by omega
  have j1 : (j : Int) < (n : Int) := by omega
  generalize hbb : decide (x < y) = b
  go_enter Tryd.func105, Tryd.ntmps105
  go_wp2_with fail
  go_quiet (fail)
  go_wp2_with fail
  go_ret
  exact ⟨rfl, belowN (Below.refl _ _) _⟩
set_option maxHeartbeats 4000000 in
theorem byProcess_any {cv : Value} {cs : List Cl} {w : World} (hc : CRd w w.heap.size cv cs) (hn12 : cs.length ≤ 12) :
    Calls Tryd.prog 78 #[cv] w fun e w' => e = .returned (relV cs.length (relP (ownB cs) cs.length)) ∧ Below w.heap.size w w' := by
  obtain ⟨A, c, rfl, -, -⟩ := hc.is
  obtain ⟨n, hn⟩ : ∃ n, n = cs.length := ⟨_, rfl⟩
  rw [← hn] at hc hn12 ⊢
  have hb0 : Below w.heap.size w ((w.alloc (.cells #[.slice A n c] 30)).alloc (.cells (relCs 0 fun _ => 0) 36)) := ((Below.refl _ _).alloc (Nat.le_refl _) _).alloc (by simp) _
  have hR : RelB ((w.alloc (.cells #[.slice A n c] 30)).alloc (.cells (relCs 0 fun _ => 0) 36)) (w.heap.size + 1) 0 (fun _ => 0) := by
    have := Lies.new (w.alloc (.cells #[.slice A n c] 30)) 36 (relCs 0 fun _ => 0)
    rw [World.size_alloc] at this
    exact this
  have hP : Lies ((w.alloc (.cells #[.slice A n c] 30)).alloc (.cells (relCs 0 fun _ => 0) 36)) w.heap.size 30 #[.slice A n c] := Lies.alloc (Lies.new _ _ _) _
  have hrel := relateP_any (P := w.heap.size) (m := n) (p := ownB cs) (w := (w.alloc (.cells #[.slice A n c] 30)).alloc (.cells (relCs 0 fun _ => 0) 36)) hn12
    (fun i j W hi hj hb => ownF_any (Lies.cell (Lies.below hP hb hP.lt) 0) ((hc.below hb0).below (hb.mono hb0.size)) hn hi hj)
  have hP0 : ((w.alloc (.cells #[.slice A n c] 30)).alloc (.cells (relCs 0 fun _ => 0) 36)).cell? ⟨w.heap.size, 0, none⟩ = some (.slice A n c) := Lies.cell hP 0
  have HR := Lib.hid hrel
  have HH := Lib.hid (And.intro hb0 hR)
  generalize relP (ownB cs) n = q at HR ⊢
  clear hrel hb0 hR hP hc hn
  go_enter Tryd.func78, Tryd.ntmps78
  go_wp2_with fail
  refine HR.out.mono ?_
  rintro e w1 ⟨rfl, hb1⟩
  have hr1 : RelB w1 (w.heap.size + 1) 0 (fun _ => 0) := Lies.below HH.out.2 hb1 HH.out.2.lt
  have hbb := HH.out.1.trans (hb1.mono HH.out.1.size)
  have c0 := hr1.size
  obtain ⟨c1, c2, c3, c4, c5, c6, c7, c8, c9, c10, c11, c12⟩ := hr1.rows
  have hf := hr1.free
  have H2 := Lib.hid (And.intro hbb hr1)
  clear hb1 hr1 hbb HR hP0
  go_wp2_with fail
  refine post_fill n q H2.out.2 H2.out.1 (Nat.le_succ _) fun wz hz hbz => ?_
  clear c0 c1 c2 c3 c4 c5 c6 c7 c8 c9 c10 c11 c12 hf
  have c0 := hz.size
  obtain ⟨c1, c2, c3, c4, c5, c6, c7, c8, c9, c10, c11, c12⟩ := hz.rows
  exact bodyPost_ret (v := relV n q)
    (by simp [results, Tryd.results78, go_sem, c0, c1, c2, c3, c4, c5, c6, c7, c8, c9, c10, c11, c12]) rfl ⟨rfl, hbz⟩
set_option maxHeartbeats 4000000 in
theorem byEpoch_any {cv : Value} {es : List Int} {w : World} (hc : NRd w w.heap.size cv es) (hn12 : es.length ≤ 12) :
    Calls Tryd.prog 80 #[cv] w fun e w' => e = .returned (relV es.length (relP (fun i j => decide (es.getD i 0 < es.getD j 0)) es.length)) ∧ Below w.heap.size w w' := by
  obtain ⟨A, c, rfl, -, -⟩ := hc.is
  obtain ⟨n, hn⟩ : ∃ n, n = es.length := ⟨_, rfl⟩
  rw [← hn] at hc hn12 ⊢
  have hb0 : Below w.heap.size w ((w.alloc (.cells #[.slice A n c] 22)).alloc (.cells (relCs 0 fun _ => 0) 36)) := ((Below.refl _ _).alloc (Nat.le_refl _) _).alloc (by simp) _
  have hR : RelB ((w.alloc (.cells #[.slice A n c] 22)).alloc (.cells (relCs 0 fun _ => 0) 36)) (w.heap.size + 1) 0 (fun _ => 0) := by
    have := Lies.new (w.alloc (.cells #[.slice A n c] 22)) 36 (relCs 0 fun _ => 0)
    rw [World.size_alloc] at this
    exact this
  have hP : Lies ((w.alloc (.cells #[.slice A n c] 22)).alloc (.cells (relCs 0 fun _ => 0) 36)) w.heap.size 22 #[.slice A n c] := Lies.alloc (Lies.new _ _ _) _
  have hrel := relateE_any (P := w.heap.size) (m := n) (p := fun i j => decide (es.getD i 0 < es.getD j 0)) (w := (w.alloc (.cells #[.slice A n c] 22)).alloc (.cells (relCs 0 fun _ => 0) 36)) hn12
    (fun i j W hi hj hb => epoF_any (Lies.cell (Lies.below hP hb hP.lt) 0) ((hc.below hb0).below (hb.mono hb0.size)) hn hi hj)
  have hP0 : ((w.alloc (.cells #[.slice A n c] 22)).alloc (.cells (relCs 0 fun _ => 0) 36)).cell? ⟨w.heap.size, 0, none⟩ = some (.slice A n c) := Lies.cell hP 0
  have HR := Lib.hid hrel
  have HH := Lib.hid (And.intro hb0 hR)
  generalize relP (fun i j => decide (es.getD i 0 < es.getD j 0)) n = q at HR ⊢
  clear hrel hb0 hR hP hc hn
  go_enter Tryd.func80, Tryd.ntmps80
  go_wp2_with fail
  refine HR.out.mono ?_
  rintro e w1 ⟨rfl, hb1⟩
  have hr1 : RelB w1 (w.heap.size + 1) 0 (fun _ => 0) := Lies.below HH.out.2 hb1 HH.out.2.lt
  have hbb := HH.out.1.trans (hb1.mono HH.out.1.size)
  have c0 := hr1.size
  obtain ⟨c1, c2, c3, c4, c5, c6, c7, c8, c9, c10, c11, c12⟩ := hr1.rows
  have hf := hr1.free
  have H2 := Lib.hid (And.intro hbb hr1)
  clear hb1 hr1 hbb HR hP0
  go_wp2_with fail
  refine post_fill n q H2.out.2 H2.out.1 (Nat.le_succ _) fun wz hz hbz => ?_
  clear c0 c1 c2 c3 c4 c5 c6 c7 c8 c9 c10 c11 c12 hf
  have c0 := hz.size
  obtain ⟨c1, c2, c3, c4, c5, c6, c7, c8, c9, c10, c11, c12⟩ := hz.rows
  exact bodyPost_ret (v := relV n q)
    (by simp [results, Tryd.results80, go_sem, c0, c1, c2, c3, c4, c5, c6, c7, c8, c9, c10, c11, c12]) rfl ⟨rfl, hbz⟩
end Go.Proofs.YtecpjeililiafaaDoor

/-
  Contract of seq.epochsOf.
-/
namespace Go.Proofs.YtecpjeililiafaaDoor
open Go.RowKit
set_option maxRecDepth 20000

theorem calmF_cons (p q : Int) (x : Ev) (r : List Ev) : calmF p q (x :: r) = if x.kind = 0 then (if q - 1 = 0 then calmF (p + 1) (q - 1) r else calmF p (q - 1) r) else p :: calmF p (q + 1) r := rfl
set_option maxHeartbeats 4000000 in
theorem epochsOf_any {lv : Value} {l : List Ev} {w : World} (hl : ERd w w.heap.size lv l) (hl2 : l.length ≤ 200) :
    Calls Tryd.prog 79 #[lv] w fun e w' => ∃ v, e = .returned v ∧ NOwn w' w.heap.size v (calmsL l) ∧ Below w.heap.size w w' := by
  have HL := Lib.hid hl
  obtain ⟨Al, capl, rfl, -, -⟩ := hl.is
  obtain ⟨n, hn⟩ : ∃ n, n = l.length := ⟨_, rfl⟩
  rw [← hn] at HL hl2 ⊢
  have HN := Lib.hid hn
  clear hl hn
  go_enter Tryd.func79, Tryd.ntmps79
  go_wp2_with fail
  go_loopw [10, 3, 4, 5] (fun t ev pv qv wr => ∃ (k : Nat) (out : List Int) (p q : Int), k ≤ n ∧ t = .int .i64 k ∧ pv = .int .i64 p ∧ qv = .int .i64 q ∧ 0 ≤ p ∧ p ≤ k ∧ -(k : Int) ≤ q ∧ q ≤ k ∧ out.length ≤ k ∧ NOwn wr w.heap.size ev out ∧ Below w.heap.size w wr ∧ out ++ calmF p q (l.drop k) = calmsL l) (fun t _ _ _ _ => n - (intOf t).toNat)
  case atStart => exact ⟨0, [], 0, 0, by omega, rfl, rfl, rfl, by omega, by omega, by omega, by omega, by simp, NOwn.nil _ _, Below.refl _ _, rfl⟩
  case round =>
    obtain ⟨k, out, p, q, hk, rfl, rfl, rfl, hp0, hp1, hq0, hq1, hol, hown, hb, heq⟩ := hrel
    by_cases hkn : k < n
    · obtain ⟨x, hx⟩ : ∃ x, l[k]? = some x := ⟨_, List.getElem?_eq_getElem (by rw [← HN.out]; exact hkn)⟩
      have hdrop : l.drop k = x :: l.drop (k + 1) := by
        obtain ⟨h2, h3⟩ := List.getElem?_eq_some_iff.1 hx
        rw [List.drop_eq_getElem_cons h2, h3]
      rw [hdrop, calmF_cons] at heq
      obtain ⟨g, o, hA, -, d0, d1, d2, d3⟩ := (HL.out.below hb).ev hx
      subst hA
      obtain ⟨x0, x1, x2, x3⟩ := x
      simp only at d0 d1 d2 d3 heq
      have i1 : (0 : Int) ≤ (k : Int) := by omega
      have i2 : (k : Int) < (n : Int) := by omega
      have hal : Below wr.heap.size wr (wr.alloc (.cells #[.int .i64 x0, .int .i64 x1, .int .i64 x2, .int .i64 x3] 77)) := (Below.refl _ _).alloc (Nat.le_refl _) _
      have hev : Lies (wr.alloc (.cells #[.int .i64 x0, .int .i64 x1, .int .i64 x2, .int .i64 x3] 77)) wr.heap.size 77 #[.int .i64 x0, .int .i64 x1, .int .i64 x2, .int .i64 x3] := Lies.new _ _ _
      have HO := Lib.hid (And.intro (hown.alloc (.cells #[.int .i64 x0, .int .i64 x1, .int .i64 x2, .int .i64 x3] 77)) (hb.trans (hal.mono hb.size)))
      have HE := Lib.hid heq
      clear hown hb heq hal hx hdrop
      go_upto_region 6 with fail
      change Code.wp _ _ _ _ (wr.alloc (.cells #[.int .i64 x0, .int .i64 x1, .int .i64 x2, .int .i64 x3] 77))
      generalize wr.alloc (.cells #[.int .i64 x0, .int .i64 x1, .int .i64 x2, .int .i64 x3] 77) = W2 at HO hev ⊢
      generalize wr.heap.size = G2 at hev ⊢
      have c2 : W2.cell? ⟨G2, 2, none⟩ = some (.int .i64 x2) := Lies.cell hev 2
      clear hev d0 d1 d2 d3
      by_cases hx2 : x2 = 0
      · have he := HE.out
        rw [if_pos hx2] at he
        have hz : (x2 != 0) = false := by rw [bne_eq_false_iff_eq]; exact hx2
        by_cases hq : q - 1 = 0
        · rw [if_pos hq] at he
          have hqz : (q - 1 == 0) = true := by rw [beq_iff_eq]; exact hq
          have HE2 := Lib.hid he
          have HQ := Lib.hid hq
          clear he hq hx2 HE
          go_wp2_with fail
          go_roundw
          case rel => exact ⟨k + 1, out, p + 1, q - 1, by omega, by go_num, rfl, rfl, by omega, by omega, by omega, by omega, by omega, HO.out.1, HO.out.2, HE2.out⟩
          case measure => simp [intOf]; omega
        · rw [if_neg hq] at he
          have hqz : (q - 1 == 0) = false := by rw [beq_eq_false_iff_ne]; exact hq
          have HE2 := Lib.hid he
          clear he hq hx2 HE
          go_wp2_with fail
          go_roundw
          case rel => exact ⟨k + 1, out, p, q - 1, by omega, by go_num, rfl, rfl, by omega, by omega, by omega, by omega, by omega, HO.out.1, HO.out.2, HE2.out⟩
          case measure => simp [intOf]; omega
      · have he := HE.out
        rw [if_neg hx2] at he
        have hz : (x2 != 0) = true := by rw [bne_iff_ne]; exact hx2
        have HE2 := Lib.hid he
        have HOL := Lib.hid hol
        clear he hx2 HE hol
        go_wp2_with (at_builtin; refine wpList_app_int rfl (.tmp 17) (.tmp 19) rfl w.heap.size W2.heap.size _ _ p rfl rfl (HO.out.1.alloc (.cells #[.int .i64 p] 3)) (new_int W2 3 p) (by have := HOL.out; omega) (by have := HO.out.2.size; simp; omega) ?_; intro v1 z1 ho1 hb1)
        have HY := Lib.hid (And.intro ho1 ((HO.out.2.alloc HO.out.2.size _).trans hb1))
        clear ho1 hb1
        go_wp2_with fail
        go_roundw
        case rel => exact ⟨k + 1, out ++ [p], p, q + 1, by omega, by go_num, rfl, rfl, by omega, by omega, by omega, by omega, by have := HOL.out; simp; omega, HY.out.1, HY.out.2, by rw [List.append_assoc]; exact HE2.out⟩
        case measure => simp [intOf]; omega
    · obtain rfl : k = n := by omega
      rw [List.drop_eq_nil_of_le (by rw [← HN.out]; exact Nat.le_refl _), calmF, List.append_nil] at heq
      have HX := Lib.hid (And.intro hown (And.intro hb heq))
      clear hown hb heq
      go_wp2_with fail
      go_ret
      exact ⟨_, rfl, by rw [← HX.out.2.2]; exact HX.out.1, HX.out.2.1⟩
end Go.Proofs.YtecpjeililiafaaDoor
