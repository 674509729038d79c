/-
  Joined by a program out of: SeqRel, AppInt, ContN.
-/
import Derived.Test.YtecpjeililiafaaDoorMgBC
import Derived.Test.YtecpjeililiafaaDoorMgAM
import Derived.Test.YtecpjeililiafaaDoorMgAA
import Derived.Test.YtecpjeililiafaaDoorMgAC
import Derived.Test.YtecpjeililiafaaDoorMgAE

/-
  Contracts of package seq's relations: relate, byProcess, byEpoch and their closures.
-/
namespace Go.Proofs.YtecpjeililiafaaDoor
open Go.RowKit
set_option maxRecDepth 20000

set_option maxHeartbeats 4000000 in
theorem relateP_any {P : Nat} {m : Nat} {p : Nat → Nat → Bool} {w : World} (hm : m ≤ 12)
    (hf : ∀ (i j : Nat) (W : World), i < m → j < m → Below w.heap.size w W → Calls Tryd.prog 104 #[.int .i64 i, .int .i64 j, .pointer (some ⟨P, 0, none⟩)] W fun e W' => e = .returned (.bool (p i j)) ∧ Below W.heap.size W W') :
    Calls Tryd.prog 103 #[.int .i64 m, .func (.func 104) #[] #[.pointer (some ⟨P, 0, none⟩)]] w fun e w' => e = .returned (relV m (relP p m)) ∧ Below w.heap.size w w' := by
  have hO : ORel w w.heap.size (w.heap.size + 1) m (upP p m 0 0) ((w.alloc (.cells (relCs 0 fun _ => 0) 36)).alloc (.cells (relCs m fun _ => 0) 36)) := by
    rw [upP_none]
    have h2 := Lies.new (w.alloc (.cells (relCs 0 fun _ => 0) 36)) 36 (relCs m fun _ => 0)
    rw [World.size_alloc] at h2
    exact ⟨((Below.refl _ _).alloc (Nat.le_refl _) _).alloc (by simp) _, Lies.alloc (Lies.new _ _ _) _, h2, Nat.le_refl _, by omega⟩
  have HO := Lib.hid hO
  have HF := Lib.hid hf
  clear hf hO
  go_enter Tryd.func103, Tryd.ntmps103
  go_wp2_with fail
  have hO := HO.out
  clear HO
  change Code.wp _ _ _ _ ((w.alloc (.cells (relCs 0 fun _ => 0) 36)).alloc (.cells (relCs m fun _ => 0) 36))
  generalize (w.alloc (.cells (relCs 0 fun _ => 0) 36)).alloc (.cells (relCs m fun _ => 0) 36) = W at hO ⊢
  obtain ⟨G, hG⟩ : ∃ G, G = w.heap.size + 1 := ⟨_, rfl⟩
  rw [← hG] at hO ⊢
  clear hG
  go_loopw [11] (fun i wr => ∃ k : Nat, k ≤ m ∧ i = .int .i64 k ∧ ORel w w.heap.size G m (upP p m k 0) wr) (fun i _ => m - (intOf i).toNat)
  case atStart => exact ⟨0, by omega, rfl, hO⟩
  case round =>
    clear hO
    obtain ⟨k, hk, rfl, hO⟩ := hrel
    by_cases hkm : k < m
    · have i2 : (k : Int) < (m : Int) := by omega
      have HO := Lib.hid hO
      clear hO
      go_wp2_with fail
      go_loopw [15] (fun i wr => ∃ j : Nat, j ≤ m ∧ i = .int .i64 j ∧ ORel w w.heap.size G m (upP p m k j) wr) (fun i _ => m - (intOf i).toNat)
      case atStart => exact ⟨0, by omega, rfl, HO.out⟩
      case round =>
        clear HO
        obtain ⟨j, hj, rfl, hO⟩ := hrel
        by_cases hjm : j < m
        · have j2 : (j : Int) < (m : Int) := by omega
          have hst := upP_step p m k j
          have HC := Lib.hid (HF.out k j wr hkm hjm hO.below)
          have HO := Lib.hid hO
          have HS := Lib.hid hst
          clear hO hst
          go_wp2_with fail
          refine HC.out.mono ?_
          rintro e w4 ⟨rfl, hb4⟩
          have hO := HO.out.next hb4
          clear HC HO hb4
          cases hb : p k j
          · have hs := HS.out
            rw [hb, if_neg (by decide)] at hs
            have HS2 := Lib.hid hs
            have HOO := Lib.hid hO
            clear hs hb hO
            go_wp2_with fail
            go_roundw
            case rel => exact ⟨j + 1, by omega, by go_num, by rw [HS2.out]; exact HOO.out⟩
            case measure => simp [intOf]; omega
          · have hs := HS.out
            rw [hb, if_pos rfl] at hs
            have HS2 := Lib.hid hs
            have k12 : (k : Int) < 12 := by omega
            have hk12 : k < 12 := by omega
            have ck := hO.own.row' hk12
            have fk := hO.own.free (1 + k)
            have hlt := upP_lt p m k j hm (by omega) k
            have HOO := Lib.hid hO
            clear hO hs hb
            generalize hxx : upP p m k j k = z at ck hlt HS2
            have ho := or_pow z j hlt (by omega)
            have hp := pow_u16 j (by omega)
            have HXX := Lib.hid hxx
            clear hxx
            go_wp2_with fail
            go_region
            have h1 : ORel w w.heap.size G m (upP p m k (j + 1)) (w4.setCell ⟨G, 1 + k, none⟩ (.int .u16 ((z ||| 2 ^ j : Nat) : Int))).drew := by
              rw [HS2.out]
              exact (HOO.out.set_ hk12 _).drew
            clear ck fk ho hp
            generalize (w4.setCell ⟨G, 1 + k, none⟩ (.int .u16 ((z ||| 2 ^ j : Nat) : Int))).drew = w5 at h1 ⊢
            have HX := Lib.hid h1
            clear h1
            go_wp2_with fail
            go_roundw
            case rel => exact ⟨j + 1, by omega, by go_num, HX.out⟩
            case measure => simp [intOf]; omega
        · obtain rfl : j = m := by omega
          rw [upP_end] at hO
          have HOO := Lib.hid hO
          clear hO
          go_wp2_with fail
          go_roundw
          case rel => exact ⟨k + 1, by omega, by go_num, HOO.out⟩
          case measure => simp [intOf]; omega
    · obtain rfl : k = m := by omega
      rw [upP_all] at hO
      have hr := hO.res.size
      obtain ⟨r0, r1, r2, r3, r4, r5, r6, r7, r8, r9, r10, r11⟩ := hO.res.rows
      have hc := hO.own.size
      obtain ⟨c0, c1, c2, c3, c4, c5, c6, c7, c8, c9, c10, c11⟩ := hO.own.rows
      have hf := hO.res.free
      go_wp2_with fail
      clear hr r0 r1 r2 r3 r4 r5 r6 r7 r8 r9 r10 r11 hc c0 c1 c2 c3 c4 c5 c6 c7 c8 c9 c10 c11 hf
      refine post_fill (W := wr) (g := w.heap.size) k (relP p k) hO.res hO.below (by omega) ?_
      intro wz hz hbz
      have hs := hz.size
      obtain ⟨c0, c1, c2, c3, c4, c5, c6, c7, c8, c9, c10, c11⟩ := hz.rows
      exact bodyPost_ret (v := relV k (relP p k))
        (by simp [results, Tryd.results103, go_sem, hs, c0, c1, c2, c3, c4, c5, c6, c7, c8, c9, c10, c11]) rfl ⟨rfl, hbz⟩

set_option maxHeartbeats 4000000 in
theorem relateE_any {P : Nat} {m : Nat} {p : Nat → Nat → Bool} {w : World} (hm : m ≤ 12)
    (hf : ∀ (i j : Nat) (W : World), i < m → j < m → Below w.heap.size w W → Calls Tryd.prog 105 #[.int .i64 i, .int .i64 j, .pointer (some ⟨P, 0, none⟩)] W fun e W' => e = .returned (.bool (p i j)) ∧ Below W.heap.size W W') :
    Calls Tryd.prog 103 #[.int .i64 m, .func (.func 105) #[] #[.pointer (some ⟨P, 0, none⟩)]] w fun e w' => e = .returned (relV m (relP p m)) ∧ Below w.heap.size w w' := by
  have hO : ORel w w.heap.size (w.heap.size + 1) m (upP p m 0 0) ((w.alloc (.cells (relCs 0 fun _ => 0) 36)).alloc (.cells (relCs m fun _ => 0) 36)) := by
    rw [upP_none]
    have h2 := Lies.new (w.alloc (.cells (relCs 0 fun _ => 0) 36)) 36 (relCs m fun _ => 0)
    rw [World.size_alloc] at h2
    exact ⟨((Below.refl _ _).alloc (Nat.le_refl _) _).alloc (by simp) _, Lies.alloc (Lies.new _ _ _) _, h2, Nat.le_refl _, by omega⟩
  have HO := Lib.hid hO
  have HF := Lib.hid hf
  clear hf hO
  go_enter Tryd.func103, Tryd.ntmps103
  go_wp2_with fail
  have hO := HO.out
  clear HO
  change Code.wp _ _ _ _ ((w.alloc (.cells (relCs 0 fun _ => 0) 36)).alloc (.cells (relCs m fun _ => 0) 36))
  generalize (w.alloc (.cells (relCs 0 fun _ => 0) 36)).alloc (.cells (relCs m fun _ => 0) 36) = W at hO ⊢
  obtain ⟨G, hG⟩ : ∃ G, G = w.heap.size + 1 := ⟨_, rfl⟩
  rw [← hG] at hO ⊢
  clear hG
  go_loopw [11] (fun i wr => ∃ k : Nat, k ≤ m ∧ i = .int .i64 k ∧ ORel w w.heap.size G m (upP p m k 0) wr) (fun i _ => m - (intOf i).toNat)
  case atStart => exact ⟨0, by omega, rfl, hO⟩
  case round =>
    clear hO
    obtain ⟨k, hk, rfl, hO⟩ := hrel
    by_cases hkm : k < m
    · have i2 : (k : Int) < (m : Int) := by omega
      have HO := Lib.hid hO
      clear hO
      go_wp2_with fail
      go_loopw [15] (fun i wr => ∃ j : Nat, j ≤ m ∧ i = .int .i64 j ∧ ORel w w.heap.size G m (upP p m k j) wr) (fun i _ => m - (intOf i).toNat)
      case atStart => exact ⟨0, by omega, rfl, HO.out⟩
      case round =>
        clear HO
        obtain ⟨j, hj, rfl, hO⟩ := hrel
        by_cases hjm : j < m
        · have j2 : (j : Int) < (m : Int) := by omega
          have hst := upP_step p m k j
          have HC := Lib.hid (HF.out k j wr hkm hjm hO.below)
          have HO := Lib.hid hO
          have HS := Lib.hid hst
          clear hO hst
          go_wp2_with fail
          refine HC.out.mono ?_
          rintro e w4 ⟨rfl, hb4⟩
          have hO := HO.out.next hb4
          clear HC HO hb4
          cases hb : p k j
          · have hs := HS.out
            rw [hb, if_neg (by decide)] at hs
            have HS2 := Lib.hid hs
            have HOO := Lib.hid hO
            clear hs hb hO
            go_wp2_with fail
            go_roundw
            case rel => exact ⟨j + 1, by omega, by go_num, by rw [HS2.out]; exact HOO.out⟩
            case measure => simp [intOf]; omega
          · have hs := HS.out
            rw [hb, if_pos rfl] at hs
            have HS2 := Lib.hid hs
            have k12 : (k : Int) < 12 := by omega
            have hk12 : k < 12 := by omega
            have ck := hO.own.row' hk12
            have fk := hO.own.free (1 + k)
            have hlt := upP_lt p m k j hm (by omega) k
            have HOO := Lib.hid hO
            clear hO hs hb
            generalize hxx : upP p m k j k = z at ck hlt HS2
            have ho := or_pow z j hlt (by omega)
            have hp := pow_u16 j (by omega)
            have HXX := Lib.hid hxx
            clear hxx
            go_wp2_with fail
            go_region
            have h1 : ORel w w.heap.size G m (upP p m k (j + 1)) (w4.setCell ⟨G, 1 + k, none⟩ (.int .u16 ((z ||| 2 ^ j : Nat) : Int))).drew := by
              rw [HS2.out]
              exact (HOO.out.set_ hk12 _).drew
            clear ck fk ho hp
            generalize (w4.setCell ⟨G, 1 + k, none⟩ (.int .u16 ((z ||| 2 ^ j : Nat) : Int))).drew = w5 at h1 ⊢
            have HX := Lib.hid h1
            clear h1
            go_wp2_with fail
            go_roundw
            case rel => exact ⟨j + 1, by omega, by go_num, HX.out⟩
            case measure => simp [intOf]; omega
        · obtain rfl : j = m := by omega
          rw [upP_end] at hO
          have HOO := Lib.hid hO
          clear hO
          go_wp2_with fail
          go_roundw
          case rel => exact ⟨k + 1, by omega, by go_num, HOO.out⟩
          case measure => simp [intOf]; omega
    · obtain rfl : k = m := by omega
      rw [upP_all] at hO
      have hr := hO.res.size
      obtain ⟨r0, r1, r2, r3, r4, r5, r6, r7, r8, r9, r10, r11⟩ := hO.res.rows
      have hc := hO.own.size
      obtain ⟨c0, c1, c2, c3, c4, c5, c6, c7, c8, c9, c10, c11⟩ := hO.own.rows
      have hf := hO.res.free
      go_wp2_with fail
      clear hr r0 r1 r2 r3 r4 r5 r6 r7 r8 r9 r10 r11 hc c0 c1 c2 c3 c4 c5 c6 c7 c8 c9 c10 c11 hf
      refine post_fill (W := wr) (g := w.heap.size) k (relP p k) hO.res hO.below (by omega) ?_
      intro wz hz hbz
      have hs := hz.size
      obtain ⟨c0, c1, c2, c3, c4, c5, c6, c7, c8, c9, c10, c11⟩ := hz.rows
      exact bodyPost_ret (v := relV k (relP p k))
        (by simp [results, Tryd.results103, go_sem, hs, c0, c1, c2, c3, c4, c5, c6, c7, c8, c9, c10, c11]) rfl ⟨rfl, hbz⟩

/-- One's own calls: the closure. -/
theorem ownF_any {P : Nat} {A : Option Addr} {c n B : Nat} {cs : List Cl} {w : World} (hP : w.cell? ⟨P, 0, none⟩ = some (.slice A n c)) (hc : CRd w B (.slice A n c) cs) (hn : n = cs.length) {i j : Nat} (hi : i < n) (hj : j < n) :
    Calls Tryd.prog 104 #[.int .i64 i, .int .i64 j, .pointer (some ⟨P, 0, none⟩)] w fun e w' => e = .returned (.bool (ownB cs i j)) ∧ Below w.heap.size w w' := by
  obtain ⟨x, hx⟩ : ∃ x, cs[i]? = some x := ⟨_, List.getElem?_eq_getElem (by omega)⟩
  obtain ⟨y, hy⟩ : ∃ y, cs[j]? = some y := ⟨_, List.getElem?_eq_getElem (by omega)⟩
  have hv : ownB cs i j = decide (i < j ∧ x.who = y.who) := by
    unfold ownB
    rw [List.getD_eq_getElem?_getD, List.getD_eq_getElem?_getD, hx, hy]
    rfl
  obtain ⟨g, o, hA, -, d0, -⟩ := hc.cl hx
  obtain ⟨g', o', hA', -, e0, -⟩ := hc.cl hy
  subst hA
  injection hA' with hA'
  injection hA' with h1 h2
  subst h1
  subst h2
  rw [hv]
  clear hv hx hy hc
  have i0 : (0 : Int) ≤ (i : Int) := by omega
  have i1 : (i : Int) < (n : Int) := by omega
  have j0 : (0 : Int) ≤ (j : Int) := by omega
  have j1 : (j : Int) < (n : Int) := by omega
  generalize x.who = xw at d0 ⊢
  generalize y.who = yw at e0 ⊢
  by_cases h : i < j
  · have hd : decide (i < j ∧ xw = yw) = (xw == yw) := by rw [Bool.eq_iff_iff, decide_eq_true_iff, beq_iff_eq]; exact ⟨fun h => h.2, fun k => ⟨h, k⟩⟩
    rw [hd]
    clear hd
    generalize hbb : (xw == yw) = b
    have hij : (i : Int) < (j : Int) := by omega
    clear h
    go_enter Tryd.func104, Tryd.ntmps104
    go_wp2_with fail
    go_quiet (fail)
    go_wp2_with fail
    go_ret
    exact ⟨rfl, belowN (Below.refl _ _) _⟩
  · have hd : decide (i < j ∧ xw = yw) = false := decide_eq_false fun k => h k.1
    rw [hd]
    clear hd
    have hij : ¬ (i : Int) < (j : Int) := by omega
    have hij2 : decide (i < j) = false := decide_eq_false h
    have hij3 : ¬ i < j := h
    clear h
    go_enter Tryd.func104, Tryd.ntmps104
    go_wp2_with fail
    go_quiet (fail)
    go_wp2_with fail
    go_ret
    exact ⟨rfl, belowN (Below.refl _ _) _⟩
/-- The lesser calm: the closure. -/
theorem epoF_any {P : Nat} {A : Option Addr} {c n B : Nat} {es : List Int} {w : World} (hP : w.cell? ⟨P, 0, none⟩ = some (.slice A n c)) (hc : NRd w B (.slice A n c) es) (hn : n = es.length) {i j : Nat} (hi : i < n) (hj : j < n) :
    Calls Tryd.prog 105 #[.int .i64 i, .int .i64 j, .pointer (some ⟨P, 0, none⟩)] w fun e w' => e = .returned (.bool (decide (es.getD i 0 < es.getD j 0))) ∧ Below w.heap.size w w' := by
  obtain ⟨x, hx⟩ : ∃ x, es[i]? = some x := ⟨_, List.getElem?_eq_getElem (by omega)⟩
  obtain ⟨y, hy⟩ : ∃ y, es[j]? = some y := ⟨_, List.getElem?_eq_getElem (by omega)⟩
  have hv : decide (es.getD i 0 < es.getD j 0) = decide (x < y) := by
    rw [List.getD_eq_getElem?_getD, List.getD_eq_getElem?_getD, hx, hy]
    rfl
  obtain ⟨g, o, hA, -, d0⟩ := hc.num hx
  obtain ⟨g', o', hA', -, e0⟩ := hc.num hy
  subst hA
  injection hA' with hA'
  injection hA' with h1 h2
  subst h1
  subst h2
  rw [hv]
  clear hv hx hy hc
  have i0 : (0 : Int) ≤ (i : Int) := by omega
  have i1 : (i : Int) < (n : Int) := by omega
  have j0 : (0 : Int) ≤ (j : Int) := by omega
  have j1 : (j : Int) < (n : Int) := by omega
  generalize hbb : decide (x < y) = b
  go_enter Tryd.func105, Tryd.ntmps105
  go_wp2_with fail
  go_quiet (fail)
  go_wp2_with fail
  go_ret
  exact ⟨rfl, belowN (Below.refl _ _) _⟩
set_option maxHeartbeats 4000000 in
theorem byProcess_any {cv : Value} {cs : List Cl} {w : World} (hc : CRd w w.heap.size cv cs) (hn12 : cs.length ≤ 12) :
    Calls Tryd.prog 78 #[cv] w fun e w' => e = .returned (relV cs.length (relP (ownB cs) cs.length)) ∧ Below w.heap.size w w' := by
  obtain ⟨A, c, rfl, -, -⟩ := hc.is
  obtain ⟨n, hn⟩ : ∃ n, n = cs.length := ⟨_, rfl⟩
  rw [← hn] at hc hn12 ⊢
  have hb0 : Below w.heap.size w ((w.alloc (.cells #[.slice A n c] 30)).alloc (.cells (relCs 0 fun _ => 0) 36)) := ((Below.refl _ _).alloc (Nat.le_refl _) _).alloc (by simp) _
  have hR : RelB ((w.alloc (.cells #[.slice A n c] 30)).alloc (.cells (relCs 0 fun _ => 0) 36)) (w.heap.size + 1) 0 (fun _ => 0) := by
    have := Lies.new (w.alloc (.cells #[.slice A n c] 30)) 36 (relCs 0 fun _ => 0)
    rw [World.size_alloc] at this
    exact this
  have hP : Lies ((w.alloc (.cells #[.slice A n c] 30)).alloc (.cells (relCs 0 fun _ => 0) 36)) w.heap.size 30 #[.slice A n c] := Lies.alloc (Lies.new _ _ _) _
  have hrel := relateP_any (P := w.heap.size) (m := n) (p := ownB cs) (w := (w.alloc (.cells #[.slice A n c] 30)).alloc (.cells (relCs 0 fun _ => 0) 36)) hn12
    (fun i j W hi hj hb => ownF_any (Lies.cell (Lies.below hP hb hP.lt) 0) ((hc.below hb0).below (hb.mono hb0.size)) hn hi hj)
  have hP0 : ((w.alloc (.cells #[.slice A n c] 30)).alloc (.cells (relCs 0 fun _ => 0) 36)).cell? ⟨w.heap.size, 0, none⟩ = some (.slice A n c) := Lies.cell hP 0
  have HR := Lib.hid hrel
  have HH := Lib.hid (And.intro hb0 hR)
  generalize relP (ownB cs) n = q at HR ⊢
  clear hrel hb0 hR hP hc hn
  go_enter Tryd.func78, Tryd.ntmps78
  go_wp2_with fail
  refine HR.out.mono ?_
  rintro e w1 ⟨rfl, hb1⟩
  have hr1 : RelB w1 (w.heap.size + 1) 0 (fun _ => 0) := Lies.below HH.out.2 hb1 HH.out.2.lt
  have hbb := HH.out.1.trans (hb1.mono HH.out.1.size)
  have c0 := hr1.size
  obtain ⟨c1, c2, c3, c4, c5, c6, c7, c8, c9, c10, c11, c12⟩ := hr1.rows
  have hf := hr1.free
  have H2 := Lib.hid (And.intro hbb hr1)
  clear hb1 hr1 hbb HR hP0
  go_wp2_with fail
  refine post_fill n q H2.out.2 H2.out.1 (Nat.le_succ _) fun wz hz hbz => ?_
  clear c0 c1 c2 c3 c4 c5 c6 c7 c8 c9 c10 c11 c12 hf
  have c0 := hz.size
  obtain ⟨c1, c2, c3, c4, c5, c6, c7, c8, c9, c10, c11, c12⟩ := hz.rows
  exact bodyPost_ret (v := relV n q)
    (by simp [results, Tryd.results78, go_sem, c0, c1, c2, c3, c4, c5, c6, c7, c8, c9, c10, c11, c12]) rfl ⟨rfl, hbz⟩
set_option maxHeartbeats 4000000 in
theorem byEpoch_any {cv : Value} {es : List Int} {w : World} (hc : NRd w w.heap.size cv es) (hn12 : es.length ≤ 12) :
    Calls Tryd.prog 80 #[cv] w fun e w' => e = .returned (relV es.length (relP (fun i j => decide (es.getD i 0 < es.getD j 0)) es.length)) ∧ Below w.heap.size w w' := by
  obtain ⟨A, c, rfl, -, -⟩ := hc.is
  obtain ⟨n, hn⟩ : ∃ n, n = es.length := ⟨_, rfl⟩
  rw [← hn] at hc hn12 ⊢
  have hb0 : Below w.heap.size w ((w.alloc (.cells #[.slice A n c] 22)).alloc (.cells (relCs 0 fun _ => 0) 36)) := ((Below.refl _ _).alloc (Nat.le_refl _) _).alloc (by simp) _
  have hR : RelB ((w.alloc (.cells #[.slice A n c] 22)).alloc (.cells (relCs 0 fun _ => 0) 36)) (w.heap.size + 1) 0 (fun _ => 0) := by
    have := Lies.new (w.alloc (.cells #[.slice A n c] 22)) 36 (relCs 0 fun _ => 0)
    rw [World.size_alloc] at this
    exact this
  have hP : Lies ((w.alloc (.cells #[.slice A n c] 22)).alloc (.cells (relCs 0 fun _ => 0) 36)) w.heap.size 22 #[.slice A n c] := Lies.alloc (Lies.new _ _ _) _
  have hrel := relateE_any (P := w.heap.size) (m := n) (p := fun i j => decide (es.getD i 0 < es.getD j 0)) (w := (w.alloc (.cells #[.slice A n c] 22)).alloc (.cells (relCs 0 fun _ => 0) 36)) hn12
    (fun i j W hi hj hb => epoF_any (Lies.cell (Lies.below hP hb hP.lt) 0) ((hc.below hb0).below (hb.mono hb0.size)) hn hi hj)
  have hP0 : ((w.alloc (.cells #[.slice A n c] 22)).alloc (.cells (relCs 0 fun _ => 0) 36)).cell? ⟨w.heap.size, 0, none⟩ = some (.slice A n c) := Lies.cell hP 0
  have HR := Lib.hid hrel
  have HH := Lib.hid (And.intro hb0 hR)
  generalize relP (fun i j => decide (es.getD i 0 < es.getD j 0)) n = q at HR ⊢
  clear hrel hb0 hR hP hc hn
  go_enter Tryd.func80, Tryd.ntmps80
  go_wp2_with fail
  refine HR.out.mono ?_
  rintro e w1 ⟨rfl, hb1⟩
  have hr1 : RelB w1 (w.heap.size + 1) 0 (fun _ => 0) := Lies.below HH.out.2 hb1 HH.out.2.lt
  have hbb := HH.out.1.trans (hb1.mono HH.out.1.size)
  have c0 := hr1.size
  obtain ⟨c1, c2, c3, c4, c5, c6, c7, c8, c9, c10, c11, c12⟩ := hr1.rows
  have hf := hr1.free
  have H2 := Lib.hid (And.intro hbb hr1)
  clear hb1 hr1 hbb HR hP0
  go_wp2_with fail
  refine post_fill n q H2.out.2 H2.out.1 (Nat.le_succ _) fun wz hz hbz => ?_
  clear c0 c1 c2 c3 c4 c5 c6 c7 c8 c9 c10 c11 c12 hf
  have c0 := hz.size
  obtain ⟨c1, c2, c3, c4, c5, c6, c7, c8, c9, c10, c11, c12⟩ := hz.rows
  exact bodyPost_ret (v := relV n q)
    (by simp [results, Tryd.results80, go_sem, c0, c1, c2, c3, c4, c5, c6, c7, c8, c9, c10, c11, c12]) rfl ⟨rfl, hbz⟩
end Go.Proofs.YtecpjeililiafaaDoor

/-
  append(s, x): s the call's own row of integers, x one more in a block of its own; append(s, t..): s new and empty, t any slice of integers.
-/
namespace Go.Proofs.YtecpjeililiafaaDoor
open Go.RowKit
set_option maxRecDepth 20000

/-- A slice of the call's own (in blocks from B on) that holds these numbers. -/
def NOwn (w : World) (B : Nat) (v : Value) (l : List Int) : Prop := w.ownsRow B 3 1 v l.length (l.flatMap intCs)
theorem NOwn.rd {w : World} {B : Nat} {v : Value} {l : List Int} (h : NOwn w B v l) : NRd w w.heap.size v l := LRd.of_own (fun _ => rfl) h
theorem NOwn.nil (w : World) (B : Nat) : NOwn w B (.slice none 0 0) [] := World.ownsRow_nil _ _ _ _
theorem NOwn.below {w w' : World} {B : Nat} {v : Value} {l : List Int} (h : NOwn w B v l) (hb : Below w.heap.size w w') : NOwn w' B v l := by
  refine ⟨h.1, h.2.elim (fun h => .inl h) fun ⟨g, cap, cur, h1, h2, h3, h4, h5, h6, h7⟩ => .inr ⟨g, cap, cur, h1, h2, ?_, h4, h5, h6, h7⟩⟩
  rw [hb.block g (Array.getElem?_eq_some_iff.1 h3).1]
  exact h3
theorem NOwn.alloc {w : World} {B : Nat} {v : Value} {l : List Int} (h : NOwn w B v l) (o : Obj) : NOwn (w.alloc o) B v l := h.below ((Below.refl _ _).alloc (Nat.le_refl _) o)

theorem run_app_int {W : World} {base G : Nat} {v : Value} {l : List Int} {y : Int} (ty : TypeId) (hown : NOwn W base v l) (hG : W.cell? ⟨G, 0, none⟩ = some (.int .i64 y)) (hlen : l.length ≤ 65536) (hbase : base ≤ W.heap.size) :
    ∃ v' w', (Builtin.append_ #[22, 22] ty #[v, .slice (some ⟨G, 0, none⟩) 1 1]).run Tryd.prog W = .ok v' w' ∧ NOwn w' base v' (l ++ [y]) ∧ Below base W w' := by
  obtain ⟨i0, hi, hz0, hz1, hz2⟩ := info_of info_int
  have hl := World.ownsRow.lt hown
  obtain ⟨v', w', hr, h2, h3, _⟩ := run_append_own (P := Tryd.prog) W base 22 ty 3 i0 (.int .i64 0) 1 8 Tryd.underlying22 hi hz0 hz1 hz2 rfl (by decide) v l.length (l.flatMap intCs) hown
    ⟨G, 0, none⟩ 1 1 (intCs y) rfl (fun j u hu => by
      rw [Addr.add_lit, Nat.zero_add]
      have hj : j = 0 := by
        have := (List.getElem?_eq_some_iff.1 hu).1
        simp at this
        omega
      subst hj
      simp only [List.getElem?_cons_zero, Option.some.injEq] at hu
      subst hu
      exact hG) (fun u hu => by
      simp only [List.mem_cons, List.not_mem_nil, or_false] at hu
      subst hu
      rfl) (by unfold maxLen; omega) (by omega) hbase
  refine ⟨v', w', hr, ?_, (Below.refl base W).grown h3 hbase (fun k hk => (hl k hk).1)⟩
  unfold NOwn
  rw [List.length_append, List.flatMap_append]
  simpa using h2
theorem wp_app_int {W : World} {o : Oper} {a : Act} {K : Act → World → Prop} {Q : Exit → Act → World → Prop} (s x : Operand)
    (ho : o.op = .call { callee := .builtin .append, args := #[s, x], argTypes := #[22, 22] })
    (base G : Nat) (v : Value) (l : List Int) (y : Int) (hs : a.eval s = v) (hx : a.eval x = .slice (some ⟨G, 0, none⟩) 1 1) (hown : NOwn W base v l) (hG : W.cell? ⟨G, 0, none⟩ = some (.int .i64 y)) (hlen : l.length ≤ 65536) (hbase : base ≤ W.heap.size)
    (h : ∀ v' w', NOwn w' base v' (l ++ [y]) → Below base W w' → K (a.put o.dst v') w') : Oper.wp Tryd.prog o a W K Q := by
  obtain ⟨v', w', hrun, r1, r2⟩ := run_app_int o.type hown hG hlen hbase
  unfold Oper.wp
  simp [execOp, ho, resolve, invoke, builtin, hs, hx, hrun, Result.andThen]
  exact h v' w' r1 r2
theorem wpList_app_int {W : World} {ops : Array Oper} {rest : List Oper} {o : Oper} {a : Act} {Q : Exit → Act → World → Prop} (hgd : o.guard = none) (s x : Operand)
    (ho : o.op = .call { callee := .builtin .append, args := #[s, x], argTypes := #[22, 22] })
    (base G : Nat) (v : Value) (l : List Int) (y : Int) (hs : a.eval s = v) (hx : a.eval x = .slice (some ⟨G, 0, none⟩) 1 1) (hown : NOwn W base v l) (hG : W.cell? ⟨G, 0, none⟩ = some (.int .i64 y)) (hlen : l.length ≤ 65536) (hbase : base ≤ W.heap.size)
    (h : ∀ v' w', NOwn w' base v' (l ++ [y]) → Below base W w' → wpList Tryd.prog ops Q rest (a.put o.dst v') w') : wpList Tryd.prog ops Q (o :: rest) a W :=
  wpList_plain hgd fun _ hK => wp_app_int s x ho base G v l y hs hx hown hG hlen hbase fun v' w' h1 h2 => hK _ _ (h v' w' h1 h2)

/-- Any slice of integers behind a row of one's own. -/
theorem run_app_ints {W : World} {base n cap : Nat} {v : Value} {A : Option Addr} {l ys : List Int} {B : Nat} (ty : TypeId) (hown : NOwn W base v l) (hr : NRd W B (.slice A n cap) ys) (hlen : l.length + ys.length ≤ 65536) (hbase : base ≤ W.heap.size) (hA : A ≠ none) :
    ∃ v' w', (Builtin.append_ #[22, 22] ty #[v, .slice A n cap]).run Tryd.prog W = .ok v' w' ∧ NOwn w' base v' (l ++ ys) ∧ Below base W w' := by
  obtain ⟨i0, hi, hz0, hz1, hz2⟩ := info_of info_int
  have hl := World.ownsRow.lt hown
  obtain ⟨A', cap', he, m1, m2, hc⟩ := hr
  injection he with e1 e2 e3
  subst e1 e2 e3
  cases A with
  | none => exact absurd rfl hA
  | some a =>
    have hlf : (ys.flatMap intCs).length = ys.length * 1 := flat_len (f := intCs) (s := 1) (fun _ => rfl) ys
    obtain ⟨v', w', hr, h2, h3, _⟩ := run_append_own (P := Tryd.prog) W base 22 ty 3 i0 (.int .i64 0) 1 8 Tryd.underlying22 hi hz0 hz1 hz2 rfl (by decide) v l.length (l.flatMap intCs) hown
      a ys.length cap (ys.flatMap intCs) hlf (fun j u hu => by
        have hj := (List.getElem?_eq_some_iff.1 hu).1
        rw [hlf] at hj
        obtain ⟨g, o, ha, _, hcell⟩ := hc (by omega)
        injection ha with ha
        subst ha
        have hx := List.getElem?_eq_getElem (show j < ys.length by omega)
        have hf := flat_at (l := ys) (f := intCs) (s := 1) (fun _ => rfl) hx (j := 0) rfl
        rw [Nat.mul_one, Nat.add_zero, hu] at hf
        injection hf with hf
        subst hf
        have := hcell j _ hx 0 _ rfl
        rw [Addr.add_lit]
        simpa using this) (fun u hu => by
        rw [List.mem_flatMap] at hu
        obtain ⟨x, _, hx⟩ := hu
        simp only [List.mem_cons, List.not_mem_nil, or_false] at hx
        subst hx
        rfl) (by unfold maxLen; omega) (by omega) hbase
    refine ⟨v', w', hr, ?_, (Below.refl base W).grown h3 hbase (fun k hk => (hl k hk).1)⟩
    unfold NOwn
    rw [List.length_append, List.flatMap_append]
    exact h2
end Go.Proofs.YtecpjeililiafaaDoor

/-
  slices.Index and slices.Contains over any slice of integers.
-/
namespace Go.Proofs.YtecpjeililiafaaDoor
open Go.RowKit
set_option maxRecDepth 20000

set_option maxHeartbeats 1000000 in
theorem indexN_any {B : Nat} {v : Value} {xs : List Int} {w : World} (h : NRd w B v xs) (x : Int) :
    Calls Tryd.prog 102 #[v, .int .i64 x] w fun e w' => ∃ r : Int, e = .returned (.int .i64 r) ∧ decide (0 ≤ r) = decide (x ∈ xs) ∧ Below w.heap.size w w' := by
  obtain ⟨A, cap, rfl, m1, m2⟩ := h.is
  unfold maxLen at m2
  obtain ⟨L, hL⟩ : ∃ L, L = xs.length := ⟨_, rfl⟩
  have HC := Lib.hid h
  have HLL := Lib.hid hL
  rw [← hL] at m1 ⊢
  clear h hL
  go_enter Tryd.func102, Tryd.ntmps102
  go_wp2_with fail
  go_loopw [8] (fun i wr => ∃ k : Nat, k ≤ L ∧ i = .int .i64 k ∧ (∀ (j : Nat) (y : Int), j < k → xs[j]? = some y → y ≠ x) ∧ Below w.heap.size w wr) (fun i _ => L - (intOf i).toNat)
  case atStart => exact ⟨0, by omega, rfl, fun j y hj => by omega, Below.refl _ _⟩
  case round =>
    obtain ⟨k, hk, rfl, ha, hb⟩ := hrel
    by_cases hkn : k < L
    · obtain ⟨y, hy⟩ : ∃ y, xs[k]? = some y := ⟨_, List.getElem?_eq_getElem (by rw [← HLL.out]; exact hkn)⟩
      have hr := HC.out
      rw [← HLL.out] at hr
      obtain ⟨g, o, rfl, hg, d0⟩ := hr.num hy
      have hgw : g < w.heap.size := World.block_lt_of_cell? w ⟨g, o + k, none⟩ d0
      have d1 : wr.cell? ⟨g, o + k, none⟩ = some (.int .i64 y) := (hb.cell (p := ⟨g, o + k, none⟩) hgw).trans d0
      have i1 : (0 : Int) ≤ (k : Int) := by omega
      have i2 : (k : Int) < (L : Int) := by omega
      have HA := Lib.hid (And.intro ha (And.intro hb hy))
      clear ha hb hy hr d0
      by_cases hxy : x = y
      · have hz : (x == y) = true := by rw [beq_iff_eq]; exact hxy
        have HX := Lib.hid hxy
        clear hxy
        go_wp2_with fail
        go_ret
        refine ⟨k, rfl, ?_, HA.out.2.1⟩
        rw [decide_eq_true i1]
        exact (decide_eq_true (by rw [HX.out]; exact List.mem_of_getElem? HA.out.2.2)).symm
      · have hz : (x == y) = false := by rw [beq_eq_false_iff_ne]; exact hxy
        have HX := Lib.hid hxy
        clear hxy
        go_wp2_with fail
        go_roundw
        case rel => exact ⟨k + 1, by omega, by go_num, fun j z hj hz => by
          rcases Nat.lt_or_ge j k with h | h
          · exact HA.out.1 j z h hz
          · obtain rfl : j = k := by omega
            rw [HA.out.2.2] at hz
            injection hz with hz
            subst hz
            exact fun e => HX.out e.symm, HA.out.2.1⟩
        case measure => simp [intOf]; omega
    · obtain rfl : k = L := by omega
      have HA := Lib.hid (And.intro ha hb)
      clear ha hb
      go_wp2_with fail
      go_ret
      refine ⟨-1, rfl, ?_, HA.out.2⟩
      rw [decide_eq_false (show ¬ (0 : Int) ≤ -1 by omega)]
      refine (decide_eq_false fun hm => ?_).symm
      obtain ⟨j, hj, e⟩ := List.getElem_of_mem hm
      exact HA.out.1 j x (by rw [HLL.out]; exact hj) (by rw [List.getElem?_eq_getElem hj, e]) rfl

theorem containsN_any {B : Nat} {v : Value} {xs : List Int} {w : World} (h : NRd w B v xs) (x : Int) :
    Calls Tryd.prog 76 #[v, .int .i64 x] w fun e w' => e = .returned (.bool (decide (x ∈ xs))) ∧ Below w.heap.size w w' := by
  have hi := indexN_any h x
  clear h
  go_enter Tryd.func76, Tryd.ntmps76
  go_wp2_with fail
  refine hi.mono ?_
  rintro e w1 ⟨r, rfl, hr, hb⟩
  have HB := Lib.hid (And.intro hb hr)
  clear hi hb hr
  by_cases h0 : (0 : Int) ≤ r
  · go_wp2_with fail
    go_ret
    exact ⟨ret_bool (by rw [← HB.out.2] <;> simp [h0]), HB.out.1⟩
  · go_wp2_with fail
    go_ret
    exact ⟨ret_bool (by rw [← HB.out.2] <;> simp [h0]), HB.out.1⟩
end Go.Proofs.YtecpjeililiafaaDoor
