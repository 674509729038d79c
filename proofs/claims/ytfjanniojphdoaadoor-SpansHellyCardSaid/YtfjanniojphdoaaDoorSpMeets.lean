/-
  Contracts of spans.countAt and spans.Meets.
-/
import Derived.Test.YtfjanniojphdoaaDoorSpRd
namespace Go.Proofs.YtfjanniojphdoaaDoor
open Go.RowKit
set_option maxRecDepth 20000

theorem SRd.addr {w : World} {B m c : Nat} {A : Option Addr} {F T : Nat → Int} (h : SRd w B (.slice A m c) m F T) (h0 : 0 < m) : ∃ g o, A = some ⟨g, o, none⟩ ∧ g < B := by
  obtain ⟨A', c', hv, hp⟩ := h
  injection hv with h1 h2 h3
  subst h1
  obtain ⟨g, o, hA, hg, hc⟩ := hp h0
  exact ⟨g, o, hA, hg⟩
theorem SRd.cells {w : World} {B m c g o : Nat} {F T : Nat → Int} (h : SRd w B (.slice (some ⟨g, o, none⟩) m c) m F T) {j : Nat} (hj : j < m) :
    w.cell? ⟨g, o + j * 2, none⟩ = some (.int .i64 (F j)) ∧ w.cell? ⟨g, o + j * 2 + 1, none⟩ = some (.int .i64 (T j)) := by
  obtain ⟨A', c', hv, hp⟩ := h
  injection hv with h1 h2 h3
  subst h1
  obtain ⟨g', o', hA, hg, hc⟩ := hp (by omega)
  injection hA with hA
  injection hA with hA1 hA2
  subst hA1
  subst hA2
  exact hc j hj
theorem SRd.is {w : World} {B m : Nat} {v : Value} {F T : Nat → Int} (h : SRd w B v m F T) : ∃ A c, v = .slice A m c := by
  obtain ⟨A, c, hv, _⟩ := h
  exact ⟨A, c, hv⟩

set_option maxHeartbeats 1000000 in
theorem cnt_any {B m : Nat} {v : Value} {F T : Nat → Int} {w : World} (h : SRd w B v m F T) (hB : B ≤ w.heap.size) (hm : m ≤ 12) (t : Int) :
    Calls Tryd.prog 44 #[v, .int .i64 t] w fun e w' => e = .returned (.int .i64 ((cntAt F T t m : Nat) : Int)) ∧ Below w.heap.size w w' := by
  obtain ⟨A, c, rfl⟩ := h.is
  have H := Lib.hid (And.intro h hB)
  clear h hB
  go_enter Tryd.func44, Tryd.ntmps44
  go_wp2_with fail
  go_loopw [5, 10] (fun a i wr => ∃ k C : Nat, k ≤ m ∧ i = .int .i64 k ∧ a = .int .i64 C ∧ cntAt F T t k = C ∧ Below w.heap.size w wr) (fun _ i _ => m - (intOf i).toNat)
  case atStart => exact ⟨0, 0, by omega, rfl, rfl, rfl, Below.refl _ _⟩
  case round =>
    obtain ⟨k, C, hk, rfl, rfl, hC, hb⟩ := hrel
    have hCk : C ≤ k := hC ▸ cntAt_le F T t k
    have HA := Lib.hid (And.intro hC hb)
    by_cases hkm : k < m
    · obtain ⟨g, o, rfl, hg⟩ := H.out.1.addr (by omega)
      obtain ⟨d1, d2⟩ := (H.out.1.below (hb.mono H.out.2)).cells hkm
      clear hb hg hC
      have i1 : (0 : Int) ≤ (k : Int) := by omega
      have i2 : (k : Int) < (m : Int) := by omega
      have hw : IntKind.i64.wrap ((C : Int) + 1) = ((C + 1 : Nat) : Int) := by rw [IntKind.wrap_i64]; omega
      generalize hf : F k = f at d1
      generalize ht : T k = tt at d2
      have HF := Lib.hid (And.intro hf ht)
      clear hf ht
      by_cases h1 : f ≤ t ∧ t ≤ tt
      · obtain ⟨h1, h2⟩ := h1
        have hs : cntAt F T t (k + 1) = C + 1 := by rw [cntAt, HA.out.1, HF.out.1, HF.out.2, if_pos ⟨h1, h2⟩]
        have HS := Lib.hid hs
        clear hs
        go_wp2_with fail
        go_roundw
        case rel => exact ⟨k + 1, C + 1, by omega, by go_num, by go_num, HS.out, HA.out.2.alloc HA.out.2.size _⟩
        case measure => simp [intOf]; omega
      · have hs : cntAt F T t (k + 1) = C := by rw [cntAt, HA.out.1, HF.out.1, HF.out.2, if_neg h1]; rfl
        have HS := Lib.hid hs
        clear hs
        have h2 : f ≤ t → ¬ t ≤ tt := fun a b => h1 ⟨a, b⟩
        clear h1
        by_cases h3 : f ≤ t
        · have h4 := h2 h3
          clear h2
          go_wp2_with fail
          go_roundw
          case rel => exact ⟨k + 1, C, by omega, by go_num, rfl, HS.out, HA.out.2.alloc HA.out.2.size _⟩
          case measure => simp [intOf]; omega
        · clear h2
          go_wp2_with fail
          go_roundw
          case rel => exact ⟨k + 1, C, by omega, by go_num, rfl, HS.out, HA.out.2.alloc HA.out.2.size _⟩
          case measure => simp [intOf]; omega
    · obtain rfl : k = m := by omega
      go_wp2_with fail
      go_ret
      exact ⟨ret_int (by rw [HA.out.1]), HA.out.2⟩

theorem meets_err {B m : Nat} {v : Value} {F T : Nat → Int} {w : World} (h : SRd w B v m F T) (hB : B ≤ w.heap.size) {E : Int} (hE : spErr m F T = E) (hz : (E != 0) = true) :
    Calls Tryd.prog 26 #[v] w fun e w' => e = .returned (.tuple #[.int .i64 0, .int .i64 0, .int .i64 E]) ∧ Below w.heap.size w w' := by
  have hc := chk_any h hB
  rw [hE] at hc
  obtain ⟨A, c, rfl⟩ := h.is
  clear h hE
  go_enter Tryd.func26, Tryd.ntmps26
  go_wp2_with fail
  refine hc.mono ?_
  rintro e w1 ⟨rfl, hb1⟩
  clear hc
  go_wp2_with fail
  go_ret3
  exact ⟨rfl, hb1⟩

set_option maxHeartbeats 1000000 in
theorem meets_ok {B m : Nat} {v : Value} {F T : Nat → Int} {w : World} (h : SRd w B v m F T) (hB : B ≤ w.heap.size) (hE : spErr m F T = 0) :
    Calls Tryd.prog 26 #[v] w fun e w' => e = .returned (.tuple #[.int .i64 (bestUp m F T m).1, .int .i64 ((bestUp m F T m).2 : Nat), .int .i64 0]) ∧ Below w.heap.size w w' := by
  have hc := chk_any h hB
  rw [hE] at hc
  have hm : m ≤ 12 := (spErr_zero.1 hE).1
  obtain ⟨A, c, rfl⟩ := h.is
  have H := Lib.hid (And.intro h hB)
  clear h hE hB
  go_enter Tryd.func26, Tryd.ntmps26
  go_wp2_with fail
  refine hc.mono ?_
  rintro e w1 ⟨rfl, hb1⟩
  have HB1 := Lib.hid hb1
  clear hc hb1
  go_wp2_with fail
  go_loopw [6, 7, 18] (fun p q i wr => ∃ k : Nat, k ≤ m ∧ i = .int .i64 k ∧ p = .int .i64 (bestUp m F T k).1 ∧ q = .int .i64 ((bestUp m F T k).2 : Nat) ∧ Below w.heap.size w wr) (fun _ _ i _ => m - (intOf i).toNat)
  case atStart => exact ⟨0, by omega, rfl, rfl, rfl, HB1.out⟩
  case round =>
    obtain ⟨k, hk, rfl, rfl, rfl, hb⟩ := hrel
    have HA := Lib.hid hb
    by_cases hkm : k < m
    · obtain ⟨g, o, rfl, hg⟩ := H.out.1.addr (by omega)
      obtain ⟨d1, d2⟩ := (H.out.1.below (hb.mono H.out.2)).cells hkm
      clear hb hg
      have i1 : (0 : Int) ≤ (k : Int) := by omega
      have i2 : (k : Int) < (m : Int) := by omega
      have hs : bestUp m F T (k + 1) = if (bestUp m F T k).2 < cntAt F T (F k) m ∨ (cntAt F T (F k) m = (bestUp m F T k).2 ∧ F k < (bestUp m F T k).1) then (F k, cntAt F T (F k) m) else bestUp m F T k := rfl
      have hcn := fun (W : World) (hW : Below w.heap.size w W) => cnt_any (H.out.1.below (hW.mono H.out.2)) (Nat.le_trans H.out.2 hW.size) hm (F k)
      generalize cntAt F T (F k) m = N at hs hcn
      generalize hf : F k = f at d1 hs hcn
      generalize ht : T k = tt at d2
      generalize hbk : bestUp m F T k = bk at hs ⊢
      obtain ⟨p, q⟩ := bk
      have HN := Lib.hid hcn
      clear hcn ht hf hbk
      go_wp2_with fail
      refine (HN.out _ (HA.out.alloc HA.out.size _)).mono ?_
      rintro e w2 ⟨rfl, hb2⟩
      have e1 := (Below.cell (p := ⟨wr.heap.size, 0, none⟩) hb2 (by simp)).trans (cell_of_row (wr.alloc (.cells #[.int .i64 f, .int .i64 tt] 54)) wr.heap.size 0 _ 54 (0, 0) (heap_alloc_new wr _))
      have HB2 := Lib.hid ((HA.out.alloc HA.out.size (.cells #[.int .i64 f, .int .i64 tt] 54)).trans (hb2.mono (by have := HA.out.size; simp; omega)))
      clear hb2 d1 d2
      have e1' : w2.cell? ⟨wr.heap.size, 0, none⟩ = some (.int .i64 f) := e1
      clear e1
      by_cases h1 : q < N
      · rw [if_pos (Or.inl h1)] at hs
        have HS := Lib.hid hs
        clear hs
        have h1' : (q : Int) < (N : Int) := by omega
        go_wp2_with fail
        go_roundw
        case rel => exact ⟨k + 1, by omega, by go_num, by rw [HS.out], by rw [HS.out], HB2.out⟩
        case measure => simp [intOf]; omega
      · have h1' : ¬ (q : Int) < (N : Int) := by omega
        by_cases h2 : N = q
        · by_cases h3 : f < p
          · rw [if_pos (Or.inr ⟨h2, h3⟩)] at hs
            subst h2
            have HS := Lib.hid hs
            clear hs
            go_wp2_with fail
            go_roundw
            case rel => exact ⟨k + 1, by omega, by go_num, by rw [HS.out], by rw [HS.out], HB2.out⟩
            case measure => simp [intOf]; omega
          · rw [if_neg (by rintro (h | ⟨_, h⟩) <;> contradiction)] at hs
            subst h2
            have HS := Lib.hid hs
            clear hs
            go_wp2_with fail
            go_roundw
            case rel => exact ⟨k + 1, by omega, by go_num, by rw [HS.out], by rw [HS.out], HB2.out⟩
            case measure => simp [intOf]; omega
        · rw [if_neg (by rintro (h | ⟨h, _⟩) <;> contradiction)] at hs
          have HS := Lib.hid hs
          have h2' : ((N : Int) == (q : Int)) = false := by rw [beq_eq_false_iff_ne]; omega
          clear hs
          go_wp2_with fail
          go_roundw
          case rel => exact ⟨k + 1, by omega, by go_num, by rw [HS.out], by rw [HS.out], HB2.out⟩
          case measure => simp [intOf]; omega
    · obtain rfl : k = m := by omega
      go_wp2_with fail
      go_ret3
      exact ⟨rfl, HA.out⟩
end Go.Proofs.YtfjanniojphdoaaDoor
