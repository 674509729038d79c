/-
  aliblaw.SpansMake answers true.
-/
import Derived.Test.YtfjanniojphdoaaSpansOf
import Derived.Test.YtfjanniojphdoaaFishPure
import Derived.Test.YtfjanniojphdoaaClo
namespace Go.Proofs.Ytfjanniojphdoaa
open Go.RowKit
set_option maxRecDepth 20000

theorem rd_owned {w : World} {B n : Nat} {v : Value} {F T : Nat → Int} (h : w.ownsRow B 34 2 v n (lst F T n)) : SRd w w.heap.size v n F T := by
  rcases h.2 with ⟨rfl, rfl⟩ | ⟨g, cap, cur, rfl, h2, h3, h4, h5, h6, h7⟩
  · exact ⟨none, 0, rfl, fun h0 => by omega⟩
  · have key : ∀ j, j < n * 2 → w.cell? ⟨g, j, none⟩ = some (.int .i64 (both F T j)) := fun j hj => by
      rw [World.ownsRow.cellAt h j hj]
      simp [lst, hj]
    refine ⟨_, cap, rfl, fun _ => ⟨g, 0, rfl, ?_, fun j hj => ⟨?_, ?_⟩⟩⟩
    · exact Lies.lt h3
    · rw [Nat.zero_add, key _ (by omega), both_from]
    · rw [Nat.zero_add, key _ (by omega), both_to]

set_option maxHeartbeats 1000000 in
theorem eqsp_same {B1 B2 m : Nat} {v1 v2 : Value} {F T : Nat → Int} {w : World} (h1 : SRd w B1 v1 m F T) (h2 : SRd w B2 v2 m F T) (hm : m ≤ 12) :
    Calls Try.prog 16 #[v1, v2] w fun e w' => e = .returned (.bool true) ∧ Below w.heap.size w w' := by
  obtain ⟨A1, c1, rfl⟩ := h1.is
  obtain ⟨A2, c2, rfl⟩ := h2.is
  have H := Lib.hid (And.intro h1 h2)
  clear h1 h2
  go_enter Try.func16, Try.ntmps16
  go_wp2_with fail
  go_loopw [13] (fun t wr => ∃ k : Nat, k ≤ m ∧ t = .int .i64 k ∧ ∃ nq, wr = w.drewN nq) (fun t _ => m - (intOf t).toNat)
  case atStart => exact ⟨0, by omega, rfl, 0, rfl⟩
  case round =>
    obtain ⟨k, hk, rfl, q0, rfl⟩ := hrel
    by_cases hkm : k < m
    · obtain ⟨g1, o1, rfl, hg1⟩ := H.out.1.addr (by omega)
      obtain ⟨g2, o2, rfl, hg2⟩ := H.out.2.addr (by omega)
      obtain ⟨d1, d2⟩ := H.out.1.cells hkm
      obtain ⟨d3, d4⟩ := H.out.2.cells hkm
      clear hg1 hg2
      have i1 : (0 : Int) ≤ (k : Int) := by omega
      have i2 : (k : Int) < (m : Int) := by omega
      generalize F k = f at d1 d3
      generalize T k = t at d2 d4
      go_wp2_with fail
      go_quiet (fail)
      go_wp2_with fail
      go_roundw
      case rel => exact ⟨k + 1, by omega, by go_num, _, rfl⟩
      case measure => simp [intOf]; omega
    · obtain rfl : m = k := by omega
      go_wp2_with fail
      go_ret
      exact ⟨rfl, uBelowN (Below.refl _ _) _⟩

theorem spanned_true (n : Nat) (a : Nat → Nat) (w : World) (hn : n ≤ 12) (h : SpOK n a) :
    Calls Try.prog 15 #[relV n a] w fun e w' => e = .returned (.bool true) ∧ Below w.heap.size w w' := by
  refine (spanned_go n a w hn).mono ?_
  rintro e w' ⟨hb, ⟨he, _⟩ | ⟨_, hs⟩⟩
  · exact ⟨he, hb⟩
  · exact absurd h hs

structure MmR (w0 : World) (n : Int) (a : Nat → Nat) (w : World) : Prop where
  below : Below w0.heap.size w0 w
  rel : RelB w w0.heap.size n a
theorem MmR.next {w0 w w' : World} {n : Int} {a : Nat → Nat} (h : MmR w0 n a w) (hb : Below w.heap.size w w') : MmR w0 n a w' :=
  ⟨h.below.trans (hb.mono h.below.size), Lies.below h.rel hb h.rel.lt⟩

set_option maxHeartbeats 4000000 in
theorem make_err (n : Int) (a : Nat → Nat) (E : Int) (hE : (E != 0) = true) (hc : Checks n a E) (hr : ∀ w : World, Calls Try.prog 14 #[relV n a] w fun e w' => e = .returned (.int .i64 E) ∧ Below w.heap.size w w') (w : World) :
    Calls Try.prog 4 #[relV n a] w fun e w' => e = .returned (.bool true) ∧ Below w.heap.size w w' := by
  have hW : MmR w n a (w.alloc (.cells (relCs n a) 26)) := ⟨(Below.refl _ _).alloc (Nat.le_refl _) _, Lies.new _ _ _⟩
  have HR := Lib.hid hW
  clear hW
  have HH := Lib.hid (And.intro hE (And.intro hc hr))
  clear hE hc hr
  go_enter Try.func4, Try.ntmps4
  go_wp2_with fail
  refine (mk_err n a E _ HH.out.1 HH.out.2.1).mono ?_
  rintro e w' ⟨rfl, hb'⟩
  have HR := Lib.hid (HR.out.next hb')
  clear hb'
  have c0 := HR.out.rel.size
  obtain ⟨c1, c2, c3, c4, c5, c6, c7, c8, c9, c10, c11, c12⟩ := HR.out.rel.rows
  go_wp2_with fail
  clear c0 c1 c2 c3 c4 c5 c6 c7 c8 c9 c10 c11 c12
  refine (HH.out.2.2 _).mono ?_
  rintro e w' ⟨rfl, hb'⟩
  have HR := Lib.hid (HR.out.next hb')
  clear hb'
  have hE := HH.out.1
  have hz : (E == 0) = false := by rw [bne_iff_ne] at hE; rw [beq_eq_false_iff_ne]; exact hE
  go_wp2_with fail
  go_ret
  exact ⟨rfl, HR.out.below⟩

set_option maxHeartbeats 4000000 in
theorem make_no (n : Nat) (a : Nat → Nat) (hg : Good n a) (hc : ¬ Chain2 n a) (w : World) :
    Calls Try.prog 4 #[relV n a] w fun e w' => e = .returned (.bool true) ∧ Below w.heap.size w w' := by
  have hW : MmR w n a (w.alloc (.cells (relCs n a) 26)) := ⟨(Below.refl _ _).alloc (Nat.le_refl _) _, Lies.new _ _ _⟩
  have HR := Lib.hid hW
  clear hW
  have HH := Lib.hid (And.intro hg hc)
  clear hg hc
  go_enter Try.func4, Try.ntmps4
  go_wp2_with fail
  refine (mk_no n a _ HH.out.1 HH.out.2).mono ?_
  rintro e w' ⟨rfl, hb'⟩
  have HR := Lib.hid (HR.out.next hb')
  clear hb'
  have c0 := HR.out.rel.size
  obtain ⟨c1, c2, c3, c4, c5, c6, c7, c8, c9, c10, c11, c12⟩ := HR.out.rel.rows
  go_wp2_with fail
  clear c0 c1 c2 c3 c4 c5 c6 c7 c8 c9 c10 c11 c12
  refine (rright_go n a _ HH.out.1.le).mono ?_
  rintro e w' ⟨hb', ⟨_, i, j, hi, hj, ho⟩ | ⟨rfl, _⟩⟩
  · exact absurd ho (good_not_out HH.out.1 hi)
  have HR := Lib.hid (HR.out.next hb')
  clear hb'
  have c0 := HR.out.rel.size
  obtain ⟨c1, c2, c3, c4, c5, c6, c7, c8, c9, c10, c11, c12⟩ := HR.out.rel.rows
  go_wp2_with fail
  clear c0 c1 c2 c3 c4 c5 c6 c7 c8 c9 c10 c11 c12
  refine (spanned_go n a _ HH.out.1.le).mono ?_
  rintro e w' ⟨hb', ⟨_, hs⟩ | ⟨rfl, _⟩⟩
  · exact absurd (chain2_of hs) HH.out.2
  have HR := Lib.hid (HR.out.next hb')
  clear hb'
  go_wp2_with fail
  go_ret
  exact ⟨rfl, HR.out.below⟩

set_option maxHeartbeats 4000000 in
theorem make_yes (n : Nat) (a : Nat → Nat) (hg : Good n a) (hc : Chain2 n a) (w : World) :
    Calls Try.prog 4 #[relV n a] w fun e w' => e = .returned (.bool true) ∧ Below w.heap.size w w' := by
  have hW : MmR w n a (w.alloc (.cells (relCs n a) 26)) := ⟨(Below.refl _ _).alloc (Nat.le_refl _) _, Lies.new _ _ _⟩
  have HR := Lib.hid hW
  clear hW
  have HH := Lib.hid (And.intro hg hc)
  clear hg hc
  go_enter Try.func4, Try.ntmps4
  go_wp2_with fail
  refine (mk_ok n a _ HH.out.1 HH.out.2).mono ?_
  rintro e w' ⟨v, rfl, hb', hS, -, -⟩
  have HS := Lib.hid hS
  clear hS
  have HR := Lib.hid (HR.out.next hb')
  clear hb'
  have c0 := HR.out.rel.size
  obtain ⟨c1, c2, c3, c4, c5, c6, c7, c8, c9, c10, c11, c12⟩ := HR.out.rel.rows
  go_wp2_with fail
  clear c0 c1 c2 c3 c4 c5 c6 c7 c8 c9 c10 c11 c12
  refine (rright_go n a _ HH.out.1.le).mono ?_
  rintro e w2 ⟨hb', ⟨_, i, j, hi, hj, ho⟩ | ⟨rfl, _⟩⟩
  · exact absurd ho (good_not_out HH.out.1 hi)
  have HS := Lib.hid ((HS.out.below hb').mono hb'.size)
  have HR := Lib.hid (HR.out.next hb')
  clear hb'
  have c0 := HR.out.rel.size
  obtain ⟨c1, c2, c3, c4, c5, c6, c7, c8, c9, c10, c11, c12⟩ := HR.out.rel.rows
  go_wp2_with fail
  clear c0 c1 c2 c3 c4 c5 c6 c7 c8 c9 c10 c11 c12
  refine (spanned_true n a _ HH.out.1.le (spOK_of HH.out.2)).mono ?_
  rintro e w3 ⟨rfl, hb'⟩
  have HS := Lib.hid ((HS.out.below hb').mono hb'.size)
  have HR := Lib.hid (HR.out.next hb')
  clear hb'
  have c0 := HR.out.rel.size
  obtain ⟨c1, c2, c3, c4, c5, c6, c7, c8, c9, c10, c11, c12⟩ := HR.out.rel.rows
  go_wp2_with fail
  clear c0 c1 c2 c3 c4 c5 c6 c7 c8 c9 c10 c11 c12
  refine (sof_go n a _ HH.out.1.le).mono ?_
  rintro e w4 ⟨v2, rfl, hb', hO⟩
  have HS := Lib.hid (And.intro ((HS.out.below hb').mono hb'.size) (rd_owned hO))
  clear hO
  have HR := Lib.hid (HR.out.next hb')
  clear hb'
  go_wp2_with fail
  refine (eqsp_same HS.out.1 HS.out.2 HH.out.1.le).mono ?_
  rintro e w5 ⟨rfl, hb'⟩
  have HR := Lib.hid (HR.out.next hb')
  clear hb'
  go_wp2_with fail
  go_ret
  exact ⟨rfl, HR.out.below⟩

theorem smake_any (n : Int) (a : Nat → Nat) (w : World) (ha : ∀ i, a i < 65536) :
    Calls Try.prog 4 #[relV n a] w fun e w' => e = .returned (.bool true) ∧ Below w.heap.size w w' := by
  rcases rel_ways n a ha with h | ⟨m, rfl, hm, ⟨i, hi, hb⟩ | hg⟩
  · exact make_err n a 1 rfl (fun w => check_arg n a w h) (fun w => rright_arg n a w h) w
  · refine make_err m a 3 rfl (fun w => check_form m a w hm (fun i _ => ha i) i hi hb) (fun w => (rright_go m a w hm).mono ?_) w
    rintro e w' ⟨h1, ⟨h2, _⟩ | ⟨_, h3⟩⟩
    · exact ⟨h2, h1⟩
    · obtain ⟨j, hj, ho⟩ := out_of_bad (ha i) hb
      exact absurd ho (h3 i j hi hj)
  · by_cases hc : Chain2 m a
    · exact make_yes m a hg hc w
    · exact make_no m a hg hc w
end Go.Proofs.Ytfjanniojphdoaa
