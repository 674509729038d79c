/-
  Contract of aliblaw.leastOf: the list that Least makes.
-/
import Derived.Test.YtcpmhflkooipdaaDoorReach
import Derived.Test.YtcpmhflkooipdaaDoorLofPure
import Derived.Test.YtcpmhflkooipdaaDoorContains
namespace Go.Proofs.YtcpmhflkooipdaaDoor
open Go.RowKit
set_option maxRecDepth 20000

structure LfR (w : World) (n : Nat) (a : Nat → Nat) (v : Value) (xs : List Int) (wr : World) : Prop where
  below : Below w.heap.size w wr
  rel : RelB wr w.heap.size n a
  own : IOwn wr (w.heap.size + 1) v xs
section
variable {w wr w' : World} {n : Nat} {a : Nat → Nat} {v : Value} {xs : List Int}
theorem LfR.then_ (h : LfR w n a v xs wr) (hb : Below wr.heap.size wr w') : LfR w n a v xs w' :=
  ⟨h.below.trans (hb.mono h.below.size), Lies.below h.rel hb h.rel.lt, h.own.then_ hb⟩
theorem LfR.app (h : LfR w n a v xs wr) {v' : Value} {ys : List Int} (hb : Below (w.heap.size + 1) wr w') (ho : IOwn w' (w.heap.size + 1) v' ys) : LfR w n a v' ys w' :=
  ⟨h.below.trans (hb.mono (by omega)), Lies.below h.rel hb (by omega), ho⟩
end

set_option maxHeartbeats 2000000 in
theorem lof_any (n : Nat) (a : Nat → Nat) (w : World) (h : Good n a) (hy : cyc (clo n a) n = false) :
    Calls Tryd.prog 12 #[relV n a] w fun e w' => ∃ v, e = .returned v ∧ IOwn w' (w.heap.size + 1) v (lsL (rev n (clo n a)) n n) ∧ Below w.heap.size w w' := by
  have hle := h.le
  have HG := Lib.hid (And.intro h (strict_clo h hy))
  clear h hy
  go_enter Tryd.func12, Tryd.ntmps12
  go_wp2_with fail
  have hR : LfR w n a (.slice none 0 0) [] (w.alloc (.cells (relCs n a) 25)) :=
    ⟨(Below.refl _ _).alloc (Nat.le_refl _) _, Lies.new _ _ _, World.ownsRow_nil _ _ _ _⟩
  generalize w.alloc (.cells (relCs n a) 25) = W at hR ⊢
  go_loopw [3] (fun v wr => ∃ k : Nat, k ≤ n ∧ LfR w n a v (lsL (rev n (clo n a)) n k) wr) (fun v _ => n - lenV v)
  case atStart => exact ⟨0, by omega, hR⟩
  case round =>
    clear hR
    obtain ⟨k, hk, hR⟩ := hrel
    have hlk := lsL_length (rev n (clo n a)) n k
    obtain ⟨A, cap, hv, _⟩ := hR.own.rd
    rw [hlk] at hv
    subst hv
    by_cases hkn : k < n
    · have hsz := hR.rel.size
      have i2 : (k : Int) < (n : Int) := by omega
      have HR := Lib.hid hR
      clear hR
      go_wp2_with fail
      have hR := HR.out
      have hlv : lenV (.slice A k cap) = k := rfl
      generalize (Value.slice A k cap) = v at hR hlv ⊢
      clear HR hsz
      go_loopw [3, 14] (fun q t wr => ∃ i : Nat, i ≤ n ∧ t = .int .i64 i ∧ v = q ∧ (∀ x, x < i → mayUp a (lsD (rev n (clo n a)) n k) x n = false) ∧ LfR w n a v (lsL (rev n (clo n a)) n k) wr) (fun _ t _ => n - (intOf t).toNat)
      case atStart => exact ⟨0, by omega, rfl, rfl, fun x hx => by omega, hR⟩
      case round =>
        clear hR
        obtain ⟨i, hi, rfl, rfl, hno, hR⟩ := hrel
        by_cases hin : i < n
        · have hsz := hR.rel.size
          have j2 : (i : Int) < (n : Int) := by omega
          have HR := Lib.hid (And.intro hR hno)
          clear hR hno
          go_wp2_with fail
          refine (contains_any HR.out.1.own.rd (by rw [hlk]; omega) (i : Int)).mono ?_
          rintro e w1 ⟨rfl, hb⟩
          rw [in_lsL HG.out.2 hle (by omega)]
          have hR := HR.out.1.then_ hb
          have hno := HR.out.2
          have hsz1 := hR.rel.size
          have HR2 := Lib.hid (And.intro hR hno)
          clear HR hR hno hsz hb
          go_wp2_with fail
          have hR := HR2.out.1
          have HN := Lib.hid HR2.out.2
          clear HR2 hsz1
          go_loopw [5, 23] (fun q t wr => ∃ j : Nat, j ≤ n ∧ t = .int .i64 j ∧ q = .bool (mayUp a (lsD (rev n (clo n a)) n k) i j) ∧ LfR w n a v (lsL (rev n (clo n a)) n k) wr) (fun _ t _ => n - (intOf t).toNat)
          case atStart => exact ⟨0, by omega, rfl, rfl, hR⟩
          case round =>
            clear hR
            obtain ⟨j, hj, rfl, rfl, hR⟩ := hrel
            by_cases hjn : j < n
            · have k2 : (j : Int) < (n : Int) := by omega
              have hM : mayUp a (lsD (rev n (clo n a)) n k) i (j + 1) = (mayUp a (lsD (rev n (clo n a)) n k) i j && (!(a j).testBit i || (lsD (rev n (clo n a)) n k).testBit j)) := rfl
              cases hm : mayUp a (lsD (rev n (clo n a)) n k) i j with
              | false =>
                rw [hm] at hM
                have HR := Lib.hid (And.intro hR hM)
                clear hR hM hm
                go_wp2_with fail
                go_roundw
                case rel => exact ⟨j + 1, by omega, by go_num, by rw [HR.out.2]; rfl, HR.out.1⟩
                case measure => simp [intOf]; omega
              | true =>
                rw [hm] at hM
                have hsz := hR.rel.size
                obtain ⟨c0, c1, c2, c3, c4, c5, c6, c7, c8, c9, c10, c11⟩ := hR.rel.rows
                have HR := Lib.hid (And.intro hR hM)
                clear hR hM hm
                go_wp2_with fail
                refine (ahead_any n a j i wr (by omega) (by omega)).mono ?_
                rintro e w2 ⟨rfl, hb⟩
                have hR := HR.out.1.then_ hb
                have HR2 := Lib.hid (And.intro hR HR.out.2)
                clear HR hR hsz c0 c1 c2 c3 c4 c5 c6 c7 c8 c9 c10 c11 hb
                cases hbit : (a j).testBit i with
                | false =>
                  have HB := Lib.hid hbit
                  clear hbit
                  go_wp2_with fail
                  go_roundw
                  case rel => exact ⟨j + 1, by omega, by go_num, by rw [HR2.out.2, HB.out]; rfl, HR2.out.1⟩
                  case measure => simp [intOf]; omega
                | true =>
                  have HB := Lib.hid hbit
                  clear hbit
                  go_wp2_with fail
                  refine (contains_any HR2.out.1.own.rd (by rw [hlk]; omega) (j : Int)).mono ?_
                  rintro e w3 ⟨rfl, hb⟩
                  rw [in_lsL HG.out.2 hle (by omega)]
                  have hR := HR2.out.1.then_ hb
                  have HR3 := Lib.hid hR
                  clear hR hb
                  go_wp2_with fail
                  go_roundw
                  case rel => exact ⟨j + 1, by omega, by go_num, by rw [HR2.out.2, HB.out]; rfl, HR3.out⟩
                  case measure => simp [intOf]; omega
            · obtain rfl : n = j := by omega
              cases hm : mayUp a (lsD (rev n (clo n a)) n k) i n with
              | false =>
                have HM := Lib.hid (And.intro hm hR)
                clear hm hR
                go_wp2_with fail
                go_roundw
                case rel => exact ⟨i + 1, by omega, by go_num, rfl, fun x hx => by
                  rcases Nat.lt_or_ge x i with h | h
                  · exact HN.out x h
                  · obtain rfl : x = i := by omega
                    exact HM.out.1, HM.out.2⟩
                case measure => simp [intOf]; omega
              | true =>
                have hnx := first_next HG.out.1 HG.out.2 (by omega) hin hm HN.out
                have hL : lsL (rev n (clo n a)) n (k + 1) = lsL (rev n (clo n a)) n k ++ [(nextOf (rdyUp (rev n (clo n a)) (lsD (rev n (clo n a)) n k) n) : Int)] := rfl
                rw [hnx] at hL
                have hgl : w.heap.size + 1 ≤ wr.heap.size := hR.rel.lt
                have HM := Lib.hid (And.intro hL hR)
                have HO := Lib.hid hR.own
                clear hm hR hL hnx
                go_wp2_with (at_builtin; refine app_one rfl (.tmp 41) (.tmp 43) rfl (w.heap.size + 1) _ (lsL (rev n (clo n a)) n k) rfl HO.out (i : Int) rfl (by rw [hlk]; omega) hgl ?_; intro v' w5 ho5 hb5)
                go_roundw
                case rel => exact ⟨k + 1, by omega, by rw [HM.out.1]; exact HM.out.2.app hb5 ho5⟩
                case measure =>
                  obtain ⟨A', cap', rfl, _⟩ := IOwn.rd ho5
                  show n - (lsL (rev n (clo n a)) n k ++ [(i : Int)]).length < n - k
                  rw [List.length_append, hlk, List.length_singleton]
                  omega
        · obtain rfl : n = i := by omega
          exact (some_may HG.out.1 HG.out.2 hkn hno).elim
    · obtain rfl : n = k := by omega
      have hsz := hR.rel.size
      have HR := Lib.hid hR
      clear hR
      go_wp2_with fail
      go_ret
      exact ⟨_, rfl, HR.out.own, HR.out.below⟩
end Go.Proofs.YtcpmhflkooipdaaDoor
