/-
  Contract of alibref.Orders.
-/
import Derived.Test.YtcpmhflkooipdaaDoorOrders
import Derived.Test.YtcpmhflkooipdaaDoorLof
import Derived.Deep.RegionHeld3
import Derived.Test.YtcpmhflkooipdaaDoorAppRd
import Derived.Deep.CutRange
import Derived.Lib.SliceRun
namespace Go.Proofs.YtcpmhflkooipdaaDoor
open Go.RowKit
set_option maxRecDepth 20000

/-- A list's items are those of the set D. -/
def Items (xs : List Int) (D : Nat) : Prop := ∀ i : Nat, decide ((i : Int) ∈ xs) = D.testBit i
/-- Item i is not among the first k. -/
def notIn (xs : List Int) (i : Int) (k : Nat) : Bool := decide (i ∉ xs.take k)
theorem notIn_zero (xs : List Int) (i : Int) : notIn xs i 0 = true := by simp [notIn]
theorem notIn_step {xs : List Int} {i : Int} {k : Nat} (h : k < xs.length) : notIn xs i (k + 1) = (notIn xs i k && (xs.getD k 0 != i)) := by
  unfold notIn
  have hk : xs[k]? = some (xs.getD k 0) := by simp [List.getD, h]
  rw [Bool.eq_iff_iff, Bool.and_eq_true, bne_iff_ne, decide_eq_true_eq, decide_eq_true_eq, List.take_add_one, hk]
  simp only [Option.toList_some, List.mem_append, List.mem_singleton, not_or]
  exact and_congr Iff.rfl ⟨fun h e => h e.symm, fun h e => h e.symm⟩
theorem notIn_all {xs : List Int} {D : Nat} (h : Items xs D) (i : Nat) : notIn xs i xs.length = !D.testBit i := by
  unfold notIn
  rw [List.take_length, ← h i]
  simp
theorem inAll {xs : List Int} {D : Nat} (h : Items xs D) (i : Nat) : (!notIn xs i xs.length) = D.testBit i := by
  rw [notIn_all h]; simp

theorem items_more {xs : List Int} {D : Nat} (h : Items xs D) (i : Nat) : Items (xs ++ [(i : Int)]) (D ||| 2 ^ i) := by
  intro x
  rw [Nat.testBit_or, Nat.testBit_two_pow, ← h x, Bool.eq_iff_iff]
  simp only [List.mem_append, List.mem_singleton, decide_eq_true_eq, Bool.or_eq_true]
  exact or_congr Iff.rfl ⟨fun e => by omega, fun e => by omega⟩

structure OdR (w : World) (n : Nat) (a : Nat → Nat) (v : Value) (xs : List Int) (wr : World) : Prop where
  below : Below w.heap.size w wr
  rel : RelB wr w.heap.size n a
  arg : IRd wr w.heap.size v xs
section
variable {w wr w' : World} {n : Nat} {a : Nat → Nat} {v : Value} {xs : List Int}
theorem OdR.then_ (h : OdR w n a v xs wr) (hb : Below wr.heap.size wr w') : OdR w n a v xs w' :=
  ⟨h.below.trans (hb.mono h.below.size), Lies.below h.rel hb h.rel.lt, h.arg.below (hb.mono h.below.size)⟩
end

theorem wrap_zero : wrap64 ((0 : Nat) : Int) = 0 := by first | rfl | decide +kernel | simp [wrap64]
/-- And p is nil where X holds, or the call's own and reads as ys. -/
structure OdP (w : World) (n : Nat) (a : Nat → Nat) (v : Value) (xs : List Int) (X : Prop) (ys : List Int) (p : Value) (wr : World) : Prop where
  od : OdR w n a v xs wr
  pf : (p = .slice none 0 0 ∧ X) ∨ IOwn wr w.heap.size p ys
theorem OdP.then_ {w wr w' : World} {n : Nat} {a : Nat → Nat} {v p : Value} {xs ys : List Int} {X : Prop} (h : OdP w n a v xs X ys p wr) (hb : Below wr.heap.size wr w') : OdP w n a v xs X ys p w' :=
  ⟨h.od.then_ hb, h.pf.imp id fun h => h.then_ hb⟩
theorem IRd.at {wr : World} {B L cap : Nat} {A : Option Addr} {xs : List Int} (h : IRd wr B (.slice A L cap) xs) (h0 : 0 < L) :
    ∃ g, A = some ⟨g, 0, none⟩ ∧ ∀ k, k < L → wr.cell? ⟨g, k, none⟩ = some (.int .i64 (xs.getD k 0)) := by
  obtain ⟨A', cap', e, hc⟩ := h
  injection e with e1 e2 e3
  subst e1 e2 e3
  obtain ⟨g, hA, _, hcell⟩ := hc h0
  exact ⟨g, hA, hcell⟩

set_option maxHeartbeats 2000000 in
theorem ord_any (n : Nat) (a : Nat → Nat) (hG : Good n a) (hS : Strict n (clo n a)) (f : Nat) (ih : ∀ (ys : List Int) (E : Nat) (u : Value) (W : World), ys.length + f = n → IRd W W.heap.size u ys → Items ys E → Down n a E → card n E = ys.length →
      Calls Tryd.prog 13 #[relV n a, u] W fun e w' => ∃ v', e = .returned (.tuple #[.int .i64 (wrap64 (ordC (rev n (clo n a)) n f E : Nat)), v']) ∧ IOwn w' W.heap.size v' (compL (rev n (clo n a)) n f E ys) ∧ Below W.heap.size W w') (xs : List Int) (D : Nat) (v : Value) (w : World) (hf : xs.length + (f + 1) = n) (hx : IRd w w.heap.size v xs)
    (hD : Items xs D) (hd : Down n a D) (hc : card n D = xs.length) :
    Calls Tryd.prog 13 #[relV n a, v] w fun e w' => ∃ v', e = .returned (.tuple #[.int .i64 (wrap64 (ordC (rev n (clo n a)) n (f + 1) D : Nat)), v']) ∧ IOwn w' w.heap.size v' (compL (rev n (clo n a)) n (f + 1) D xs) ∧ Below w.heap.size w w' := by
  have hle := hG.le
  obtain ⟨A, cap, rfl, hcell⟩ := id hx
  obtain ⟨L, hL⟩ : ∃ L, L = xs.length := ⟨_, rfl⟩
  rw [← hL] at hf hcell hx hc ⊢
  have HG := Lib.hid (And.intro hG hS)
  have HD := Lib.hid (And.intro hD (And.intro hd (And.intro hc hL)))
  have HX := Lib.hid hx
  have hne : ((L : Int) == (n : Int)) = false := by rw [beq_eq_false_iff_ne]; omega
  have hLn : L < n := by omega
  have hL12 : L ≤ 12 := by omega
  have IH := Lib.hid ih
  clear hG hS hD hd hc hx hcell hL ih
  go_enter Tryd.func13, Tryd.ntmps13
  go_wp2_with fail
  have hR : OdR w n a (.slice A L cap) xs (w.alloc (.cells (relCs n a) 25)) :=
    ⟨(Below.refl _ _).alloc (Nat.le_refl _) _, Lies.new _ _ _, HX.out.below ((Below.refl _ _).alloc (Nat.le_refl _) _)⟩
  generalize w.alloc (.cells (relCs n a) 25) = W at hR ⊢
  generalize hbb : rev n (clo n a) = b
  have HBB := Lib.hid hbb
  clear hbb
  go_loopw [6, 7, 28] (fun s p t wr => ∃ i : Nat, i ≤ n ∧ t = .int .i64 i ∧ s = .int .i64 (wrap64 ((sumUp (fun j => if firstB b D j = true then ordC b n f (D ||| 2 ^ j) else 0) i : Nat) : Int)) ∧ OdP w n a (.slice A L cap) xs (∀ x, x < i → firstB b D x = false) (compL b n (f + 1) D xs) p wr) (fun _ _ t _ => n - (intOf t).toNat)
  case atStart => exact ⟨0, by omega, rfl, by rw [sumUp, wrap_zero], hR, .inl ⟨rfl, fun x hx => by omega⟩⟩
  case round =>
    clear hR
    obtain ⟨i, hi, rfl, rfl, hR⟩ := hrel
    by_cases hin : i < n
    · have i2 : (i : Int) < (n : Int) := by omega
      obtain ⟨s0, hs0⟩ : ∃ s0, s0 = wrap64 ((sumUp (fun j => if firstB b D j = true then ordC b n f (D ||| 2 ^ j) else 0) i : Nat) : Int) := ⟨_, rfl⟩
      rw [← hs0]
      have HS := Lib.hid hs0
      have HP := Lib.hid hR
      clear hR hs0
      go_wp2_with fail
      have hR := HP.out
      clear HP
      go_loopw [9, 33] (fun q t wr => ∃ k : Nat, k ≤ L ∧ t = .int .i64 k ∧ q = .bool (notIn xs i k) ∧ OdP w n a (.slice A L cap) xs (∀ x, x < i → firstB b D x = false) (compL b n (f + 1) D xs) u7 wr) (fun _ t _ => L - (intOf t).toNat)
      case atStart => exact ⟨0, by omega, rfl, by rw [notIn_zero], hR⟩
      case round =>
        clear hR
        obtain ⟨k, hk, rfl, rfl, hR⟩ := hrel
        by_cases hkL : k < L
        · obtain ⟨g, rfl, hcell⟩ := hR.od.arg.at (by omega)
          have d1 := hcell k hkL
          have hst := notIn_step (xs := xs) (i := (i : Int)) (k := k) (by rw [← HD.out.2.2.2]; exact hkL)
          have k1 : (0 : Int) ≤ (k : Int) := by omega
          have k2 : (k : Int) < (L : Int) := by omega
          generalize xs.getD k 0 = y at d1 hst
          have HR := Lib.hid (And.intro hR hst)
          clear hR hst hcell
          cases hq : notIn xs i k with
          | false =>
            have HQ := Lib.hid hq
            clear hq
            go_wp2_with fail
            go_roundw
            case rel => exact ⟨k + 1, by omega, by go_num, by rw [HR.out.2, HQ.out]; rfl, HR.out.1⟩
            case measure => simp [intOf]; omega
          | true =>
            have HQ := Lib.hid hq
            clear hq
            go_wp2_with fail
            go_roundw
            case rel => exact ⟨k + 1, by omega, by go_num, by rw [HR.out.2, HQ.out]; rfl, HR.out.1⟩
            case measure => simp [intOf]; omega
        · obtain rfl : L = k := by omega
          have hq : notIn xs i L = mayUp a D i 0 := by
            have := notIn_all HD.out.1 i
            rw [← HD.out.2.2.2] at this
            exact this
          rw [hq]
          clear hq
          have hsz := hR.od.rel.size
          have HR := Lib.hid hR
          clear hR
          go_wp2_with fail
          have hR := HR.out
          clear HR hsz
          go_loopw [9, 46] (fun q t wr => ∃ j : Nat, j ≤ n ∧ t = .int .i64 j ∧ q = .bool (mayUp a D i j) ∧ OdP w n a (.slice A L cap) xs (∀ x, x < i → firstB b D x = false) (compL b n (f + 1) D xs) u7 wr) (fun _ t _ => n - (intOf t).toNat)
          case atStart => exact ⟨0, by omega, rfl, rfl, hR⟩
          case round =>
            clear hR
            obtain ⟨j, hj, rfl, rfl, hR⟩ := hrel
            by_cases hjn : j < n
            · have j2 : (j : Int) < (n : Int) := by omega
              have hsz := hR.od.rel.size
              obtain ⟨c0, c1, c2, c3, c4, c5, c6, c7, c8, c9, c10, c11⟩ := hR.od.rel.rows
              have hM : mayUp a D i (j + 1) = (mayUp a D i j && (!(a j).testBit i || D.testBit j)) := rfl
              generalize mayUp a D i j = m0 at hM ⊢
              have HR := Lib.hid (And.intro hR hM)
              clear hR hM
              go_wp2_with fail
              refine (ahead_any n a j i wr (by omega) (by omega)).mono ?_
              rintro e w1 ⟨rfl, hb⟩
              have hR := HR.out.1.then_ hb
              have HR2 := Lib.hid (And.intro hR HR.out.2)
              clear HR hR hsz c0 c1 c2 c3 c4 c5 c6 c7 c8 c9 c10 c11 hb
              cases hbit : (a j).testBit i with
              | false =>
                have HB := Lib.hid hbit
                clear hbit
                go_wp2_with fail
                go_roundw
                case rel => exact ⟨j + 1, by omega, by go_num, by rw [HR2.out.2, HB.out]; simp, HR2.out.1⟩
                case measure => simp [intOf]; omega
              | true =>
                have HB := Lib.hid hbit
                clear hbit
                go_wp2_with fail
                have hR := HR2.out.1
                have HM := Lib.hid HR2.out.2
                clear HR2
                go_loopw [13, 55] (fun q t wr => ∃ k : Nat, k ≤ L ∧ t = .int .i64 k ∧ q = .bool (!notIn xs j k) ∧ OdP w n a (.slice A L cap) xs (∀ x, x < i → firstB b D x = false) (compL b n (f + 1) D xs) u7 wr) (fun _ t _ => L - (intOf t).toNat)
                case atStart => exact ⟨0, by omega, rfl, by rw [notIn_zero]; rfl, hR⟩
                case round =>
                  clear hR
                  obtain ⟨k, hk, rfl, rfl, hR⟩ := hrel
                  by_cases hkL : k < L
                  · obtain ⟨g, rfl, hcell⟩ := hR.od.arg.at (by omega)
                    have d1 := hcell k hkL
                    have hst := notIn_step (xs := xs) (i := (j : Int)) (k := k) (by rw [← HD.out.2.2.2]; exact hkL)
                    have k1 : (0 : Int) ≤ (k : Int) := by omega
                    have k2 : (k : Int) < (L : Int) := by omega
                    generalize xs.getD k 0 = y at d1 hst
                    have HR := Lib.hid (And.intro hR hst)
                    clear hR hst hcell
                    cases hq : notIn xs j k with
                    | false =>
                      have HQ := Lib.hid hq
                      clear hq
                      go_wp2_with fail
                      go_roundw
                      case rel => exact ⟨k + 1, by omega, by go_num, by rw [HR.out.2, HQ.out]; rfl, HR.out.1⟩
                      case measure => simp [intOf]; omega
                    | true =>
                      have HQ := Lib.hid hq
                      clear hq
                      by_cases e : y = (j : Int)
                      · have hz : (y == (j : Int)) = true := by rw [beq_iff_eq]; exact e
                        have HE := Lib.hid e
                        clear e
                        go_wp2_with fail
                        go_roundw
                        case rel => exact ⟨k + 1, by omega, by go_num, by rw [HR.out.2, HQ.out, HE.out]; simp, HR.out.1⟩
                        case measure => simp [intOf]; omega
                      · have hz : (y == (j : Int)) = false := by rw [beq_eq_false_iff_ne]; exact e
                        have HE := Lib.hid e
                        clear e
                        go_wp2_with fail
                        go_roundw
                        case rel => exact ⟨k + 1, by omega, by go_num, by rw [HR.out.2, HQ.out, bne_iff_ne.2 HE.out]; rfl, HR.out.1⟩
                        case measure => simp [intOf]; omega
                  · obtain rfl : L = k := by omega
                    have hq : (!notIn xs j L) = D.testBit j := by
                      have := inAll HD.out.1 j
                      rw [← HD.out.2.2.2] at this
                      exact this
                    rw [hq]
                    clear hq
                    have HR := Lib.hid hR
                    clear hR
                    cases m0 with
                    | false =>
                      go_wp2_with fail
                      go_roundw
                      case rel => exact ⟨j + 1, by omega, by go_num, by rw [HM.out]; rfl, HR.out⟩
                      case measure => simp [intOf]; omega
                    | true =>
                      go_wp2_with fail
                      go_roundw
                      case rel => exact ⟨j + 1, by omega, by go_num, by rw [HM.out, HB.out]; simp, HR.out⟩
                      case measure => simp [intOf]; omega
            · obtain rfl : n = j := by omega
              rw [may_first HG.out.1 HD.out.2.1 hin, HBB.out]
              cases hfb : firstB b D i with
              | false =>
                have HF := Lib.hid hfb
                have HR := Lib.hid hR
                clear hfb hR
                go_wp2_with fail
                go_roundw
                case rel => exact ⟨i + 1, by omega, by go_num, by rw [sumUp, HF.out, HS.out]; simp, HR.out.od, HR.out.pf.imp (fun h => ⟨h.1, fun x hx => by
                  rcases Nat.lt_or_ge x i with h' | h'
                  · exact h.2 x h'
                  · obtain rfl : x = i := by omega
                    exact HF.out⟩) id⟩
                case measure => simp [intOf]; omega
              | true =>
                have HF := Lib.hid hfb
                have hsz := hR.od.rel.size
                obtain ⟨c0, c1, c2, c3, c4, c5, c6, c7, c8, c9, c10, c11⟩ := hR.od.rel.rows
                have HR := Lib.hid hR
                clear hfb hR
                have hcp : compL b n (f + 1) D xs = compL b n f (D ||| (2 ^ nextOf (rdyUp b D n) % 65536)) (xs ++ [(nextOf (rdyUp b D n) : Int)]) := rfl
                have HC := Lib.hid hcp
                clear hcp
                go_upto_region 27 with fail
                go_cut [16, 17] from 29 to 89 (fun s p wx => s = .int .i64 (wrap64 ((ordC b n f (D ||| 2 ^ i) : Nat) : Int)) ∧ IOwn wx w.heap.size p (compL b n f (D ||| 2 ^ i) (xs ++ [(i : Int)])) ∧ Below wr.heap.size wr wx)
                case first =>
                  have hrd := HR.out.od.arg
                  have hrel := HR.out.od.rel
                  have hS : ∀ W, Below wr.heap.size wr W → W.cell? ⟨w.heap.size, 0, none⟩ = some (.int .i64 (n : Int)) ∧ W.cell? ⟨w.heap.size, 1, none⟩ = some (.int .u16 (a 0 : Nat)) ∧ W.cell? ⟨w.heap.size, 2, none⟩ = some (.int .u16 (a 1 : Nat)) ∧ W.cell? ⟨w.heap.size, 3, none⟩ = some (.int .u16 (a 2 : Nat)) ∧ W.cell? ⟨w.heap.size, 4, none⟩ = some (.int .u16 (a 3 : Nat)) ∧ W.cell? ⟨w.heap.size, 5, none⟩ = some (.int .u16 (a 4 : Nat)) ∧ W.cell? ⟨w.heap.size, 6, none⟩ = some (.int .u16 (a 5 : Nat)) ∧ W.cell? ⟨w.heap.size, 7, none⟩ = some (.int .u16 (a 6 : Nat)) ∧ W.cell? ⟨w.heap.size, 8, none⟩ = some (.int .u16 (a 7 : Nat)) ∧ W.cell? ⟨w.heap.size, 9, none⟩ = some (.int .u16 (a 8 : Nat)) ∧ W.cell? ⟨w.heap.size, 10, none⟩ = some (.int .u16 (a 9 : Nat)) ∧ W.cell? ⟨w.heap.size, 11, none⟩ = some (.int .u16 (a 10 : Nat)) ∧ W.cell? ⟨w.heap.size, 12, none⟩ = some (.int .u16 (a 11 : Nat)) := fun W hb => ⟨RelB.size (Lies.below hrel hb hrel.lt), RelB.rows (Lies.below hrel hb hrel.lt)⟩
                  have hlw := HR.out.od.below.size
                  have HRD : Hid (∀ W, Below wr.heap.size wr W → IRd W w.heap.size (.slice A L cap) xs) := Lib.hid fun W hb => hrd.below (hb.mono hlw)
                  have HSR := Lib.hid hS
                  have HLN := Lib.hid (show ([] : List Int).length + xs.length ≤ 65536 by have := HD.out.2.2.2; simp; omega)
                  have HLM := Lib.hid (show xs.length + [(i : Int)].length ≤ 65536 by have := HD.out.2.2.2; simp; omega)
                  have hDi : D.testBit i = false := by have := HF.out; rw [firstB, Bool.and_eq_true] at this; simpa using this.1
                  have HQ1 := Lib.hid (show (xs ++ [(i : Int)]).length + f = n by have := HD.out.2.2.2; rw [List.length_append, List.length_singleton]; omega)
                  have HQ2 := Lib.hid (show Items (xs ++ [(i : Int)]) (D ||| 2 ^ i) from items_more HD.out.1 i)
                  have HQ3 := Lib.hid (show Down n a (D ||| 2 ^ i) from HD.out.2.1.more HG.out.1 hin (by rw [HBB.out]; exact HF.out))
                  have HQ4 := Lib.hid (show card n (D ||| 2 ^ i) = (xs ++ [(i : Int)]).length by have := HD.out.2.2.2; have := HD.out.2.2.1; rw [card_more hin hDi, List.length_append, List.length_singleton]; omega)
                  clear hrd hrel hS hDi
                  go_region_held3 (fun W => W.cell? ⟨w.heap.size, 0, none⟩ = some (.int .i64 (n : Int)) ∧ W.cell? ⟨w.heap.size, 1, none⟩ = some (.int .u16 (a 0 : Nat)) ∧ W.cell? ⟨w.heap.size, 2, none⟩ = some (.int .u16 (a 1 : Nat)) ∧ W.cell? ⟨w.heap.size, 3, none⟩ = some (.int .u16 (a 2 : Nat)) ∧ W.cell? ⟨w.heap.size, 4, none⟩ = some (.int .u16 (a 3 : Nat)) ∧ W.cell? ⟨w.heap.size, 5, none⟩ = some (.int .u16 (a 4 : Nat)) ∧ W.cell? ⟨w.heap.size, 6, none⟩ = some (.int .u16 (a 5 : Nat)) ∧ W.cell? ⟨w.heap.size, 7, none⟩ = some (.int .u16 (a 6 : Nat)) ∧ W.cell? ⟨w.heap.size, 8, none⟩ = some (.int .u16 (a 7 : Nat)) ∧ W.cell? ⟨w.heap.size, 9, none⟩ = some (.int .u16 (a 8 : Nat)) ∧ W.cell? ⟨w.heap.size, 10, none⟩ = some (.int .u16 (a 9 : Nat)) ∧ W.cell? ⟨w.heap.size, 11, none⟩ = some (.int .u16 (a 10 : Nat)) ∧ W.cell? ⟨w.heap.size, 12, none⟩ = some (.int .u16 (a 11 : Nat)))
                    (first | exact HSR.out _ (by assumption) | go_keep)
                    (first
                      | (refine step_app_rd (by rfl) (.tmp 74) (.tmp 75) (by rfl) wr.heap.size w.heap.size _ _ [] xs (by rfl) (by rfl) (shp1 wr).2 (HRD.out _ (shp1 wr).1) HLN.out (shp1 wr).1.size ?_; intro v1 w1 ho1 hb1 hg1; have hbb := Below.trans (shp1 wr).1 hb1)
                      | (refine step_app_rd (by rfl) (.tmp 74) (.tmp 75) (by rfl) wr.heap.size w.heap.size _ _ [] xs (by rfl) (by rfl) (shp2 wr i).2.1 (HRD.out _ (shp2 wr i).1) HLN.out (shp2 wr i).1.size ?_; intro v1 w1 ho1 hb1 hg1; have hbb := Below.trans (shp2 wr i).1 hb1; have hL1 := Lies.grown (shp2 wr i).2.2 hg1 (by simp [Value.ownBlock]))
                      | (refine step_app_rd (by rfl) (.tmp 74) (.tmp 75) (by rfl) wr.heap.size w.heap.size _ _ [] xs (by rfl) (by rfl) (shp3 wr i).2.1 (HRD.out _ (shp3 wr i).1) HLN.out (shp3 wr i).1.size ?_; intro v1 w1 ho1 hb1 hg1; have hbb := Below.trans (shp3 wr i).1 hb1; have hL1 := Lies.grown (shp3 wr i).2.2 hg1 (by simp [Value.ownBlock]))
                      | (refine step_app_rd (by rfl) (.tmp 76) (.tmp 78) (by rfl) wr.heap.size _ _ _ xs [(i : Int)] (by rfl) (by rfl) (IOwn.alloc ho1 _) (IRd.one (Lies.new w1 _ _)) HLM.out (Below.alloc hbb hbb.size _).size ?_; intro v2 w2 ho2 hb2 hg2; have hbc := Below.trans (Below.alloc hbb hbb.size _) hb2)
                      | (refine step_app_rd (by rfl) (.tmp 76) (.tmp 78) (by rfl) wr.heap.size _ _ _ xs [(i : Int)] (by rfl) (by rfl) ho1 (IRd.one hL1) HLM.out hbb.size ?_; intro v2 w2 ho2 hb2 hg2; have hbc := Below.trans hbb hb2)
                      | (go_at_call 13; refine (IH.out (xs ++ [(i : Int)]) (D ||| 2 ^ i) _ w2 HQ1.out (IOwn.rd ho2) HQ2.out HQ3.out HQ4.out).mono ?_; rintro e w3 ⟨v3, rfl, ho3, hb3⟩; have hbd := Below.trans hbc (hb3.mono hbc.size)))
                  all_goals (go_wp2_with fail; go_meet; exact ⟨by rw [HBB.out], by rw [← HBB.out]; exact ho3.mono (Nat.le_trans hlw hbc.size), hbd⟩)
                case rest =>
                  obtain ⟨rfl, ho, hb⟩ := hcut
                  have hR := HR.out.then_ hb
                  have hsum : wrap64 (s0 + wrap64 ((ordC b n f (D ||| 2 ^ i) : Nat) : Int)) = wrap64 ((sumUp (fun j => if firstB b D j = true then ordC b n f (D ||| 2 ^ j) else 0) (i + 1) : Nat) : Int) := by
                    rw [HS.out, wrap_add, sumUp, if_pos HF.out, Int.natCast_add]
                  have HU := Lib.hid hsum
                  clear hsum hb hsz c0 c1 c2 c3 c4 c5 c6 c7 c8 c9 c10 c11
                  rcases hR.pf with ⟨hu, hno⟩ | hown
                  · have hnx := next_first hle hin HF.out hno
                    have h16 : 2 ^ i % 65536 = 2 ^ i := Nat.mod_eq_of_lt (Nat.pow_lt_pow_right (n := 16) (by omega) (by omega))
                    have hy : IOwn wc w.heap.size u17 (compL b n (f + 1) D xs) := by
                      rw [HC.out, hnx, h16]; exact ho
                    subst hu
                    have HO := Lib.hid (And.intro hy hR.od)
                    clear hno ho hy hR hnx h16
                    have hnil := fun W : World => Lib.run_eql_slice_nil (P := Tryd.prog) W 29 3 none 0 0 0 0 Tryd.underlying29
                    go_wp2_with fail
                    go_roundw
                    case rel => exact ⟨i + 1, by omega, by go_num, by rw [HU.out], HO.out.2, .inr HO.out.1⟩
                    case measure => simp [intOf]; omega
                  · obtain ⟨g, cap', hv, _⟩ := World.ownsRow.form hown (by rw [compL_length]; omega)
                    subst hv
                    have HO := Lib.hid (And.intro hown hR.od)
                    clear ho hown hR
                    have hnil := fun W : World => Lib.run_eql_slice_nil (P := Tryd.prog) W 29 3 (some ⟨g, 0, none⟩) (compL b n (f + 1) D xs).length cap' 0 0 Tryd.underlying29
                    go_wp2_with fail
                    go_roundw
                    case rel => exact ⟨i + 1, by omega, by go_num, by rw [HU.out], HO.out.2, .inr HO.out.1⟩
                    case measure => simp [intOf]; omega
    · obtain rfl : n = i := by omega
      rcases hR.pf with ⟨_, hno⟩ | ho
      · obtain ⟨x, hx1, hx2⟩ := some_first HG.out.2 hle HD.out.2.1.lt (by rw [HD.out.2.2.1]; exact hLn)
        rw [HBB.out, hno x hx1] at hx2
        cases hx2
      · have HR := Lib.hid (And.intro ho hR.od.below)
        clear hR ho
        go_wp2_with fail
        go_ret2
        rw [HBB.out]
        exact ⟨_, rfl, HR.out.1, HR.out.2⟩
end Go.Proofs.YtcpmhflkooipdaaDoor
