/-
  Joined by a program out of: LongA.
-/
import Derived.Test.YtkfijolimoehmaaDoorMgAI
import Derived.Test.YtkfijolimoehmaaDoorMgAC
import Derived.Test.YtkfijolimoehmaaDoorMgAJ
import Derived.Deep.RegionHeld3
import Derived.Deep.CutRange

/-
  Contract of the reference's LongApart.
-/
namespace Go.Proofs.YtkfijolimoehmaaDoor
open Go.RowKit
set_option maxRecDepth 20000

/-- Is k apart from each of the list? -/
def fitV (c : Nat → Nat) (k : Nat) (xs : List Int) : Bool := xs.all fun y => !(c y.toNat).testBit k && !(c k).testBit y.toNat
theorem fitV_take {c : Nat → Nat} {k m i : Nat} {xs : List Int} (hx : xs[m]? = some (i : Int)) : fitV c k (xs.take (m + 1)) = (fitV c k (xs.take m) && (!(c i).testBit k && !(c k).testBit i)) := by
  unfold fitV
  rw [List.take_add_one, hx, List.all_append]
  simp
theorem fitV_items (c : Nat → Nat) (s k : Nat) : ∀ m, fitV c k (itemsUp s m) = fitU c s k m
  | 0 => rfl
  | m + 1 => by
    have ih := fitV_items c s k m
    rw [itemsUp, fitU, ← ih]
    cases hb : s.testBit m
    · simp
    · unfold fitV
      rw [if_pos rfl, List.all_append]
      congr 1
      simp
theorem items_nat (s : Nat) : ∀ m y, y ∈ itemsUp s m → ∃ i : Nat, i < m ∧ y = (i : Int)
  | 0, y, h => by simp [itemsUp] at h
  | m + 1, y, h => by
    rw [itemsUp] at h
    split at h
    · rcases List.mem_append.1 h with h | h
      · obtain ⟨i, h1, h2⟩ := items_nat s m y h
        exact ⟨i, by omega, h2⟩
      · rw [List.mem_singleton] at h
        exact ⟨m, by omega, h⟩
    · obtain ⟨i, h1, h2⟩ := items_nat s m y h
      exact ⟨i, by omega, h2⟩
theorem items_congr {a b : Nat} : ∀ m, (∀ i, i < m → a.testBit i = b.testBit i) → itemsUp a m = itemsUp b m
  | 0, _ => rfl
  | m + 1, h => by rw [itemsUp, itemsUp, h m (by omega), items_congr m (fun i hi => h i (by omega))]
theorem items_more' {s k : Nat} : itemsUp (s ||| 2 ^ k) (k + 1) = itemsUp s k ++ [(k : Int)] := by
  rw [itemsUp, if_pos (by rw [or_pow_bit]; simp), items_congr (a := s ||| 2 ^ k) (b := s) k (fun i hi => by rw [or_pow_bit, decide_eq_false (by omega), Bool.or_false])]
theorem items_same' {s k : Nat} (hs : s < 2 ^ k) : itemsUp s (k + 1) = itemsUp s k := by
  rw [itemsUp, if_neg (by rw [Nat.testBit_lt_two_pow hs]; decide)]
theorem laS_lt {c : Nat → Nat} {n : Nat} : ∀ t, t ≤ n → ∀ s, s < 2 ^ (n - t) → laS c n t s < 2 ^ n
  | 0, _, s, hs => hs
  | t + 1, ht, s, hs => by
    have h1 := laS_lt (c := c) (n := n) t (by omega) s (Nat.lt_of_lt_of_le hs (Nat.pow_le_pow_right (by omega) (by omega)))
    have h2 := laS_lt (c := c) (n := n) t (by omega) (s ||| 2 ^ (n - (t + 1))) (Nat.or_lt_two_pow (Nat.lt_of_lt_of_le hs (Nat.pow_le_pow_right (by omega) (by omega))) (Nat.pow_lt_pow_right (by omega) (by omega)))
    rw [laS]
    repeat' split
    all_goals assumption
structure LaR (w : World) (n : Nat) (a : Nat → Nat) (v : Value) (xs : List Int) (wr : World) : Prop where
  below : Below w.heap.size w wr
  rel : RelB wr w.heap.size n a
  arg : IRd wr w.heap.size v xs
theorem LaR.then_ {w wr w' : World} {n : Nat} {a : Nat → Nat} {v : Value} {xs : List Int} (h : LaR w n a v xs wr) (hb : Below wr.heap.size wr w') : LaR w n a v xs w' :=
  ⟨h.below.trans (hb.mono h.below.size), Lies.below h.rel hb h.rel.lt, h.arg.below (hb.mono h.below.size)⟩

set_option maxHeartbeats 4000000 in
theorem lapart_step (n : Nat) (c : Nat → Nat) (hn : n ≤ 12) (t k s : Nat) (hk : k + (t + 1) = n) (hs : s < 2 ^ k)
    (ih : ∀ (s : Nat) (u : Value) (W : World), s < 2 ^ (k + 1) → IRd W W.heap.size u (itemsUp s (k + 1)) → Calls Tryd.prog 20 #[relV n c, u, .int .i64 ((k : Int) + 1)] W fun e w' => ∃ v', e = .returned v' ∧ IRd w' w'.heap.size v' (itemsUp (laS c n t s) n) ∧ Below W.heap.size W w')
    (v : Value) (w : World) (hx : IRd w w.heap.size v (itemsUp s k)) :
    Calls Tryd.prog 20 #[relV n c, v, .int .i64 k] w fun e w' => ∃ v', e = .returned v' ∧ IRd w' w'.heap.size v' (itemsUp (laS c n (t + 1) s) n) ∧ Below w.heap.size w w' := by
  have hla : laS c n (t + 1) s = if fitU c s k k = true then (if pop (laS c n t (s ||| 2 ^ k)) < pop (laS c n t s) then laS c n t s else laS c n t (s ||| 2 ^ k)) else laS c n t s := by
    rw [laS, show n - (t + 1) = k by omega]
  have hA : laS c n t s < 2 ^ n := laS_lt t (by omega) s (Nat.lt_of_lt_of_le hs (Nat.pow_le_pow_right (by omega) (by omega)))
  have hB : laS c n t (s ||| 2 ^ k) < 2 ^ n := laS_lt t (by omega) _ (by rw [show n - t = k + 1 by omega]; exact Nat.or_lt_two_pow (Nat.lt_of_lt_of_le hs (Nat.pow_le_pow_right (by omega) (by omega))) (Nat.pow_lt_pow_right (by omega) (by omega)))
  have lA : (itemsUp (laS c n t s) n).length = pop (laS c n t s) := by rw [items_card, pop_is (by omega) hA]
  have lB : (itemsUp (laS c n t (s ||| 2 ^ k)) n).length = pop (laS c n t (s ||| 2 ^ k)) := by rw [items_card, pop_is (by omega) hB]
  have hfv := fitV_items c s k k
  have hnat := items_nat s k
  have hlen := itemsUp_length s k
  have IH1 := Lib.hid (fun (u : Value) (W : World) (h : IRd W W.heap.size u (itemsUp s k)) => ih s u W (Nat.lt_of_lt_of_le hs (Nat.pow_le_pow_right (by omega) (by omega))) (by rw [items_same' hs]; exact h))
  have IH2 := Lib.hid (fun (u : Value) (W : World) (h : IRd W W.heap.size u (itemsUp s k ++ [(k : Int)])) => ih (s ||| 2 ^ k) u W (Nat.or_lt_two_pow (Nat.lt_of_lt_of_le hs (Nat.pow_le_pow_right (by omega) (by omega))) (Nat.pow_lt_pow_right (by omega) (by omega))) (by rw [items_more']; exact h))
  generalize laS c n (t + 1) s = R at hla ⊢
  generalize laS c n t s = A at hla lA IH1
  generalize laS c n t (s ||| 2 ^ k) = B at hla lB IH2
  rw [← hfv, ← lA, ← lB] at hla
  generalize itemsUp s k = xs at hx hla hnat hlen IH1 IH2
  have HLA := Lib.hid hla
  have HNAT := Lib.hid hnat
  obtain ⟨A0, cap, rfl, _⟩ := id hx
  obtain ⟨L, hL⟩ : ∃ L, L = xs.length := ⟨_, rfl⟩
  rw [← hL] at hx hlen ⊢
  have HL := Lib.hid hL
  have HX := Lib.hid hx
  have hne : ((k : Int) == (n : Int)) = false := by rw [beq_eq_false_iff_ne]; omega
  have hkn : k < n := by omega
  have hL12 : L ≤ 12 := by omega
  clear hla hnat hL hx hfv lA lB hA hB ih hs
  have hRR : LaR w n c (.slice A0 L cap) xs (w.alloc (.cells (relCs n c) 25)) :=
    ⟨(Below.refl _ _).alloc (Nat.le_refl _) _, Lies.new _ _ _, HX.out.below ((Below.refl _ _).alloc (Nat.le_refl _) _)⟩
  have hsz := hRR.rel.size
  have HRR := Lib.hid hRR
  clear hRR
  go_enter Tryd.func20, Tryd.ntmps20
  go_wp2_with fail
  have hR := HRR.out
  clear HRR hsz
  change Code.wp _ _ _ _ (w.alloc (.cells (relCs n c) 25))
  generalize w.alloc (.cells (relCs n c) 25) = W at hR ⊢
  go_loopw [7, 19] (fun q t wr => ∃ m : Nat, m ≤ L ∧ t = .int .i64 m ∧ q = .bool (fitV c k (xs.take m)) ∧ LaR w n c (.slice A0 L cap) xs wr) (fun _ t _ => L - (intOf t).toNat)
  case atStart => exact ⟨0, by omega, rfl, rfl, hR⟩
  case round =>
    clear hR
    obtain ⟨m, hm, rfl, rfl, hR⟩ := hrel
    by_cases hmL : m < L
    · obtain ⟨y, hy⟩ : ∃ y, xs[m]? = some y := ⟨_, List.getElem?_eq_getElem (by rw [← HL.out]; exact hmL)⟩
      obtain ⟨i, hik, rfl⟩ := HNAT.out y (List.mem_of_getElem? hy)
      have hst := fitV_take (c := c) (k := k) hy
      obtain ⟨A1, cap1, he, hc⟩ := id hR.arg
      injection he with e1 e2 e3
      subst e1
      subst e3
      obtain ⟨g, rfl, _, hcell⟩ := hc (by rw [← HL.out]; omega)
      have d1 := hcell m (by rw [← HL.out]; exact hmL)
      rw [List.getD_eq_getElem?_getD, hy] at d1
      simp only [Option.getD_some] at d1
      have k1 : (0 : Int) ≤ (m : Int) := by omega
      have k2 : (m : Int) < (L : Int) := by omega
      have HST := Lib.hid hst
      have HR := Lib.hid hR
      have hs := hR.rel.size
      obtain ⟨c1, c2, c3, c4, c5, c6, c7, c8, c9, c10, c11, c12⟩ := hR.rel.rows
      have HA1 := Lib.hid (fun W => ahead_any (n : Int) c i k W (by omega) (by omega))
      have HA2 := Lib.hid (fun W => ahead_any (n : Int) c k i W (by omega) (by omega))
      clear hst hy hR hc hcell e2
      cases hq : fitV c k (xs.take m)
      · have HQ := Lib.hid hq
        clear hq
        go_wp2_with fail
        go_roundw
        case rel => exact ⟨m + 1, by omega, by go_num, by rw [HST.out, HQ.out]; rfl, HR.out⟩
        case measure => simp [intOf]; omega
      · have HQ := Lib.hid hq
        clear hq
        go_wp2_with fail
        refine (HA1.out _).mono ?_
        rintro e w1 ⟨rfl, hb1⟩
        have HR1 := Lib.hid (HR.out.then_ hb1)
        clear hs c1 c2 c3 c4 c5 c6 c7 c8 c9 c10 c11 c12 hb1 d1
        have hs := HR1.out.rel.size
        obtain ⟨c1, c2, c3, c4, c5, c6, c7, c8, c9, c10, c11, c12⟩ := HR1.out.rel.rows
        cases hb1 : (c i).testBit k
        · have HB1 := Lib.hid hb1
          clear hb1
          go_wp2_with fail
          refine (HA2.out _).mono ?_
          rintro e w2 ⟨rfl, hb2⟩
          have HR2 := Lib.hid (HR1.out.then_ hb2)
          clear hs c1 c2 c3 c4 c5 c6 c7 c8 c9 c10 c11 c12 hb2
          cases hb2 : (c k).testBit i
          all_goals
            have HB2 := Lib.hid hb2
            clear hb2
            go_wp2_with fail
            go_roundw
            case rel => exact ⟨m + 1, by omega, by go_num, by rw [HST.out, HQ.out, HB1.out, HB2.out]; rfl, HR2.out⟩
            case measure => simp [intOf]; omega
        · have HB1 := Lib.hid hb1
          clear hb1
          go_wp2_with fail
          go_roundw
          case rel => exact ⟨m + 1, by omega, by go_num, by rw [HST.out, HQ.out, HB1.out]; rfl, HR1.out⟩
          case measure => simp [intOf]; omega
    · obtain rfl : m = L := by omega
      rw [show xs.take m = xs by rw [HL.out, List.take_length]]
      have hs := hR.rel.size
      obtain ⟨c1, c2, c3, c4, c5, c6, c7, c8, c9, c10, c11, c12⟩ := hR.rel.rows
      have HR := Lib.hid hR
      have HI1 := Lib.hid (IH1.out _ wr (hR.arg.mono hR.below.size))
      clear hR IH1
      go_wp2_with fail
      refine HI1.out.mono ?_
      rintro e ws ⟨v1, rfl, hr1, hb1⟩
      have HR1 := Lib.hid (HR.out.then_ hb1)
      have HV1 := Lib.hid hr1
      clear hs c1 c2 c3 c4 c5 c6 c7 c8 c9 c10 c11 c12 hb1 hr1 HR HI1
      cases hfit : fitV c k xs
      · have e := HLA.out
        rw [hfit, if_neg (by decide)] at e
        subst e
        clear hfit
        go_wp2_with fail
        go_ret
        exact ⟨_, rfl, HV1.out, HR1.out.below⟩
      · have e := HLA.out
        rw [hfit, if_pos rfl] at e
        have HE := Lib.hid e
        clear hfit e
        have hs := HR1.out.rel.size
        obtain ⟨c1, c2, c3, c4, c5, c6, c7, c8, c9, c10, c11, c12⟩ := HR1.out.rel.rows
        go_upto_region 12 with fail
        go_cut [11] from 47 to 56 (fun p wx => IRd wx wx.heap.size p (itemsUp B n) ∧ Below ws.heap.size ws wx)
        case first =>
          have hrd := HR1.out.arg
          have hrel := HR1.out.rel
          have hS : ∀ W, Below ws.heap.size ws W → W.cell? ⟨w.heap.size, 0, none⟩ = some (.int .i64 (n : Int)) ∧ W.cell? ⟨w.heap.size, 1, none⟩ = some (.int .u16 (c 0 : Nat)) ∧ W.cell? ⟨w.heap.size, 2, none⟩ = some (.int .u16 (c 1 : Nat)) ∧ W.cell? ⟨w.heap.size, 3, none⟩ = some (.int .u16 (c 2 : Nat)) ∧ W.cell? ⟨w.heap.size, 4, none⟩ = some (.int .u16 (c 3 : Nat)) ∧ W.cell? ⟨w.heap.size, 5, none⟩ = some (.int .u16 (c 4 : Nat)) ∧ W.cell? ⟨w.heap.size, 6, none⟩ = some (.int .u16 (c 5 : Nat)) ∧ W.cell? ⟨w.heap.size, 7, none⟩ = some (.int .u16 (c 6 : Nat)) ∧ W.cell? ⟨w.heap.size, 8, none⟩ = some (.int .u16 (c 7 : Nat)) ∧ W.cell? ⟨w.heap.size, 9, none⟩ = some (.int .u16 (c 8 : Nat)) ∧ W.cell? ⟨w.heap.size, 10, none⟩ = some (.int .u16 (c 9 : Nat)) ∧ W.cell? ⟨w.heap.size, 11, none⟩ = some (.int .u16 (c 10 : Nat)) ∧ W.cell? ⟨w.heap.size, 12, none⟩ = some (.int .u16 (c 11 : Nat)) := fun W hb => ⟨RelB.size (Lies.below hrel hb hrel.lt), RelB.rows (Lies.below hrel hb hrel.lt)⟩
          have hlw := HR1.out.below.size
          have HRD : Hid (∀ W, Below ws.heap.size ws W → IRd W w.heap.size (.slice A0 m cap) xs) := Lib.hid fun W hb => hrd.below (hb.mono hlw)
          have HSR := Lib.hid hS
          have HWR := Lib.hid (show IntKind.i64.wrap ((k : Int) + 1) = (k : Int) + 1 by rw [IntKind.wrap_i64]; omega)
          have HLN := Lib.hid (show ([] : List Int).length + xs.length ≤ 65536 by have := HL.out; simp; omega)
          have HLM := Lib.hid (show xs.length + [(k : Int)].length ≤ 65536 by have := HL.out; simp; omega)
          clear hrd hrel hS
          refine wp_region_held_drew (S := fun W => W.cell? ⟨w.heap.size, 0, none⟩ = some (.int .i64 (n : Int)) ∧ W.cell? ⟨w.heap.size, 1, none⟩ = some (.int .u16 (c 0 : Nat)) ∧ W.cell? ⟨w.heap.size, 2, none⟩ = some (.int .u16 (c 1 : Nat)) ∧ W.cell? ⟨w.heap.size, 3, none⟩ = some (.int .u16 (c 2 : Nat)) ∧ W.cell? ⟨w.heap.size, 4, none⟩ = some (.int .u16 (c 3 : Nat)) ∧ W.cell? ⟨w.heap.size, 5, none⟩ = some (.int .u16 (c 4 : Nat)) ∧ W.cell? ⟨w.heap.size, 6, none⟩ = some (.int .u16 (c 5 : Nat)) ∧ W.cell? ⟨w.heap.size, 7, none⟩ = some (.int .u16 (c 6 : Nat)) ∧ W.cell? ⟨w.heap.size, 8, none⟩ = some (.int .u16 (c 7 : Nat)) ∧ W.cell? ⟨w.heap.size, 9, none⟩ = some (.int .u16 (c 8 : Nat)) ∧ W.cell? ⟨w.heap.size, 10, none⟩ = some (.int .u16 (c 9 : Nat)) ∧ W.cell? ⟨w.heap.size, 11, none⟩ = some (.int .u16 (c 10 : Nat)) ∧ W.cell? ⟨w.heap.size, 12, none⟩ = some (.int .u16 (c 11 : Nat))) (by kernel_rfl) (HSR.out _ (Below.refl _ _).drew) (fun hHeld => ?_)
          change wpAnyH _ _ _ _ _ 11 _ _ _
          have HD : Hid (Below ws.heap.size ws ws.drew) := Lib.hid (Below.refl _ _).drew
          clear hHeld hs c1 c2 c3 c4 c5 c6 c7 c8 c9 c10 c11 c12 hlw
          generalize ws.drew = WD at HD ⊢
          refine takeAt 0 47 (oi := _) (v := ?_) rfl rfl (by kernel_rfl) (by kernel_rfl) (by kernel_rfl) (fun _ _ _ h => h) (by rfl) ?_ (HSR.out _ HD.out) ?_
          rotate_left
          · (intro w hSw; obtain ⟨c0, c1, c2, c3, c4, c5, c6, c7, c8, c9, c10, c11, c12⟩ := hSw; go_simp; try with_reducible rfl)
          simp only [Act.put, List.setIfInBounds_toArray, List.set_cons_zero, List.set_cons_succ]
          refine takeAt 2 49 (oi := _) (v := ?_) rfl rfl (by kernel_rfl) (by kernel_rfl) (by kernel_rfl) (fun _ _ _ h => h) (by rfl) ?_ (HSR.out _ HD.out) ?_
          rotate_left
          · (intro w hSw; obtain ⟨c0, c1, c2, c3, c4, c5, c6, c7, c8, c9, c10, c11, c12⟩ := hSw; go_simp; try with_reducible rfl)
          simp only [Act.put, List.setIfInBounds_toArray, List.set_cons_zero, List.set_cons_succ]
          refine takeAt 4 51 (oi := _) (v := ?_) rfl rfl (by kernel_rfl) (by kernel_rfl) (by kernel_rfl) (fun _ _ _ h => h) (by rfl) ?_ (HSR.out _ HD.out) ?_
          rotate_left
          · (intro w hSw; obtain ⟨c0, c1, c2, c3, c4, c5, c6, c7, c8, c9, c10, c11, c12⟩ := hSw; go_simp; try with_reducible rfl)
          simp only [Act.put, List.setIfInBounds_toArray, List.set_cons_zero, List.set_cons_succ]
          refine takeAt 7 54 (oi := _) (v := ?_) rfl rfl (by kernel_rfl) (by kernel_rfl) (by kernel_rfl) (fun _ _ _ h => h) (by rfl) ?_ (HSR.out _ HD.out) ?_
          rotate_left
          · (intro w hSw; obtain ⟨c0, c1, c2, c3, c4, c5, c6, c7, c8, c9, c10, c11, c12⟩ := hSw; go_simp; try with_reducible rfl)
          simp only [Act.put, List.setIfInBounds_toArray, List.set_cons_zero, List.set_cons_succ]
          refine takeAt 8 55 (oi := _) (v := ?_) rfl rfl (by kernel_rfl) (by kernel_rfl) (by kernel_rfl) (fun _ _ _ h => h) (by rfl) ?_ (HSR.out _ HD.out) ?_
          rotate_left
          · (intro w hSw; obtain ⟨c0, c1, c2, c3, c4, c5, c6, c7, c8, c9, c10, c11, c12⟩ := hSw; go_simp; try with_reducible rfl)
          simp only [Act.put, List.setIfInBounds_toArray, List.set_cons_zero, List.set_cons_succ]
          refine wpAnyH_ready (rs := [1, 5]) (by kernel_rfl) (by simp) ?_
          refine AllReadyH.cons (o := _) rfl (fun K hK => ?_) (AllReadyH.cons (o := _) rfl (fun K hK => ?_) AllReadyH.nil)
          · go_simp
            have HBa := Lib.hid (HD.out.alloc HD.out.size (.cells #[] 3))
            have HOE := Lib.hid (IOwn.empty (base := ws.heap.size) (Lies.new WD 3 #[]) HD.out.size)
            refine hK.out _ _ (HSR.out _ HBa.out) (fun _ => ?_)
            clear hK K
            refine wpAnyH_ready (rs := [3, 5]) (by kernel_rfl) (by simp) ?_
            refine AllReadyH.cons (o := _) rfl (fun K hK => ?_) (AllReadyH.cons (o := _) rfl (fun K hK => ?_) AllReadyH.nil)
            · refine step_app_rd (by rfl) (.tmp 48) (.tmp 49) (by rfl) ws.heap.size w.heap.size _ _ [] xs (by rfl) (by rfl) HOE.out (HRD.out _ HBa.out) HLN.out HBa.out.size ?_
              intro v1 w1 ho1 hb1 hg1
              have HBb := Lib.hid (HBa.out.trans hb1)
              have HOb := Lib.hid ho1
              clear hb1 hg1 ho1
              refine hK.out _ _ (HSR.out _ HBb.out) (fun _ => ?_)
              clear hK K
              refine wpAnyH_ready (rs := [5]) (by kernel_rfl) (by simp) ?_
              refine AllReadyH.cons (o := _) rfl (fun K hK => ?_) AllReadyH.nil
              go_simp
              have HB3 := Lib.hid (HBb.out.alloc HBb.out.size (.cells #[.int .i64 (k : Int)] 3))
              have HO1 := Lib.hid (IOwn.alloc HOb.out (.cells #[.int .i64 (k : Int)] 3))
              have HLIT := Lib.hid (Lies.new w1 3 #[.int .i64 (k : Int)])
              refine hK.out _ _ (HSR.out _ HB3.out) (fun _ => ?_)
              clear hK K
              refine wpAnyH_ready (rs := [6]) (by kernel_rfl) (by simp) ?_
              refine AllReadyH.cons (o := _) rfl (fun K hK => ?_) AllReadyH.nil
              refine step_app_rd (by rfl) (.tmp 50) (.tmp 52) (by rfl) ws.heap.size _ _ _ xs [(k : Int)] (by rfl) (by rfl) HO1.out (IRd.one HLIT.out) HLM.out HB3.out.size ?_
              intro v2 w2 ho2 hb2 hg2
              have HB4 := Lib.hid (HB3.out.trans hb2)
              clear hb2 hg2
              refine hK.out _ _ (HSR.out _ HB4.out) (fun _ => ?_)
              clear hK K
              refine wpAnyH_ready (rs := [9]) (by kernel_rfl) (by simp) ?_
              refine AllReadyH.cons (o := _) rfl (fun K hK => ?_) AllReadyH.nil
              go_simp
              try rw [HWR.out]
              refine (IH2.out _ w2 (IOwn.rd ho2)).mono ?_
              rintro e w3 ⟨v3, rfl, hr3, hb3⟩
              have HB5 := Lib.hid (HB4.out.trans (hb3.mono HB4.out.size))
              have HR3 := Lib.hid hr3
              clear hr3 hb3
              refine hK.out _ _ (HSR.out _ HB5.out) (fun _ => ?_)
              clear hK K
              refine takeAt 10 11 (oi := _) (v := ?_) rfl rfl (by kernel_rfl) (by kernel_rfl) (by kernel_rfl) (fun _ _ _ h => h) (by rfl) ?_ (HSR.out _ HB5.out) ?_
              rotate_left
              · (intro w hSw; obtain ⟨c0, c1, c2, c3, c4, c5, c6, c7, c8, c9, c10, c11, c12⟩ := hSw; go_simp; try with_reducible rfl)
              simp only [Act.put, List.setIfInBounds_toArray, List.set_cons_zero, List.set_cons_succ]
              refine wpAnyH_done (by kernel_rfl) ?_ _
              go_wp2_with fail
              go_meet
              exact ⟨HR3.out, HB5.out⟩
            · go_simp
              have HBc := Lib.hid (HBa.out.alloc HBa.out.size (.cells #[.int .i64 (k : Int)] 3))
              have HOc := Lib.hid (IOwn.alloc HOE.out (.cells #[.int .i64 (k : Int)] 3))
              have HLc : Hid (Lies ((WD.alloc (.cells #[] 3)).alloc (.cells #[.int .i64 (k : Int)] 3)) (WD.heap.size + 1) 3 #[.int .i64 (k : Int)]) := Lib.hid (by have h := Lies.new (WD.alloc (.cells #[] 3)) 3 #[.int .i64 (k : Int)]; rwa [World.size_alloc] at h)
              refine hK.out _ _ (HSR.out _ HBc.out) (fun _ => ?_)
              clear hK K
              refine wpAnyH_ready (rs := [3]) (by kernel_rfl) (by simp) ?_
              refine AllReadyH.cons (o := _) rfl (fun K hK => ?_) AllReadyH.nil
              refine step_app_rd (by rfl) (.tmp 48) (.tmp 49) (by rfl) ws.heap.size w.heap.size _ _ [] xs (by rfl) (by rfl) HOc.out (HRD.out _ HBc.out) HLN.out HBc.out.size ?_
              intro v1 w1 ho1 hb1 hg1
              have HB3 := Lib.hid (HBc.out.trans hb1)
              have HO1 := Lib.hid ho1
              have HLIT := Lib.hid (Lies.grown HLc.out hg1 (by simp [Value.ownBlock]))
              clear hb1 hg1 ho1
              refine hK.out _ _ (HSR.out _ HB3.out) (fun _ => ?_)
              clear hK K
              refine wpAnyH_ready (rs := [6]) (by kernel_rfl) (by simp) ?_
              refine AllReadyH.cons (o := _) rfl (fun K hK => ?_) AllReadyH.nil
              refine step_app_rd (by rfl) (.tmp 50) (.tmp 52) (by rfl) ws.heap.size _ _ _ xs [(k : Int)] (by rfl) (by rfl) HO1.out (IRd.one HLIT.out) HLM.out HB3.out.size ?_
              intro v2 w2 ho2 hb2 hg2
              have HB4 := Lib.hid (HB3.out.trans hb2)
              clear hb2 hg2
              refine hK.out _ _ (HSR.out _ HB4.out) (fun _ => ?_)
              clear hK K
              refine wpAnyH_ready (rs := [9]) (by kernel_rfl) (by simp) ?_
              refine AllReadyH.cons (o := _) rfl (fun K hK => ?_) AllReadyH.nil
              go_simp
              try rw [HWR.out]
              refine (IH2.out _ w2 (IOwn.rd ho2)).mono ?_
              rintro e w3 ⟨v3, rfl, hr3, hb3⟩
              have HB5 := Lib.hid (HB4.out.trans (hb3.mono HB4.out.size))
              have HR3 := Lib.hid hr3
              clear hr3 hb3
              refine hK.out _ _ (HSR.out _ HB5.out) (fun _ => ?_)
              clear hK K
              refine takeAt 10 11 (oi := _) (v := ?_) rfl rfl (by kernel_rfl) (by kernel_rfl) (by kernel_rfl) (fun _ _ _ h => h) (by rfl) ?_ (HSR.out _ HB5.out) ?_
              rotate_left
              · (intro w hSw; obtain ⟨c0, c1, c2, c3, c4, c5, c6, c7, c8, c9, c10, c11, c12⟩ := hSw; go_simp; try with_reducible rfl)
              simp only [Act.put, List.setIfInBounds_toArray, List.set_cons_zero, List.set_cons_succ]
              refine wpAnyH_done (by kernel_rfl) ?_ _
              go_wp2_with fail
              go_meet
              exact ⟨HR3.out, HB5.out⟩
          · go_simp
            have HBa := Lib.hid (HD.out.alloc HD.out.size (.cells #[.int .i64 (k : Int)] 3))
            have HLa := Lib.hid (Lies.new WD 3 #[.int .i64 (k : Int)])
            refine hK.out _ _ (HSR.out _ HBa.out) (fun _ => ?_)
            clear hK K
            refine wpAnyH_ready (rs := [1]) (by kernel_rfl) (by simp) ?_
            refine AllReadyH.cons (o := _) rfl (fun K hK => ?_) AllReadyH.nil
            go_simp
            have HBc := Lib.hid (HBa.out.alloc HBa.out.size (.cells #[] 3))
            have HOc : Hid (IOwn ((WD.alloc (.cells #[.int .i64 (k : Int)] 3)).alloc (.cells #[] 3)) ws.heap.size (.slice (some ⟨WD.heap.size + 1, 0, none⟩) 0 0) []) := Lib.hid (by have h := IOwn.empty (base := ws.heap.size) (Lies.new (WD.alloc (.cells #[.int .i64 (k : Int)] 3)) 3 #[]) HBa.out.size; rwa [World.size_alloc] at h)
            have HLc := Lib.hid (Lies.alloc HLa.out (.cells #[] 3))
            refine hK.out _ _ (HSR.out _ HBc.out) (fun _ => ?_)
            clear hK K
            refine wpAnyH_ready (rs := [3]) (by kernel_rfl) (by simp) ?_
            refine AllReadyH.cons (o := _) rfl (fun K hK => ?_) AllReadyH.nil
            refine step_app_rd (by rfl) (.tmp 48) (.tmp 49) (by rfl) ws.heap.size w.heap.size _ _ [] xs (by rfl) (by rfl) HOc.out (HRD.out _ HBc.out) HLN.out HBc.out.size ?_
            intro v1 w1 ho1 hb1 hg1
            have HB3 := Lib.hid (HBc.out.trans hb1)
            have HO1 := Lib.hid ho1
            have HLIT := Lib.hid (Lies.grown HLc.out hg1 (by simp [Value.ownBlock]))
            clear hb1 hg1 ho1
            refine hK.out _ _ (HSR.out _ HB3.out) (fun _ => ?_)
            clear hK K
            refine wpAnyH_ready (rs := [6]) (by kernel_rfl) (by simp) ?_
            refine AllReadyH.cons (o := _) rfl (fun K hK => ?_) AllReadyH.nil
            refine step_app_rd (by rfl) (.tmp 50) (.tmp 52) (by rfl) ws.heap.size _ _ _ xs [(k : Int)] (by rfl) (by rfl) HO1.out (IRd.one HLIT.out) HLM.out HB3.out.size ?_
            intro v2 w2 ho2 hb2 hg2
            have HB4 := Lib.hid (HB3.out.trans hb2)
            clear hb2 hg2
            refine hK.out _ _ (HSR.out _ HB4.out) (fun _ => ?_)
            clear hK K
            refine wpAnyH_ready (rs := [9]) (by kernel_rfl) (by simp) ?_
            refine AllReadyH.cons (o := _) rfl (fun K hK => ?_) AllReadyH.nil
            go_simp
            try rw [HWR.out]
            refine (IH2.out _ w2 (IOwn.rd ho2)).mono ?_
            rintro e w3 ⟨v3, rfl, hr3, hb3⟩
            have HB5 := Lib.hid (HB4.out.trans (hb3.mono HB4.out.size))
            have HR3 := Lib.hid hr3
            clear hr3 hb3
            refine hK.out _ _ (HSR.out _ HB5.out) (fun _ => ?_)
            clear hK K
            refine takeAt 10 11 (oi := _) (v := ?_) rfl rfl (by kernel_rfl) (by kernel_rfl) (by kernel_rfl) (fun _ _ _ h => h) (by rfl) ?_ (HSR.out _ HB5.out) ?_
            rotate_left
            · (intro w hSw; obtain ⟨c0, c1, c2, c3, c4, c5, c6, c7, c8, c9, c10, c11, c12⟩ := hSw; go_simp; try with_reducible rfl)
            simp only [Act.put, List.setIfInBounds_toArray, List.set_cons_zero, List.set_cons_succ]
            refine wpAnyH_done (by kernel_rfl) ?_ _
            go_wp2_with fail
            go_meet
            exact ⟨HR3.out, HB5.out⟩
        case rest =>
          obtain ⟨hr2, hb2⟩ := hcut
          have hv1 := (HV1.out.below hb2).mono hb2.size
          have h9 := HR1.out.below.trans (hb2.mono HR1.out.below.size)
          obtain ⟨A2, p2, rfl, _⟩ := id hr2
          obtain ⟨A1, p1, rfl, _⟩ := id hv1
          have HV := Lib.hid (And.intro hv1 (And.intro hr2 h9))
          clear hs c1 c2 c3 c4 c5 c6 c7 c8 c9 c10 c11 c12 hv1 hr2 h9 hb2 HV1 HR1
          by_cases hlt : (itemsUp B n).length < (itemsUp A n).length
          · have hlt' : ((itemsUp B n).length : Int) < ((itemsUp A n).length : Int) := by omega
            have e := HE.out
            rw [if_pos hlt] at e
            subst e
            clear hlt
            go_wp2_with fail
            go_ret
            exact ⟨_, rfl, HV.out.1, HV.out.2.2⟩
          · have hlt' : ¬ ((itemsUp B n).length : Int) < ((itemsUp A n).length : Int) := by omega
            have e := HE.out
            rw [if_neg hlt] at e
            subst e
            clear hlt
            go_wp2_with fail
            go_ret
            exact ⟨_, rfl, HV.out.2.1, HV.out.2.2⟩
theorem lapart_any (n : Nat) (c : Nat → Nat) (hn : n ≤ 12) : ∀ (t k s : Nat) (v : Value) (w : World), k + t = n → s < 2 ^ k → IRd w w.heap.size v (itemsUp s k) →
    Calls Tryd.prog 20 #[relV n c, v, .int .i64 k] w fun e w' => ∃ v', e = .returned v' ∧ IRd w' w'.heap.size v' (itemsUp (laS c n t s) n) ∧ Below w.heap.size w w'
  | 0, k, s, v, w, hk, hs, hx => by
    obtain rfl : k = n := by omega
    have heq : ((k : Int) == (k : Int)) = true := by simp
    have hR : RelB (w.alloc (.cells (relCs k c) 25)) w.heap.size k c := Lies.new _ _ _
    have hsz := hR.size
    have hb0 : Below w.heap.size w (w.alloc (.cells (relCs k c) 25)) := (Below.refl _ _).alloc (Nat.le_refl _) _
    have HX := Lib.hid (And.intro ((hx.below hb0).mono hb0.size) hb0)
    clear hx hR hb0
    go_enter Tryd.func20, Tryd.ntmps20
    go_wp2_with fail
    go_ret
    exact ⟨_, rfl, HX.out.1, HX.out.2⟩
  | t + 1, k, s, v, w, hk, hs, hx =>
    lapart_step n c hn t k s hk hs (fun s' u W h1 h2 => by
      have := lapart_any n c hn t (k + 1) s' u W (by omega) h1 h2
      simpa using this) v w hx
end Go.Proofs.YtkfijolimoehmaaDoor
