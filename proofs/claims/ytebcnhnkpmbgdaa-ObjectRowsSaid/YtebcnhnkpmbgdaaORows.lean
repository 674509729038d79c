/-
  The walk of ObjectRows.
-/
import Derived.Test.YtebcnhnkpmbgdaaRowsDd
import Derived.Test.YtebcnhnkpmbgdaaTwoDd
import Derived.Test.YtebcnhnkpmbgdaaOLives
import Derived.Test.YtebcnhnkpmbgdaaObjValid
import Derived.Test.YtebcnhnkpmbgdaaRegionLast
namespace Go.Proofs.Ytebcnhnkpmbgdaa
open Go.RowKit
set_option maxRecDepth 20000

theorem badB (x : Int) : (!btw 1 x 1000) = (decide (x < 1) || decide (1000 < x)) := by
  cases h : btw 1 x 1000
  · have := btw_not.1 h
    by_cases h1 : x < 1
    · simp [h1]
    · have : 1000 < x := by omega
      simp [this]
  · have := btw_iff.1 h
    have h1 : ¬ x < 1 := by omega
    have h2 : ¬ 1000 < x := by omega
    simp [h1, h2]
theorem clos_any (x : Int) (w : World) : Calls Try.prog 30 #[.int .i64 x] w fun e w' => e = .returned (.bool (!btw 1 x 1000)) ∧ w = w' := by
  rw [badB]
  by_cases h1 : x < 1
  · have e : (decide (x < 1) || decide (1000 < x)) = true := by simp [h1]
    rw [e]
    clear e
    go_enter Try.func30, Try.ntmps30
    go_wp2
    go_ret
    exact ⟨rfl, rfl⟩
  · by_cases h2 : 1000 < x
    · have e : (decide (x < 1) || decide (1000 < x)) = true := by simp [h2]
      rw [e]
      clear e
      go_enter Try.func30, Try.ntmps30
      go_wp2
      go_ret
      exact ⟨rfl, rfl⟩
    · have e : (decide (x < 1) || decide (1000 < x)) = false := by simp [h1, h2]
      rw [e]
      clear e
      go_enter Try.func30, Try.ntmps30
      go_wp2
      go_ret
      exact ⟨rfl, rfl⟩

set_option maxHeartbeats 1000000 in
theorem idxF_any {v : Value} {xs : List Int} {w : World} (h : NRd w w.heap.size v xs) (hn : xs.length ≤ 1000000) :
    Calls Try.prog 44 #[v, .func (.func 30) #[] #[]] w fun e w' => ∃ r : Int, e = .returned (.int .i64 r) ∧ decide (0 ≤ r) = !rowB xs ∧ w = w' := by
  obtain ⟨A, cap, rfl, m1, m2⟩ := h.is
  unfold maxLen at m2
  obtain ⟨L, hL⟩ : ∃ L, L = xs.length := ⟨_, rfl⟩
  have HC := Lib.hid h
  have HLL := Lib.hid hL
  rw [← hL] at m1 hn ⊢
  clear h hL
  generalize hb : (!rowB xs) = b
  have HB := Lib.hid hb
  clear hb
  go_enter Try.func44, Try.ntmps44
  go_wp2_with fail
  go_loopw [8] (fun i wr => ∃ k : Nat, k ≤ L ∧ i = .int .i64 k ∧ (∀ (j : Nat) (y : Int), j < k → xs[j]? = some y → btw 1 y 1000 = true) ∧ w = wr) (fun i _ => L - (intOf i).toNat)
  case atStart => exact ⟨0, by omega, rfl, fun j y hj => by omega, rfl⟩
  case round =>
    obtain ⟨k, hk, rfl, ha, rfl⟩ := hrel
    have HA := Lib.hid ha
    clear ha
    by_cases hkn : k < L
    · obtain ⟨y, hy⟩ : ∃ y, xs[k]? = some y := ⟨_, List.getElem?_eq_getElem (by rw [← HLL.out]; exact hkn)⟩
      have hr := HC.out
      rw [← HLL.out] at hr
      obtain ⟨g, o, rfl, hg, d0⟩ := hr.num hy
      have i1 : (0 : Int) ≤ (k : Int) := by omega
      have i2 : (k : Int) < (L : Int) := by omega
      have HY := Lib.hid hy
      clear hy hr
      cases hb : btw 1 y 1000
      all_goals
        have hc := fun W : World => clos_any y W
        rw [hb] at hc
        have HX := Lib.hid hb
        have HK := Lib.hid hc
        clear hb hc
      · go_wp2_with fail
        refine (HK.out _).mono ?_
        rintro e w' ⟨rfl, rfl⟩
        go_wp2_with fail
        go_ret
        refine ⟨k, rfl, ?_, rfl⟩
        rw [← HB.out, rowB_no HY.out HX.out, decide_eq_true i1]
        rfl
      · go_wp2_with fail
        refine (HK.out _).mono ?_
        rintro e w' ⟨rfl, rfl⟩
        go_wp2_with fail
        go_roundw
        case rel => exact ⟨k + 1, by omega, by go_num, fun j z hj hz => by
          rcases Nat.lt_or_ge j k with h | h
          · exact HA.out j z h hz
          · obtain rfl : j = k := by omega
            rw [HY.out] at hz
            injection hz with hz
            subst hz
            exact HX.out, by trivial⟩
        case measure => simp [intOf]; omega
    · obtain rfl : k = L := by omega
      go_wp2_with fail
      go_ret
      refine ⟨-1, rfl, ?_, rfl⟩
      rw [← HB.out, rowB_yes fun j x hx => HA.out j x (by rw [HLL.out]; exact (List.getElem?_eq_some_iff.1 hx).1) hx]
      rfl
theorem contF_any {v : Value} {xs : List Int} {w : World} (h : NRd w w.heap.size v xs) (hn : xs.length ≤ 1000000) :
    Calls Try.prog 29 #[v, .func (.func 30) #[] #[]] w fun e w' => e = .returned (.bool (!rowB xs)) ∧ w = w' := by
  have hi := idxF_any h hn
  have HI := Lib.hid hi
  obtain ⟨A, cap, rfl, m1, m2⟩ := h.is
  generalize (!rowB xs) = b at HI
  clear h hi
  go_enter Try.func29, Try.ntmps29
  go_wp2_with fail
  refine HI.out.mono ?_
  rintro e w1 ⟨r, rfl, hr, rfl⟩
  have HR := Lib.hid hr
  clear hr
  by_cases h0 : (0 : Int) ≤ r
  · go_wp2_with fail
    go_ret
    exact ⟨ret_bool (by rw [← HR.out] <;> simp [h0]), rfl⟩
  · go_wp2_with fail
    go_ret
    exact ⟨ret_bool (by rw [← HR.out] <;> simp [h0]), rfl⟩

theorem nOn {w w' : World} {v : Value} {l : List Int} (h : NRd w w.heap.size v l) (hb : Below w.heap.size w w') : NRd w' w'.heap.size v l := (LRd.below h hb).mono hb.size
theorem blOn {w W W' : World} (h : Below w.heap.size w W) (hb : Below W.heap.size W W') : Below w.heap.size w W' := h.trans (hb.mono h.size)
theorem map_take_snoc {l : List Int} {k : Nat} {x : Int} (hx : l[k]? = some x) (f : Int → Dd) : (l.take (k + 1)).map f = (l.take k).map f ++ [f x] := by
  rw [List.take_add_one, hx]
  simp

/-- The cell of a number, in a world. -/
def CellIs (g i : Nat) (y : Int) (W : World) : Prop := W.cell? ⟨g, i, none⟩ = some (.int .i64 y)

set_option maxHeartbeats 8000000 in
theorem orows_any {v : Value} {l : List Int} {w : World} (hr : NRd w w.heap.size v l) :
    Calls Try.prog 8 #[v] w fun e w' => e = .returned (.bool true) ∧ Below w.heap.size w w' := by
  obtain ⟨A, cap, rfl, m1, m2⟩ := hr.is
  unfold maxLen at m2
  by_cases hn : 50 < l.length
  · have hn' : (50 : Int) < (l.length : Int) := by omega
    clear hr hn
    go_enter Try.func8, Try.ntmps8
    go_wp2_with fail
    refine (olives_any _).mono ?_
    rintro e w1 ⟨rfl, hb1⟩
    have H1 := Lib.hid hb1
    clear hb1
    go_wp2_with fail
    refine (olives_any _).mono ?_
    rintro e w9 ⟨rfl, hb9⟩
    have H2 := Lib.hid (blOn H1.out hb9)
    clear hb9
    go_wp2_with fail
    go_ret
    exact ⟨rfl, H2.out⟩
  · have hn' : ¬ (50 : Int) < (l.length : Int) := by omega
    have hc := fun (W : World) (h : Below w.heap.size w W) => contF_any (nOn hr h) (by omega)
    cases hb : rowB l
    · rw [hb] at hc
      have HC := Lib.hid hc
      clear hr hc hb hn
      go_enter Try.func8, Try.ntmps8
      go_wp2_with fail
      refine (olives_any _).mono ?_
      rintro e w1 ⟨rfl, hb1⟩
      have H1 := Lib.hid hb1
      clear hb1
      go_wp2_with fail
      refine (HC.out _ H1.out).mono ?_
      rintro e w2 ⟨rfl, rfl⟩
      go_wp2_with fail
      refine (olives_any _).mono ?_
      rintro e w9 ⟨rfl, hb9⟩
      have H2 := Lib.hid (blOn H1.out hb9)
      clear hb9
      go_wp2_with fail
      go_ret
      exact ⟨rfl, H2.out⟩
    · have hok : OkRow l := ⟨fun x hx => btw_iff.1 (List.all_eq_true.1 hb x hx), by omega⟩
      rw [hb] at hc
      have HC := Lib.hid hc
      have HOK := Lib.hid hok
      have HR := Lib.hid hr
      obtain ⟨L, hL⟩ : ∃ L, L = l.length := ⟨_, rfl⟩
      have HLL := Lib.hid hL
      rw [← hL] at m1 hn'
      have HN := Lib.hid (show L ≤ 50 by omega)
      clear hr hc hb hok hn
      go_enter Try.func8, Try.ntmps8
      go_wp2_with fail
      refine (olives_any _).mono ?_
      rintro e w1 ⟨rfl, hb1⟩
      have H1 := Lib.hid hb1
      clear hb1
      go_wp2_with fail
      refine (HC.out _ H1.out).mono ?_
      rintro e w2 ⟨rfl, rfl⟩
      go_wp2_with fail
      rw [← hL]
      clear hL
      go_loopw [3, 4, 27] (fun vq vs i wr => ∃ k : Nat, k ≤ L ∧ i = .int .i64 k ∧ TwoD wr w.heap.size vq vs ((l.take k).map enq) ((l.take k).map push) ∧ Below w.heap.size w wr) (fun _ _ i _ => L - (intOf i).toNat)
      case atStart => exact ⟨0, by omega, rfl, TwoD.nil _ _, H1.out⟩
      case round =>
        obtain ⟨k, hk, rfl, hT, hB⟩ := hrel
        by_cases hkL : k < L
        · obtain ⟨x, hx⟩ : ∃ x, l[k]? = some x := ⟨_, List.getElem?_eq_getElem (by rw [← HLL.out]; exact hkL)⟩
          have hr' := HR.out.below hB
          rw [← HLL.out] at hr'
          obtain ⟨gl, o, rfl, hgl, d0⟩ := hr'.num hx
          obtain ⟨v1, z1, R1, T1, hb1, -⟩ := two_appV (d := enq x) 54 (hT.alloc (.cells #[.int .i64 3, .int .i64 x, .int .i64 0] 61)) (Lies.new wr 61 _) (by have := hB.size; simp; omega) (by simp; have := HN.out; omega)
          obtain ⟨v2, z2, R2, T2, hb2, -⟩ := two_appV (d := push x) 54 (T1.swap.alloc (.cells #[.int .i64 5, .int .i64 x, .int .i64 0] 61)) (Lies.new z1 61 _) (by have := hB.size; have := hb1.size; simp at *; omega) (by simp; have := HN.out; omega)
          have HR1 := Lib.hid R1
          have HR2 := Lib.hid R2
          rw [← map_take_snoc hx push, ← map_take_snoc hx enq] at T2
          have HT := Lib.hid (And.intro T2.swap (((hB.alloc hB.size _).trans hb1).trans (((Below.refl w.heap.size z1).alloc (by have := hB.size; have := hb1.size; simp at *; omega) _).trans hb2)))
          have i1 : (0 : Int) ≤ (k : Int) := by omega
          have i2 : (k : Int) < (L : Int) := by omega
          clear hr' hx hT hB R1 R2 T1 T2 hb1 hb2
          go_wp2_with (first | (at_builtin; refine Lib.wpList_append_run _ rfl (.tmp 31) (.tmp 34) _ _ rfl _ _ rfl rfl _ _ HR1.out ?_) | (at_builtin; refine Lib.wpList_append_run _ rfl (.tmp 36) (.tmp 39) _ _ rfl _ _ rfl rfl _ _ HR2.out ?_))
          go_roundw
          case rel => exact ⟨k + 1, by omega, by go_num, HT.out.1, HT.out.2⟩
          case measure => simp [intOf]; omega
        · obtain rfl : L = k := by omega
          have hT' := hT
          rw [HLL.out, List.take_length] at hT'
          have HT := Lib.hid (And.intro hT' hB)
          clear hT hT' hB hk hkL
          go_wp2_with fail
          go_loopw [3, 4, 44] (fun vq vs i wr => ∃ k : Nat, k ≤ L ∧ i = .int .i64 k ∧ TwoD wr w.heap.size vq vs (l.map enq ++ (l.take k).map deq) (l.map push ++ (l.reverse.take k).map pop) ∧ Below w.heap.size w wr) (fun _ _ i _ => L - (intOf i).toNat)
          case atStart => exact ⟨0, by omega, rfl, by have := HT.out.1; simpa using this, HT.out.2⟩
          case round =>
            clear HT
            obtain ⟨k, hk, rfl, hT, hB⟩ := hrel
            by_cases hkL : k < L
            · obtain ⟨x, hx⟩ : ∃ x, l[k]? = some x := ⟨_, List.getElem?_eq_getElem (by rw [← HLL.out]; exact hkL)⟩
              obtain ⟨y, hy⟩ : ∃ y, l[L - 1 - k]? = some y := ⟨_, List.getElem?_eq_getElem (by rw [← HLL.out]; omega)⟩
              have hyr : l.reverse[k]? = some y := by
                rw [List.getElem?_reverse (by rw [← HLL.out]; exact hkL), ← HLL.out]
                exact hy
              have hr0 := HR.out
              rw [← HLL.out] at hr0
              obtain ⟨gl, o, rfl, hgl, e0⟩ := hr0.num hx
              obtain ⟨gl', o', hA', -, e1⟩ := hr0.num hy
              injection hA' with hA'
              injection hA' with e2 e3
              subst e2 e3
              have d0 : _ = _ := (hB.cell (p := ⟨gl, o + k, none⟩) hgl).trans e0
              have HS := Lib.hid (fun (W : World) (hb : Below w.heap.size w W) => (show CellIs gl (o + (L - 1 - k)) y W from (hb.cell (p := ⟨gl, o + (L - 1 - k), none⟩) hgl).trans e1))
              have HX := Lib.hid (And.intro hx hyr)
              have HD0 := Lib.hid (And.intro hT hB)
              have i1 : (0 : Int) ≤ (k : Int) := by omega
              have i2 : (k : Int) < (L : Int) := by omega
              have i3 : (0 : Int) ≤ (L : Int) - 1 - (k : Int) := by omega
              have i4 : (L : Int) - 1 - (k : Int) < (L : Int) := by omega
              have i5 : (k : Int) ≤ (L : Int) - 1 := by omega
              have h50 := HN.out
              have hLL := HLL.out
              have s1 : IntKind.i64.wrap ((L : Int) - 1) = (L : Int) - 1 := IntWalk.i64_in _ (by omega)
              have s2 : IntKind.i64.wrap ((L : Int) - 1 - (k : Int)) = (L : Int) - 1 - (k : Int) := IntWalk.i64_in _ (by omega)
              have s3 : ((L : Int) - 1 - (k : Int)).toNat = L - 1 - k := by omega
              clear hr0 hx hy hyr hT hB e0 e1 h50 hLL
              go_wp2_with fail
              have HD1 := Lib.hid (And.intro (HD0.out.1.below (Below.refl _ _).drew) HD0.out.2.drew)
              refine wp_region_held_drew (S := CellIs gl (o + (L - 1 - k)) y) (by kernel_rfl) (HS.out _ HD1.out.2) (fun hHeld => ?_)
              change wpAnyH _ _ _ _ _ 19 _ _ _
              clear hHeld HD0 d0
              generalize wr.drew = WD at HD1 ⊢
              have HD := HD1
              clear HD1
              refine takeAt 0 49 (oi := _) (v := ?_) rfl rfl (by kernel_rfl) (by kernel_rfl) (by kernel_rfl) (fun _ _ _ h => h) (by rfl) ?_ (HS.out _ HD.out.2) ?_
              rotate_left
              · (intro w hSw; have s0 := hSw; simp only [CellIs] at s0; go_simp; try with_reducible rfl)
              simp only [Act.put, List.setIfInBounds_toArray, List.set_cons_zero, List.set_cons_succ]
              refine takeAt 1 50 (oi := _) (v := ?_) rfl rfl (by kernel_rfl) (by kernel_rfl) (by kernel_rfl) (fun _ _ _ h => h) (by rfl) ?_ (HS.out _ HD.out.2) ?_
              rotate_left
              · (intro w hSw; have s0 := hSw; simp only [CellIs] at s0; go_simp; try with_reducible rfl)
              simp only [Act.put, List.setIfInBounds_toArray, List.set_cons_zero, List.set_cons_succ]
              refine takeAt 2 51 (oi := _) (v := ?_) rfl rfl (by kernel_rfl) (by kernel_rfl) (by kernel_rfl) (fun _ _ _ h => h) (by rfl) ?_ (HS.out _ HD.out.2) ?_
              rotate_left
              · (intro w hSw; have s0 := hSw; simp only [CellIs] at s0; go_simp; try with_reducible rfl)
              simp only [Act.put, List.setIfInBounds_toArray, List.set_cons_zero, List.set_cons_succ]
              refine takeAt 5 54 (oi := _) (v := ?_) rfl rfl (by kernel_rfl) (by kernel_rfl) (by kernel_rfl) (fun _ _ _ h => h) (by rfl) ?_ (HS.out _ HD.out.2) ?_
              rotate_left
              · (intro w hSw; have s0 := hSw; simp only [CellIs] at s0; go_simp; try with_reducible rfl)
              simp only [Act.put, List.setIfInBounds_toArray, List.set_cons_zero, List.set_cons_succ]
              refine takeAt 6 55 (oi := _) (v := ?_) rfl rfl (by kernel_rfl) (by kernel_rfl) (by kernel_rfl) (fun _ _ _ h => h) (by rfl) ?_ (HS.out _ HD.out.2) ?_
              rotate_left
              · (intro w hSw; have s0 := hSw; simp only [CellIs] at s0; go_simp; try with_reducible rfl)
              simp only [Act.put, List.setIfInBounds_toArray, List.set_cons_zero, List.set_cons_succ]
              refine takeAt 7 56 (oi := _) (v := ?_) rfl rfl (by kernel_rfl) (by kernel_rfl) (by kernel_rfl) (fun _ _ _ h => h) (by rfl) ?_ (HS.out _ HD.out.2) ?_
              rotate_left
              · (intro w hSw; have s0 := hSw; simp only [CellIs] at s0; go_simp; try with_reducible rfl)
              simp only [Act.put, List.setIfInBounds_toArray, List.set_cons_zero, List.set_cons_succ]
              refine takeAt 8 57 (oi := _) (v := ?_) rfl rfl (by kernel_rfl) (by kernel_rfl) (by kernel_rfl) (fun _ _ _ h => h) (by rfl) ?_ (HS.out _ HD.out.2) ?_
              rotate_left
              · (intro w hSw; have s0 := hSw; simp only [CellIs] at s0; go_simp; try with_reducible rfl)
              simp only [Act.put, List.setIfInBounds_toArray, List.set_cons_zero, List.set_cons_succ]
              refine takeAt 9 58 (oi := _) (v := ?_) rfl rfl (by kernel_rfl) (by kernel_rfl) (by kernel_rfl) (fun _ _ _ h => h) (by rfl) ?_ (HS.out _ HD.out.2) ?_
              rotate_left
              · (intro w hSw; have s0 := hSw; simp only [CellIs] at s0; go_simp; try with_reducible rfl)
              simp only [Act.put, List.setIfInBounds_toArray, List.set_cons_zero, List.set_cons_succ]
              refine takeAt 10 59 (oi := _) (v := ?_) rfl rfl (by kernel_rfl) (by kernel_rfl) (by kernel_rfl) (fun _ _ _ h => h) (by rfl) ?_ (HS.out _ HD.out.2) ?_
              rotate_left
              · (intro w hSw; have s0 := hSw; simp only [CellIs] at s0; go_simp; try with_reducible rfl)
              simp only [Act.put, List.setIfInBounds_toArray, List.set_cons_zero, List.set_cons_succ]
              refine takeAt 11 60 (oi := _) (v := ?_) rfl rfl (by kernel_rfl) (by kernel_rfl) (by kernel_rfl) (fun _ _ _ h => h) (by rfl) ?_ (HS.out _ HD.out.2) ?_
              rotate_left
              · (intro w hSw; have s0 := hSw; simp only [CellIs] at s0; go_simp; try with_reducible rfl)
              simp only [Act.put, List.setIfInBounds_toArray, List.set_cons_zero, List.set_cons_succ]
              refine takeAt 12 61 (oi := _) (v := ?_) rfl rfl (by kernel_rfl) (by kernel_rfl) (by kernel_rfl) (fun _ _ _ h => h) (by rfl) ?_ (HS.out _ HD.out.2) ?_
              rotate_left
              · (intro w hSw; have s0 := hSw; simp only [CellIs] at s0; go_simp; try with_reducible rfl)
              simp only [Act.put, List.setIfInBounds_toArray, List.set_cons_zero, List.set_cons_succ]
              refine takeAt 13 62 (oi := _) (v := ?_) rfl rfl (by kernel_rfl) (by kernel_rfl) (by kernel_rfl) (fun _ _ _ h => h) (by rfl) ?_ (HS.out _ HD.out.2) ?_
              rotate_left
              · (intro w hSw; have s0 := hSw; simp only [CellIs] at s0; go_simp; try with_reducible rfl)
              simp only [Act.put, List.setIfInBounds_toArray, List.set_cons_zero, List.set_cons_succ]
              refine takeAt 14 63 (oi := _) (v := ?_) rfl rfl (by kernel_rfl) (by kernel_rfl) (by kernel_rfl) (fun _ _ _ h => h) (by rfl) ?_ (HS.out _ HD.out.2) ?_
              rotate_left
              · (intro w hSw; have s0 := hSw; simp only [CellIs] at s0; go_simp; try with_reducible rfl)
              simp only [Act.put, List.setIfInBounds_toArray, List.set_cons_zero, List.set_cons_succ]
              refine wpAnyH_ready (rs := [3, 15]) (by kernel_rfl) (by simp) ?_
              refine AllReadyH.cons (o := _) rfl (fun K hK => ?_) (AllReadyH.cons (o := _) rfl (fun K hK => ?_) AllReadyH.nil)
              · go_simp
                refine hK.out _ _ (HS.out _ (HD.out.2.alloc HD.out.2.size _)) (fun _ => ?_)
                clear hK K
                refine wpAnyH_ready (rs := [4, 15]) (by kernel_rfl) (by simp) ?_
                refine AllReadyH.cons (o := _) rfl (fun K hK => ?_) (AllReadyH.cons (o := _) rfl (fun K hK => ?_) AllReadyH.nil)
                · obtain ⟨v1, z1, R1, T1, hb1, -⟩ := two_appV (d := deq x) 54 (HD.out.1.alloc (.cells #[.int .i64 4, .int .i64 0, .int .i64 x] 61)) (Lies.new WD 61 _) (by have := HD.out.2.size; simp; omega) (by simp; have := HN.out; have := HLL.out; omega)
                  obtain ⟨v2, z2, R2, T2, hb2, -⟩ := two_appV (d := pop y) 54 (T1.swap.alloc (.cells #[.int .i64 6, .int .i64 0, .int .i64 y] 61)) (Lies.new z1 61 _) (by have := HD.out.2.size; have := hb1.size; simp at *; omega) (by simp; have := HN.out; have := HLL.out; omega)
                  have HR1 := Lib.hid R1
                  have HR2 := Lib.hid R2
                  have HB1 := Lib.hid ((HD.out.2.alloc HD.out.2.size (.cells #[.int .i64 4, .int .i64 0, .int .i64 x] 61)).trans hb1)
                  have HB2 := Lib.hid (HB1.out.alloc HB1.out.size (.cells #[.int .i64 6, .int .i64 0, .int .i64 y] 61))
                  rw [List.append_assoc, List.append_assoc, ← map_take_snoc HX.out.1 deq, ← map_take_snoc HX.out.2 pop] at T2
                  have HT2 := Lib.hid (And.intro T2.swap (HB2.out.trans hb2))
                  clear R1 R2 T1 T2 hb1 hb2
                  refine step_app_run (by rfl) (.tmp 49) (.tmp 52) _ _ (by rfl) _ _ (by rfl) (by rfl) _ _ HR1.out ?_
                  refine hK.out _ _ (HS.out _ HB1.out) (fun _ => ?_)
                  clear hK K
                  refine wpAnyH_ready (rs := [15]) (by kernel_rfl) (by simp) ?_
                  refine AllReadyH.cons (o := _) rfl (fun K hK => ?_) AllReadyH.nil
                  go_simp
                  refine hK.out _ _ (HS.out _ HB2.out) (fun _ => ?_)
                  clear hK K
                  refine wpAnyH_ready (rs := [16]) (by kernel_rfl) (by simp) ?_
                  refine AllReadyH.cons (o := _) rfl (fun K hK => ?_) AllReadyH.nil
                  refine step_app_run (by rfl) (.tmp 54) (.tmp 64) _ _ (by rfl) _ _ (by rfl) (by rfl) _ _ HR2.out ?_
                  refine hK.out _ _ (HS.out _ HT2.out.2) (fun _ => ?_)
                  clear hK K
                  refine takeAt 17 3 (oi := _) (v := ?_) rfl rfl (by kernel_rfl) (by kernel_rfl) (by kernel_rfl) (fun _ _ _ h => h) (by rfl) ?_ (HS.out _ HT2.out.2) ?_
                  rotate_left
                  · (intro w _; go_simp; try with_reducible rfl)
                  simp only [Act.put, List.setIfInBounds_toArray]
                  refine takeAt 18 4 (oi := _) (v := ?_) rfl rfl (by kernel_rfl) (by kernel_rfl) (by kernel_rfl) (fun _ _ _ h => h) (by rfl) ?_ (HS.out _ HT2.out.2) ?_
                  rotate_left
                  · (intro w _; go_simp; try with_reducible rfl)
                  simp only [Act.put]
                  refine wpAnyH_done (by kernel_rfl) ?_ _
                  go_wp2_with fail
                  go_roundw
                  case rel => exact ⟨k + 1, by omega, by go_num, HT2.out.1, HT2.out.2⟩
                  case measure => simp [intOf]; omega
                · have hG2 : Lies ((WD.alloc (.cells #[.int .i64 4, .int .i64 0, .int .i64 x] 61)).alloc (.cells #[.int .i64 6, .int .i64 0, .int .i64 y] 61)) (WD.heap.size + 1) 61 (ddCs (pop y)).toArray := by
                    have := Lies.new (WD.alloc (.cells #[.int .i64 4, .int .i64 0, .int .i64 x] 61)) 61 (ddCs (pop y)).toArray
                    simpa using this
                  obtain ⟨v1, z1, R1, T1, hb1, hg1⟩ := two_appV (d := deq x) 54 ((HD.out.1.alloc (.cells #[.int .i64 4, .int .i64 0, .int .i64 x] 61)).alloc (.cells #[.int .i64 6, .int .i64 0, .int .i64 y] 61)) (Lies.alloc (Lies.new WD 61 (ddCs (deq x)).toArray) (.cells #[.int .i64 6, .int .i64 0, .int .i64 y] 61)) (by have := HD.out.2.size; simp; omega) (by simp; have := HN.out; have := HLL.out; omega)
                  obtain ⟨v2, z2, R2, T2, hb2, -⟩ := two_appV (d := pop y) 54 T1.swap (hG2.grown hg1 (fun e => by have := (HD.out.1.one.block e).2; omega)) (by have := HD.out.2.size; have := hb1.size; simp at *; omega) (by simp; have := HN.out; have := HLL.out; omega)
                  have HR1 := Lib.hid R1
                  have HR2 := Lib.hid R2
                  have HA1 := Lib.hid (HD.out.2.alloc HD.out.2.size (.cells #[.int .i64 4, .int .i64 0, .int .i64 x] 61))
                  have HA2 := Lib.hid (HA1.out.alloc HA1.out.size (.cells #[.int .i64 6, .int .i64 0, .int .i64 y] 61))
                  have HB1 := Lib.hid (HA2.out.trans hb1)
                  rw [List.append_assoc, List.append_assoc, ← map_take_snoc HX.out.1 deq, ← map_take_snoc HX.out.2 pop] at T2
                  have HT2 := Lib.hid (And.intro T2.swap (HB1.out.trans hb2))
                  clear R1 R2 T1 T2 hb1 hb2 hg1 hG2
                  go_simp
                  refine hK.out _ _ (HS.out _ HA2.out) (fun _ => ?_)
                  clear hK K
                  refine wpAnyH_ready (rs := [4]) (by kernel_rfl) (by simp) ?_
                  refine AllReadyH.cons (o := _) rfl (fun K hK => ?_) AllReadyH.nil
                  refine step_app_run (by rfl) (.tmp 49) (.tmp 52) _ _ (by rfl) _ _ (by rfl) (by rfl) _ _ HR1.out ?_
                  refine hK.out _ _ (HS.out _ HB1.out) (fun _ => ?_)
                  clear hK K
                  refine wpAnyH_ready (rs := [16]) (by kernel_rfl) (by simp) ?_
                  refine AllReadyH.cons (o := _) rfl (fun K hK => ?_) AllReadyH.nil
                  refine step_app_run (by rfl) (.tmp 54) (.tmp 64) _ _ (by rfl) _ _ (by rfl) (by rfl) _ _ HR2.out ?_
                  refine hK.out _ _ (HS.out _ HT2.out.2) (fun _ => ?_)
                  clear hK K
                  refine takeAt 17 3 (oi := _) (v := ?_) rfl rfl (by kernel_rfl) (by kernel_rfl) (by kernel_rfl) (fun _ _ _ h => h) (by rfl) ?_ (HS.out _ HT2.out.2) ?_
                  rotate_left
                  · (intro w _; go_simp; try with_reducible rfl)
                  simp only [Act.put, List.setIfInBounds_toArray]
                  refine takeAt 18 4 (oi := _) (v := ?_) rfl rfl (by kernel_rfl) (by kernel_rfl) (by kernel_rfl) (fun _ _ _ h => h) (by rfl) ?_ (HS.out _ HT2.out.2) ?_
                  rotate_left
                  · (intro w _; go_simp; try with_reducible rfl)
                  simp only [Act.put]
                  refine wpAnyH_done (by kernel_rfl) ?_ _
                  go_wp2_with fail
                  go_roundw
                  case rel => exact ⟨k + 1, by omega, by go_num, HT2.out.1, HT2.out.2⟩
                  case measure => simp [intOf]; omega
              · have hG2 : Lies ((WD.alloc (.cells #[.int .i64 6, .int .i64 0, .int .i64 y] 61)).alloc (.cells #[.int .i64 4, .int .i64 0, .int .i64 x] 61)) (WD.heap.size + 1) 61 (ddCs (deq x)).toArray := by
                  have := Lies.new (WD.alloc (.cells #[.int .i64 6, .int .i64 0, .int .i64 y] 61)) 61 (ddCs (deq x)).toArray
                  simpa using this
                obtain ⟨v1, z1, R1, T1, hb1, hg1⟩ := two_appV (d := deq x) 54 ((HD.out.1.alloc (.cells #[.int .i64 6, .int .i64 0, .int .i64 y] 61)).alloc (.cells #[.int .i64 4, .int .i64 0, .int .i64 x] 61)) hG2 (by have := HD.out.2.size; simp; omega) (by simp; have := HN.out; have := HLL.out; omega)
                obtain ⟨v2, z2, R2, T2, hb2, -⟩ := two_appV (d := pop y) 54 T1.swap ((Lies.alloc (Lies.new WD 61 (ddCs (pop y)).toArray) (.cells #[.int .i64 4, .int .i64 0, .int .i64 x] 61)).grown hg1 (fun e => by have := (HD.out.1.one.block e).2; omega)) (by have := HD.out.2.size; have := hb1.size; simp at *; omega) (by simp; have := HN.out; have := HLL.out; omega)
                have HR1 := Lib.hid R1
                have HR2 := Lib.hid R2
                have HA1 := Lib.hid (HD.out.2.alloc HD.out.2.size (.cells #[.int .i64 6, .int .i64 0, .int .i64 y] 61))
                have HA2 := Lib.hid (HA1.out.alloc HA1.out.size (.cells #[.int .i64 4, .int .i64 0, .int .i64 x] 61))
                have HB1 := Lib.hid (HA2.out.trans hb1)
                rw [List.append_assoc, List.append_assoc, ← map_take_snoc HX.out.1 deq, ← map_take_snoc HX.out.2 pop] at T2
                have HT2 := Lib.hid (And.intro T2.swap (HB1.out.trans hb2))
                clear R1 R2 T1 T2 hb1 hb2 hg1 hG2
                go_simp
                refine hK.out _ _ (HS.out _ HA1.out) (fun _ => ?_)
                clear hK K
                refine wpAnyH_ready (rs := [3]) (by kernel_rfl) (by simp) ?_
                refine AllReadyH.cons (o := _) rfl (fun K hK => ?_) AllReadyH.nil
                go_simp
                refine hK.out _ _ (HS.out _ HA2.out) (fun _ => ?_)
                clear hK K
                refine wpAnyH_ready (rs := [4]) (by kernel_rfl) (by simp) ?_
                refine AllReadyH.cons (o := _) rfl (fun K hK => ?_) AllReadyH.nil
                refine step_app_run (by rfl) (.tmp 49) (.tmp 52) _ _ (by rfl) _ _ (by rfl) (by rfl) _ _ HR1.out ?_
                refine hK.out _ _ (HS.out _ HB1.out) (fun _ => ?_)
                clear hK K
                refine wpAnyH_ready (rs := [16]) (by kernel_rfl) (by simp) ?_
                refine AllReadyH.cons (o := _) rfl (fun K hK => ?_) AllReadyH.nil
                refine step_app_run (by rfl) (.tmp 54) (.tmp 64) _ _ (by rfl) _ _ (by rfl) (by rfl) _ _ HR2.out ?_
                refine hK.out _ _ (HS.out _ HT2.out.2) (fun _ => ?_)
                clear hK K
                refine takeAt 17 3 (oi := _) (v := ?_) rfl rfl (by kernel_rfl) (by kernel_rfl) (by kernel_rfl) (fun _ _ _ h => h) (by rfl) ?_ (HS.out _ HT2.out.2) ?_
                rotate_left
                · (intro w _; go_simp; try with_reducible rfl)
                simp only [Act.put, List.setIfInBounds_toArray]
                refine takeAt 18 4 (oi := _) (v := ?_) rfl rfl (by kernel_rfl) (by kernel_rfl) (by kernel_rfl) (fun _ _ _ h => h) (by rfl) ?_ (HS.out _ HT2.out.2) ?_
                rotate_left
                · (intro w _; go_simp; try with_reducible rfl)
                simp only [Act.put]
                refine wpAnyH_done (by kernel_rfl) ?_ _
                go_wp2_with fail
                go_roundw
                case rel => exact ⟨k + 1, by omega, by go_num, HT2.out.1, HT2.out.2⟩
                case measure => simp [intOf]; omega
            · obtain rfl : L = k := by omega
              have hT' := hT
              rw [HLL.out, List.take_length, show l.length = l.reverse.length by simp, List.take_length] at hT'
              obtain ⟨v1, z1, R1, T1, hb1, -⟩ := two_appV (d := deq (-1)) 54 (hT'.alloc (.cells #[.int .i64 4, .int .i64 0, .int .i64 (-1)] 61)) (Lies.new wr 61 _) (by have := hB.size; simp; omega) (by simp; have := HN.out; have := HLL.out; omega)
              obtain ⟨v2, z2, R2, T2, hb2, -⟩ := two_appV (d := pop (-1)) 54 (T1.swap.alloc (.cells #[.int .i64 6, .int .i64 0, .int .i64 (-1)] 61)) (Lies.new z1 61 _) (by have := hB.size; have := hb1.size; simp at *; omega) (by simp; have := HN.out; have := HLL.out; omega)
              have HR1 := Lib.hid R1
              have HR2 := Lib.hid R2
              have HT := Lib.hid (And.intro (show TwoD z2 w.heap.size v1 v2 (rowQ l) (rowS l) from T2.swap) (((hB.alloc hB.size _).trans hb1).trans (((Below.refl w.heap.size z1).alloc (by have := hB.size; have := hb1.size; simp at *; omega) _).trans hb2)))
              clear hT hT' hB R1 R2 T1 T2 hb1 hb2
              obtain ⟨Aq, cq, hvq, _, _⟩ := HT.out.1.one.rd.is
              obtain ⟨As, cs, hvs, _, _⟩ := HT.out.1.two.rd.is
              subst hvq hvs
              have hq1 := rowQ_plays HOK.out
              have hq2 := rowS_plays HOK.out
              have HP1 := Lib.hid (fun (W : World) (v : Value) (h : DRd W W.heap.size v (rowQ l)) => play_any 2 h)
              have HP2 := Lib.hid (fun (W : World) (v : Value) (h : DRd W W.heap.size v (rowS l)) => play_any 3 h)
              rw [hq1] at HP1
              rw [hq2] at HP2
              generalize hNQ : (rowQ l).length = NQ at HT HP1 HR1 HR2
              generalize hNS : (rowS l).length = NS at HT HP2 HR1 HR2
              have t1 : ((NQ : Int) == (NQ : Int)) = true := by simp
              have t2 : ((NS : Int) == (NS : Int)) = true := by simp
              clear hq1 hq2 hNQ hNS
              go_wp2_with (first | (at_builtin; refine Lib.wpList_append_run _ rfl (.tmp 67) (.tmp 69) _ _ rfl _ _ rfl rfl _ _ HR1.out ?_) | (at_builtin; refine Lib.wpList_append_run _ rfl (.tmp 71) (.tmp 73) _ _ rfl _ _ rfl rfl _ _ HR2.out ?_))
              refine (HP1.out _ _ HT.out.1.one.rd).mono ?_
              rw [show startE 2 = 0 from rfl]
              rintro e w5 ⟨rfl, hb5⟩
              have H5 := Lib.hid (And.intro (HT.out.1.below hb5) (blOn HT.out.2 hb5))
              clear hb5 HT
              go_wp2_with fail
              refine (HP2.out _ _ H5.out.1.two.rd).mono ?_
              rw [show startE 3 = 0 from rfl]
              rintro e w6 ⟨rfl, hb6⟩
              have H6 := Lib.hid (blOn H5.out.2 hb6)
              clear hb6
              go_wp2_with fail
              refine (ok_zero (IRd.fresh _ 25 [0, 0] 2 rfl #[.int .i64 0, .int .i64 0] rfl) (by simp) (by decide)).mono ?_
              rintro e w7 ⟨rfl, rfl⟩
              go_wp2_with fail
              go_ret
              exact ⟨rfl, H6.out.alloc H6.out.size _⟩
end Go.Proofs.Ytebcnhnkpmbgdaa
