/-
  Joined by a program out of: Col.
-/
import Derived.Test.YtkfijolimoehmaaDoorMgAG
import Derived.Test.YtkfijolimoehmaaDoorMgAK
import Derived.Lib.MinMax

/-
  Contract of the reference's Coloured.
-/
namespace Go.Proofs.YtkfijolimoehmaaDoor
open Go.RowKit
set_option maxRecDepth 20000

/-- The first m of the list: may the item have number k beside them? -/
def fitP (rel : Nat → Nat) (item k : Nat) (l : List Nat) (m : Nat) : Bool := (List.range m).all fun j => l.getD j 0 != k || (rel item).testBit j
theorem fitP_succ {rel : Nat → Nat} {item k : Nat} {l : List Nat} {m : Nat} : fitP rel item k l (m + 1) = (fitP rel item k l m && (l.getD m 0 != k || (rel item).testBit m)) := by
  unfold fitP
  rw [List.range_succ, List.all_append]
  simp
theorem fitP_all {rel : Nat → Nat} {item k : Nat} {l : List Nat} : fitP rel item k l l.length = fitC rel item k l := rfl
/-- Numbers as the program has them. -/
def zs (l : List Nat) : List Int := l.map fun (x : Nat) => (x : Int)
theorem zs_len (l : List Nat) : (zs l).length = l.length := by unfold zs; exact List.length_map _
theorem zs_get {l : List Nat} {m x : Nat} (h : l[m]? = some x) : (zs l)[m]? = some (x : Int) := by unfold zs; rw [List.getElem?_map, h]; rfl
theorem zs_snoc (l : List Nat) (k : Nat) : zs (l ++ [k]) = zs l ++ [(k : Int)] := by unfold zs; rw [List.map_append]; rfl
theorem fresh_take {l : List Nat} {m x : Nat} (h : l[m]? = some x) : freshL (l.take (m + 1)) 0 = max (freshL (l.take m) 0) (x + 1) := by
  rw [List.take_add_one, h]
  exact fresh_snoc _ _ _
theorem fresh_le {B : Nat} : ∀ (l : List Nat) (a : Nat), a ≤ B → (∀ x, x ∈ l → x < B) → freshL l a ≤ B
  | [], _, h, _ => h
  | x :: r, a, h, hx => by
    rw [freshL]
    exact fresh_le r _ (by have := hx x (List.mem_cons_self ..); omega) (fun y hy => hx y (List.mem_cons_of_mem _ hy))
theorem tryC_len {go : List Nat → Option (List Nat)} {rel : Nat → Nat} {l : List Nat} {N : Nat} (hgo : ∀ k o, go (l ++ [k]) = some o → o.length = N) : ∀ m k o, tryC go rel l m k = some o → o.length = N
  | 0, _, _, h => by simp [tryC] at h
  | m + 1, k, o, h => by
    rw [tryC] at h
    split at h
    · split at h
      · rename_i o' ho
        injection h with h
        subst h
        exact hgo _ _ ho
      · exact tryC_len hgo m _ _ h
    · exact tryC_len hgo m _ _ h
theorem colC_len {rel : Nat → Nat} {K : Nat} : ∀ t l o, colC rel K t l = some o → o.length = l.length + t
  | 0, l, o, h => by rw [colC] at h; injection h with h; subst h; rfl
  | t + 1, l, o, h => by
    rw [colC] at h
    exact tryC_len (fun k o' ho => by rw [colC_len t _ _ ho, List.length_append]; simp; omega) _ _ _ h
theorem nil_ne (w : World) : (binOp .neq 29 (.slice none 0 0) (.slice none 0 0)).run Tryd.prog w = .ok (.bool false) w := by kernel_rfl
theorem some_ne (a : Addr) (m c : Nat) (w : World) : (binOp .neq 29 (.slice (some a) m c) (.slice none 0 0)).run Tryd.prog w = .ok (.bool true) w := by kernel_rfl
theorem nil_eq (w : World) : (binOp .eql 29 (.slice none 0 0) (.slice none 0 0)).run Tryd.prog w = .ok (.bool true) w := by kernel_rfl
theorem some_eq (a : Addr) (m c : Nat) (w : World) : (binOp .eql 29 (.slice (some a) m c) (.slice none 0 0)).run Tryd.prog w = .ok (.bool false) w := by kernel_rfl
/-- What the reference hands back. -/
def ColV (w : World) (o : Option (List Nat)) (v : Value) (w' : World) : Prop :=
  Below w.heap.size w w' ∧ (∀ l', o = some l' → IRd w' w'.heap.size v (zs l')) ∧ (o = none → v = .slice none 0 0)

set_option maxHeartbeats 4000000 in
theorem col_step (n : Nat) (c rel : Nat → Nat) (hn : n ≤ 12) (hrl : ∀ i j, i < n → j < n → (rel i).testBit j = ((c i).testBit j || (c j).testBit i)) (K : Nat) (hK : K ≤ 12) (t : Nat) (l : List Nat) (hl : l.length + (t + 1) = n) (h12 : ∀ x, x ∈ l → x < 12)
    (ih : ∀ (k : Nat) (u : Value) (W : World), k < K → IRd W W.heap.size u (zs l ++ [(k : Int)]) → Calls Tryd.prog 21 #[relV n c, .int .i64 K, u] W fun e w' => ∃ v', e = .returned v' ∧ ColV W (colC rel K t (l ++ [k])) v' w')
    (v : Value) (w : World) (hx : IRd w w.heap.size v (zs l)) :
    Calls Tryd.prog 21 #[relV n c, .int .i64 K, v] w fun e w' => ∃ v', e = .returned v' ∧ ColV w (colC rel K (t + 1) l) v' w' := by
  obtain ⟨M, hM⟩ : ∃ M, M = min K (freshL l 0 + 1) := ⟨_, rfl⟩
  have hcol : colC rel K (t + 1) l = tryC (colC rel K t) rel l M 0 := by rw [colC, hM]
  have hne0 : ∀ k o, colC rel K t (l ++ [k]) = some o → 0 < o.length := fun k o h => by rw [colC_len t _ _ h, List.length_append]; simp; omega
  rw [hcol]
  clear hcol
  generalize colC rel K t = goC at ih hne0 ⊢
  obtain ⟨G, hG⟩ : ∃ G, G = tryC goC rel l M 0 := ⟨_, rfl⟩
  rw [← hG]
  have hzl := zs_len l
  have hzg : ∀ (m x : Nat), l[m]? = some x → (zs l)[m]? = some (x : Int) := fun m x h => zs_get h
  generalize zs l = xs at hx ih hzl hzg
  obtain ⟨A0, cap, rfl, _⟩ := id hx
  obtain ⟨L, hL⟩ : ∃ L, L = xs.length := ⟨_, rfl⟩
  rw [← hL] at hx hzl ⊢
  have hF12 : freshL l 0 ≤ 12 := fresh_le l 0 (by omega) h12
  have HL := Lib.hid hL
  have HZL := Lib.hid hzl
  have HZG := Lib.hid hzg
  have HM := Lib.hid (And.intro hM hF12)
  have HG := Lib.hid hG
  have IH := Lib.hid ih
  have HNE := Lib.hid hne0
  have H12 := Lib.hid h12
  have HRL := Lib.hid hrl
  have HX := Lib.hid hx
  have hne : ((L : Int) == (n : Int)) = false := by rw [beq_eq_false_iff_ne]; omega
  have hLn : L < n := by omega
  have hL12 : L ≤ 12 := by omega
  have hMK : M ≤ K := by omega
  clear hL hzl hzg hM hF12 hG ih hne0 h12 hrl hx hl
  have hRR : LaR w n c (.slice A0 L cap) xs (w.alloc (.cells (relCs n c) 25)) :=
    ⟨(Below.refl _ _).alloc (Nat.le_refl _) _, Lies.new _ _ _, HX.out.below ((Below.refl _ _).alloc (Nat.le_refl _) _)⟩
  have hsz := hRR.rel.size
  have HRR := Lib.hid hRR
  clear hRR
  go_enter Tryd.func21, Tryd.ntmps21
  go_wp2_with fail
  have hR := HRR.out
  clear HRR hsz
  change Code.wp _ _ _ _ (w.alloc (.cells (relCs n c) 25))
  generalize w.alloc (.cells (relCs n c) 25) = W at hR ⊢
  go_loop [8, 26] (fun q i => ∃ m : Nat, m ≤ L ∧ i = .int .i64 m ∧ q = .int .i64 (freshL (l.take m) 0 : Nat)) (fun _ i => L - (intOf i).toNat)
  case atStart => exact ⟨0, by omega, rfl, rfl⟩
  case round =>
    obtain ⟨m, hm, rfl, rfl⟩ := hrel
    by_cases hmL : m < L
    · obtain ⟨x, hxl⟩ : ∃ x, l[m]? = some x := ⟨_, List.getElem?_eq_getElem (by rw [← HZL.out]; exact hmL)⟩
      have hx12 := H12.out x (List.mem_of_getElem? hxl)
      have hst := fresh_take hxl
      have hf12 : freshL (l.take m) 0 ≤ 12 := fresh_le _ 0 (by omega) (fun y hy => H12.out y (List.mem_of_mem_take hy))
      obtain ⟨A1, cap1, he, hc⟩ := id hR.arg
      injection he with e1 e2 e3
      subst e1
      subst e3
      obtain ⟨g, rfl, _, hcell⟩ := hc (by rw [← HL.out]; omega)
      have d1 := hcell m (by rw [← HL.out]; exact hmL)
      rw [List.getD_eq_getElem?_getD, HZG.out _ _ hxl] at d1
      simp only [Option.getD_some] at d1
      have k1 : (0 : Int) ≤ (m : Int) := by omega
      have k2 : (m : Int) < (L : Int) := by omega
      have HST := Lib.hid hst
      have HR := Lib.hid hR
      clear hst hR hc hcell e2 hxl
      go_wp2_with fail
      go_round
      case rel => exact ⟨m + 1, by omega, by go_num, congrArg (Value.int .i64) (by rw [HST.out]; omega)⟩
      case measure => simp [intOf]; omega
    · obtain rfl : m = L := by omega
      rw [show l.take m = l by rw [HZL.out, List.take_length]]
      have hMM : min (K : Int) ((freshL l 0 : Nat) + 1 : Int) = (M : Int) := by have := HM.out.1; omega
      have hF12 := HM.out.2
      have HMM := Lib.hid hMM
      have HR := Lib.hid hR
      clear hMM hR hm hmL
      go_wp2_with fail
      try rw [HMM.out]
      have hR := HR.out
      clear HR hF12
      go_loopw [39] (fun t wr => ∃ k : Nat, k ≤ M ∧ t = .int .i64 k ∧ tryC goC rel l (M - k) k = G ∧ LaR w n c (.slice A0 m cap) xs wr) (fun t _ => M - (intOf t).toNat)
      case atStart => exact ⟨0, by omega, rfl, HG.out.symm, hR⟩
      case round =>
        clear hR
        obtain ⟨k, hk, rfl, hT, hR⟩ := hrel
        by_cases hkM : k < M
        · rw [show M - k = (M - (k + 1)) + 1 by omega, tryC, ← fitP_all, ← HZL.out] at hT
          have HT := Lib.hid hT
          have HKK := Lib.hid (show k < K by omega)
          have hk12 : k < 12 := by omega
          have HR := Lib.hid hR
          clear hT hR
          go_wp2_with fail
          have hR := HR.out
          clear HR
          go_loopw [12, 44] (fun q t wr => ∃ j : Nat, j ≤ m ∧ t = .int .i64 j ∧ q = .bool (fitP rel m k l j) ∧ LaR w n c (.slice A0 m cap) xs wr) (fun _ t _ => m - (intOf t).toNat)
          case atStart => exact ⟨0, by omega, rfl, rfl, hR⟩
          case round =>
            clear hR
            obtain ⟨j, hj, rfl, rfl, hR⟩ := hrel
            by_cases hjL : j < m
            · obtain ⟨x, hxl⟩ : ∃ x, l[j]? = some x := ⟨_, List.getElem?_eq_getElem (by rw [← HZL.out]; exact hjL)⟩
              have hx12 := H12.out x (List.mem_of_getElem? hxl)
              have hst := @fitP_succ rel m k l j
              rw [HRL.out m j (by omega) (by omega), List.getD_eq_getElem?_getD, hxl, Option.getD_some] at hst
              obtain ⟨A1, cap1, he, hc⟩ := id hR.arg
              injection he with e1 e2 e3
              subst e1
              subst e3
              obtain ⟨g, rfl, _, hcell⟩ := hc (by rw [← HL.out]; omega)
              have d1 := hcell j (by rw [← HL.out]; exact hjL)
              rw [List.getD_eq_getElem?_getD, HZG.out _ _ hxl] at d1
              simp only [Option.getD_some] at d1
              have k1 : (0 : Int) ≤ (j : Int) := by omega
              have k2 : (j : Int) < (m : Int) := by omega
              have HST := Lib.hid hst
              have HR := Lib.hid hR
              have hs := hR.rel.size
              obtain ⟨c1, c2, c3, c4, c5, c6, c7, c8, c9, c10, c11, c12⟩ := hR.rel.rows
              have HA1 := Lib.hid (fun W => ahead_any (n : Int) c m j W (by omega) (by omega))
              have HA2 := Lib.hid (fun W => ahead_any (n : Int) c j m W (by omega) (by omega))
              clear hst hR hc hcell e2 hxl
              cases hq : fitP rel m k l j
              · have HQ := Lib.hid hq
                clear hq
                go_wp2_with fail
                go_roundw
                case rel => exact ⟨j + 1, by omega, by go_num, by rw [HST.out, HQ.out]; rfl, HR.out⟩
                case measure => simp [intOf]; omega
              · have HQ := Lib.hid hq
                clear hq
                by_cases hxk : x = k
                · have hxn : (x != k) = false := by rw [hxk]; simp
                  have HXN := Lib.hid hxn
                  obtain rfl : k = x := hxk.symm
                  clear hxn
                  go_wp2_with fail
                  refine (HA1.out _).mono ?_
                  rintro e w1 ⟨rfl, hb1⟩
                  have HR1 := Lib.hid (HR.out.then_ hb1)
                  clear hs c1 c2 c3 c4 c5 c6 c7 c8 c9 c10 c11 c12 hb1 d1
                  have hs := HR1.out.rel.size
                  obtain ⟨c1, c2, c3, c4, c5, c6, c7, c8, c9, c10, c11, c12⟩ := HR1.out.rel.rows
                  cases hb1 : (c m).testBit j
                  · have HB1 := Lib.hid hb1
                    clear hb1
                    go_wp2_with fail
                    refine (HA2.out _).mono ?_
                    rintro e w2 ⟨rfl, hb2⟩
                    have HR2 := Lib.hid (HR1.out.then_ hb2)
                    clear hs c1 c2 c3 c4 c5 c6 c7 c8 c9 c10 c11 c12 hb2
                    cases hb2 : (c j).testBit m
                    all_goals
                      have HB2 := Lib.hid hb2
                      clear hb2
                      go_wp2_with fail
                      go_roundw
                      case rel => exact ⟨j + 1, by omega, by go_num, by rw [HST.out, HQ.out, HXN.out, HB1.out, HB2.out]; rfl, HR2.out⟩
                      case measure => simp [intOf]; omega
                  · have HB1 := Lib.hid hb1
                    clear hb1
                    go_wp2_with fail
                    go_roundw
                    case rel => exact ⟨j + 1, by omega, by go_num, by rw [HST.out, HQ.out, HXN.out, HB1.out]; rfl, HR1.out⟩
                    case measure => simp [intOf]; omega
                · have hxk' : ¬ (x : Int) = (k : Int) := by omega
                  have hxn : (x != k) = true := by simpa using hxk
                  have HXN := Lib.hid hxn
                  clear hxn hxk
                  go_wp2_with fail
                  go_roundw
                  case rel => exact ⟨j + 1, by omega, by go_num, by rw [HST.out, HQ.out, HXN.out]; rfl, HR.out⟩
                  case measure => simp [intOf]; omega
            · obtain rfl : j = m := by omega
              generalize wr = ws at hR ⊢
              have hs := hR.rel.size
              obtain ⟨c1, c2, c3, c4, c5, c6, c7, c8, c9, c10, c11, c12⟩ := hR.rel.rows
              have HR1 := Lib.hid hR
              clear hR
              cases hfit : fitP rel j k l j
              · have e := HT.out
                rw [hfit, if_neg (by decide)] at e
                have HE := Lib.hid e
                clear hfit e
                go_wp2_with fail
                go_roundw
                case rel => exact ⟨k + 1, by omega, by go_num, HE.out, HR1.out⟩
                case measure => simp [intOf]; omega
              · have e := HT.out
                rw [hfit, if_pos rfl] at e
                have HE := Lib.hid e
                clear hfit e
                go_upto_region 20 with fail
                go_cut [15] from 70 to 78 (fun p wx => ColV ws (goC (l ++ [k])) p wx)
                case first =>
                  have hrd := HR1.out.arg
                  have hrel := HR1.out.rel
                  have hS : ∀ W, Below ws.heap.size ws W → W.cell? ⟨w.heap.size, 0, none⟩ = some (.int .i64 (n : Int)) ∧ W.cell? ⟨w.heap.size, 1, none⟩ = some (.int .u16 (c 0 : Nat)) ∧ W.cell? ⟨w.heap.size, 2, none⟩ = some (.int .u16 (c 1 : Nat)) ∧ W.cell? ⟨w.heap.size, 3, none⟩ = some (.int .u16 (c 2 : Nat)) ∧ W.cell? ⟨w.heap.size, 4, none⟩ = some (.int .u16 (c 3 : Nat)) ∧ W.cell? ⟨w.heap.size, 5, none⟩ = some (.int .u16 (c 4 : Nat)) ∧ W.cell? ⟨w.heap.size, 6, none⟩ = some (.int .u16 (c 5 : Nat)) ∧ W.cell? ⟨w.heap.size, 7, none⟩ = some (.int .u16 (c 6 : Nat)) ∧ W.cell? ⟨w.heap.size, 8, none⟩ = some (.int .u16 (c 7 : Nat)) ∧ W.cell? ⟨w.heap.size, 9, none⟩ = some (.int .u16 (c 8 : Nat)) ∧ W.cell? ⟨w.heap.size, 10, none⟩ = some (.int .u16 (c 9 : Nat)) ∧ W.cell? ⟨w.heap.size, 11, none⟩ = some (.int .u16 (c 10 : Nat)) ∧ W.cell? ⟨w.heap.size, 12, none⟩ = some (.int .u16 (c 11 : Nat)) := fun W hb => ⟨RelB.size (Lies.below hrel hb hrel.lt), RelB.rows (Lies.below hrel hb hrel.lt)⟩
                  have hlw := HR1.out.below.size
                  have HRD : Hid (∀ W, Below ws.heap.size ws W → IRd W w.heap.size (.slice A0 j cap) xs) := Lib.hid fun W hb => hrd.below (hb.mono hlw)
                  have HSR := Lib.hid hS
                  have HLN := Lib.hid (show ([] : List Int).length + xs.length ≤ 65536 by have := HL.out; simp; omega)
                  have HLM := Lib.hid (show xs.length + [(k : Int)].length ≤ 65536 by have := HL.out; simp; omega)
                  clear hrd hrel hS
                  refine wp_region_held_drew (S := fun W => W.cell? ⟨w.heap.size, 0, none⟩ = some (.int .i64 (n : Int)) ∧ W.cell? ⟨w.heap.size, 1, none⟩ = some (.int .u16 (c 0 : Nat)) ∧ W.cell? ⟨w.heap.size, 2, none⟩ = some (.int .u16 (c 1 : Nat)) ∧ W.cell? ⟨w.heap.size, 3, none⟩ = some (.int .u16 (c 2 : Nat)) ∧ W.cell? ⟨w.heap.size, 4, none⟩ = some (.int .u16 (c 3 : Nat)) ∧ W.cell? ⟨w.heap.size, 5, none⟩ = some (.int .u16 (c 4 : Nat)) ∧ W.cell? ⟨w.heap.size, 6, none⟩ = some (.int .u16 (c 5 : Nat)) ∧ W.cell? ⟨w.heap.size, 7, none⟩ = some (.int .u16 (c 6 : Nat)) ∧ W.cell? ⟨w.heap.size, 8, none⟩ = some (.int .u16 (c 7 : Nat)) ∧ W.cell? ⟨w.heap.size, 9, none⟩ = some (.int .u16 (c 8 : Nat)) ∧ W.cell? ⟨w.heap.size, 10, none⟩ = some (.int .u16 (c 9 : Nat)) ∧ W.cell? ⟨w.heap.size, 11, none⟩ = some (.int .u16 (c 10 : Nat)) ∧ W.cell? ⟨w.heap.size, 12, none⟩ = some (.int .u16 (c 11 : Nat))) (by kernel_rfl) (HSR.out _ (Below.refl _ _).drew) (fun hHeld => ?_)
                  change wpAnyH _ _ _ _ _ 10 _ _ _
                  have HD : Hid (Below ws.heap.size ws ws.drew) := Lib.hid (Below.refl _ _).drew
                  clear hHeld hs c1 c2 c3 c4 c5 c6 c7 c8 c9 c10 c11 c12 hlw
                  generalize ws.drew = WD at HD ⊢
                  refine takeAt 0 70 (oi := _) (v := ?_) rfl rfl (by kernel_rfl) (by kernel_rfl) (by kernel_rfl) (fun _ _ _ h => h) (by rfl) ?_ (HSR.out _ HD.out) ?_
                  rotate_left
                  · (intro w hSw; obtain ⟨c0, c1, c2, c3, c4, c5, c6, c7, c8, c9, c10, c11, c12⟩ := hSw; go_simp; try with_reducible rfl)
                  simp only [Act.put, List.setIfInBounds_toArray, List.set_cons_zero, List.set_cons_succ]
                  refine takeAt 1 71 (oi := _) (v := ?_) rfl rfl (by kernel_rfl) (by kernel_rfl) (by kernel_rfl) (fun _ _ _ h => h) (by rfl) ?_ (HSR.out _ HD.out) ?_
                  rotate_left
                  · (intro w hSw; obtain ⟨c0, c1, c2, c3, c4, c5, c6, c7, c8, c9, c10, c11, c12⟩ := hSw; go_simp; try with_reducible rfl)
                  simp only [Act.put, List.setIfInBounds_toArray, List.set_cons_zero, List.set_cons_succ]
                  refine takeAt 3 73 (oi := _) (v := ?_) rfl rfl (by kernel_rfl) (by kernel_rfl) (by kernel_rfl) (fun _ _ _ h => h) (by rfl) ?_ (HSR.out _ HD.out) ?_
                  rotate_left
                  · (intro w hSw; obtain ⟨c0, c1, c2, c3, c4, c5, c6, c7, c8, c9, c10, c11, c12⟩ := hSw; go_simp; try with_reducible rfl)
                  simp only [Act.put, List.setIfInBounds_toArray, List.set_cons_zero, List.set_cons_succ]
                  refine takeAt 5 75 (oi := _) (v := ?_) rfl rfl (by kernel_rfl) (by kernel_rfl) (by kernel_rfl) (fun _ _ _ h => h) (by rfl) ?_ (HSR.out _ HD.out) ?_
                  rotate_left
                  · (intro w hSw; obtain ⟨c0, c1, c2, c3, c4, c5, c6, c7, c8, c9, c10, c11, c12⟩ := hSw; go_simp; try with_reducible rfl)
                  simp only [Act.put, List.setIfInBounds_toArray, List.set_cons_zero, List.set_cons_succ]
                  refine wpAnyH_ready (rs := [2, 6]) (by kernel_rfl) (by simp) ?_
                  refine AllReadyH.cons (o := _) rfl (fun K hK => ?_) (AllReadyH.cons (o := _) rfl (fun K hK => ?_) AllReadyH.nil)
                  · go_simp
                    have HBa := Lib.hid (HD.out.alloc HD.out.size (.cells #[] 3))
                    have HOE := Lib.hid (IOwn.empty (base := ws.heap.size) (Lies.new WD 3 #[]) HD.out.size)
                    refine hK.out _ _ (HSR.out _ HBa.out) (fun _ => ?_)
                    clear hK K
                    refine wpAnyH_ready (rs := [4, 6]) (by kernel_rfl) (by simp) ?_
                    refine AllReadyH.cons (o := _) rfl (fun K hK => ?_) (AllReadyH.cons (o := _) rfl (fun K hK => ?_) AllReadyH.nil)
                    · refine step_app_rd (by rfl) (.tmp 72) (.tmp 73) (by rfl) ws.heap.size w.heap.size _ _ [] xs (by rfl) (by rfl) HOE.out (HRD.out _ HBa.out) HLN.out HBa.out.size ?_
                      intro v1 w1 ho1 hb1 hg1
                      have HBb := Lib.hid (HBa.out.trans hb1)
                      have HOb := Lib.hid ho1
                      clear hb1 hg1 ho1
                      refine hK.out _ _ (HSR.out _ HBb.out) (fun _ => ?_)
                      clear hK K
                      refine wpAnyH_ready (rs := [6]) (by kernel_rfl) (by simp) ?_
                      refine AllReadyH.cons (o := _) rfl (fun K hK => ?_) AllReadyH.nil
                      go_simp
                      have HB3 := Lib.hid (HBb.out.alloc HBb.out.size (.cells #[.int .i64 (k : Int)] 3))
                      have HO1 := Lib.hid (IOwn.alloc HOb.out (.cells #[.int .i64 (k : Int)] 3))
                      have HLIT := Lib.hid (Lies.new w1 3 #[.int .i64 (k : Int)])
                      refine hK.out _ _ (HSR.out _ HB3.out) (fun _ => ?_)
                      clear hK K
                      refine wpAnyH_ready (rs := [7]) (by kernel_rfl) (by simp) ?_
                      refine AllReadyH.cons (o := _) rfl (fun K hK => ?_) AllReadyH.nil
                      refine step_app_rd (by rfl) (.tmp 74) (.tmp 76) (by rfl) ws.heap.size _ _ _ xs [(k : Int)] (by rfl) (by rfl) HO1.out (IRd.one HLIT.out) HLM.out HB3.out.size ?_
                      intro v2 w2 ho2 hb2 hg2
                      have HB4 := Lib.hid (HB3.out.trans hb2)
                      clear hb2 hg2
                      refine hK.out _ _ (HSR.out _ HB4.out) (fun _ => ?_)
                      clear hK K
                      refine wpAnyH_ready (rs := [8]) (by kernel_rfl) (by simp) ?_
                      refine AllReadyH.cons (o := _) rfl (fun K hK => ?_) AllReadyH.nil
                      go_simp
                      refine (IH.out _ _ w2 HKK.out (IOwn.rd ho2)).mono ?_
                      rintro e w3 ⟨v3, rfl, hc3⟩
                      have HB5 := Lib.hid (HB4.out.trans (hc3.1.mono HB4.out.size))
                      have HR3 := Lib.hid hc3
                      clear hc3
                      refine hK.out _ _ (HSR.out _ HB5.out) (fun _ => ?_)
                      clear hK K
                      refine takeAt 9 15 (oi := _) (v := ?_) rfl rfl (by kernel_rfl) (by kernel_rfl) (by kernel_rfl) (fun _ _ _ h => h) (by rfl) ?_ (HSR.out _ HB5.out) ?_
                      rotate_left
                      · (intro w hSw; obtain ⟨c0, c1, c2, c3, c4, c5, c6, c7, c8, c9, c10, c11, c12⟩ := hSw; go_simp; try with_reducible rfl)
                      simp only [Act.put, List.setIfInBounds_toArray, List.set_cons_zero, List.set_cons_succ]
                      refine wpAnyH_done (by kernel_rfl) ?_ _
                      go_wp2_with fail
                      go_meet
                      exact ⟨HB5.out, HR3.out.2.1, HR3.out.2.2⟩
                    · go_simp
                      have HBc := Lib.hid (HBa.out.alloc HBa.out.size (.cells #[.int .i64 (k : Int)] 3))
                      have HOc := Lib.hid (IOwn.alloc HOE.out (.cells #[.int .i64 (k : Int)] 3))
                      have HLc : Hid (Lies ((WD.alloc (.cells #[] 3)).alloc (.cells #[.int .i64 (k : Int)] 3)) (WD.heap.size + 1) 3 #[.int .i64 (k : Int)]) := Lib.hid (by have h := Lies.new (WD.alloc (.cells #[] 3)) 3 #[.int .i64 (k : Int)]; rwa [World.size_alloc] at h)
                      refine hK.out _ _ (HSR.out _ HBc.out) (fun _ => ?_)
                      clear hK K
                      refine wpAnyH_ready (rs := [4]) (by kernel_rfl) (by simp) ?_
                      refine AllReadyH.cons (o := _) rfl (fun K hK => ?_) AllReadyH.nil
                      refine step_app_rd (by rfl) (.tmp 72) (.tmp 73) (by rfl) ws.heap.size w.heap.size _ _ [] xs (by rfl) (by rfl) HOc.out (HRD.out _ HBc.out) HLN.out HBc.out.size ?_
                      intro v1 w1 ho1 hb1 hg1
                      have HB3 := Lib.hid (HBc.out.trans hb1)
                      have HO1 := Lib.hid ho1
                      have HLIT := Lib.hid (Lies.grown HLc.out hg1 (by simp [Value.ownBlock]))
                      clear hb1 hg1 ho1
                      refine hK.out _ _ (HSR.out _ HB3.out) (fun _ => ?_)
                      clear hK K
                      refine wpAnyH_ready (rs := [7]) (by kernel_rfl) (by simp) ?_
                      refine AllReadyH.cons (o := _) rfl (fun K hK => ?_) AllReadyH.nil
                      refine step_app_rd (by rfl) (.tmp 74) (.tmp 76) (by rfl) ws.heap.size _ _ _ xs [(k : Int)] (by rfl) (by rfl) HO1.out (IRd.one HLIT.out) HLM.out HB3.out.size ?_
                      intro v2 w2 ho2 hb2 hg2
                      have HB4 := Lib.hid (HB3.out.trans hb2)
                      clear hb2 hg2
                      refine hK.out _ _ (HSR.out _ HB4.out) (fun _ => ?_)
                      clear hK K
                      refine wpAnyH_ready (rs := [8]) (by kernel_rfl) (by simp) ?_
                      refine AllReadyH.cons (o := _) rfl (fun K hK => ?_) AllReadyH.nil
                      go_simp
                      refine (IH.out _ _ w2 HKK.out (IOwn.rd ho2)).mono ?_
                      rintro e w3 ⟨v3, rfl, hc3⟩
                      have HB5 := Lib.hid (HB4.out.trans (hc3.1.mono HB4.out.size))
                      have HR3 := Lib.hid hc3
                      clear hc3
                      refine hK.out _ _ (HSR.out _ HB5.out) (fun _ => ?_)
                      clear hK K
                      refine takeAt 9 15 (oi := _) (v := ?_) rfl rfl (by kernel_rfl) (by kernel_rfl) (by kernel_rfl) (fun _ _ _ h => h) (by rfl) ?_ (HSR.out _ HB5.out) ?_
                      rotate_left
                      · (intro w hSw; obtain ⟨c0, c1, c2, c3, c4, c5, c6, c7, c8, c9, c10, c11, c12⟩ := hSw; go_simp; try with_reducible rfl)
                      simp only [Act.put, List.setIfInBounds_toArray, List.set_cons_zero, List.set_cons_succ]
                      refine wpAnyH_done (by kernel_rfl) ?_ _
                      go_wp2_with fail
                      go_meet
                      exact ⟨HB5.out, HR3.out.2.1, HR3.out.2.2⟩
                  · go_simp
                    have HBa := Lib.hid (HD.out.alloc HD.out.size (.cells #[.int .i64 (k : Int)] 3))
                    have HLa := Lib.hid (Lies.new WD 3 #[.int .i64 (k : Int)])
                    refine hK.out _ _ (HSR.out _ HBa.out) (fun _ => ?_)
                    clear hK K
                    refine wpAnyH_ready (rs := [2]) (by kernel_rfl) (by simp) ?_
                    refine AllReadyH.cons (o := _) rfl (fun K hK => ?_) AllReadyH.nil
                    go_simp
                    have HBc := Lib.hid (HBa.out.alloc HBa.out.size (.cells #[] 3))
                    have HOc : Hid (IOwn ((WD.alloc (.cells #[.int .i64 (k : Int)] 3)).alloc (.cells #[] 3)) ws.heap.size (.slice (some ⟨WD.heap.size + 1, 0, none⟩) 0 0) []) := Lib.hid (by have h := IOwn.empty (base := ws.heap.size) (Lies.new (WD.alloc (.cells #[.int .i64 (k : Int)] 3)) 3 #[]) HBa.out.size; rwa [World.size_alloc] at h)
                    have HLc := Lib.hid (Lies.alloc HLa.out (.cells #[] 3))
                    refine hK.out _ _ (HSR.out _ HBc.out) (fun _ => ?_)
                    clear hK K
                    refine wpAnyH_ready (rs := [4]) (by kernel_rfl) (by simp) ?_
                    refine AllReadyH.cons (o := _) rfl (fun K hK => ?_) AllReadyH.nil
                    refine step_app_rd (by rfl) (.tmp 72) (.tmp 73) (by rfl) ws.heap.size w.heap.size _ _ [] xs (by rfl) (by rfl) HOc.out (HRD.out _ HBc.out) HLN.out HBc.out.size ?_
                    intro v1 w1 ho1 hb1 hg1
                    have HB3 := Lib.hid (HBc.out.trans hb1)
                    have HO1 := Lib.hid ho1
                    have HLIT := Lib.hid (Lies.grown HLc.out hg1 (by simp [Value.ownBlock]))
                    clear hb1 hg1 ho1
                    refine hK.out _ _ (HSR.out _ HB3.out) (fun _ => ?_)
                    clear hK K
                    refine wpAnyH_ready (rs := [7]) (by kernel_rfl) (by simp) ?_
                    refine AllReadyH.cons (o := _) rfl (fun K hK => ?_) AllReadyH.nil
                    refine step_app_rd (by rfl) (.tmp 74) (.tmp 76) (by rfl) ws.heap.size _ _ _ xs [(k : Int)] (by rfl) (by rfl) HO1.out (IRd.one HLIT.out) HLM.out HB3.out.size ?_
                    intro v2 w2 ho2 hb2 hg2
                    have HB4 := Lib.hid (HB3.out.trans hb2)
                    clear hb2 hg2
                    refine hK.out _ _ (HSR.out _ HB4.out) (fun _ => ?_)
                    clear hK K
                    refine wpAnyH_ready (rs := [8]) (by kernel_rfl) (by simp) ?_
                    refine AllReadyH.cons (o := _) rfl (fun K hK => ?_) AllReadyH.nil
                    go_simp
                    refine (IH.out _ _ w2 HKK.out (IOwn.rd ho2)).mono ?_
                    rintro e w3 ⟨v3, rfl, hc3⟩
                    have HB5 := Lib.hid (HB4.out.trans (hc3.1.mono HB4.out.size))
                    have HR3 := Lib.hid hc3
                    clear hc3
                    refine hK.out _ _ (HSR.out _ HB5.out) (fun _ => ?_)
                    clear hK K
                    refine takeAt 9 15 (oi := _) (v := ?_) rfl rfl (by kernel_rfl) (by kernel_rfl) (by kernel_rfl) (fun _ _ _ h => h) (by rfl) ?_ (HSR.out _ HB5.out) ?_
                    rotate_left
                    · (intro w hSw; obtain ⟨c0, c1, c2, c3, c4, c5, c6, c7, c8, c9, c10, c11, c12⟩ := hSw; go_simp; try with_reducible rfl)
                    simp only [Act.put, List.setIfInBounds_toArray, List.set_cons_zero, List.set_cons_succ]
                    refine wpAnyH_done (by kernel_rfl) ?_ _
                    go_wp2_with fail
                    go_meet
                    exact ⟨HB5.out, HR3.out.2.1, HR3.out.2.2⟩
                case rest =>
                  obtain ⟨hb2, hs2, hn2⟩ := hcut
                  cases ho : goC (l ++ [k]) with
                  | none =>
                    have e := HE.out
                    rw [ho] at e
                    have HE' := Lib.hid e
                    have HN := Lib.hid (HR1.out.then_ hb2)
                    obtain rfl := hn2 ho
                    clear hs c1 c2 c3 c4 c5 c6 c7 c8 c9 c10 c11 c12 hb2 hs2 hn2 e ho
                    have hnn := nil_ne
                    go_wp2_with fail
                    go_roundw
                    case rel => exact ⟨k + 1, by omega, by go_num, HE'.out, HN.out⟩
                    case measure => simp [intOf]; omega
                  | some o =>
                    have e := HE.out
                    rw [ho] at e
                    have hrd := hs2 o ho
                    have hpos := HNE.out _ _ ho
                    obtain ⟨A2, p2, rfl, hc2⟩ := id hrd
                    obtain ⟨g2, rfl, _, _⟩ := hc2 (by rw [zs_len]; exact hpos)
                    have HN := Lib.hid (And.intro (HR1.out.below.trans (hb2.mono HR1.out.below.size)) hrd)
                    have HE' := Lib.hid e
                    clear hs c1 c2 c3 c4 c5 c6 c7 c8 c9 c10 c11 c12 hb2 hs2 hn2 e ho hrd hpos hc2
                    have hnn := some_ne
                    go_wp2_with fail
                    go_ret
                    exact ⟨_, rfl, HN.out.1, (fun l' h => by rw [← HE'.out] at h; injection h with h; subst h; exact HN.out.2), (fun h => by rw [← HE'.out] at h; cases h)⟩
        · obtain rfl : k = M := by omega
          rw [Nat.sub_self, tryC] at hT
          have HN := Lib.hid (And.intro hT hR)
          clear hT hR
          go_wp2_with fail
          go_ret
          exact ⟨_, rfl, HN.out.2.below, (fun l' h => by rw [← HN.out.1] at h; cases h), (fun _ => rfl)⟩
theorem col_any (n : Nat) (c rel : Nat → Nat) (hn : n ≤ 12) (hrl : ∀ i j, i < n → j < n → (rel i).testBit j = ((c i).testBit j || (c j).testBit i)) (K : Nat) (hK : K ≤ 12) : ∀ (t : Nat) (l : List Nat) (v : Value) (w : World), l.length + t = n → (∀ x, x ∈ l → x < 12) → IRd w w.heap.size v (zs l) →
    Calls Tryd.prog 21 #[relV n c, .int .i64 K, v] w fun e w' => ∃ v', e = .returned v' ∧ ColV w (colC rel K t l) v' w'
  | 0, l, v, w, hl, h12, hx => by
    have hzl := zs_len l
    obtain ⟨A0, cap, rfl, _⟩ := id hx
    obtain ⟨L, hL⟩ : ∃ L, L = (zs l).length := ⟨_, rfl⟩
    rw [← hL] at hx ⊢
    obtain rfl : n = L := by omega
    have heq : ((n : Int) == (n : Int)) = true := by simp
    have hR : RelB (w.alloc (.cells (relCs n c) 25)) w.heap.size n c := Lies.new _ _ _
    have hsz := hR.size
    have hb0 : Below w.heap.size w (w.alloc (.cells (relCs n c) 25)) := (Below.refl _ _).alloc (Nat.le_refl _) _
    have HX := Lib.hid (And.intro ((hx.below hb0).mono hb0.size) hb0)
    clear hx hR hb0 hL hzl hl
    go_enter Tryd.func21, Tryd.ntmps21
    go_wp2_with fail
    go_ret
    exact ⟨_, rfl, HX.out.2, (fun l' h => by rw [colC] at h; injection h with h; subst h; exact HX.out.1), (fun h => by rw [colC] at h; cases h)⟩
  | t + 1, l, v, w, hl, h12, hx =>
    col_step n c rel hn hrl K hK t l hl h12 (fun k u W hk hu => by
      refine col_any n c rel hn hrl K hK t (l ++ [k]) u W (by rw [List.length_append]; simp; omega) (fun x hx => ?_) (by rw [zs_snoc]; exact hu)
      rcases List.mem_append.1 hx with h | h
      · exact h12 x h
      · rw [List.mem_singleton] at h; omega) v w hx
end Go.Proofs.YtkfijolimoehmaaDoor
