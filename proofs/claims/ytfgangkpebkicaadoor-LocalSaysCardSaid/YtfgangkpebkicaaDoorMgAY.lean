/-
  Joined by a program out of: Ro.
-/
import Derived.Test.YtfgangkpebkicaaDoorMgAX

/-
  Contract of the reference's RightOrder.
-/
namespace Go.Proofs.YtfgangkpebkicaaDoor
open Go.RowKit
set_option maxRecDepth 20000
def RoPost (w : World) (ts : List Int) (cs : List Cl) (r : Nat → Nat) (ws : List (Int × Int)) (e : Ending) (w' : World) : Prop :=
  ∃ b : Bool, e = .returned (.bool b) ∧ (b = true ↔ RiteP ts cs (fun i j => (r i).testBit j) ws) ∧ Below w.heap.size w w'
set_option maxHeartbeats 16000000 in
theorem ro_any {tv cv sv : Value} {ts : List Int} {cs : List Cl} {ws : List (Int × Int)} {r : Nat → Nat} {w : World} (ht : NRd w w.heap.size tv ts) (hc : CRd w w.heap.size cv cs) (hw : SRd w w.heap.size sv ws)
    (hn : cs.length ≤ 12) (hirr : ∀ i, (r i).testBit i = false) (hty : ∀ t ∈ ts, 1 ≤ t ∧ t ≤ 5) (hth : ∀ c ∈ cs, 0 ≤ c.thing ∧ c.thing < ts.length) :
    Calls Tryd.prog 42 #[tv, cv, relV cs.length r, sv] w (RoPost w ts cs r ws) := by
  unfold RoPost
  obtain ⟨At, capt, rfl, ht1, ht2⟩ := ht.is
  obtain ⟨Ac, capc, rfl, hc1, hc2⟩ := hc.is
  obtain ⟨As, caps, rfl, hw1, hw2⟩ := hw.is
  unfold maxLen at ht2 hc2 hw2
  obtain ⟨tl, htl⟩ : ∃ tl, tl = ts.length := ⟨_, rfl⟩
  obtain ⟨n, hnn⟩ : ∃ n, n = cs.length := ⟨_, rfl⟩
  obtain ⟨M, hM⟩ : ∃ M, M = ws.length := ⟨_, rfl⟩
  have HT := Lib.hid (And.intro ht (And.intro hc hw))
  rw [← htl, ← hnn, ← hM] at HT
  rw [← htl] at ht1
  rw [← hnn] at hc1 hn
  rw [← hM] at hw1
  rw [← htl, ← hnn, ← hM]
  have HX := Lib.hid (And.intro hirr (And.intro hty hth))
  have HTL := Lib.hid htl
  have HNN := Lib.hid hnn
  have HMM := Lib.hid hM
  have hmk := made_ints n (n : Int) rfl (by omega) (w.alloc (.cells (relCs n r) 46))
  have hR0 : RoR w (w.heap.size + 1) n r (fun _ => 0) ((w.alloc (.cells (relCs n r) 46)).alloc (.cells (tabCs n fun _ => 0) 3)) := by
    refine ⟨((Below.refl _ _).alloc (Nat.le_refl _) _).alloc (by simp) _, Lies.alloc (Lies.new _ _ _) _, ?_, by omega⟩
    have := Lies.new (w.alloc (.cells (relCs n r) 46)) 3 (tabCs n fun _ => 0)
    rwa [World.size_alloc] at this
  have HR0 := Lib.hid hR0
  have i12 : n ≤ 12 := hn
  have w1 : (M : Int) ≤ 9223372036854775807 := by omega
  have w2 : (tl : Int) ≤ 9223372036854775807 := by omega
  clear ht hc hw htl hnn hM hR0 hirr hty hth ht1 ht2 hc1 hc2 hw1 hw2 hn
  go_enter Tryd.func42, Tryd.ntmps42
  go_wp2_with fail
  have hR1 := HR0.out
  clear HR0 hmk
  obtain ⟨G, hG⟩ : ∃ G, G = w.heap.size + 1 := ⟨_, rfl⟩
  rw [← hG] at hR1 ⊢
  clear hG
  generalize (w.alloc (.cells (relCs n r) 46)).alloc (.cells (tabCs n fun _ => 0) 3) = W0 at hR1 ⊢
  go_loopw [25] (fun t wr => ∃ (j : Nat) (f : Nat → Int), j ≤ n ∧ t = .int .i64 j ∧ (∀ k, k < j → f k = -1) ∧ RoR w G n r f wr) (fun t _ => n - (intOf t).toNat)
  case atStart => exact ⟨0, fun _ => 0, by omega, rfl, fun k hk => by omega, hR1⟩
  case round =>
    clear hR1
    obtain ⟨j, f, hj, rfl, hf, hR⟩ := hrel
    have HF := Lib.hid (And.intro hf hR)
    by_cases hjn : j < n
    · have i1 : (0 : Int) ≤ (j : Int) := by omega
      have i2 : (j : Int) < (n : Int) := by omega
      have d0 := hR.tab.cell hjn
      have hfz := hR.tab.free
      clear hf hR
      go_wp2_with fail
      go_roundw
      case rel => exact ⟨j + 1, _, by omega, by go_num, fun k hk => by
        by_cases e : k = j
        · exact if_pos e
        · rw [if_neg e]; exact HF.out.1 k (by omega), HF.out.2.set j (-1)⟩
      case measure => simp [intOf]; omega
    · obtain rfl : n = j := by omega
      have hA0 : AtOk cs.length ws 0 f := AtOk.zero _ _ (fun k hk => hf k (by rw [HNN.out]; exact hk))
      have HA0 := Lib.hid (And.intro hA0 hR)
      clear hf hR HF hA0
      obtain ⟨W1, rfl⟩ : ∃ W1, W1 = wr := ⟨_, rfl⟩
      go_wp2_with fail
      go_loopw [34] (fun t wr => ∃ (q : Nat) (f : Nat → Int), q ≤ M ∧ t = .int .i64 q ∧ PreOk cs ws q ∧ AtOk cs.length ws q f ∧ RoR w G n r f wr) (fun t _ => M - (intOf t).toNat)
      case atStart => exact ⟨0, f, by omega, rfl, PreOk.zero _ _, HA0.out.1, HA0.out.2⟩
      case round =>
        clear HA0
        obtain ⟨q, f, hq, rfl, hP, hA, hR⟩ := hrel
        have HP := Lib.hid (And.intro hP hA)
        by_cases hqM : q < M
        · obtain ⟨x, hx⟩ : ∃ x, ws[q]? = some x := ⟨_, List.getElem?_eq_getElem (by rw [← HMM.out]; exact hqM)⟩
          have hr := HT.out.2.2.below hR.below
          obtain ⟨g, o, rfl, -, d0, d1⟩ := hr.sp hx
          obtain ⟨x0, x1⟩ := x
          simp only at d0 d1
          have i1 : (0 : Int) ≤ (q : Int) := by omega
          have i2 : (q : Int) < (M : Int) := by omega
          have hwn : IntKind.i64.wrap ((n : Int) - 1) = (n : Int) - 1 := by rw [IntKind.wrap_i64]; omega
          have HXX := Lib.hid hx
          obtain ⟨W2, hW2⟩ : ∃ W2, W2 = wr.alloc (.cells #[.int .i64 x0, .int .i64 x1] 38) := ⟨_, rfl⟩
          obtain ⟨K, hK0⟩ : ∃ K, K = wr.heap.size := ⟨_, rfl⟩
          have hR2 : RoR w G n r f W2 := by rw [hW2]; exact hR.alloc _
          have hbx : Lies W2 K 38 #[.int .i64 x0, .int .i64 x1] := by rw [hW2, hK0]; exact Lies.new _ _ _
          have HR2 := Lib.hid hR2
          have HBX := Lib.hid hbx
          clear hP hA hR hr hx hR2 hbx
          by_cases hbt0 : 0 ≤ x0 ∧ x0 < (n : Int)
          · obtain ⟨k, rfl⟩ : ∃ k : Nat, x0 = (k : Int) := ⟨x0.toNat, by omega⟩
            have hkn : k < n := by omega
            have hkc : k < cs.length := by rw [← HNN.out]; exact hkn
            have hbt : btw 0 (k : Int) ((n : Int) - 1) = true := btw_iff.2 ⟨by omega, by omega⟩
            have hy := getD_some hkc
            have hrc := HT.out.2.1.below HR2.out.below
            obtain ⟨gc, oc, rfl, -, e0, e1, e2, e3, e4, e5, e6⟩ := hrc.cl hy
            obtain ⟨y4, hy4⟩ : ∃ y4, y4 = (cs.getD k default).res := ⟨_, rfl⟩
            obtain ⟨y6, hy6⟩ : ∃ y6, y6 = (cs.getD k default).til := ⟨_, rfl⟩
            rw [← hy4] at e4
            rw [← hy6] at e6
            have HSS := Lib.hid (show RoS K G k gc oc (k : Int) x1 (f k) y4 y6 W2 from ⟨Lies.cell HBX.out 0, Lies.cell HBX.out 1, HR2.out.tab.cell hkn, e4, e6⟩)
            have HY := Lib.hid (And.intro hy4 hy6)
            have i3 : (0 : Int) ≤ (k : Int) := by omega
            have i4 : (k : Int) < (n : Int) := by omega
            clear hy hrc e0 e1 e2 e3 e4 e5 e6 hy4 hy6 hbt0
            go_upto_region 10 with fail
            rw [← hW2, ← hK0]
            clear hW2 hK0 d0 d1
            by_cases hfk : 0 ≤ f k
            · have b1 : decide (0 ≤ f k) = true := decide_eq_true hfk
              go_wp2_with fail
              refine wp_region_held_drew (S := RoS K G k gc oc (k : Int) x1 (f k) y4 y6) (by kernel_rfl) HSS.out (fun hHeld => ?_)
              change wpAnyH _ _ _ _ _ 35 _ _ _
              clear hHeld
              have HSD := HSS
              have HRD := Lib.hid HR2.out.drew
              clear HSS
              have HSS := Lib.hid (show RoS K G k gc oc (k : Int) x1 (f k) y4 y6 W2.drew from HSD.out)
              clear HSD
              generalize W2.drew = WD at HSS HRD ⊢
              refine takeAt 0 39 (oi := _) (v := ?_) rfl rfl (by kernel_rfl) (by kernel_rfl) (by kernel_rfl) (fun _ _ _ h => h) (by rfl) ?_ (HSS.out) ?_
              rotate_left
              · (intro w hSw; obtain ⟨p0, p1, p2, p3, p4⟩ := hSw; go_simp; try with_reducible rfl)
              simp only [Act.put, List.setIfInBounds_toArray, List.set_cons_zero, List.set_cons_succ]
              refine takeAt 1 40 (oi := _) (v := ?_) rfl rfl (by kernel_rfl) (by kernel_rfl) (by kernel_rfl) (fun _ _ _ h => h) (by rfl) ?_ (HSS.out) ?_
              rotate_left
              · (intro w hSw; obtain ⟨p0, p1, p2, p3, p4⟩ := hSw; go_simp; try with_reducible rfl)
              simp only [Act.put, List.setIfInBounds_toArray, List.set_cons_zero, List.set_cons_succ]
              refine takeAt 2 41 (oi := _) (v := ?_) rfl rfl (by kernel_rfl) (by kernel_rfl) (by kernel_rfl) (fun _ _ _ h => h) (by rfl) ?_ (HSS.out) ?_
              rotate_left
              · (intro w hSw; obtain ⟨p0, p1, p2, p3, p4⟩ := hSw; go_simp; try with_reducible rfl)
              simp only [Act.put, List.setIfInBounds_toArray, List.set_cons_zero, List.set_cons_succ]
              refine takeAt 3 42 (oi := _) (v := ?_) rfl rfl (by kernel_rfl) (by kernel_rfl) (by kernel_rfl) (fun _ _ _ h => h) (by rfl) ?_ (HSS.out) ?_
              rotate_left
              · (intro w hSw; obtain ⟨p0, p1, p2, p3, p4⟩ := hSw; go_simp; try with_reducible rfl)
              simp only [Act.put, List.setIfInBounds_toArray, List.set_cons_zero, List.set_cons_succ]
              refine takeAt 4 43 (oi := _) (v := ?_) rfl rfl (by kernel_rfl) (by kernel_rfl) (by kernel_rfl) (fun _ _ _ h => h) (by rfl) ?_ (HSS.out) ?_
              rotate_left
              · (intro w hSw; obtain ⟨p0, p1, p2, p3, p4⟩ := hSw; go_simp; try with_reducible rfl)
              simp only [Act.put, List.setIfInBounds_toArray, List.set_cons_zero, List.set_cons_succ]
              refine wpAnyH_ready (rs := [5]) (by kernel_rfl) (by simp) ?_
              refine AllReadyH.cons (o := _) rfl (fun K hK => ?_) AllReadyH.nil
              go_simp
              refine (btwn_any (k : Int) 0 ((n : Int) - 1) WD).mono ?_
              rintro e w9 ⟨rfl, rfl⟩
              rw [hbt]
              refine hK.out _ _ HSS.out (fun _ => ?_)
              clear hK K
              refine takeAt 6 45 (oi := _) (v := ?_) rfl rfl (by kernel_rfl) (by kernel_rfl) (by kernel_rfl) (fun _ _ _ h => h) (by rfl) ?_ (HSS.out) ?_
              rotate_left
              · (intro w hSw; obtain ⟨p0, p1, p2, p3, p4⟩ := hSw; go_simp; try with_reducible rfl)
              simp only [Act.put, List.setIfInBounds_toArray, List.set_cons_zero, List.set_cons_succ]
              refine takeAt 7 46 (oi := _) (v := ?_) rfl rfl (by kernel_rfl) (by kernel_rfl) (by kernel_rfl) (fun _ _ _ h => h) (by rfl) ?_ (HSS.out) ?_
              rotate_left
              · (intro w hSw; obtain ⟨p0, p1, p2, p3, p4⟩ := hSw; go_simp; try with_reducible rfl)
              simp only [Act.put, List.setIfInBounds_toArray, List.set_cons_zero, List.set_cons_succ]
              refine takeAt 8 47 (oi := _) (v := ?_) rfl rfl (by kernel_rfl) (by kernel_rfl) (by kernel_rfl) (fun _ _ _ h => h) (by rfl) ?_ (HSS.out) ?_
              rotate_left
              · (intro w hSw; obtain ⟨p0, p1, p2, p3, p4⟩ := hSw; go_simp; try with_reducible rfl)
              simp only [Act.put, List.setIfInBounds_toArray, List.set_cons_zero, List.set_cons_succ]
              refine takeAt 9 48 (oi := _) (v := ?_) rfl rfl (by kernel_rfl) (by kernel_rfl) (by kernel_rfl) (fun _ _ _ h => h) (by rfl) ?_ (HSS.out) ?_
              rotate_left
              · (intro w hSw; obtain ⟨p0, p1, p2, p3, p4⟩ := hSw; go_simp; try with_reducible rfl)
              simp only [Act.put, List.setIfInBounds_toArray, List.set_cons_zero, List.set_cons_succ]
              refine takeAt 10 49 (oi := _) (v := ?_) rfl rfl (by kernel_rfl) (by kernel_rfl) (by kernel_rfl) (fun _ _ _ h => h) (by rfl) ?_ (HSS.out) ?_
              rotate_left
              · (intro w hSw; obtain ⟨p0, p1, p2, p3, p4⟩ := hSw; go_simp; try with_reducible rfl)
              simp only [Act.put, List.setIfInBounds_toArray, List.set_cons_zero, List.set_cons_succ]
              refine takeAt 11 50 (oi := _) (v := ?_) rfl rfl (by kernel_rfl) (by kernel_rfl) (by kernel_rfl) (fun _ _ _ h => h) (by rfl) ?_ (HSS.out) ?_
              rotate_left
              · (intro w hSw; obtain ⟨p0, p1, p2, p3, p4⟩ := hSw; go_simp; try with_reducible rfl)
              simp only [Act.put, List.setIfInBounds_toArray, List.set_cons_zero, List.set_cons_succ]
              refine takeAt 12 51 (oi := _) (v := ?_) rfl rfl (by kernel_rfl) (by kernel_rfl) (by kernel_rfl) (fun _ _ _ h => h) (by rfl) ?_ (HSS.out) ?_
              rotate_left
              · (intro w hSw; obtain ⟨p0, p1, p2, p3, p4⟩ := hSw; go_simp; try with_reducible rfl)
              simp only [Act.put, List.setIfInBounds_toArray, List.set_cons_zero, List.set_cons_succ]
              refine takeAt 13 52 (oi := _) (v := ?_) rfl rfl (by kernel_rfl) (by kernel_rfl) (by kernel_rfl) (fun _ _ _ h => h) (by rfl) ?_ (HSS.out) ?_
              rotate_left
              · (intro w hSw; obtain ⟨p0, p1, p2, p3, p4⟩ := hSw; go_simp; try with_reducible rfl)
              simp only [Act.put, List.setIfInBounds_toArray, List.set_cons_zero, List.set_cons_succ]
              refine takeAt 14 53 (oi := _) (v := ?_) rfl rfl (by kernel_rfl) (by kernel_rfl) (by kernel_rfl) (fun _ _ _ h => h) (by rfl) ?_ (HSS.out) ?_
              rotate_left
              · (intro w hSw; obtain ⟨p0, p1, p2, p3, p4⟩ := hSw; go_simp; try with_reducible rfl)
              simp only [Act.put, List.setIfInBounds_toArray, List.set_cons_zero, List.set_cons_succ]
              refine takeAt 15 54 (oi := _) (v := ?_) rfl rfl (by kernel_rfl) (by kernel_rfl) (by kernel_rfl) (fun _ _ _ h => h) (by rfl) ?_ (HSS.out) ?_
              rotate_left
              · (intro w hSw; obtain ⟨p0, p1, p2, p3, p4⟩ := hSw; go_simp; try with_reducible rfl)
              simp only [Act.put, List.setIfInBounds_toArray, List.set_cons_zero, List.set_cons_succ]
              refine skipAt 16 55 (oi := _) rfl rfl (by kernel_rfl) (by kernel_rfl) (by kernel_rfl) (fun _ _ _ h => h) (by rfl) (HSS.out) ?_
              simp only [Act.put, List.setIfInBounds_toArray, List.set_cons_zero, List.set_cons_succ]
              refine skipAt 17 56 (oi := _) rfl rfl (by kernel_rfl) (by kernel_rfl) (by kernel_rfl) (fun _ _ _ h => h) (by rfl) (HSS.out) ?_
              simp only [Act.put, List.setIfInBounds_toArray, List.set_cons_zero, List.set_cons_succ]
              refine skipAt 18 57 (oi := _) rfl rfl (by kernel_rfl) (by kernel_rfl) (by kernel_rfl) (fun _ _ _ h => h) (by rfl) (HSS.out) ?_
              simp only [Act.put, List.setIfInBounds_toArray, List.set_cons_zero, List.set_cons_succ]
              refine skipAt 19 58 (oi := _) rfl rfl (by kernel_rfl) (by kernel_rfl) (by kernel_rfl) (fun _ _ _ h => h) (by rfl) (HSS.out) ?_
              simp only [Act.put, List.setIfInBounds_toArray, List.set_cons_zero, List.set_cons_succ]
              refine skipAt 20 59 (oi := _) rfl rfl (by kernel_rfl) (by kernel_rfl) (by kernel_rfl) (fun _ _ _ h => h) (by rfl) (HSS.out) ?_
              simp only [Act.put, List.setIfInBounds_toArray, List.set_cons_zero, List.set_cons_succ]
              refine skipAt 21 60 (oi := _) rfl rfl (by kernel_rfl) (by kernel_rfl) (by kernel_rfl) (fun _ _ _ h => h) (by rfl) (HSS.out) ?_
              simp only [Act.put, List.setIfInBounds_toArray, List.set_cons_zero, List.set_cons_succ]
              refine skipAt 22 61 (oi := _) rfl rfl (by kernel_rfl) (by kernel_rfl) (by kernel_rfl) (fun _ _ _ h => h) (by rfl) (HSS.out) ?_
              simp only [Act.put, List.setIfInBounds_toArray, List.set_cons_zero, List.set_cons_succ]
              refine skipAt 23 62 (oi := _) rfl rfl (by kernel_rfl) (by kernel_rfl) (by kernel_rfl) (fun _ _ _ h => h) (by rfl) (HSS.out) ?_
              simp only [Act.put, List.setIfInBounds_toArray, List.set_cons_zero, List.set_cons_succ]
              refine skipAt 24 63 (oi := _) rfl rfl (by kernel_rfl) (by kernel_rfl) (by kernel_rfl) (fun _ _ _ h => h) (by rfl) (HSS.out) ?_
              simp only [Act.put, List.setIfInBounds_toArray, List.set_cons_zero, List.set_cons_succ]
              refine skipAt 25 64 (oi := _) rfl rfl (by kernel_rfl) (by kernel_rfl) (by kernel_rfl) (fun _ _ _ h => h) (by rfl) (HSS.out) ?_
              simp only [Act.put, List.setIfInBounds_toArray, List.set_cons_zero, List.set_cons_succ]
              refine skipAt 26 65 (oi := _) rfl rfl (by kernel_rfl) (by kernel_rfl) (by kernel_rfl) (fun _ _ _ h => h) (by rfl) (HSS.out) ?_
              simp only [Act.put, List.setIfInBounds_toArray, List.set_cons_zero, List.set_cons_succ]
              refine skipAt 27 66 (oi := _) rfl rfl (by kernel_rfl) (by kernel_rfl) (by kernel_rfl) (fun _ _ _ h => h) (by rfl) (HSS.out) ?_
              simp only [Act.put, List.setIfInBounds_toArray, List.set_cons_zero, List.set_cons_succ]
              refine skipAt 28 67 (oi := _) rfl rfl (by kernel_rfl) (by kernel_rfl) (by kernel_rfl) (fun _ _ _ h => h) (by rfl) (HSS.out) ?_
              simp only [Act.put, List.setIfInBounds_toArray, List.set_cons_zero, List.set_cons_succ]
              refine skipAt 29 68 (oi := _) rfl rfl (by kernel_rfl) (by kernel_rfl) (by kernel_rfl) (fun _ _ _ h => h) (by rfl) (HSS.out) ?_
              simp only [Act.put, List.setIfInBounds_toArray, List.set_cons_zero, List.set_cons_succ]
              refine skipAt 30 69 (oi := _) rfl rfl (by kernel_rfl) (by kernel_rfl) (by kernel_rfl) (fun _ _ _ h => h) (by rfl) (HSS.out) ?_
              simp only [Act.put, List.setIfInBounds_toArray, List.set_cons_zero, List.set_cons_succ]
              refine skipAt 31 70 (oi := _) rfl rfl (by kernel_rfl) (by kernel_rfl) (by kernel_rfl) (fun _ _ _ h => h) (by rfl) (HSS.out) ?_
              simp only [Act.put, List.setIfInBounds_toArray, List.set_cons_zero, List.set_cons_succ]
              refine skipAt 32 71 (oi := _) rfl rfl (by kernel_rfl) (by kernel_rfl) (by kernel_rfl) (fun _ _ _ h => h) (by rfl) (HSS.out) ?_
              simp only [Act.put, List.setIfInBounds_toArray, List.set_cons_zero, List.set_cons_succ]
              refine skipAt 33 72 (oi := _) rfl rfl (by kernel_rfl) (by kernel_rfl) (by kernel_rfl) (fun _ _ _ h => h) (by rfl) (HSS.out) ?_
              simp only [Act.put, List.setIfInBounds_toArray, List.set_cons_zero, List.set_cons_succ]
              refine takeAt 34 73 (oi := _) (v := ?_) rfl rfl (by kernel_rfl) (by kernel_rfl) (by kernel_rfl) (fun _ _ _ h => h) (by rfl) ?_ (HSS.out) ?_
              rotate_left
              · (intro w hSw; obtain ⟨p0, p1, p2, p3, p4⟩ := hSw; go_simp; try with_reducible rfl)
              simp only [Act.put, List.setIfInBounds_toArray, List.set_cons_zero, List.set_cons_succ]
              refine wpAnyH_done (by kernel_rfl) ?_ _
              go_wp2_with fail
              go_ret
              exact ⟨false, rfl, ⟨fun h => (by cases h), fun h => absurd h (not_rite1 (p := fun i j => (r i).testBit j) HP.out.2 HXX.out (.inr ⟨⟨by simp only; omega, by simp only; omega⟩, .inl (by simpa using hfk)⟩))⟩, HRD.out.below⟩
            · have b1 : decide (0 ≤ f k) = false := decide_eq_false hfk
              by_cases hz : y6 = -1
              · have b2 : (y6 != -1) = false := by rw [bne_eq_false_iff_eq]; exact hz
                have hgood : (atC cs ((k : Int), x1)).til ≠ -1 → (atC cs ((k : Int), x1)).res = x1 := fun h => absurd (HY.out.2.symm.trans hz) (by have h9 : (cs.getD ((k : Int)).toNat default).til ≠ -1 := h; rwa [Int.toNat_natCast] at h9)
                go_wp2_with fail
                refine wp_region_held_drew (S := RoS K G k gc oc (k : Int) x1 (f k) y4 y6) (by kernel_rfl) HSS.out (fun hHeld => ?_)
                change wpAnyH _ _ _ _ _ 35 _ _ _
                clear hHeld
                have HSD := HSS
                have HRD := Lib.hid HR2.out.drew
                clear HSS
                have HSS := Lib.hid (show RoS K G k gc oc (k : Int) x1 (f k) y4 y6 W2.drew from HSD.out)
                clear HSD
                generalize W2.drew = WD at HSS HRD ⊢
                refine takeAt 0 39 (oi := _) (v := ?_) rfl rfl (by kernel_rfl) (by kernel_rfl) (by kernel_rfl) (fun _ _ _ h => h) (by rfl) ?_ (HSS.out) ?_
                rotate_left
                · (intro w hSw; obtain ⟨p0, p1, p2, p3, p4⟩ := hSw; go_simp; try with_reducible rfl)
                simp only [Act.put, List.setIfInBounds_toArray, List.set_cons_zero, List.set_cons_succ]
                refine takeAt 1 40 (oi := _) (v := ?_) rfl rfl (by kernel_rfl) (by kernel_rfl) (by kernel_rfl) (fun _ _ _ h => h) (by rfl) ?_ (HSS.out) ?_
                rotate_left
                · (intro w hSw; obtain ⟨p0, p1, p2, p3, p4⟩ := hSw; go_simp; try with_reducible rfl)
                simp only [Act.put, List.setIfInBounds_toArray, List.set_cons_zero, List.set_cons_succ]
                refine takeAt 2 41 (oi := _) (v := ?_) rfl rfl (by kernel_rfl) (by kernel_rfl) (by kernel_rfl) (fun _ _ _ h => h) (by rfl) ?_ (HSS.out) ?_
                rotate_left
                · (intro w hSw; obtain ⟨p0, p1, p2, p3, p4⟩ := hSw; go_simp; try with_reducible rfl)
                simp only [Act.put, List.setIfInBounds_toArray, List.set_cons_zero, List.set_cons_succ]
                refine takeAt 3 42 (oi := _) (v := ?_) rfl rfl (by kernel_rfl) (by kernel_rfl) (by kernel_rfl) (fun _ _ _ h => h) (by rfl) ?_ (HSS.out) ?_
                rotate_left
                · (intro w hSw; obtain ⟨p0, p1, p2, p3, p4⟩ := hSw; go_simp; try with_reducible rfl)
                simp only [Act.put, List.setIfInBounds_toArray, List.set_cons_zero, List.set_cons_succ]
                refine takeAt 4 43 (oi := _) (v := ?_) rfl rfl (by kernel_rfl) (by kernel_rfl) (by kernel_rfl) (fun _ _ _ h => h) (by rfl) ?_ (HSS.out) ?_
                rotate_left
                · (intro w hSw; obtain ⟨p0, p1, p2, p3, p4⟩ := hSw; go_simp; try with_reducible rfl)
                simp only [Act.put, List.setIfInBounds_toArray, List.set_cons_zero, List.set_cons_succ]
                refine wpAnyH_ready (rs := [5]) (by kernel_rfl) (by simp) ?_
                refine AllReadyH.cons (o := _) rfl (fun K hK => ?_) AllReadyH.nil
                go_simp
                refine (btwn_any (k : Int) 0 ((n : Int) - 1) WD).mono ?_
                rintro e w9 ⟨rfl, rfl⟩
                rw [hbt]
                refine hK.out _ _ HSS.out (fun _ => ?_)
                clear hK K
                refine takeAt 6 45 (oi := _) (v := ?_) rfl rfl (by kernel_rfl) (by kernel_rfl) (by kernel_rfl) (fun _ _ _ h => h) (by rfl) ?_ (HSS.out) ?_
                rotate_left
                · (intro w hSw; obtain ⟨p0, p1, p2, p3, p4⟩ := hSw; go_simp; try with_reducible rfl)
                simp only [Act.put, List.setIfInBounds_toArray, List.set_cons_zero, List.set_cons_succ]
                refine takeAt 7 46 (oi := _) (v := ?_) rfl rfl (by kernel_rfl) (by kernel_rfl) (by kernel_rfl) (fun _ _ _ h => h) (by rfl) ?_ (HSS.out) ?_
                rotate_left
                · (intro w hSw; obtain ⟨p0, p1, p2, p3, p4⟩ := hSw; go_simp; try with_reducible rfl)
                simp only [Act.put, List.setIfInBounds_toArray, List.set_cons_zero, List.set_cons_succ]
                refine takeAt 8 47 (oi := _) (v := ?_) rfl rfl (by kernel_rfl) (by kernel_rfl) (by kernel_rfl) (fun _ _ _ h => h) (by rfl) ?_ (HSS.out) ?_
                rotate_left
                · (intro w hSw; obtain ⟨p0, p1, p2, p3, p4⟩ := hSw; go_simp; try with_reducible rfl)
                simp only [Act.put, List.setIfInBounds_toArray, List.set_cons_zero, List.set_cons_succ]
                refine takeAt 9 48 (oi := _) (v := ?_) rfl rfl (by kernel_rfl) (by kernel_rfl) (by kernel_rfl) (fun _ _ _ h => h) (by rfl) ?_ (HSS.out) ?_
                rotate_left
                · (intro w hSw; obtain ⟨p0, p1, p2, p3, p4⟩ := hSw; go_simp; try with_reducible rfl)
                simp only [Act.put, List.setIfInBounds_toArray, List.set_cons_zero, List.set_cons_succ]
                refine takeAt 10 49 (oi := _) (v := ?_) rfl rfl (by kernel_rfl) (by kernel_rfl) (by kernel_rfl) (fun _ _ _ h => h) (by rfl) ?_ (HSS.out) ?_
                rotate_left
                · (intro w hSw; obtain ⟨p0, p1, p2, p3, p4⟩ := hSw; go_simp; try with_reducible rfl)
                simp only [Act.put, List.setIfInBounds_toArray, List.set_cons_zero, List.set_cons_succ]
                refine takeAt 11 50 (oi := _) (v := ?_) rfl rfl (by kernel_rfl) (by kernel_rfl) (by kernel_rfl) (fun _ _ _ h => h) (by rfl) ?_ (HSS.out) ?_
                rotate_left
                · (intro w hSw; obtain ⟨p0, p1, p2, p3, p4⟩ := hSw; go_simp; try with_reducible rfl)
                simp only [Act.put, List.setIfInBounds_toArray, List.set_cons_zero, List.set_cons_succ]
                refine takeAt 12 51 (oi := _) (v := ?_) rfl rfl (by kernel_rfl) (by kernel_rfl) (by kernel_rfl) (fun _ _ _ h => h) (by rfl) ?_ (HSS.out) ?_
                rotate_left
                · (intro w hSw; obtain ⟨p0, p1, p2, p3, p4⟩ := hSw; go_simp; try with_reducible rfl)
                simp only [Act.put, List.setIfInBounds_toArray, List.set_cons_zero, List.set_cons_succ]
                refine takeAt 13 52 (oi := _) (v := ?_) rfl rfl (by kernel_rfl) (by kernel_rfl) (by kernel_rfl) (fun _ _ _ h => h) (by rfl) ?_ (HSS.out) ?_
                rotate_left
                · (intro w hSw; obtain ⟨p0, p1, p2, p3, p4⟩ := hSw; go_simp; try with_reducible rfl)
                simp only [Act.put, List.setIfInBounds_toArray, List.set_cons_zero, List.set_cons_succ]
                refine takeAt 14 53 (oi := _) (v := ?_) rfl rfl (by kernel_rfl) (by kernel_rfl) (by kernel_rfl) (fun _ _ _ h => h) (by rfl) ?_ (HSS.out) ?_
                rotate_left
                · (intro w hSw; obtain ⟨p0, p1, p2, p3, p4⟩ := hSw; go_simp; try with_reducible rfl)
                simp only [Act.put, List.setIfInBounds_toArray, List.set_cons_zero, List.set_cons_succ]
                refine takeAt 15 54 (oi := _) (v := ?_) rfl rfl (by kernel_rfl) (by kernel_rfl) (by kernel_rfl) (fun _ _ _ h => h) (by rfl) ?_ (HSS.out) ?_
                rotate_left
                · (intro w hSw; obtain ⟨p0, p1, p2, p3, p4⟩ := hSw; go_simp; try with_reducible rfl)
                simp only [Act.put, List.setIfInBounds_toArray, List.set_cons_zero, List.set_cons_succ]
                refine takeAt 16 55 (oi := _) (v := ?_) rfl rfl (by kernel_rfl) (by kernel_rfl) (by kernel_rfl) (fun _ _ _ h => h) (by rfl) ?_ (HSS.out) ?_
                rotate_left
                · (intro w hSw; obtain ⟨p0, p1, p2, p3, p4⟩ := hSw; go_simp; try with_reducible rfl)
                simp only [Act.put, List.setIfInBounds_toArray, List.set_cons_zero, List.set_cons_succ]
                refine takeAt 17 56 (oi := _) (v := ?_) rfl rfl (by kernel_rfl) (by kernel_rfl) (by kernel_rfl) (fun _ _ _ h => h) (by rfl) ?_ (HSS.out) ?_
                rotate_left
                · (intro w hSw; obtain ⟨p0, p1, p2, p3, p4⟩ := hSw; go_simp; try with_reducible rfl)
                simp only [Act.put, List.setIfInBounds_toArray, List.set_cons_zero, List.set_cons_succ]
                refine takeAt 18 57 (oi := _) (v := ?_) rfl rfl (by kernel_rfl) (by kernel_rfl) (by kernel_rfl) (fun _ _ _ h => h) (by rfl) ?_ (HSS.out) ?_
                rotate_left
                · (intro w hSw; obtain ⟨p0, p1, p2, p3, p4⟩ := hSw; go_simp; try with_reducible rfl)
                simp only [Act.put, List.setIfInBounds_toArray, List.set_cons_zero, List.set_cons_succ]
                refine takeAt 19 58 (oi := _) (v := ?_) rfl rfl (by kernel_rfl) (by kernel_rfl) (by kernel_rfl) (fun _ _ _ h => h) (by rfl) ?_ (HSS.out) ?_
                rotate_left
                · (intro w hSw; obtain ⟨p0, p1, p2, p3, p4⟩ := hSw; go_simp; try with_reducible rfl)
                simp only [Act.put, List.setIfInBounds_toArray, List.set_cons_zero, List.set_cons_succ]
                refine takeAt 20 59 (oi := _) (v := ?_) rfl rfl (by kernel_rfl) (by kernel_rfl) (by kernel_rfl) (fun _ _ _ h => h) (by rfl) ?_ (HSS.out) ?_
                rotate_left
                · (intro w hSw; obtain ⟨p0, p1, p2, p3, p4⟩ := hSw; go_simp; try with_reducible rfl)
                simp only [Act.put, List.setIfInBounds_toArray, List.set_cons_zero, List.set_cons_succ]
                refine takeAt 21 60 (oi := _) (v := ?_) rfl rfl (by kernel_rfl) (by kernel_rfl) (by kernel_rfl) (fun _ _ _ h => h) (by rfl) ?_ (HSS.out) ?_
                rotate_left
                · (intro w hSw; obtain ⟨p0, p1, p2, p3, p4⟩ := hSw; go_simp; try with_reducible rfl)
                simp only [Act.put, List.setIfInBounds_toArray, List.set_cons_zero, List.set_cons_succ]
                refine takeAt 22 61 (oi := _) (v := ?_) rfl rfl (by kernel_rfl) (by kernel_rfl) (by kernel_rfl) (fun _ _ _ h => h) (by rfl) ?_ (HSS.out) ?_
                rotate_left
                · (intro w hSw; obtain ⟨p0, p1, p2, p3, p4⟩ := hSw; go_simp; try with_reducible rfl)
                simp only [Act.put, List.setIfInBounds_toArray, List.set_cons_zero, List.set_cons_succ]
                refine takeAt 23 62 (oi := _) (v := ?_) rfl rfl (by kernel_rfl) (by kernel_rfl) (by kernel_rfl) (fun _ _ _ h => h) (by rfl) ?_ (HSS.out) ?_
                rotate_left
                · (intro w hSw; obtain ⟨p0, p1, p2, p3, p4⟩ := hSw; go_simp; try with_reducible rfl)
                simp only [Act.put, List.setIfInBounds_toArray, List.set_cons_zero, List.set_cons_succ]
                refine skipAt 24 63 (oi := _) rfl rfl (by kernel_rfl) (by kernel_rfl) (by kernel_rfl) (fun _ _ _ h => h) (by rfl) (HSS.out) ?_
                simp only [Act.put, List.setIfInBounds_toArray, List.set_cons_zero, List.set_cons_succ]
                refine skipAt 25 64 (oi := _) rfl rfl (by kernel_rfl) (by kernel_rfl) (by kernel_rfl) (fun _ _ _ h => h) (by rfl) (HSS.out) ?_
                simp only [Act.put, List.setIfInBounds_toArray, List.set_cons_zero, List.set_cons_succ]
                refine skipAt 26 65 (oi := _) rfl rfl (by kernel_rfl) (by kernel_rfl) (by kernel_rfl) (fun _ _ _ h => h) (by rfl) (HSS.out) ?_
                simp only [Act.put, List.setIfInBounds_toArray, List.set_cons_zero, List.set_cons_succ]
                refine skipAt 27 66 (oi := _) rfl rfl (by kernel_rfl) (by kernel_rfl) (by kernel_rfl) (fun _ _ _ h => h) (by rfl) (HSS.out) ?_
                simp only [Act.put, List.setIfInBounds_toArray, List.set_cons_zero, List.set_cons_succ]
                refine skipAt 28 67 (oi := _) rfl rfl (by kernel_rfl) (by kernel_rfl) (by kernel_rfl) (fun _ _ _ h => h) (by rfl) (HSS.out) ?_
                simp only [Act.put, List.setIfInBounds_toArray, List.set_cons_zero, List.set_cons_succ]
                refine skipAt 29 68 (oi := _) rfl rfl (by kernel_rfl) (by kernel_rfl) (by kernel_rfl) (fun _ _ _ h => h) (by rfl) (HSS.out) ?_
                simp only [Act.put, List.setIfInBounds_toArray, List.set_cons_zero, List.set_cons_succ]
                refine skipAt 30 69 (oi := _) rfl rfl (by kernel_rfl) (by kernel_rfl) (by kernel_rfl) (fun _ _ _ h => h) (by rfl) (HSS.out) ?_
                simp only [Act.put, List.setIfInBounds_toArray, List.set_cons_zero, List.set_cons_succ]
                refine skipAt 31 70 (oi := _) rfl rfl (by kernel_rfl) (by kernel_rfl) (by kernel_rfl) (fun _ _ _ h => h) (by rfl) (HSS.out) ?_
                simp only [Act.put, List.setIfInBounds_toArray, List.set_cons_zero, List.set_cons_succ]
                refine skipAt 32 71 (oi := _) rfl rfl (by kernel_rfl) (by kernel_rfl) (by kernel_rfl) (fun _ _ _ h => h) (by rfl) (HSS.out) ?_
                simp only [Act.put, List.setIfInBounds_toArray, List.set_cons_zero, List.set_cons_succ]
                refine takeAt 33 72 (oi := _) (v := ?_) rfl rfl (by kernel_rfl) (by kernel_rfl) (by kernel_rfl) (fun _ _ _ h => h) (by rfl) ?_ (HSS.out) ?_
                rotate_left
                · (intro w hSw; obtain ⟨p0, p1, p2, p3, p4⟩ := hSw; go_simp; try with_reducible rfl)
                simp only [Act.put, List.setIfInBounds_toArray, List.set_cons_zero, List.set_cons_succ]
                refine takeAt 34 73 (oi := _) (v := ?_) rfl rfl (by kernel_rfl) (by kernel_rfl) (by kernel_rfl) (fun _ _ _ h => h) (by rfl) ?_ (HSS.out) ?_
                rotate_left
                · (intro w hSw; obtain ⟨p0, p1, p2, p3, p4⟩ := hSw; go_simp; try with_reducible rfl)
                simp only [Act.put, List.setIfInBounds_toArray, List.set_cons_zero, List.set_cons_succ]
                refine wpAnyH_done (by kernel_rfl) ?_ _
                obtain ⟨s0, s1, s2, s3, s4⟩ := HSS.out
                have hfz := HRD.out.tab.free
                have HGD := Lib.hid hgood
                have HFK := Lib.hid hfk
                clear hgood
                go_wp2_with fail
                go_roundw
                case rel =>
                  refine ⟨q + 1, _, by omega, by go_num, HP.out.1.succ HP.out.2 HXX.out ⟨by simp only; omega, by simp only; omega⟩ (by simp only [Int.toNat_natCast]; omega) HGD.out, ?_, HRD.out.set k (q : Int)⟩
                  have h9 := HP.out.2.succ HXX.out ⟨by simp only; omega, by simp only; omega⟩
                  simp only [Int.toNat_natCast] at h9
                  exact h9
                case measure => simp [intOf]; omega
              · have b2 : (y6 != -1) = true := by rw [bne_iff_ne]; exact hz
                by_cases hre : y4 = x1
                · have b3 : (y4 != x1) = false := by rw [bne_eq_false_iff_eq]; exact hre
                  have hgood : (atC cs ((k : Int), x1)).til ≠ -1 → (atC cs ((k : Int), x1)).res = x1 := fun _ => (show (cs.getD ((k : Int)).toNat default).res = x1 by rw [Int.toNat_natCast, ← HY.out.1]; exact hre)
                  go_wp2_with fail
                  refine wp_region_held_drew (S := RoS K G k gc oc (k : Int) x1 (f k) y4 y6) (by kernel_rfl) HSS.out (fun hHeld => ?_)
                  change wpAnyH _ _ _ _ _ 35 _ _ _
                  clear hHeld
                  have HSD := HSS
                  have HRD := Lib.hid HR2.out.drew
                  clear HSS
                  have HSS := Lib.hid (show RoS K G k gc oc (k : Int) x1 (f k) y4 y6 W2.drew from HSD.out)
                  clear HSD
                  generalize W2.drew = WD at HSS HRD ⊢
                  refine takeAt 0 39 (oi := _) (v := ?_) rfl rfl (by kernel_rfl) (by kernel_rfl) (by kernel_rfl) (fun _ _ _ h => h) (by rfl) ?_ (HSS.out) ?_
                  rotate_left
                  · (intro w hSw; obtain ⟨p0, p1, p2, p3, p4⟩ := hSw; go_simp; try with_reducible rfl)
                  simp only [Act.put, List.setIfInBounds_toArray, List.set_cons_zero, List.set_cons_succ]
                  refine takeAt 1 40 (oi := _) (v := ?_) rfl rfl (by kernel_rfl) (by kernel_rfl) (by kernel_rfl) (fun _ _ _ h => h) (by rfl) ?_ (HSS.out) ?_
                  rotate_left
                  · (intro w hSw; obtain ⟨p0, p1, p2, p3, p4⟩ := hSw; go_simp; try with_reducible rfl)
                  simp only [Act.put, List.setIfInBounds_toArray, List.set_cons_zero, List.set_cons_succ]
                  refine takeAt 2 41 (oi := _) (v := ?_) rfl rfl (by kernel_rfl) (by kernel_rfl) (by kernel_rfl) (fun _ _ _ h => h) (by rfl) ?_ (HSS.out) ?_
                  rotate_left
                  · (intro w hSw; obtain ⟨p0, p1, p2, p3, p4⟩ := hSw; go_simp; try with_reducible rfl)
                  simp only [Act.put, List.setIfInBounds_toArray, List.set_cons_zero, List.set_cons_succ]
                  refine takeAt 3 42 (oi := _) (v := ?_) rfl rfl (by kernel_rfl) (by kernel_rfl) (by kernel_rfl) (fun _ _ _ h => h) (by rfl) ?_ (HSS.out) ?_
                  rotate_left
                  · (intro w hSw; obtain ⟨p0, p1, p2, p3, p4⟩ := hSw; go_simp; try with_reducible rfl)
                  simp only [Act.put, List.setIfInBounds_toArray, List.set_cons_zero, List.set_cons_succ]
                  refine takeAt 4 43 (oi := _) (v := ?_) rfl rfl (by kernel_rfl) (by kernel_rfl) (by kernel_rfl) (fun _ _ _ h => h) (by rfl) ?_ (HSS.out) ?_
                  rotate_left
                  · (intro w hSw; obtain ⟨p0, p1, p2, p3, p4⟩ := hSw; go_simp; try with_reducible rfl)
                  simp only [Act.put, List.setIfInBounds_toArray, List.set_cons_zero, List.set_cons_succ]
                  refine wpAnyH_ready (rs := [5]) (by kernel_rfl) (by simp) ?_
                  refine AllReadyH.cons (o := _) rfl (fun K hK => ?_) AllReadyH.nil
                  go_simp
                  refine (btwn_any (k : Int) 0 ((n : Int) - 1) WD).mono ?_
                  rintro e w9 ⟨rfl, rfl⟩
                  rw [hbt]
                  refine hK.out _ _ HSS.out (fun _ => ?_)
                  clear hK K
                  refine takeAt 6 45 (oi := _) (v := ?_) rfl rfl (by kernel_rfl) (by kernel_rfl) (by kernel_rfl) (fun _ _ _ h => h) (by rfl) ?_ (HSS.out) ?_
                  rotate_left
                  · (intro w hSw; obtain ⟨p0, p1, p2, p3, p4⟩ := hSw; go_simp; try with_reducible rfl)
                  simp only [Act.put, List.setIfInBounds_toArray, List.set_cons_zero, List.set_cons_succ]
                  refine takeAt 7 46 (oi := _) (v := ?_) rfl rfl (by kernel_rfl) (by kernel_rfl) (by kernel_rfl) (fun _ _ _ h => h) (by rfl) ?_ (HSS.out) ?_
                  rotate_left
                  · (intro w hSw; obtain ⟨p0, p1, p2, p3, p4⟩ := hSw; go_simp; try with_reducible rfl)
                  simp only [Act.put, List.setIfInBounds_toArray, List.set_cons_zero, List.set_cons_succ]
                  refine takeAt 8 47 (oi := _) (v := ?_) rfl rfl (by kernel_rfl) (by kernel_rfl) (by kernel_rfl) (fun _ _ _ h => h) (by rfl) ?_ (HSS.out) ?_
                  rotate_left
                  · (intro w hSw; obtain ⟨p0, p1, p2, p3, p4⟩ := hSw; go_simp; try with_reducible rfl)
                  simp only [Act.put, List.setIfInBounds_toArray, List.set_cons_zero, List.set_cons_succ]
                  refine takeAt 9 48 (oi := _) (v := ?_) rfl rfl (by kernel_rfl) (by kernel_rfl) (by kernel_rfl) (fun _ _ _ h => h) (by rfl) ?_ (HSS.out) ?_
                  rotate_left
                  · (intro w hSw; obtain ⟨p0, p1, p2, p3, p4⟩ := hSw; go_simp; try with_reducible rfl)
                  simp only [Act.put, List.setIfInBounds_toArray, List.set_cons_zero, List.set_cons_succ]
                  refine takeAt 10 49 (oi := _) (v := ?_) rfl rfl (by kernel_rfl) (by kernel_rfl) (by kernel_rfl) (fun _ _ _ h => h) (by rfl) ?_ (HSS.out) ?_
                  rotate_left
                  · (intro w hSw; obtain ⟨p0, p1, p2, p3, p4⟩ := hSw; go_simp; try with_reducible rfl)
                  simp only [Act.put, List.setIfInBounds_toArray, List.set_cons_zero, List.set_cons_succ]
                  refine takeAt 11 50 (oi := _) (v := ?_) rfl rfl (by kernel_rfl) (by kernel_rfl) (by kernel_rfl) (fun _ _ _ h => h) (by rfl) ?_ (HSS.out) ?_
                  rotate_left
                  · (intro w hSw; obtain ⟨p0, p1, p2, p3, p4⟩ := hSw; go_simp; try with_reducible rfl)
                  simp only [Act.put, List.setIfInBounds_toArray, List.set_cons_zero, List.set_cons_succ]
                  refine takeAt 12 51 (oi := _) (v := ?_) rfl rfl (by kernel_rfl) (by kernel_rfl) (by kernel_rfl) (fun _ _ _ h => h) (by rfl) ?_ (HSS.out) ?_
                  rotate_left
                  · (intro w hSw; obtain ⟨p0, p1, p2, p3, p4⟩ := hSw; go_simp; try with_reducible rfl)
                  simp only [Act.put, List.setIfInBounds_toArray, List.set_cons_zero, List.set_cons_succ]
                  refine takeAt 13 52 (oi := _) (v := ?_) rfl rfl (by kernel_rfl) (by kernel_rfl) (by kernel_rfl) (fun _ _ _ h => h) (by rfl) ?_ (HSS.out) ?_
                  rotate_left
                  · (intro w hSw; obtain ⟨p0, p1, p2, p3, p4⟩ := hSw; go_simp; try with_reducible rfl)
                  simp only [Act.put, List.setIfInBounds_toArray, List.set_cons_zero, List.set_cons_succ]
                  refine takeAt 14 53 (oi := _) (v := ?_) rfl rfl (by kernel_rfl) (by kernel_rfl) (by kernel_rfl) (fun _ _ _ h => h) (by rfl) ?_ (HSS.out) ?_
                  rotate_left
                  · (intro w hSw; obtain ⟨p0, p1, p2, p3, p4⟩ := hSw; go_simp; try with_reducible rfl)
                  simp only [Act.put, List.setIfInBounds_toArray, List.set_cons_zero, List.set_cons_succ]
                  refine takeAt 15 54 (oi := _) (v := ?_) rfl rfl (by kernel_rfl) (by kernel_rfl) (by kernel_rfl) (fun _ _ _ h => h) (by rfl) ?_ (HSS.out) ?_
                  rotate_left
                  · (intro w hSw; obtain ⟨p0, p1, p2, p3, p4⟩ := hSw; go_simp; try with_reducible rfl)
                  simp only [Act.put, List.setIfInBounds_toArray, List.set_cons_zero, List.set_cons_succ]
                  refine takeAt 16 55 (oi := _) (v := ?_) rfl rfl (by kernel_rfl) (by kernel_rfl) (by kernel_rfl) (fun _ _ _ h => h) (by rfl) ?_ (HSS.out) ?_
                  rotate_left
                  · (intro w hSw; obtain ⟨p0, p1, p2, p3, p4⟩ := hSw; go_simp; try with_reducible rfl)
                  simp only [Act.put, List.setIfInBounds_toArray, List.set_cons_zero, List.set_cons_succ]
                  refine takeAt 17 56 (oi := _) (v := ?_) rfl rfl (by kernel_rfl) (by kernel_rfl) (by kernel_rfl) (fun _ _ _ h => h) (by rfl) ?_ (HSS.out) ?_
                  rotate_left
                  · (intro w hSw; obtain ⟨p0, p1, p2, p3, p4⟩ := hSw; go_simp; try with_reducible rfl)
                  simp only [Act.put, List.setIfInBounds_toArray, List.set_cons_zero, List.set_cons_succ]
                  refine takeAt 18 57 (oi := _) (v := ?_) rfl rfl (by kernel_rfl) (by kernel_rfl) (by kernel_rfl) (fun _ _ _ h => h) (by rfl) ?_ (HSS.out) ?_
                  rotate_left
                  · (intro w hSw; obtain ⟨p0, p1, p2, p3, p4⟩ := hSw; go_simp; try with_reducible rfl)
                  simp only [Act.put, List.setIfInBounds_toArray, List.set_cons_zero, List.set_cons_succ]
                  refine takeAt 19 58 (oi := _) (v := ?_) rfl rfl (by kernel_rfl) (by kernel_rfl) (by kernel_rfl) (fun _ _ _ h => h) (by rfl) ?_ (HSS.out) ?_
                  rotate_left
                  · (intro w hSw; obtain ⟨p0, p1, p2, p3, p4⟩ := hSw; go_simp; try with_reducible rfl)
                  simp only [Act.put, List.setIfInBounds_toArray, List.set_cons_zero, List.set_cons_succ]
                  refine takeAt 20 59 (oi := _) (v := ?_) rfl rfl (by kernel_rfl) (by kernel_rfl) (by kernel_rfl) (fun _ _ _ h => h) (by rfl) ?_ (HSS.out) ?_
                  rotate_left
                  · (intro w hSw; obtain ⟨p0, p1, p2, p3, p4⟩ := hSw; go_simp; try with_reducible rfl)
                  simp only [Act.put, List.setIfInBounds_toArray, List.set_cons_zero, List.set_cons_succ]
                  refine takeAt 21 60 (oi := _) (v := ?_) rfl rfl (by kernel_rfl) (by kernel_rfl) (by kernel_rfl) (fun _ _ _ h => h) (by rfl) ?_ (HSS.out) ?_
                  rotate_left
                  · (intro w hSw; obtain ⟨p0, p1, p2, p3, p4⟩ := hSw; go_simp; try with_reducible rfl)
                  simp only [Act.put, List.setIfInBounds_toArray, List.set_cons_zero, List.set_cons_succ]
                  refine takeAt 22 61 (oi := _) (v := ?_) rfl rfl (by kernel_rfl) (by kernel_rfl) (by kernel_rfl) (fun _ _ _ h => h) (by rfl) ?_ (HSS.out) ?_
                  rotate_left
                  · (intro w hSw; obtain ⟨p0, p1, p2, p3, p4⟩ := hSw; go_simp; try with_reducible rfl)
                  simp only [Act.put, List.setIfInBounds_toArray, List.set_cons_zero, List.set_cons_succ]
                  refine takeAt 23 62 (oi := _) (v := ?_) rfl rfl (by kernel_rfl) (by kernel_rfl) (by kernel_rfl) (fun _ _ _ h => h) (by rfl) ?_ (HSS.out) ?_
                  rotate_left
                  · (intro w hSw; obtain ⟨p0, p1, p2, p3, p4⟩ := hSw; go_simp; try with_reducible rfl)
                  simp only [Act.put, List.setIfInBounds_toArray, List.set_cons_zero, List.set_cons_succ]
                  refine takeAt 24 63 (oi := _) (v := ?_) rfl rfl (by kernel_rfl) (by kernel_rfl) (by kernel_rfl) (fun _ _ _ h => h) (by rfl) ?_ (HSS.out) ?_
                  rotate_left
                  · (intro w hSw; obtain ⟨p0, p1, p2, p3, p4⟩ := hSw; go_simp; try with_reducible rfl)
                  simp only [Act.put, List.setIfInBounds_toArray, List.set_cons_zero, List.set_cons_succ]
                  refine takeAt 25 64 (oi := _) (v := ?_) rfl rfl (by kernel_rfl) (by kernel_rfl) (by kernel_rfl) (fun _ _ _ h => h) (by rfl) ?_ (HSS.out) ?_
                  rotate_left
                  · (intro w hSw; obtain ⟨p0, p1, p2, p3, p4⟩ := hSw; go_simp; try with_reducible rfl)
                  simp only [Act.put, List.setIfInBounds_toArray, List.set_cons_zero, List.set_cons_succ]
                  refine takeAt 26 65 (oi := _) (v := ?_) rfl rfl (by kernel_rfl) (by kernel_rfl) (by kernel_rfl) (fun _ _ _ h => h) (by rfl) ?_ (HSS.out) ?_
                  rotate_left
                  · (intro w hSw; obtain ⟨p0, p1, p2, p3, p4⟩ := hSw; go_simp; try with_reducible rfl)
                  simp only [Act.put, List.setIfInBounds_toArray, List.set_cons_zero, List.set_cons_succ]
                  refine takeAt 27 66 (oi := _) (v := ?_) rfl rfl (by kernel_rfl) (by kernel_rfl) (by kernel_rfl) (fun _ _ _ h => h) (by rfl) ?_ (HSS.out) ?_
                  rotate_left
                  · (intro w hSw; obtain ⟨p0, p1, p2, p3, p4⟩ := hSw; go_simp; try with_reducible rfl)
                  simp only [Act.put, List.setIfInBounds_toArray, List.set_cons_zero, List.set_cons_succ]
                  refine takeAt 28 67 (oi := _) (v := ?_) rfl rfl (by kernel_rfl) (by kernel_rfl) (by kernel_rfl) (fun _ _ _ h => h) (by rfl) ?_ (HSS.out) ?_
                  rotate_left
                  · (intro w hSw; obtain ⟨p0, p1, p2, p3, p4⟩ := hSw; go_simp; try with_reducible rfl)
                  simp only [Act.put, List.setIfInBounds_toArray, List.set_cons_zero, List.set_cons_succ]
                  refine takeAt 29 68 (oi := _) (v := ?_) rfl rfl (by kernel_rfl) (by kernel_rfl) (by kernel_rfl) (fun _ _ _ h => h) (by rfl) ?_ (HSS.out) ?_
                  rotate_left
                  · (intro w hSw; obtain ⟨p0, p1, p2, p3, p4⟩ := hSw; go_simp; try with_reducible rfl)
                  simp only [Act.put, List.setIfInBounds_toArray, List.set_cons_zero, List.set_cons_succ]
                  refine takeAt 30 69 (oi := _) (v := ?_) rfl rfl (by kernel_rfl) (by kernel_rfl) (by kernel_rfl) (fun _ _ _ h => h) (by rfl) ?_ (HSS.out) ?_
                  rotate_left
                  · (intro w hSw; obtain ⟨p0, p1, p2, p3, p4⟩ := hSw; go_simp; try with_reducible rfl)
                  simp only [Act.put, List.setIfInBounds_toArray, List.set_cons_zero, List.set_cons_succ]
                  refine takeAt 31 70 (oi := _) (v := ?_) rfl rfl (by kernel_rfl) (by kernel_rfl) (by kernel_rfl) (fun _ _ _ h => h) (by rfl) ?_ (HSS.out) ?_
                  rotate_left
                  · (intro w hSw; obtain ⟨p0, p1, p2, p3, p4⟩ := hSw; go_simp; try with_reducible rfl)
                  simp only [Act.put, List.setIfInBounds_toArray, List.set_cons_zero, List.set_cons_succ]
                  refine takeAt 32 71 (oi := _) (v := ?_) rfl rfl (by kernel_rfl) (by kernel_rfl) (by kernel_rfl) (fun _ _ _ h => h) (by rfl) ?_ (HSS.out) ?_
                  rotate_left
                  · (intro w hSw; obtain ⟨p0, p1, p2, p3, p4⟩ := hSw; go_simp; try with_reducible rfl)
                  simp only [Act.put, List.setIfInBounds_toArray, List.set_cons_zero, List.set_cons_succ]
                  refine takeAt 33 72 (oi := _) (v := ?_) rfl rfl (by kernel_rfl) (by kernel_rfl) (by kernel_rfl) (fun _ _ _ h => h) (by rfl) ?_ (HSS.out) ?_
                  rotate_left
                  · (intro w hSw; obtain ⟨p0, p1, p2, p3, p4⟩ := hSw; go_simp; try with_reducible rfl)
                  simp only [Act.put, List.setIfInBounds_toArray, List.set_cons_zero, List.set_cons_succ]
                  refine takeAt 34 73 (oi := _) (v := ?_) rfl rfl (by kernel_rfl) (by kernel_rfl) (by kernel_rfl) (fun _ _ _ h => h) (by rfl) ?_ (HSS.out) ?_
                  rotate_left
                  · (intro w hSw; obtain ⟨p0, p1, p2, p3, p4⟩ := hSw; go_simp; try with_reducible rfl)
                  simp only [Act.put, List.setIfInBounds_toArray, List.set_cons_zero, List.set_cons_succ]
                  refine wpAnyH_done (by kernel_rfl) ?_ _
                  obtain ⟨s0, s1, s2, s3, s4⟩ := HSS.out
                  have hfz := HRD.out.tab.free
                  have HGD := Lib.hid hgood
                  have HFK := Lib.hid hfk
                  clear hgood
                  go_wp2_with fail
                  go_roundw
                  case rel =>
                    refine ⟨q + 1, _, by omega, by go_num, HP.out.1.succ HP.out.2 HXX.out ⟨by simp only; omega, by simp only; omega⟩ (by simp only [Int.toNat_natCast]; omega) HGD.out, ?_, HRD.out.set k (q : Int)⟩
                    have h9 := HP.out.2.succ HXX.out ⟨by simp only; omega, by simp only; omega⟩
                    simp only [Int.toNat_natCast] at h9
                    exact h9
                  case measure => simp [intOf]; omega
                · have b3 : (y4 != x1) = true := by rw [bne_iff_ne]; exact hre
                  go_wp2_with fail
                  refine wp_region_held_drew (S := RoS K G k gc oc (k : Int) x1 (f k) y4 y6) (by kernel_rfl) HSS.out (fun hHeld => ?_)
                  change wpAnyH _ _ _ _ _ 35 _ _ _
                  clear hHeld
                  have HSD := HSS
                  have HRD := Lib.hid HR2.out.drew
                  clear HSS
                  have HSS := Lib.hid (show RoS K G k gc oc (k : Int) x1 (f k) y4 y6 W2.drew from HSD.out)
                  clear HSD
                  generalize W2.drew = WD at HSS HRD ⊢
                  refine takeAt 0 39 (oi := _) (v := ?_) rfl rfl (by kernel_rfl) (by kernel_rfl) (by kernel_rfl) (fun _ _ _ h => h) (by rfl) ?_ (HSS.out) ?_
                  rotate_left
                  · (intro w hSw; obtain ⟨p0, p1, p2, p3, p4⟩ := hSw; go_simp; try with_reducible rfl)
                  simp only [Act.put, List.setIfInBounds_toArray, List.set_cons_zero, List.set_cons_succ]
                  refine takeAt 1 40 (oi := _) (v := ?_) rfl rfl (by kernel_rfl) (by kernel_rfl) (by kernel_rfl) (fun _ _ _ h => h) (by rfl) ?_ (HSS.out) ?_
                  rotate_left
                  · (intro w hSw; obtain ⟨p0, p1, p2, p3, p4⟩ := hSw; go_simp; try with_reducible rfl)
                  simp only [Act.put, List.setIfInBounds_toArray, List.set_cons_zero, List.set_cons_succ]
                  refine takeAt 2 41 (oi := _) (v := ?_) rfl rfl (by kernel_rfl) (by kernel_rfl) (by kernel_rfl) (fun _ _ _ h => h) (by rfl) ?_ (HSS.out) ?_
                  rotate_left
                  · (intro w hSw; obtain ⟨p0, p1, p2, p3, p4⟩ := hSw; go_simp; try with_reducible rfl)
                  simp only [Act.put, List.setIfInBounds_toArray, List.set_cons_zero, List.set_cons_succ]
                  refine takeAt 3 42 (oi := _) (v := ?_) rfl rfl (by kernel_rfl) (by kernel_rfl) (by kernel_rfl) (fun _ _ _ h => h) (by rfl) ?_ (HSS.out) ?_
                  rotate_left
                  · (intro w hSw; obtain ⟨p0, p1, p2, p3, p4⟩ := hSw; go_simp; try with_reducible rfl)
                  simp only [Act.put, List.setIfInBounds_toArray, List.set_cons_zero, List.set_cons_succ]
                  refine takeAt 4 43 (oi := _) (v := ?_) rfl rfl (by kernel_rfl) (by kernel_rfl) (by kernel_rfl) (fun _ _ _ h => h) (by rfl) ?_ (HSS.out) ?_
                  rotate_left
                  · (intro w hSw; obtain ⟨p0, p1, p2, p3, p4⟩ := hSw; go_simp; try with_reducible rfl)
                  simp only [Act.put, List.setIfInBounds_toArray, List.set_cons_zero, List.set_cons_succ]
                  refine wpAnyH_ready (rs := [5]) (by kernel_rfl) (by simp) ?_
                  refine AllReadyH.cons (o := _) rfl (fun K hK => ?_) AllReadyH.nil
                  go_simp
                  refine (btwn_any (k : Int) 0 ((n : Int) - 1) WD).mono ?_
                  rintro e w9 ⟨rfl, rfl⟩
                  rw [hbt]
                  refine hK.out _ _ HSS.out (fun _ => ?_)
                  clear hK K
                  refine takeAt 6 45 (oi := _) (v := ?_) rfl rfl (by kernel_rfl) (by kernel_rfl) (by kernel_rfl) (fun _ _ _ h => h) (by rfl) ?_ (HSS.out) ?_
                  rotate_left
                  · (intro w hSw; obtain ⟨p0, p1, p2, p3, p4⟩ := hSw; go_simp; try with_reducible rfl)
                  simp only [Act.put, List.setIfInBounds_toArray, List.set_cons_zero, List.set_cons_succ]
                  refine takeAt 7 46 (oi := _) (v := ?_) rfl rfl (by kernel_rfl) (by kernel_rfl) (by kernel_rfl) (fun _ _ _ h => h) (by rfl) ?_ (HSS.out) ?_
                  rotate_left
                  · (intro w hSw; obtain ⟨p0, p1, p2, p3, p4⟩ := hSw; go_simp; try with_reducible rfl)
                  simp only [Act.put, List.setIfInBounds_toArray, List.set_cons_zero, List.set_cons_succ]
                  refine takeAt 8 47 (oi := _) (v := ?_) rfl rfl (by kernel_rfl) (by kernel_rfl) (by kernel_rfl) (fun _ _ _ h => h) (by rfl) ?_ (HSS.out) ?_
                  rotate_left
                  · (intro w hSw; obtain ⟨p0, p1, p2, p3, p4⟩ := hSw; go_simp; try with_reducible rfl)
                  simp only [Act.put, List.setIfInBounds_toArray, List.set_cons_zero, List.set_cons_succ]
                  refine takeAt 9 48 (oi := _) (v := ?_) rfl rfl (by kernel_rfl) (by kernel_rfl) (by kernel_rfl) (fun _ _ _ h => h) (by rfl) ?_ (HSS.out) ?_
                  rotate_left
                  · (intro w hSw; obtain ⟨p0, p1, p2, p3, p4⟩ := hSw; go_simp; try with_reducible rfl)
                  simp only [Act.put, List.setIfInBounds_toArray, List.set_cons_zero, List.set_cons_succ]
                  refine takeAt 10 49 (oi := _) (v := ?_) rfl rfl (by kernel_rfl) (by kernel_rfl) (by kernel_rfl) (fun _ _ _ h => h) (by rfl) ?_ (HSS.out) ?_
                  rotate_left
                  · (intro w hSw; obtain ⟨p0, p1, p2, p3, p4⟩ := hSw; go_simp; try with_reducible rfl)
                  simp only [Act.put, List.setIfInBounds_toArray, List.set_cons_zero, List.set_cons_succ]
                  refine takeAt 11 50 (oi := _) (v := ?_) rfl rfl (by kernel_rfl) (by kernel_rfl) (by kernel_rfl) (fun _ _ _ h => h) (by rfl) ?_ (HSS.out) ?_
                  rotate_left
                  · (intro w hSw; obtain ⟨p0, p1, p2, p3, p4⟩ := hSw; go_simp; try with_reducible rfl)
                  simp only [Act.put, List.setIfInBounds_toArray, List.set_cons_zero, List.set_cons_succ]
                  refine takeAt 12 51 (oi := _) (v := ?_) rfl rfl (by kernel_rfl) (by kernel_rfl) (by kernel_rfl) (fun _ _ _ h => h) (by rfl) ?_ (HSS.out) ?_
                  rotate_left
                  · (intro w hSw; obtain ⟨p0, p1, p2, p3, p4⟩ := hSw; go_simp; try with_reducible rfl)
                  simp only [Act.put, List.setIfInBounds_toArray, List.set_cons_zero, List.set_cons_succ]
                  refine takeAt 13 52 (oi := _) (v := ?_) rfl rfl (by kernel_rfl) (by kernel_rfl) (by kernel_rfl) (fun _ _ _ h => h) (by rfl) ?_ (HSS.out) ?_
                  rotate_left
                  · (intro w hSw; obtain ⟨p0, p1, p2, p3, p4⟩ := hSw; go_simp; try with_reducible rfl)
                  simp only [Act.put, List.setIfInBounds_toArray, List.set_cons_zero, List.set_cons_succ]
                  refine takeAt 14 53 (oi := _) (v := ?_) rfl rfl (by kernel_rfl) (by kernel_rfl) (by kernel_rfl) (fun _ _ _ h => h) (by rfl) ?_ (HSS.out) ?_
                  rotate_left
                  · (intro w hSw; obtain ⟨p0, p1, p2, p3, p4⟩ := hSw; go_simp; try with_reducible rfl)
                  simp only [Act.put, List.setIfInBounds_toArray, List.set_cons_zero, List.set_cons_succ]
                  refine takeAt 15 54 (oi := _) (v := ?_) rfl rfl (by kernel_rfl) (by kernel_rfl) (by kernel_rfl) (fun _ _ _ h => h) (by rfl) ?_ (HSS.out) ?_
                  rotate_left
                  · (intro w hSw; obtain ⟨p0, p1, p2, p3, p4⟩ := hSw; go_simp; try with_reducible rfl)
                  simp only [Act.put, List.setIfInBounds_toArray, List.set_cons_zero, List.set_cons_succ]
                  refine takeAt 16 55 (oi := _) (v := ?_) rfl rfl (by kernel_rfl) (by kernel_rfl) (by kernel_rfl) (fun _ _ _ h => h) (by rfl) ?_ (HSS.out) ?_
                  rotate_left
                  · (intro w hSw; obtain ⟨p0, p1, p2, p3, p4⟩ := hSw; go_simp; try with_reducible rfl)
                  simp only [Act.put, List.setIfInBounds_toArray, List.set_cons_zero, List.set_cons_succ]
                  refine takeAt 17 56 (oi := _) (v := ?_) rfl rfl (by kernel_rfl) (by kernel_rfl) (by kernel_rfl) (fun _ _ _ h => h) (by rfl) ?_ (HSS.out) ?_
                  rotate_left
                  · (intro w hSw; obtain ⟨p0, p1, p2, p3, p4⟩ := hSw; go_simp; try with_reducible rfl)
                  simp only [Act.put, List.setIfInBounds_toArray, List.set_cons_zero, List.set_cons_succ]
                  refine takeAt 18 57 (oi := _) (v := ?_) rfl rfl (by kernel_rfl) (by kernel_rfl) (by kernel_rfl) (fun _ _ _ h => h) (by rfl) ?_ (HSS.out) ?_
                  rotate_left
                  · (intro w hSw; obtain ⟨p0, p1, p2, p3, p4⟩ := hSw; go_simp; try with_reducible rfl)
                  simp only [Act.put, List.setIfInBounds_toArray, List.set_cons_zero, List.set_cons_succ]
                  refine takeAt 19 58 (oi := _) (v := ?_) rfl rfl (by kernel_rfl) (by kernel_rfl) (by kernel_rfl) (fun _ _ _ h => h) (by rfl) ?_ (HSS.out) ?_
                  rotate_left
                  · (intro w hSw; obtain ⟨p0, p1, p2, p3, p4⟩ := hSw; go_simp; try with_reducible rfl)
                  simp only [Act.put, List.setIfInBounds_toArray, List.set_cons_zero, List.set_cons_succ]
                  refine takeAt 20 59 (oi := _) (v := ?_) rfl rfl (by kernel_rfl) (by kernel_rfl) (by kernel_rfl) (fun _ _ _ h => h) (by rfl) ?_ (HSS.out) ?_
                  rotate_left
                  · (intro w hSw; obtain ⟨p0, p1, p2, p3, p4⟩ := hSw; go_simp; try with_reducible rfl)
                  simp only [Act.put, List.setIfInBounds_toArray, List.set_cons_zero, List.set_cons_succ]
                  refine takeAt 21 60 (oi := _) (v := ?_) rfl rfl (by kernel_rfl) (by kernel_rfl) (by kernel_rfl) (fun _ _ _ h => h) (by rfl) ?_ (HSS.out) ?_
                  rotate_left
                  · (intro w hSw; obtain ⟨p0, p1, p2, p3, p4⟩ := hSw; go_simp; try with_reducible rfl)
                  simp only [Act.put, List.setIfInBounds_toArray, List.set_cons_zero, List.set_cons_succ]
                  refine takeAt 22 61 (oi := _) (v := ?_) rfl rfl (by kernel_rfl) (by kernel_rfl) (by kernel_rfl) (fun _ _ _ h => h) (by rfl) ?_ (HSS.out) ?_
                  rotate_left
                  · (intro w hSw; obtain ⟨p0, p1, p2, p3, p4⟩ := hSw; go_simp; try with_reducible rfl)
                  simp only [Act.put, List.setIfInBounds_toArray, List.set_cons_zero, List.set_cons_succ]
                  refine takeAt 23 62 (oi := _) (v := ?_) rfl rfl (by kernel_rfl) (by kernel_rfl) (by kernel_rfl) (fun _ _ _ h => h) (by rfl) ?_ (HSS.out) ?_
                  rotate_left
                  · (intro w hSw; obtain ⟨p0, p1, p2, p3, p4⟩ := hSw; go_simp; try with_reducible rfl)
                  simp only [Act.put, List.setIfInBounds_toArray, List.set_cons_zero, List.set_cons_succ]
                  refine takeAt 24 63 (oi := _) (v := ?_) rfl rfl (by kernel_rfl) (by kernel_rfl) (by kernel_rfl) (fun _ _ _ h => h) (by rfl) ?_ (HSS.out) ?_
                  rotate_left
                  · (intro w hSw; obtain ⟨p0, p1, p2, p3, p4⟩ := hSw; go_simp; try with_reducible rfl)
                  simp only [Act.put, List.setIfInBounds_toArray, List.set_cons_zero, List.set_cons_succ]
                  refine takeAt 25 64 (oi := _) (v := ?_) rfl rfl (by kernel_rfl) (by kernel_rfl) (by kernel_rfl) (fun _ _ _ h => h) (by rfl) ?_ (HSS.out) ?_
                  rotate_left
                  · (intro w hSw; obtain ⟨p0, p1, p2, p3, p4⟩ := hSw; go_simp; try with_reducible rfl)
                  simp only [Act.put, List.setIfInBounds_toArray, List.set_cons_zero, List.set_cons_succ]
                  refine takeAt 26 65 (oi := _) (v := ?_) rfl rfl (by kernel_rfl) (by kernel_rfl) (by kernel_rfl) (fun _ _ _ h => h) (by rfl) ?_ (HSS.out) ?_
                  rotate_left
                  · (intro w hSw; obtain ⟨p0, p1, p2, p3, p4⟩ := hSw; go_simp; try with_reducible rfl)
                  simp only [Act.put, List.setIfInBounds_toArray, List.set_cons_zero, List.set_cons_succ]
                  refine takeAt 27 66 (oi := _) (v := ?_) rfl rfl (by kernel_rfl) (by kernel_rfl) (by kernel_rfl) (fun _ _ _ h => h) (by rfl) ?_ (HSS.out) ?_
                  rotate_left
                  · (intro w hSw; obtain ⟨p0, p1, p2, p3, p4⟩ := hSw; go_simp; try with_reducible rfl)
                  simp only [Act.put, List.setIfInBounds_toArray, List.set_cons_zero, List.set_cons_succ]
                  refine takeAt 28 67 (oi := _) (v := ?_) rfl rfl (by kernel_rfl) (by kernel_rfl) (by kernel_rfl) (fun _ _ _ h => h) (by rfl) ?_ (HSS.out) ?_
                  rotate_left
                  · (intro w hSw; obtain ⟨p0, p1, p2, p3, p4⟩ := hSw; go_simp; try with_reducible rfl)
                  simp only [Act.put, List.setIfInBounds_toArray, List.set_cons_zero, List.set_cons_succ]
                  refine takeAt 29 68 (oi := _) (v := ?_) rfl rfl (by kernel_rfl) (by kernel_rfl) (by kernel_rfl) (fun _ _ _ h => h) (by rfl) ?_ (HSS.out) ?_
                  rotate_left
                  · (intro w hSw; obtain ⟨p0, p1, p2, p3, p4⟩ := hSw; go_simp; try with_reducible rfl)
                  simp only [Act.put, List.setIfInBounds_toArray, List.set_cons_zero, List.set_cons_succ]
                  refine takeAt 30 69 (oi := _) (v := ?_) rfl rfl (by kernel_rfl) (by kernel_rfl) (by kernel_rfl) (fun _ _ _ h => h) (by rfl) ?_ (HSS.out) ?_
                  rotate_left
                  · (intro w hSw; obtain ⟨p0, p1, p2, p3, p4⟩ := hSw; go_simp; try with_reducible rfl)
                  simp only [Act.put, List.setIfInBounds_toArray, List.set_cons_zero, List.set_cons_succ]
                  refine takeAt 31 70 (oi := _) (v := ?_) rfl rfl (by kernel_rfl) (by kernel_rfl) (by kernel_rfl) (fun _ _ _ h => h) (by rfl) ?_ (HSS.out) ?_
                  rotate_left
                  · (intro w hSw; obtain ⟨p0, p1, p2, p3, p4⟩ := hSw; go_simp; try with_reducible rfl)
                  simp only [Act.put, List.setIfInBounds_toArray, List.set_cons_zero, List.set_cons_succ]
                  refine takeAt 32 71 (oi := _) (v := ?_) rfl rfl (by kernel_rfl) (by kernel_rfl) (by kernel_rfl) (fun _ _ _ h => h) (by rfl) ?_ (HSS.out) ?_
                  rotate_left
                  · (intro w hSw; obtain ⟨p0, p1, p2, p3, p4⟩ := hSw; go_simp; try with_reducible rfl)
                  simp only [Act.put, List.setIfInBounds_toArray, List.set_cons_zero, List.set_cons_succ]
                  refine takeAt 33 72 (oi := _) (v := ?_) rfl rfl (by kernel_rfl) (by kernel_rfl) (by kernel_rfl) (fun _ _ _ h => h) (by rfl) ?_ (HSS.out) ?_
                  rotate_left
                  · (intro w hSw; obtain ⟨p0, p1, p2, p3, p4⟩ := hSw; go_simp; try with_reducible rfl)
                  simp only [Act.put, List.setIfInBounds_toArray, List.set_cons_zero, List.set_cons_succ]
                  refine takeAt 34 73 (oi := _) (v := ?_) rfl rfl (by kernel_rfl) (by kernel_rfl) (by kernel_rfl) (fun _ _ _ h => h) (by rfl) ?_ (HSS.out) ?_
                  rotate_left
                  · (intro w hSw; obtain ⟨p0, p1, p2, p3, p4⟩ := hSw; go_simp; try with_reducible rfl)
                  simp only [Act.put, List.setIfInBounds_toArray, List.set_cons_zero, List.set_cons_succ]
                  refine wpAnyH_done (by kernel_rfl) ?_ _
                  go_wp2_with fail
                  go_ret
                  exact ⟨false, rfl, ⟨fun h => (by cases h), fun h => absurd h (not_rite1 (p := fun i j => (r i).testBit j) HP.out.2 HXX.out (.inr ⟨⟨by simp only; omega, by simp only; omega⟩, .inr ⟨(show (cs.getD ((k : Int)).toNat default).til ≠ -1 by rw [Int.toNat_natCast, ← HY.out.2]; exact hz), (show (cs.getD ((k : Int)).toNat default).res ≠ x1 by rw [Int.toNat_natCast, ← HY.out.1]; exact hre)⟩⟩))⟩, HRD.out.below⟩
          · have hbt : btw 0 x0 ((n : Int) - 1) = false := btw_not.2 (by omega)
            have HSS := Lib.hid (show RoB K x0 W2 from Lies.cell HBX.out 0)
            have HBT0 := Lib.hid hbt0
            clear hbt0
            go_upto_region 10 with fail
            rw [← hW2, ← hK0]
            clear hW2 hK0 d0 d1
            go_wp2_with fail
            refine wp_region_held_drew (S := RoB K x0) (by kernel_rfl) HSS.out (fun hHeld => ?_)
            change wpAnyH _ _ _ _ _ 35 _ _ _
            clear hHeld
            have HSD := HSS
            have HRD := Lib.hid HR2.out.drew
            clear HSS
            have HSS := Lib.hid (show RoB K x0 W2.drew from HSD.out)
            clear HSD
            generalize W2.drew = WD at HSS HRD ⊢
            refine takeAt 0 39 (oi := _) (v := ?_) rfl rfl (by kernel_rfl) (by kernel_rfl) (by kernel_rfl) (fun _ _ _ h => h) (by rfl) ?_ (HSS.out) ?_
            rotate_left
            · (intro w hSw; have p0 := hSw; simp only [RoB] at p0; go_simp; try with_reducible rfl)
            simp only [Act.put, List.setIfInBounds_toArray, List.set_cons_zero, List.set_cons_succ]
            refine takeAt 1 40 (oi := _) (v := ?_) rfl rfl (by kernel_rfl) (by kernel_rfl) (by kernel_rfl) (fun _ _ _ h => h) (by rfl) ?_ (HSS.out) ?_
            rotate_left
            · (intro w hSw; have p0 := hSw; simp only [RoB] at p0; go_simp; try with_reducible rfl)
            simp only [Act.put, List.setIfInBounds_toArray, List.set_cons_zero, List.set_cons_succ]
            refine takeAt 2 41 (oi := _) (v := ?_) rfl rfl (by kernel_rfl) (by kernel_rfl) (by kernel_rfl) (fun _ _ _ h => h) (by rfl) ?_ (HSS.out) ?_
            rotate_left
            · (intro w hSw; have p0 := hSw; simp only [RoB] at p0; go_simp; try with_reducible rfl)
            simp only [Act.put, List.setIfInBounds_toArray, List.set_cons_zero, List.set_cons_succ]
            refine takeAt 3 42 (oi := _) (v := ?_) rfl rfl (by kernel_rfl) (by kernel_rfl) (by kernel_rfl) (fun _ _ _ h => h) (by rfl) ?_ (HSS.out) ?_
            rotate_left
            · (intro w hSw; have p0 := hSw; simp only [RoB] at p0; go_simp; try with_reducible rfl)
            simp only [Act.put, List.setIfInBounds_toArray, List.set_cons_zero, List.set_cons_succ]
            refine takeAt 4 43 (oi := _) (v := ?_) rfl rfl (by kernel_rfl) (by kernel_rfl) (by kernel_rfl) (fun _ _ _ h => h) (by rfl) ?_ (HSS.out) ?_
            rotate_left
            · (intro w hSw; have p0 := hSw; simp only [RoB] at p0; go_simp; try with_reducible rfl)
            simp only [Act.put, List.setIfInBounds_toArray, List.set_cons_zero, List.set_cons_succ]
            refine wpAnyH_ready (rs := [5]) (by kernel_rfl) (by simp) ?_
            refine AllReadyH.cons (o := _) rfl (fun K hK => ?_) AllReadyH.nil
            go_simp
            refine (btwn_any x0 0 ((n : Int) - 1) WD).mono ?_
            rintro e w9 ⟨rfl, rfl⟩
            rw [hbt]
            refine hK.out _ _ HSS.out (fun _ => ?_)
            clear hK K
            refine takeAt 6 45 (oi := _) (v := ?_) rfl rfl (by kernel_rfl) (by kernel_rfl) (by kernel_rfl) (fun _ _ _ h => h) (by rfl) ?_ (HSS.out) ?_
            rotate_left
            · (intro w hSw; have p0 := hSw; simp only [RoB] at p0; go_simp; try with_reducible rfl)
            simp only [Act.put, List.setIfInBounds_toArray, List.set_cons_zero, List.set_cons_succ]
            refine takeAt 7 46 (oi := _) (v := ?_) rfl rfl (by kernel_rfl) (by kernel_rfl) (by kernel_rfl) (fun _ _ _ h => h) (by rfl) ?_ (HSS.out) ?_
            rotate_left
            · (intro w hSw; have p0 := hSw; simp only [RoB] at p0; go_simp; try with_reducible rfl)
            simp only [Act.put, List.setIfInBounds_toArray, List.set_cons_zero, List.set_cons_succ]
            refine skipAt 8 47 (oi := _) rfl rfl (by kernel_rfl) (by kernel_rfl) (by kernel_rfl) (fun _ _ _ h => h) (by rfl) (HSS.out) ?_
            simp only [Act.put, List.setIfInBounds_toArray, List.set_cons_zero, List.set_cons_succ]
            refine skipAt 9 48 (oi := _) rfl rfl (by kernel_rfl) (by kernel_rfl) (by kernel_rfl) (fun _ _ _ h => h) (by rfl) (HSS.out) ?_
            simp only [Act.put, List.setIfInBounds_toArray, List.set_cons_zero, List.set_cons_succ]
            refine skipAt 10 49 (oi := _) rfl rfl (by kernel_rfl) (by kernel_rfl) (by kernel_rfl) (fun _ _ _ h => h) (by rfl) (HSS.out) ?_
            simp only [Act.put, List.setIfInBounds_toArray, List.set_cons_zero, List.set_cons_succ]
            refine skipAt 11 50 (oi := _) rfl rfl (by kernel_rfl) (by kernel_rfl) (by kernel_rfl) (fun _ _ _ h => h) (by rfl) (HSS.out) ?_
            simp only [Act.put, List.setIfInBounds_toArray, List.set_cons_zero, List.set_cons_succ]
            refine skipAt 12 51 (oi := _) rfl rfl (by kernel_rfl) (by kernel_rfl) (by kernel_rfl) (fun _ _ _ h => h) (by rfl) (HSS.out) ?_
            simp only [Act.put, List.setIfInBounds_toArray, List.set_cons_zero, List.set_cons_succ]
            refine skipAt 13 52 (oi := _) rfl rfl (by kernel_rfl) (by kernel_rfl) (by kernel_rfl) (fun _ _ _ h => h) (by rfl) (HSS.out) ?_
            simp only [Act.put, List.setIfInBounds_toArray, List.set_cons_zero, List.set_cons_succ]
            refine takeAt 14 53 (oi := _) (v := ?_) rfl rfl (by kernel_rfl) (by kernel_rfl) (by kernel_rfl) (fun _ _ _ h => h) (by rfl) ?_ (HSS.out) ?_
            rotate_left
            · (intro w hSw; have p0 := hSw; simp only [RoB] at p0; go_simp; try with_reducible rfl)
            simp only [Act.put, List.setIfInBounds_toArray, List.set_cons_zero, List.set_cons_succ]
            refine takeAt 15 54 (oi := _) (v := ?_) rfl rfl (by kernel_rfl) (by kernel_rfl) (by kernel_rfl) (fun _ _ _ h => h) (by rfl) ?_ (HSS.out) ?_
            rotate_left
            · (intro w hSw; have p0 := hSw; simp only [RoB] at p0; go_simp; try with_reducible rfl)
            simp only [Act.put, List.setIfInBounds_toArray, List.set_cons_zero, List.set_cons_succ]
            refine skipAt 16 55 (oi := _) rfl rfl (by kernel_rfl) (by kernel_rfl) (by kernel_rfl) (fun _ _ _ h => h) (by rfl) (HSS.out) ?_
            simp only [Act.put, List.setIfInBounds_toArray, List.set_cons_zero, List.set_cons_succ]
            refine skipAt 17 56 (oi := _) rfl rfl (by kernel_rfl) (by kernel_rfl) (by kernel_rfl) (fun _ _ _ h => h) (by rfl) (HSS.out) ?_
            simp only [Act.put, List.setIfInBounds_toArray, List.set_cons_zero, List.set_cons_succ]
            refine skipAt 18 57 (oi := _) rfl rfl (by kernel_rfl) (by kernel_rfl) (by kernel_rfl) (fun _ _ _ h => h) (by rfl) (HSS.out) ?_
            simp only [Act.put, List.setIfInBounds_toArray, List.set_cons_zero, List.set_cons_succ]
            refine skipAt 19 58 (oi := _) rfl rfl (by kernel_rfl) (by kernel_rfl) (by kernel_rfl) (fun _ _ _ h => h) (by rfl) (HSS.out) ?_
            simp only [Act.put, List.setIfInBounds_toArray, List.set_cons_zero, List.set_cons_succ]
            refine skipAt 20 59 (oi := _) rfl rfl (by kernel_rfl) (by kernel_rfl) (by kernel_rfl) (fun _ _ _ h => h) (by rfl) (HSS.out) ?_
            simp only [Act.put, List.setIfInBounds_toArray, List.set_cons_zero, List.set_cons_succ]
            refine skipAt 21 60 (oi := _) rfl rfl (by kernel_rfl) (by kernel_rfl) (by kernel_rfl) (fun _ _ _ h => h) (by rfl) (HSS.out) ?_
            simp only [Act.put, List.setIfInBounds_toArray, List.set_cons_zero, List.set_cons_succ]
            refine skipAt 22 61 (oi := _) rfl rfl (by kernel_rfl) (by kernel_rfl) (by kernel_rfl) (fun _ _ _ h => h) (by rfl) (HSS.out) ?_
            simp only [Act.put, List.setIfInBounds_toArray, List.set_cons_zero, List.set_cons_succ]
            refine skipAt 23 62 (oi := _) rfl rfl (by kernel_rfl) (by kernel_rfl) (by kernel_rfl) (fun _ _ _ h => h) (by rfl) (HSS.out) ?_
            simp only [Act.put, List.setIfInBounds_toArray, List.set_cons_zero, List.set_cons_succ]
            refine skipAt 24 63 (oi := _) rfl rfl (by kernel_rfl) (by kernel_rfl) (by kernel_rfl) (fun _ _ _ h => h) (by rfl) (HSS.out) ?_
            simp only [Act.put, List.setIfInBounds_toArray, List.set_cons_zero, List.set_cons_succ]
            refine skipAt 25 64 (oi := _) rfl rfl (by kernel_rfl) (by kernel_rfl) (by kernel_rfl) (fun _ _ _ h => h) (by rfl) (HSS.out) ?_
            simp only [Act.put, List.setIfInBounds_toArray, List.set_cons_zero, List.set_cons_succ]
            refine skipAt 26 65 (oi := _) rfl rfl (by kernel_rfl) (by kernel_rfl) (by kernel_rfl) (fun _ _ _ h => h) (by rfl) (HSS.out) ?_
            simp only [Act.put, List.setIfInBounds_toArray, List.set_cons_zero, List.set_cons_succ]
            refine skipAt 27 66 (oi := _) rfl rfl (by kernel_rfl) (by kernel_rfl) (by kernel_rfl) (fun _ _ _ h => h) (by rfl) (HSS.out) ?_
            simp only [Act.put, List.setIfInBounds_toArray, List.set_cons_zero, List.set_cons_succ]
            refine skipAt 28 67 (oi := _) rfl rfl (by kernel_rfl) (by kernel_rfl) (by kernel_rfl) (fun _ _ _ h => h) (by rfl) (HSS.out) ?_
            simp only [Act.put, List.setIfInBounds_toArray, List.set_cons_zero, List.set_cons_succ]
            refine skipAt 29 68 (oi := _) rfl rfl (by kernel_rfl) (by kernel_rfl) (by kernel_rfl) (fun _ _ _ h => h) (by rfl) (HSS.out) ?_
            simp only [Act.put, List.setIfInBounds_toArray, List.set_cons_zero, List.set_cons_succ]
            refine skipAt 30 69 (oi := _) rfl rfl (by kernel_rfl) (by kernel_rfl) (by kernel_rfl) (fun _ _ _ h => h) (by rfl) (HSS.out) ?_
            simp only [Act.put, List.setIfInBounds_toArray, List.set_cons_zero, List.set_cons_succ]
            refine skipAt 31 70 (oi := _) rfl rfl (by kernel_rfl) (by kernel_rfl) (by kernel_rfl) (fun _ _ _ h => h) (by rfl) (HSS.out) ?_
            simp only [Act.put, List.setIfInBounds_toArray, List.set_cons_zero, List.set_cons_succ]
            refine skipAt 32 71 (oi := _) rfl rfl (by kernel_rfl) (by kernel_rfl) (by kernel_rfl) (fun _ _ _ h => h) (by rfl) (HSS.out) ?_
            simp only [Act.put, List.setIfInBounds_toArray, List.set_cons_zero, List.set_cons_succ]
            refine skipAt 33 72 (oi := _) rfl rfl (by kernel_rfl) (by kernel_rfl) (by kernel_rfl) (fun _ _ _ h => h) (by rfl) (HSS.out) ?_
            simp only [Act.put, List.setIfInBounds_toArray, List.set_cons_zero, List.set_cons_succ]
            refine takeAt 34 73 (oi := _) (v := ?_) rfl rfl (by kernel_rfl) (by kernel_rfl) (by kernel_rfl) (fun _ _ _ h => h) (by rfl) ?_ (HSS.out) ?_
            rotate_left
            · (intro w hSw; have p0 := hSw; simp only [RoB] at p0; go_simp; try with_reducible rfl)
            simp only [Act.put, List.setIfInBounds_toArray, List.set_cons_zero, List.set_cons_succ]
            refine wpAnyH_done (by kernel_rfl) ?_ _
            go_wp2_with fail
            go_ret
            exact ⟨false, rfl, ⟨fun h => (by cases h), fun h => absurd h (not_rite1 (p := fun i j => (r i).testBit j) HP.out.2 HXX.out (.inl (by rw [← HNN.out]; exact HBT0.out)))⟩, HRD.out.below⟩
        · obtain rfl : q = M := by omega
          rw [HMM.out] at hP hA
          have HAT := Lib.hid hA
          have HPR := Lib.hid hP
          have HRX := Lib.hid hR
          clear hP hA hR HP hq
          obtain ⟨W3, rfl⟩ : ∃ W3, W3 = wr := ⟨_, rfl⟩
          go_wp2_with fail
          go_loopw [82] (fun t wr => ∃ i : Nat, i ≤ n ∧ t = .int .i64 i ∧ (∀ k, k < i → ((cs.getD k default).til ≠ -1 → 0 ≤ f k) ∧ PhJ n r f k n) ∧ RoR w G n r f wr) (fun t _ => n - (intOf t).toNat)
          case atStart => exact ⟨0, by omega, rfl, fun k hk => by omega, HRX.out⟩
          case round =>
            clear HRX
            obtain ⟨i, hi0, rfl, hph, hR⟩ := hrel
            have HPH := Lib.hid hph
            have HRI := Lib.hid hR
            by_cases hi : i < n
            · have hi' : i < cs.length := by rw [← HNN.out]; exact hi
              have hy := getD_some hi'
              have hrc := HT.out.2.1.below hR.below
              obtain ⟨gc, oc, rfl, -, e0, e1, e2, e3, e4, e5, e6⟩ := hrc.cl hy
              obtain ⟨y6, hy6⟩ : ∃ y6, y6 = (cs.getD i default).til := ⟨_, rfl⟩
              rw [← hy6] at e6
              have d1 := hR.tab.cell hi
              have HY := Lib.hid hy6
              have i1 : (0 : Int) ≤ (i : Int) := by omega
              have i2 : (i : Int) < (n : Int) := by omega
              clear hph hR hy hrc e0 e1 e2 e3 e4 e5 hy6
              by_cases hz : y6 = -1
              · have b2 : (y6 != -1) = false := by rw [bne_eq_false_iff_eq]; exact hz
                have HAI := Lib.hid (show (cs.getD i default).til ≠ -1 → 0 ≤ f i from fun h => absurd (HY.out.symm.trans hz) h)
                clear hz
                go_wp2_with fail
                clear e6 d1
                obtain ⟨W4, rfl⟩ : ∃ W4, W4 = wr := ⟨_, rfl⟩
                go_wp2_with fail
                go_loopw [100] (fun t wr => ∃ j : Nat, j ≤ n ∧ t = .int .i64 j ∧ PhJ n r f i j ∧ RoR w G n r f wr) (fun t _ => n - (intOf t).toNat)
                case atStart => exact ⟨0, by omega, rfl, fun k hk => by omega, HRI.out⟩
                case round =>
                  obtain ⟨j, hj, rfl, hJ, hR⟩ := hrel
                  have HJ := Lib.hid hJ
                  have HRJ := Lib.hid hR
                  by_cases hjn : j < n
                  · have i3 : (0 : Int) ≤ (j : Int) := by omega
                    have i4 : (j : Int) < (n : Int) := by omega
                    have HST := Lib.hid (fun (W : World) (h : RoR w G n r f W) => show RoT w.heap.size G n r i j (f i) (f j) W from ⟨h.rel, h.tab.cell hi, h.tab.cell hjn⟩)
                    clear hJ hR
                    cases hbit : (r i).testBit j
                    · skip
                      go_wp2_with fail
                      refine wp_region_held_drew (S := RoT w.heap.size G n r i j (f i) (f j)) (by kernel_rfl) (HST.out _ HRJ.out.drew) (fun hHeld => ?_)
                      change wpAnyH _ _ _ _ _ 29 _ _ _
                      clear hHeld
                      have HRK := Lib.hid HRJ.out.drew
                      generalize wr.drew = WD at HRK ⊢
                      refine takeAt 0 103 (oi := _) (v := ?_) rfl rfl (by kernel_rfl) (by kernel_rfl) (by kernel_rfl) (fun _ _ _ h => h) (by rfl) ?_ (HST.out _ HRK.out) ?_
                      rotate_left
                      · (intro w hSw; obtain ⟨hRl, p1, p2⟩ := hSw; have c0 := hRl.size; obtain ⟨c1, c2, c3, c4, c5, c6, c7, c8, c9, c10, c11, c12⟩ := hRl.rows; go_simp; try with_reducible rfl)
                      simp only [Act.put, List.setIfInBounds_toArray, List.set_cons_zero, List.set_cons_succ]
                      refine takeAt 1 104 (oi := _) (v := ?_) rfl rfl (by kernel_rfl) (by kernel_rfl) (by kernel_rfl) (fun _ _ _ h => h) (by rfl) ?_ (HST.out _ HRK.out) ?_
                      rotate_left
                      · (intro w hSw; obtain ⟨hRl, p1, p2⟩ := hSw; go_simp; try with_reducible rfl)
                      simp only [Act.put, List.setIfInBounds_toArray, List.set_cons_zero, List.set_cons_succ]
                      refine takeAt 2 105 (oi := _) (v := ?_) rfl rfl (by kernel_rfl) (by kernel_rfl) (by kernel_rfl) (fun _ _ _ h => h) (by rfl) ?_ (HST.out _ HRK.out) ?_
                      rotate_left
                      · (intro w hSw; obtain ⟨hRl, p1, p2⟩ := hSw; go_simp; try with_reducible rfl)
                      simp only [Act.put, List.setIfInBounds_toArray, List.set_cons_zero, List.set_cons_succ]
                      refine wpAnyH_ready (rs := [3]) (by kernel_rfl) (by simp) ?_
                      refine AllReadyH.cons (o := _) rfl (fun K hK => ?_) AllReadyH.nil
                      go_simp
                      refine (ahead_any n r i j WD (by omega) (by omega)).mono ?_
                      rintro e w9 ⟨rfl, hb9⟩
                      rw [hbit]
                      have HRL := Lib.hid (HRK.out.next hb9)
                      clear hb9
                      refine hK.out _ _ (HST.out _ HRL.out) (fun _ => ?_)
                      clear hK K
                      refine takeAt 4 107 (oi := _) (v := ?_) rfl rfl (by kernel_rfl) (by kernel_rfl) (by kernel_rfl) (fun _ _ _ h => h) (by rfl) ?_ (HST.out _ HRL.out) ?_
                      rotate_left
                      · (intro w hSw; obtain ⟨hRl, p1, p2⟩ := hSw; go_simp; try with_reducible rfl)
                      simp only [Act.put, List.setIfInBounds_toArray, List.set_cons_zero, List.set_cons_succ]
                      refine skipAt 5 108 (oi := _) rfl rfl (by kernel_rfl) (by kernel_rfl) (by kernel_rfl) (fun _ _ _ h => h) (by rfl) (HST.out _ HRL.out) ?_
                      simp only [Act.put, List.setIfInBounds_toArray, List.set_cons_zero, List.set_cons_succ]
                      refine skipAt 6 109 (oi := _) rfl rfl (by kernel_rfl) (by kernel_rfl) (by kernel_rfl) (fun _ _ _ h => h) (by rfl) (HST.out _ HRL.out) ?_
                      simp only [Act.put, List.setIfInBounds_toArray, List.set_cons_zero, List.set_cons_succ]
                      refine skipAt 7 110 (oi := _) rfl rfl (by kernel_rfl) (by kernel_rfl) (by kernel_rfl) (fun _ _ _ h => h) (by rfl) (HST.out _ HRL.out) ?_
                      simp only [Act.put, List.setIfInBounds_toArray, List.set_cons_zero, List.set_cons_succ]
                      refine skipAt 8 111 (oi := _) rfl rfl (by kernel_rfl) (by kernel_rfl) (by kernel_rfl) (fun _ _ _ h => h) (by rfl) (HST.out _ HRL.out) ?_
                      simp only [Act.put, List.setIfInBounds_toArray, List.set_cons_zero, List.set_cons_succ]
                      refine skipAt 9 112 (oi := _) rfl rfl (by kernel_rfl) (by kernel_rfl) (by kernel_rfl) (fun _ _ _ h => h) (by rfl) (HST.out _ HRL.out) ?_
                      simp only [Act.put, List.setIfInBounds_toArray, List.set_cons_zero, List.set_cons_succ]
                      refine takeAt 10 113 (oi := _) (v := ?_) rfl rfl (by kernel_rfl) (by kernel_rfl) (by kernel_rfl) (fun _ _ _ h => h) (by rfl) ?_ (HST.out _ HRL.out) ?_
                      rotate_left
                      · (intro w hSw; obtain ⟨hRl, p1, p2⟩ := hSw; go_simp; try with_reducible rfl)
                      simp only [Act.put, List.setIfInBounds_toArray, List.set_cons_zero, List.set_cons_succ]
                      refine takeAt 11 114 (oi := _) (v := ?_) rfl rfl (by kernel_rfl) (by kernel_rfl) (by kernel_rfl) (fun _ _ _ h => h) (by rfl) ?_ (HST.out _ HRL.out) ?_
                      rotate_left
                      · (intro w hSw; obtain ⟨hRl, p1, p2⟩ := hSw; go_simp; try with_reducible rfl)
                      simp only [Act.put, List.setIfInBounds_toArray, List.set_cons_zero, List.set_cons_succ]
                      refine skipAt 12 115 (oi := _) rfl rfl (by kernel_rfl) (by kernel_rfl) (by kernel_rfl) (fun _ _ _ h => h) (by rfl) (HST.out _ HRL.out) ?_
                      simp only [Act.put, List.setIfInBounds_toArray, List.set_cons_zero, List.set_cons_succ]
                      refine skipAt 13 116 (oi := _) rfl rfl (by kernel_rfl) (by kernel_rfl) (by kernel_rfl) (fun _ _ _ h => h) (by rfl) (HST.out _ HRL.out) ?_
                      simp only [Act.put, List.setIfInBounds_toArray, List.set_cons_zero, List.set_cons_succ]
                      refine skipAt 14 117 (oi := _) rfl rfl (by kernel_rfl) (by kernel_rfl) (by kernel_rfl) (fun _ _ _ h => h) (by rfl) (HST.out _ HRL.out) ?_
                      simp only [Act.put, List.setIfInBounds_toArray, List.set_cons_zero, List.set_cons_succ]
                      refine skipAt 15 118 (oi := _) rfl rfl (by kernel_rfl) (by kernel_rfl) (by kernel_rfl) (fun _ _ _ h => h) (by rfl) (HST.out _ HRL.out) ?_
                      simp only [Act.put, List.setIfInBounds_toArray, List.set_cons_zero, List.set_cons_succ]
                      refine skipAt 16 119 (oi := _) rfl rfl (by kernel_rfl) (by kernel_rfl) (by kernel_rfl) (fun _ _ _ h => h) (by rfl) (HST.out _ HRL.out) ?_
                      simp only [Act.put, List.setIfInBounds_toArray, List.set_cons_zero, List.set_cons_succ]
                      refine skipAt 17 120 (oi := _) rfl rfl (by kernel_rfl) (by kernel_rfl) (by kernel_rfl) (fun _ _ _ h => h) (by rfl) (HST.out _ HRL.out) ?_
                      simp only [Act.put, List.setIfInBounds_toArray, List.set_cons_zero, List.set_cons_succ]
                      refine skipAt 18 121 (oi := _) rfl rfl (by kernel_rfl) (by kernel_rfl) (by kernel_rfl) (fun _ _ _ h => h) (by rfl) (HST.out _ HRL.out) ?_
                      simp only [Act.put, List.setIfInBounds_toArray, List.set_cons_zero, List.set_cons_succ]
                      refine skipAt 19 122 (oi := _) rfl rfl (by kernel_rfl) (by kernel_rfl) (by kernel_rfl) (fun _ _ _ h => h) (by rfl) (HST.out _ HRL.out) ?_
                      simp only [Act.put, List.setIfInBounds_toArray, List.set_cons_zero, List.set_cons_succ]
                      refine skipAt 20 123 (oi := _) rfl rfl (by kernel_rfl) (by kernel_rfl) (by kernel_rfl) (fun _ _ _ h => h) (by rfl) (HST.out _ HRL.out) ?_
                      simp only [Act.put, List.setIfInBounds_toArray, List.set_cons_zero, List.set_cons_succ]
                      refine skipAt 21 124 (oi := _) rfl rfl (by kernel_rfl) (by kernel_rfl) (by kernel_rfl) (fun _ _ _ h => h) (by rfl) (HST.out _ HRL.out) ?_
                      simp only [Act.put, List.setIfInBounds_toArray, List.set_cons_zero, List.set_cons_succ]
                      refine skipAt 22 125 (oi := _) rfl rfl (by kernel_rfl) (by kernel_rfl) (by kernel_rfl) (fun _ _ _ h => h) (by rfl) (HST.out _ HRL.out) ?_
                      simp only [Act.put, List.setIfInBounds_toArray, List.set_cons_zero, List.set_cons_succ]
                      refine skipAt 23 126 (oi := _) rfl rfl (by kernel_rfl) (by kernel_rfl) (by kernel_rfl) (fun _ _ _ h => h) (by rfl) (HST.out _ HRL.out) ?_
                      simp only [Act.put, List.setIfInBounds_toArray, List.set_cons_zero, List.set_cons_succ]
                      refine skipAt 24 127 (oi := _) rfl rfl (by kernel_rfl) (by kernel_rfl) (by kernel_rfl) (fun _ _ _ h => h) (by rfl) (HST.out _ HRL.out) ?_
                      simp only [Act.put, List.setIfInBounds_toArray, List.set_cons_zero, List.set_cons_succ]
                      refine skipAt 25 128 (oi := _) rfl rfl (by kernel_rfl) (by kernel_rfl) (by kernel_rfl) (fun _ _ _ h => h) (by rfl) (HST.out _ HRL.out) ?_
                      simp only [Act.put, List.setIfInBounds_toArray, List.set_cons_zero, List.set_cons_succ]
                      refine skipAt 26 129 (oi := _) rfl rfl (by kernel_rfl) (by kernel_rfl) (by kernel_rfl) (fun _ _ _ h => h) (by rfl) (HST.out _ HRL.out) ?_
                      simp only [Act.put, List.setIfInBounds_toArray, List.set_cons_zero, List.set_cons_succ]
                      refine skipAt 27 130 (oi := _) rfl rfl (by kernel_rfl) (by kernel_rfl) (by kernel_rfl) (fun _ _ _ h => h) (by rfl) (HST.out _ HRL.out) ?_
                      simp only [Act.put, List.setIfInBounds_toArray, List.set_cons_zero, List.set_cons_succ]
                      refine takeAt 28 131 (oi := _) (v := ?_) rfl rfl (by kernel_rfl) (by kernel_rfl) (by kernel_rfl) (fun _ _ _ h => h) (by rfl) ?_ (HST.out _ HRL.out) ?_
                      rotate_left
                      · (intro w hSw; obtain ⟨hRl, p1, p2⟩ := hSw; go_simp; try with_reducible rfl)
                      simp only [Act.put, List.setIfInBounds_toArray, List.set_cons_zero, List.set_cons_succ]
                      refine wpAnyH_done (by kernel_rfl) ?_ _
                      go_wp2_with fail
                      go_roundw
                      case rel => exact ⟨j + 1, by omega, by go_num, HJ.out.succ (fun h => by rw [hbit] at h; cases h), HRL.out⟩
                      case measure => simp [intOf]; omega
                    · by_cases hf1 : f j < 0
                      · have b1 : decide (0 ≤ f j) = false := decide_eq_false (by omega)
                        go_wp2_with fail
                        refine wp_region_held_drew (S := RoT w.heap.size G n r i j (f i) (f j)) (by kernel_rfl) (HST.out _ HRJ.out.drew) (fun hHeld => ?_)
                        change wpAnyH _ _ _ _ _ 29 _ _ _
                        clear hHeld
                        have HRK := Lib.hid HRJ.out.drew
                        generalize wr.drew = WD at HRK ⊢
                        refine takeAt 0 103 (oi := _) (v := ?_) rfl rfl (by kernel_rfl) (by kernel_rfl) (by kernel_rfl) (fun _ _ _ h => h) (by rfl) ?_ (HST.out _ HRK.out) ?_
                        rotate_left
                        · (intro w hSw; obtain ⟨hRl, p1, p2⟩ := hSw; have c0 := hRl.size; obtain ⟨c1, c2, c3, c4, c5, c6, c7, c8, c9, c10, c11, c12⟩ := hRl.rows; go_simp; try with_reducible rfl)
                        simp only [Act.put, List.setIfInBounds_toArray, List.set_cons_zero, List.set_cons_succ]
                        refine takeAt 1 104 (oi := _) (v := ?_) rfl rfl (by kernel_rfl) (by kernel_rfl) (by kernel_rfl) (fun _ _ _ h => h) (by rfl) ?_ (HST.out _ HRK.out) ?_
                        rotate_left
                        · (intro w hSw; obtain ⟨hRl, p1, p2⟩ := hSw; go_simp; try with_reducible rfl)
                        simp only [Act.put, List.setIfInBounds_toArray, List.set_cons_zero, List.set_cons_succ]
                        refine takeAt 2 105 (oi := _) (v := ?_) rfl rfl (by kernel_rfl) (by kernel_rfl) (by kernel_rfl) (fun _ _ _ h => h) (by rfl) ?_ (HST.out _ HRK.out) ?_
                        rotate_left
                        · (intro w hSw; obtain ⟨hRl, p1, p2⟩ := hSw; go_simp; try with_reducible rfl)
                        simp only [Act.put, List.setIfInBounds_toArray, List.set_cons_zero, List.set_cons_succ]
                        refine wpAnyH_ready (rs := [3]) (by kernel_rfl) (by simp) ?_
                        refine AllReadyH.cons (o := _) rfl (fun K hK => ?_) AllReadyH.nil
                        go_simp
                        refine (ahead_any n r i j WD (by omega) (by omega)).mono ?_
                        rintro e w9 ⟨rfl, hb9⟩
                        rw [hbit]
                        have HRL := Lib.hid (HRK.out.next hb9)
                        clear hb9
                        refine hK.out _ _ (HST.out _ HRL.out) (fun _ => ?_)
                        clear hK K
                        refine takeAt 4 107 (oi := _) (v := ?_) rfl rfl (by kernel_rfl) (by kernel_rfl) (by kernel_rfl) (fun _ _ _ h => h) (by rfl) ?_ (HST.out _ HRL.out) ?_
                        rotate_left
                        · (intro w hSw; obtain ⟨hRl, p1, p2⟩ := hSw; go_simp; try with_reducible rfl)
                        simp only [Act.put, List.setIfInBounds_toArray, List.set_cons_zero, List.set_cons_succ]
                        refine takeAt 5 108 (oi := _) (v := ?_) rfl rfl (by kernel_rfl) (by kernel_rfl) (by kernel_rfl) (fun _ _ _ h => h) (by rfl) ?_ (HST.out _ HRL.out) ?_
                        rotate_left
                        · (intro w hSw; obtain ⟨hRl, p1, p2⟩ := hSw; go_simp; try with_reducible rfl)
                        simp only [Act.put, List.setIfInBounds_toArray, List.set_cons_zero, List.set_cons_succ]
                        refine takeAt 6 109 (oi := _) (v := ?_) rfl rfl (by kernel_rfl) (by kernel_rfl) (by kernel_rfl) (fun _ _ _ h => h) (by rfl) ?_ (HST.out _ HRL.out) ?_
                        rotate_left
                        · (intro w hSw; obtain ⟨hRl, p1, p2⟩ := hSw; go_simp; try with_reducible rfl)
                        simp only [Act.put, List.setIfInBounds_toArray, List.set_cons_zero, List.set_cons_succ]
                        refine takeAt 7 110 (oi := _) (v := ?_) rfl rfl (by kernel_rfl) (by kernel_rfl) (by kernel_rfl) (fun _ _ _ h => h) (by rfl) ?_ (HST.out _ HRL.out) ?_
                        rotate_left
                        · (intro w hSw; obtain ⟨hRl, p1, p2⟩ := hSw; go_simp; try with_reducible rfl)
                        simp only [Act.put, List.setIfInBounds_toArray, List.set_cons_zero, List.set_cons_succ]
                        refine takeAt 8 111 (oi := _) (v := ?_) rfl rfl (by kernel_rfl) (by kernel_rfl) (by kernel_rfl) (fun _ _ _ h => h) (by rfl) ?_ (HST.out _ HRL.out) ?_
                        rotate_left
                        · (intro w hSw; obtain ⟨hRl, p1, p2⟩ := hSw; go_simp; try with_reducible rfl)
                        simp only [Act.put, List.setIfInBounds_toArray, List.set_cons_zero, List.set_cons_succ]
                        refine takeAt 9 112 (oi := _) (v := ?_) rfl rfl (by kernel_rfl) (by kernel_rfl) (by kernel_rfl) (fun _ _ _ h => h) (by rfl) ?_ (HST.out _ HRL.out) ?_
                        rotate_left
                        · (intro w hSw; obtain ⟨hRl, p1, p2⟩ := hSw; go_simp; try with_reducible rfl)
                        simp only [Act.put, List.setIfInBounds_toArray, List.set_cons_zero, List.set_cons_succ]
                        refine takeAt 10 113 (oi := _) (v := ?_) rfl rfl (by kernel_rfl) (by kernel_rfl) (by kernel_rfl) (fun _ _ _ h => h) (by rfl) ?_ (HST.out _ HRL.out) ?_
                        rotate_left
                        · (intro w hSw; obtain ⟨hRl, p1, p2⟩ := hSw; go_simp; try with_reducible rfl)
                        simp only [Act.put, List.setIfInBounds_toArray, List.set_cons_zero, List.set_cons_succ]
                        refine takeAt 11 114 (oi := _) (v := ?_) rfl rfl (by kernel_rfl) (by kernel_rfl) (by kernel_rfl) (fun _ _ _ h => h) (by rfl) ?_ (HST.out _ HRL.out) ?_
                        rotate_left
                        · (intro w hSw; obtain ⟨hRl, p1, p2⟩ := hSw; go_simp; try with_reducible rfl)
                        simp only [Act.put, List.setIfInBounds_toArray, List.set_cons_zero, List.set_cons_succ]
                        refine skipAt 12 115 (oi := _) rfl rfl (by kernel_rfl) (by kernel_rfl) (by kernel_rfl) (fun _ _ _ h => h) (by rfl) (HST.out _ HRL.out) ?_
                        simp only [Act.put, List.setIfInBounds_toArray, List.set_cons_zero, List.set_cons_succ]
                        refine skipAt 13 116 (oi := _) rfl rfl (by kernel_rfl) (by kernel_rfl) (by kernel_rfl) (fun _ _ _ h => h) (by rfl) (HST.out _ HRL.out) ?_
                        simp only [Act.put, List.setIfInBounds_toArray, List.set_cons_zero, List.set_cons_succ]
                        refine skipAt 14 117 (oi := _) rfl rfl (by kernel_rfl) (by kernel_rfl) (by kernel_rfl) (fun _ _ _ h => h) (by rfl) (HST.out _ HRL.out) ?_
                        simp only [Act.put, List.setIfInBounds_toArray, List.set_cons_zero, List.set_cons_succ]
                        refine skipAt 15 118 (oi := _) rfl rfl (by kernel_rfl) (by kernel_rfl) (by kernel_rfl) (fun _ _ _ h => h) (by rfl) (HST.out _ HRL.out) ?_
                        simp only [Act.put, List.setIfInBounds_toArray, List.set_cons_zero, List.set_cons_succ]
                        refine skipAt 16 119 (oi := _) rfl rfl (by kernel_rfl) (by kernel_rfl) (by kernel_rfl) (fun _ _ _ h => h) (by rfl) (HST.out _ HRL.out) ?_
                        simp only [Act.put, List.setIfInBounds_toArray, List.set_cons_zero, List.set_cons_succ]
                        refine skipAt 17 120 (oi := _) rfl rfl (by kernel_rfl) (by kernel_rfl) (by kernel_rfl) (fun _ _ _ h => h) (by rfl) (HST.out _ HRL.out) ?_
                        simp only [Act.put, List.setIfInBounds_toArray, List.set_cons_zero, List.set_cons_succ]
                        refine skipAt 18 121 (oi := _) rfl rfl (by kernel_rfl) (by kernel_rfl) (by kernel_rfl) (fun _ _ _ h => h) (by rfl) (HST.out _ HRL.out) ?_
                        simp only [Act.put, List.setIfInBounds_toArray, List.set_cons_zero, List.set_cons_succ]
                        refine skipAt 19 122 (oi := _) rfl rfl (by kernel_rfl) (by kernel_rfl) (by kernel_rfl) (fun _ _ _ h => h) (by rfl) (HST.out _ HRL.out) ?_
                        simp only [Act.put, List.setIfInBounds_toArray, List.set_cons_zero, List.set_cons_succ]
                        refine skipAt 20 123 (oi := _) rfl rfl (by kernel_rfl) (by kernel_rfl) (by kernel_rfl) (fun _ _ _ h => h) (by rfl) (HST.out _ HRL.out) ?_
                        simp only [Act.put, List.setIfInBounds_toArray, List.set_cons_zero, List.set_cons_succ]
                        refine skipAt 21 124 (oi := _) rfl rfl (by kernel_rfl) (by kernel_rfl) (by kernel_rfl) (fun _ _ _ h => h) (by rfl) (HST.out _ HRL.out) ?_
                        simp only [Act.put, List.setIfInBounds_toArray, List.set_cons_zero, List.set_cons_succ]
                        refine skipAt 22 125 (oi := _) rfl rfl (by kernel_rfl) (by kernel_rfl) (by kernel_rfl) (fun _ _ _ h => h) (by rfl) (HST.out _ HRL.out) ?_
                        simp only [Act.put, List.setIfInBounds_toArray, List.set_cons_zero, List.set_cons_succ]
                        refine skipAt 23 126 (oi := _) rfl rfl (by kernel_rfl) (by kernel_rfl) (by kernel_rfl) (fun _ _ _ h => h) (by rfl) (HST.out _ HRL.out) ?_
                        simp only [Act.put, List.setIfInBounds_toArray, List.set_cons_zero, List.set_cons_succ]
                        refine skipAt 24 127 (oi := _) rfl rfl (by kernel_rfl) (by kernel_rfl) (by kernel_rfl) (fun _ _ _ h => h) (by rfl) (HST.out _ HRL.out) ?_
                        simp only [Act.put, List.setIfInBounds_toArray, List.set_cons_zero, List.set_cons_succ]
                        refine skipAt 25 128 (oi := _) rfl rfl (by kernel_rfl) (by kernel_rfl) (by kernel_rfl) (fun _ _ _ h => h) (by rfl) (HST.out _ HRL.out) ?_
                        simp only [Act.put, List.setIfInBounds_toArray, List.set_cons_zero, List.set_cons_succ]
                        refine skipAt 26 129 (oi := _) rfl rfl (by kernel_rfl) (by kernel_rfl) (by kernel_rfl) (fun _ _ _ h => h) (by rfl) (HST.out _ HRL.out) ?_
                        simp only [Act.put, List.setIfInBounds_toArray, List.set_cons_zero, List.set_cons_succ]
                        refine skipAt 27 130 (oi := _) rfl rfl (by kernel_rfl) (by kernel_rfl) (by kernel_rfl) (fun _ _ _ h => h) (by rfl) (HST.out _ HRL.out) ?_
                        simp only [Act.put, List.setIfInBounds_toArray, List.set_cons_zero, List.set_cons_succ]
                        refine takeAt 28 131 (oi := _) (v := ?_) rfl rfl (by kernel_rfl) (by kernel_rfl) (by kernel_rfl) (fun _ _ _ h => h) (by rfl) ?_ (HST.out _ HRL.out) ?_
                        rotate_left
                        · (intro w hSw; obtain ⟨hRl, p1, p2⟩ := hSw; go_simp; try with_reducible rfl)
                        simp only [Act.put, List.setIfInBounds_toArray, List.set_cons_zero, List.set_cons_succ]
                        refine wpAnyH_done (by kernel_rfl) ?_ _
                        go_wp2_with fail
                        go_roundw
                        case rel => exact ⟨j + 1, by omega, by go_num, HJ.out.succ (fun _ h => by omega), HRL.out⟩
                        case measure => simp [intOf]; omega
                      · have b1 : decide (0 ≤ f j) = true := decide_eq_true (by omega)
                        by_cases hf2 : f i < 0
                        · have b2 : decide (f i < 0) = true := decide_eq_true hf2
                          go_wp2_with fail
                          refine wp_region_held_drew (S := RoT w.heap.size G n r i j (f i) (f j)) (by kernel_rfl) (HST.out _ HRJ.out.drew) (fun hHeld => ?_)
                          change wpAnyH _ _ _ _ _ 29 _ _ _
                          clear hHeld
                          have HRK := Lib.hid HRJ.out.drew
                          generalize wr.drew = WD at HRK ⊢
                          refine takeAt 0 103 (oi := _) (v := ?_) rfl rfl (by kernel_rfl) (by kernel_rfl) (by kernel_rfl) (fun _ _ _ h => h) (by rfl) ?_ (HST.out _ HRK.out) ?_
                          rotate_left
                          · (intro w hSw; obtain ⟨hRl, p1, p2⟩ := hSw; have c0 := hRl.size; obtain ⟨c1, c2, c3, c4, c5, c6, c7, c8, c9, c10, c11, c12⟩ := hRl.rows; go_simp; try with_reducible rfl)
                          simp only [Act.put, List.setIfInBounds_toArray, List.set_cons_zero, List.set_cons_succ]
                          refine takeAt 1 104 (oi := _) (v := ?_) rfl rfl (by kernel_rfl) (by kernel_rfl) (by kernel_rfl) (fun _ _ _ h => h) (by rfl) ?_ (HST.out _ HRK.out) ?_
                          rotate_left
                          · (intro w hSw; obtain ⟨hRl, p1, p2⟩ := hSw; go_simp; try with_reducible rfl)
                          simp only [Act.put, List.setIfInBounds_toArray, List.set_cons_zero, List.set_cons_succ]
                          refine takeAt 2 105 (oi := _) (v := ?_) rfl rfl (by kernel_rfl) (by kernel_rfl) (by kernel_rfl) (fun _ _ _ h => h) (by rfl) ?_ (HST.out _ HRK.out) ?_
                          rotate_left
                          · (intro w hSw; obtain ⟨hRl, p1, p2⟩ := hSw; go_simp; try with_reducible rfl)
                          simp only [Act.put, List.setIfInBounds_toArray, List.set_cons_zero, List.set_cons_succ]
                          refine wpAnyH_ready (rs := [3]) (by kernel_rfl) (by simp) ?_
                          refine AllReadyH.cons (o := _) rfl (fun K hK => ?_) AllReadyH.nil
                          go_simp
                          refine (ahead_any n r i j WD (by omega) (by omega)).mono ?_
                          rintro e w9 ⟨rfl, hb9⟩
                          rw [hbit]
                          have HRL := Lib.hid (HRK.out.next hb9)
                          clear hb9
                          refine hK.out _ _ (HST.out _ HRL.out) (fun _ => ?_)
                          clear hK K
                          refine takeAt 4 107 (oi := _) (v := ?_) rfl rfl (by kernel_rfl) (by kernel_rfl) (by kernel_rfl) (fun _ _ _ h => h) (by rfl) ?_ (HST.out _ HRL.out) ?_
                          rotate_left
                          · (intro w hSw; obtain ⟨hRl, p1, p2⟩ := hSw; go_simp; try with_reducible rfl)
                          simp only [Act.put, List.setIfInBounds_toArray, List.set_cons_zero, List.set_cons_succ]
                          refine takeAt 5 108 (oi := _) (v := ?_) rfl rfl (by kernel_rfl) (by kernel_rfl) (by kernel_rfl) (fun _ _ _ h => h) (by rfl) ?_ (HST.out _ HRL.out) ?_
                          rotate_left
                          · (intro w hSw; obtain ⟨hRl, p1, p2⟩ := hSw; go_simp; try with_reducible rfl)
                          simp only [Act.put, List.setIfInBounds_toArray, List.set_cons_zero, List.set_cons_succ]
                          refine takeAt 6 109 (oi := _) (v := ?_) rfl rfl (by kernel_rfl) (by kernel_rfl) (by kernel_rfl) (fun _ _ _ h => h) (by rfl) ?_ (HST.out _ HRL.out) ?_
                          rotate_left
                          · (intro w hSw; obtain ⟨hRl, p1, p2⟩ := hSw; go_simp; try with_reducible rfl)
                          simp only [Act.put, List.setIfInBounds_toArray, List.set_cons_zero, List.set_cons_succ]
                          refine takeAt 7 110 (oi := _) (v := ?_) rfl rfl (by kernel_rfl) (by kernel_rfl) (by kernel_rfl) (fun _ _ _ h => h) (by rfl) ?_ (HST.out _ HRL.out) ?_
                          rotate_left
                          · (intro w hSw; obtain ⟨hRl, p1, p2⟩ := hSw; go_simp; try with_reducible rfl)
                          simp only [Act.put, List.setIfInBounds_toArray, List.set_cons_zero, List.set_cons_succ]
                          refine takeAt 8 111 (oi := _) (v := ?_) rfl rfl (by kernel_rfl) (by kernel_rfl) (by kernel_rfl) (fun _ _ _ h => h) (by rfl) ?_ (HST.out _ HRL.out) ?_
                          rotate_left
                          · (intro w hSw; obtain ⟨hRl, p1, p2⟩ := hSw; go_simp; try with_reducible rfl)
                          simp only [Act.put, List.setIfInBounds_toArray, List.set_cons_zero, List.set_cons_succ]
                          refine takeAt 9 112 (oi := _) (v := ?_) rfl rfl (by kernel_rfl) (by kernel_rfl) (by kernel_rfl) (fun _ _ _ h => h) (by rfl) ?_ (HST.out _ HRL.out) ?_
                          rotate_left
                          · (intro w hSw; obtain ⟨hRl, p1, p2⟩ := hSw; go_simp; try with_reducible rfl)
                          simp only [Act.put, List.setIfInBounds_toArray, List.set_cons_zero, List.set_cons_succ]
                          refine takeAt 10 113 (oi := _) (v := ?_) rfl rfl (by kernel_rfl) (by kernel_rfl) (by kernel_rfl) (fun _ _ _ h => h) (by rfl) ?_ (HST.out _ HRL.out) ?_
                          rotate_left
                          · (intro w hSw; obtain ⟨hRl, p1, p2⟩ := hSw; go_simp; try with_reducible rfl)
                          simp only [Act.put, List.setIfInBounds_toArray, List.set_cons_zero, List.set_cons_succ]
                          refine takeAt 11 114 (oi := _) (v := ?_) rfl rfl (by kernel_rfl) (by kernel_rfl) (by kernel_rfl) (fun _ _ _ h => h) (by rfl) ?_ (HST.out _ HRL.out) ?_
                          rotate_left
                          · (intro w hSw; obtain ⟨hRl, p1, p2⟩ := hSw; go_simp; try with_reducible rfl)
                          simp only [Act.put, List.setIfInBounds_toArray, List.set_cons_zero, List.set_cons_succ]
                          refine takeAt 12 115 (oi := _) (v := ?_) rfl rfl (by kernel_rfl) (by kernel_rfl) (by kernel_rfl) (fun _ _ _ h => h) (by rfl) ?_ (HST.out _ HRL.out) ?_
                          rotate_left
                          · (intro w hSw; obtain ⟨hRl, p1, p2⟩ := hSw; go_simp; try with_reducible rfl)
                          simp only [Act.put, List.setIfInBounds_toArray, List.set_cons_zero, List.set_cons_succ]
                          refine takeAt 13 116 (oi := _) (v := ?_) rfl rfl (by kernel_rfl) (by kernel_rfl) (by kernel_rfl) (fun _ _ _ h => h) (by rfl) ?_ (HST.out _ HRL.out) ?_
                          rotate_left
                          · (intro w hSw; obtain ⟨hRl, p1, p2⟩ := hSw; go_simp; try with_reducible rfl)
                          simp only [Act.put, List.setIfInBounds_toArray, List.set_cons_zero, List.set_cons_succ]
                          refine takeAt 14 117 (oi := _) (v := ?_) rfl rfl (by kernel_rfl) (by kernel_rfl) (by kernel_rfl) (fun _ _ _ h => h) (by rfl) ?_ (HST.out _ HRL.out) ?_
                          rotate_left
                          · (intro w hSw; obtain ⟨hRl, p1, p2⟩ := hSw; go_simp; try with_reducible rfl)
                          simp only [Act.put, List.setIfInBounds_toArray, List.set_cons_zero, List.set_cons_succ]
                          refine takeAt 15 118 (oi := _) (v := ?_) rfl rfl (by kernel_rfl) (by kernel_rfl) (by kernel_rfl) (fun _ _ _ h => h) (by rfl) ?_ (HST.out _ HRL.out) ?_
                          rotate_left
                          · (intro w hSw; obtain ⟨hRl, p1, p2⟩ := hSw; go_simp; try with_reducible rfl)
                          simp only [Act.put, List.setIfInBounds_toArray, List.set_cons_zero, List.set_cons_succ]
                          refine takeAt 16 119 (oi := _) (v := ?_) rfl rfl (by kernel_rfl) (by kernel_rfl) (by kernel_rfl) (fun _ _ _ h => h) (by rfl) ?_ (HST.out _ HRL.out) ?_
                          rotate_left
                          · (intro w hSw; obtain ⟨hRl, p1, p2⟩ := hSw; go_simp; try with_reducible rfl)
                          simp only [Act.put, List.setIfInBounds_toArray, List.set_cons_zero, List.set_cons_succ]
                          refine takeAt 17 120 (oi := _) (v := ?_) rfl rfl (by kernel_rfl) (by kernel_rfl) (by kernel_rfl) (fun _ _ _ h => h) (by rfl) ?_ (HST.out _ HRL.out) ?_
                          rotate_left
                          · (intro w hSw; obtain ⟨hRl, p1, p2⟩ := hSw; go_simp; try with_reducible rfl)
                          simp only [Act.put, List.setIfInBounds_toArray, List.set_cons_zero, List.set_cons_succ]
                          refine skipAt 18 121 (oi := _) rfl rfl (by kernel_rfl) (by kernel_rfl) (by kernel_rfl) (fun _ _ _ h => h) (by rfl) (HST.out _ HRL.out) ?_
                          simp only [Act.put, List.setIfInBounds_toArray, List.set_cons_zero, List.set_cons_succ]
                          refine skipAt 19 122 (oi := _) rfl rfl (by kernel_rfl) (by kernel_rfl) (by kernel_rfl) (fun _ _ _ h => h) (by rfl) (HST.out _ HRL.out) ?_
                          simp only [Act.put, List.setIfInBounds_toArray, List.set_cons_zero, List.set_cons_succ]
                          refine skipAt 20 123 (oi := _) rfl rfl (by kernel_rfl) (by kernel_rfl) (by kernel_rfl) (fun _ _ _ h => h) (by rfl) (HST.out _ HRL.out) ?_
                          simp only [Act.put, List.setIfInBounds_toArray, List.set_cons_zero, List.set_cons_succ]
                          refine skipAt 21 124 (oi := _) rfl rfl (by kernel_rfl) (by kernel_rfl) (by kernel_rfl) (fun _ _ _ h => h) (by rfl) (HST.out _ HRL.out) ?_
                          simp only [Act.put, List.setIfInBounds_toArray, List.set_cons_zero, List.set_cons_succ]
                          refine skipAt 22 125 (oi := _) rfl rfl (by kernel_rfl) (by kernel_rfl) (by kernel_rfl) (fun _ _ _ h => h) (by rfl) (HST.out _ HRL.out) ?_
                          simp only [Act.put, List.setIfInBounds_toArray, List.set_cons_zero, List.set_cons_succ]
                          refine skipAt 23 126 (oi := _) rfl rfl (by kernel_rfl) (by kernel_rfl) (by kernel_rfl) (fun _ _ _ h => h) (by rfl) (HST.out _ HRL.out) ?_
                          simp only [Act.put, List.setIfInBounds_toArray, List.set_cons_zero, List.set_cons_succ]
                          refine skipAt 24 127 (oi := _) rfl rfl (by kernel_rfl) (by kernel_rfl) (by kernel_rfl) (fun _ _ _ h => h) (by rfl) (HST.out _ HRL.out) ?_
                          simp only [Act.put, List.setIfInBounds_toArray, List.set_cons_zero, List.set_cons_succ]
                          refine skipAt 25 128 (oi := _) rfl rfl (by kernel_rfl) (by kernel_rfl) (by kernel_rfl) (fun _ _ _ h => h) (by rfl) (HST.out _ HRL.out) ?_
                          simp only [Act.put, List.setIfInBounds_toArray, List.set_cons_zero, List.set_cons_succ]
                          refine skipAt 26 129 (oi := _) rfl rfl (by kernel_rfl) (by kernel_rfl) (by kernel_rfl) (fun _ _ _ h => h) (by rfl) (HST.out _ HRL.out) ?_
                          simp only [Act.put, List.setIfInBounds_toArray, List.set_cons_zero, List.set_cons_succ]
                          refine takeAt 27 130 (oi := _) (v := ?_) rfl rfl (by kernel_rfl) (by kernel_rfl) (by kernel_rfl) (fun _ _ _ h => h) (by rfl) ?_ (HST.out _ HRL.out) ?_
                          rotate_left
                          · (intro w hSw; obtain ⟨hRl, p1, p2⟩ := hSw; go_simp; try with_reducible rfl)
                          simp only [Act.put, List.setIfInBounds_toArray, List.set_cons_zero, List.set_cons_succ]
                          refine takeAt 28 131 (oi := _) (v := ?_) rfl rfl (by kernel_rfl) (by kernel_rfl) (by kernel_rfl) (fun _ _ _ h => h) (by rfl) ?_ (HST.out _ HRL.out) ?_
                          rotate_left
                          · (intro w hSw; obtain ⟨hRl, p1, p2⟩ := hSw; go_simp; try with_reducible rfl)
                          simp only [Act.put, List.setIfInBounds_toArray, List.set_cons_zero, List.set_cons_succ]
                          refine wpAnyH_done (by kernel_rfl) ?_ _
                          go_wp2_with fail
                          go_ret
                          exact ⟨false, rfl, ⟨fun h => (by cases h), fun h => absurd h (not_rite3 (p := fun i j => (r i).testBit j) HAT.out hi' (by rw [← HNN.out]; exact hjn) hbit (by omega) (.inl hf2))⟩, HRL.out.below⟩
                        · have b2 : decide (f i < 0) = false := decide_eq_false hf2
                          by_cases hf3 : f j < f i
                          · have b3 : decide (f j < f i) = true := decide_eq_true hf3
                            go_wp2_with fail
                            refine wp_region_held_drew (S := RoT w.heap.size G n r i j (f i) (f j)) (by kernel_rfl) (HST.out _ HRJ.out.drew) (fun hHeld => ?_)
                            change wpAnyH _ _ _ _ _ 29 _ _ _
                            clear hHeld
                            have HRK := Lib.hid HRJ.out.drew
                            generalize wr.drew = WD at HRK ⊢
                            refine takeAt 0 103 (oi := _) (v := ?_) rfl rfl (by kernel_rfl) (by kernel_rfl) (by kernel_rfl) (fun _ _ _ h => h) (by rfl) ?_ (HST.out _ HRK.out) ?_
                            rotate_left
                            · (intro w hSw; obtain ⟨hRl, p1, p2⟩ := hSw; have c0 := hRl.size; obtain ⟨c1, c2, c3, c4, c5, c6, c7, c8, c9, c10, c11, c12⟩ := hRl.rows; go_simp; try with_reducible rfl)
                            simp only [Act.put, List.setIfInBounds_toArray, List.set_cons_zero, List.set_cons_succ]
                            refine takeAt 1 104 (oi := _) (v := ?_) rfl rfl (by kernel_rfl) (by kernel_rfl) (by kernel_rfl) (fun _ _ _ h => h) (by rfl) ?_ (HST.out _ HRK.out) ?_
                            rotate_left
                            · (intro w hSw; obtain ⟨hRl, p1, p2⟩ := hSw; go_simp; try with_reducible rfl)
                            simp only [Act.put, List.setIfInBounds_toArray, List.set_cons_zero, List.set_cons_succ]
                            refine takeAt 2 105 (oi := _) (v := ?_) rfl rfl (by kernel_rfl) (by kernel_rfl) (by kernel_rfl) (fun _ _ _ h => h) (by rfl) ?_ (HST.out _ HRK.out) ?_
                            rotate_left
                            · (intro w hSw; obtain ⟨hRl, p1, p2⟩ := hSw; go_simp; try with_reducible rfl)
                            simp only [Act.put, List.setIfInBounds_toArray, List.set_cons_zero, List.set_cons_succ]
                            refine wpAnyH_ready (rs := [3]) (by kernel_rfl) (by simp) ?_
                            refine AllReadyH.cons (o := _) rfl (fun K hK => ?_) AllReadyH.nil
                            go_simp
                            refine (ahead_any n r i j WD (by omega) (by omega)).mono ?_
                            rintro e w9 ⟨rfl, hb9⟩
                            rw [hbit]
                            have HRL := Lib.hid (HRK.out.next hb9)
                            clear hb9
                            refine hK.out _ _ (HST.out _ HRL.out) (fun _ => ?_)
                            clear hK K
                            refine takeAt 4 107 (oi := _) (v := ?_) rfl rfl (by kernel_rfl) (by kernel_rfl) (by kernel_rfl) (fun _ _ _ h => h) (by rfl) ?_ (HST.out _ HRL.out) ?_
                            rotate_left
                            · (intro w hSw; obtain ⟨hRl, p1, p2⟩ := hSw; go_simp; try with_reducible rfl)
                            simp only [Act.put, List.setIfInBounds_toArray, List.set_cons_zero, List.set_cons_succ]
                            refine takeAt 5 108 (oi := _) (v := ?_) rfl rfl (by kernel_rfl) (by kernel_rfl) (by kernel_rfl) (fun _ _ _ h => h) (by rfl) ?_ (HST.out _ HRL.out) ?_
                            rotate_left
                            · (intro w hSw; obtain ⟨hRl, p1, p2⟩ := hSw; go_simp; try with_reducible rfl)
                            simp only [Act.put, List.setIfInBounds_toArray, List.set_cons_zero, List.set_cons_succ]
                            refine takeAt 6 109 (oi := _) (v := ?_) rfl rfl (by kernel_rfl) (by kernel_rfl) (by kernel_rfl) (fun _ _ _ h => h) (by rfl) ?_ (HST.out _ HRL.out) ?_
                            rotate_left
                            · (intro w hSw; obtain ⟨hRl, p1, p2⟩ := hSw; go_simp; try with_reducible rfl)
                            simp only [Act.put, List.setIfInBounds_toArray, List.set_cons_zero, List.set_cons_succ]
                            refine takeAt 7 110 (oi := _) (v := ?_) rfl rfl (by kernel_rfl) (by kernel_rfl) (by kernel_rfl) (fun _ _ _ h => h) (by rfl) ?_ (HST.out _ HRL.out) ?_
                            rotate_left
                            · (intro w hSw; obtain ⟨hRl, p1, p2⟩ := hSw; go_simp; try with_reducible rfl)
                            simp only [Act.put, List.setIfInBounds_toArray, List.set_cons_zero, List.set_cons_succ]
                            refine takeAt 8 111 (oi := _) (v := ?_) rfl rfl (by kernel_rfl) (by kernel_rfl) (by kernel_rfl) (fun _ _ _ h => h) (by rfl) ?_ (HST.out _ HRL.out) ?_
                            rotate_left
                            · (intro w hSw; obtain ⟨hRl, p1, p2⟩ := hSw; go_simp; try with_reducible rfl)
                            simp only [Act.put, List.setIfInBounds_toArray, List.set_cons_zero, List.set_cons_succ]
                            refine takeAt 9 112 (oi := _) (v := ?_) rfl rfl (by kernel_rfl) (by kernel_rfl) (by kernel_rfl) (fun _ _ _ h => h) (by rfl) ?_ (HST.out _ HRL.out) ?_
                            rotate_left
                            · (intro w hSw; obtain ⟨hRl, p1, p2⟩ := hSw; go_simp; try with_reducible rfl)
                            simp only [Act.put, List.setIfInBounds_toArray, List.set_cons_zero, List.set_cons_succ]
                            refine takeAt 10 113 (oi := _) (v := ?_) rfl rfl (by kernel_rfl) (by kernel_rfl) (by kernel_rfl) (fun _ _ _ h => h) (by rfl) ?_ (HST.out _ HRL.out) ?_
                            rotate_left
                            · (intro w hSw; obtain ⟨hRl, p1, p2⟩ := hSw; go_simp; try with_reducible rfl)
                            simp only [Act.put, List.setIfInBounds_toArray, List.set_cons_zero, List.set_cons_succ]
                            refine takeAt 11 114 (oi := _) (v := ?_) rfl rfl (by kernel_rfl) (by kernel_rfl) (by kernel_rfl) (fun _ _ _ h => h) (by rfl) ?_ (HST.out _ HRL.out) ?_
                            rotate_left
                            · (intro w hSw; obtain ⟨hRl, p1, p2⟩ := hSw; go_simp; try with_reducible rfl)
                            simp only [Act.put, List.setIfInBounds_toArray, List.set_cons_zero, List.set_cons_succ]
                            refine takeAt 12 115 (oi := _) (v := ?_) rfl rfl (by kernel_rfl) (by kernel_rfl) (by kernel_rfl) (fun _ _ _ h => h) (by rfl) ?_ (HST.out _ HRL.out) ?_
                            rotate_left
                            · (intro w hSw; obtain ⟨hRl, p1, p2⟩ := hSw; go_simp; try with_reducible rfl)
                            simp only [Act.put, List.setIfInBounds_toArray, List.set_cons_zero, List.set_cons_succ]
                            refine takeAt 13 116 (oi := _) (v := ?_) rfl rfl (by kernel_rfl) (by kernel_rfl) (by kernel_rfl) (fun _ _ _ h => h) (by rfl) ?_ (HST.out _ HRL.out) ?_
                            rotate_left
                            · (intro w hSw; obtain ⟨hRl, p1, p2⟩ := hSw; go_simp; try with_reducible rfl)
                            simp only [Act.put, List.setIfInBounds_toArray, List.set_cons_zero, List.set_cons_succ]
                            refine takeAt 14 117 (oi := _) (v := ?_) rfl rfl (by kernel_rfl) (by kernel_rfl) (by kernel_rfl) (fun _ _ _ h => h) (by rfl) ?_ (HST.out _ HRL.out) ?_
                            rotate_left
                            · (intro w hSw; obtain ⟨hRl, p1, p2⟩ := hSw; go_simp; try with_reducible rfl)
                            simp only [Act.put, List.setIfInBounds_toArray, List.set_cons_zero, List.set_cons_succ]
                            refine takeAt 15 118 (oi := _) (v := ?_) rfl rfl (by kernel_rfl) (by kernel_rfl) (by kernel_rfl) (fun _ _ _ h => h) (by rfl) ?_ (HST.out _ HRL.out) ?_
                            rotate_left
                            · (intro w hSw; obtain ⟨hRl, p1, p2⟩ := hSw; go_simp; try with_reducible rfl)
                            simp only [Act.put, List.setIfInBounds_toArray, List.set_cons_zero, List.set_cons_succ]
                            refine takeAt 16 119 (oi := _) (v := ?_) rfl rfl (by kernel_rfl) (by kernel_rfl) (by kernel_rfl) (fun _ _ _ h => h) (by rfl) ?_ (HST.out _ HRL.out) ?_
                            rotate_left
                            · (intro w hSw; obtain ⟨hRl, p1, p2⟩ := hSw; go_simp; try with_reducible rfl)
                            simp only [Act.put, List.setIfInBounds_toArray, List.set_cons_zero, List.set_cons_succ]
                            refine takeAt 17 120 (oi := _) (v := ?_) rfl rfl (by kernel_rfl) (by kernel_rfl) (by kernel_rfl) (fun _ _ _ h => h) (by rfl) ?_ (HST.out _ HRL.out) ?_
                            rotate_left
                            · (intro w hSw; obtain ⟨hRl, p1, p2⟩ := hSw; go_simp; try with_reducible rfl)
                            simp only [Act.put, List.setIfInBounds_toArray, List.set_cons_zero, List.set_cons_succ]
                            refine takeAt 18 121 (oi := _) (v := ?_) rfl rfl (by kernel_rfl) (by kernel_rfl) (by kernel_rfl) (fun _ _ _ h => h) (by rfl) ?_ (HST.out _ HRL.out) ?_
                            rotate_left
                            · (intro w hSw; obtain ⟨hRl, p1, p2⟩ := hSw; go_simp; try with_reducible rfl)
                            simp only [Act.put, List.setIfInBounds_toArray, List.set_cons_zero, List.set_cons_succ]
                            refine takeAt 19 122 (oi := _) (v := ?_) rfl rfl (by kernel_rfl) (by kernel_rfl) (by kernel_rfl) (fun _ _ _ h => h) (by rfl) ?_ (HST.out _ HRL.out) ?_
                            rotate_left
                            · (intro w hSw; obtain ⟨hRl, p1, p2⟩ := hSw; go_simp; try with_reducible rfl)
                            simp only [Act.put, List.setIfInBounds_toArray, List.set_cons_zero, List.set_cons_succ]
                            refine takeAt 20 123 (oi := _) (v := ?_) rfl rfl (by kernel_rfl) (by kernel_rfl) (by kernel_rfl) (fun _ _ _ h => h) (by rfl) ?_ (HST.out _ HRL.out) ?_
                            rotate_left
                            · (intro w hSw; obtain ⟨hRl, p1, p2⟩ := hSw; go_simp; try with_reducible rfl)
                            simp only [Act.put, List.setIfInBounds_toArray, List.set_cons_zero, List.set_cons_succ]
                            refine takeAt 21 124 (oi := _) (v := ?_) rfl rfl (by kernel_rfl) (by kernel_rfl) (by kernel_rfl) (fun _ _ _ h => h) (by rfl) ?_ (HST.out _ HRL.out) ?_
                            rotate_left
                            · (intro w hSw; obtain ⟨hRl, p1, p2⟩ := hSw; go_simp; try with_reducible rfl)
                            simp only [Act.put, List.setIfInBounds_toArray, List.set_cons_zero, List.set_cons_succ]
                            refine takeAt 22 125 (oi := _) (v := ?_) rfl rfl (by kernel_rfl) (by kernel_rfl) (by kernel_rfl) (fun _ _ _ h => h) (by rfl) ?_ (HST.out _ HRL.out) ?_
                            rotate_left
                            · (intro w hSw; obtain ⟨hRl, p1, p2⟩ := hSw; go_simp; try with_reducible rfl)
                            simp only [Act.put, List.setIfInBounds_toArray, List.set_cons_zero, List.set_cons_succ]
                            refine takeAt 23 126 (oi := _) (v := ?_) rfl rfl (by kernel_rfl) (by kernel_rfl) (by kernel_rfl) (fun _ _ _ h => h) (by rfl) ?_ (HST.out _ HRL.out) ?_
                            rotate_left
                            · (intro w hSw; obtain ⟨hRl, p1, p2⟩ := hSw; go_simp; try with_reducible rfl)
                            simp only [Act.put, List.setIfInBounds_toArray, List.set_cons_zero, List.set_cons_succ]
                            refine takeAt 24 127 (oi := _) (v := ?_) rfl rfl (by kernel_rfl) (by kernel_rfl) (by kernel_rfl) (fun _ _ _ h => h) (by rfl) ?_ (HST.out _ HRL.out) ?_
                            rotate_left
                            · (intro w hSw; obtain ⟨hRl, p1, p2⟩ := hSw; go_simp; try with_reducible rfl)
                            simp only [Act.put, List.setIfInBounds_toArray, List.set_cons_zero, List.set_cons_succ]
                            refine takeAt 25 128 (oi := _) (v := ?_) rfl rfl (by kernel_rfl) (by kernel_rfl) (by kernel_rfl) (fun _ _ _ h => h) (by rfl) ?_ (HST.out _ HRL.out) ?_
                            rotate_left
                            · (intro w hSw; obtain ⟨hRl, p1, p2⟩ := hSw; go_simp; try with_reducible rfl)
                            simp only [Act.put, List.setIfInBounds_toArray, List.set_cons_zero, List.set_cons_succ]
                            refine takeAt 26 129 (oi := _) (v := ?_) rfl rfl (by kernel_rfl) (by kernel_rfl) (by kernel_rfl) (fun _ _ _ h => h) (by rfl) ?_ (HST.out _ HRL.out) ?_
                            rotate_left
                            · (intro w hSw; obtain ⟨hRl, p1, p2⟩ := hSw; go_simp; try with_reducible rfl)
                            simp only [Act.put, List.setIfInBounds_toArray, List.set_cons_zero, List.set_cons_succ]
                            refine takeAt 27 130 (oi := _) (v := ?_) rfl rfl (by kernel_rfl) (by kernel_rfl) (by kernel_rfl) (fun _ _ _ h => h) (by rfl) ?_ (HST.out _ HRL.out) ?_
                            rotate_left
                            · (intro w hSw; obtain ⟨hRl, p1, p2⟩ := hSw; go_simp; try with_reducible rfl)
                            simp only [Act.put, List.setIfInBounds_toArray, List.set_cons_zero, List.set_cons_succ]
                            refine takeAt 28 131 (oi := _) (v := ?_) rfl rfl (by kernel_rfl) (by kernel_rfl) (by kernel_rfl) (fun _ _ _ h => h) (by rfl) ?_ (HST.out _ HRL.out) ?_
                            rotate_left
                            · (intro w hSw; obtain ⟨hRl, p1, p2⟩ := hSw; go_simp; try with_reducible rfl)
                            simp only [Act.put, List.setIfInBounds_toArray, List.set_cons_zero, List.set_cons_succ]
                            refine wpAnyH_done (by kernel_rfl) ?_ _
                            go_wp2_with fail
                            go_ret
                            exact ⟨false, rfl, ⟨fun h => (by cases h), fun h => absurd h (not_rite3 (p := fun i j => (r i).testBit j) HAT.out hi' (by rw [← HNN.out]; exact hjn) hbit (by omega) (.inr hf3))⟩, HRL.out.below⟩
                          · have b3 : decide (f j < f i) = false := decide_eq_false hf3
                            go_wp2_with fail
                            refine wp_region_held_drew (S := RoT w.heap.size G n r i j (f i) (f j)) (by kernel_rfl) (HST.out _ HRJ.out.drew) (fun hHeld => ?_)
                            change wpAnyH _ _ _ _ _ 29 _ _ _
                            clear hHeld
                            have HRK := Lib.hid HRJ.out.drew
                            generalize wr.drew = WD at HRK ⊢
                            refine takeAt 0 103 (oi := _) (v := ?_) rfl rfl (by kernel_rfl) (by kernel_rfl) (by kernel_rfl) (fun _ _ _ h => h) (by rfl) ?_ (HST.out _ HRK.out) ?_
                            rotate_left
                            · (intro w hSw; obtain ⟨hRl, p1, p2⟩ := hSw; have c0 := hRl.size; obtain ⟨c1, c2, c3, c4, c5, c6, c7, c8, c9, c10, c11, c12⟩ := hRl.rows; go_simp; try with_reducible rfl)
                            simp only [Act.put, List.setIfInBounds_toArray, List.set_cons_zero, List.set_cons_succ]
                            refine takeAt 1 104 (oi := _) (v := ?_) rfl rfl (by kernel_rfl) (by kernel_rfl) (by kernel_rfl) (fun _ _ _ h => h) (by rfl) ?_ (HST.out _ HRK.out) ?_
                            rotate_left
                            · (intro w hSw; obtain ⟨hRl, p1, p2⟩ := hSw; go_simp; try with_reducible rfl)
                            simp only [Act.put, List.setIfInBounds_toArray, List.set_cons_zero, List.set_cons_succ]
                            refine takeAt 2 105 (oi := _) (v := ?_) rfl rfl (by kernel_rfl) (by kernel_rfl) (by kernel_rfl) (fun _ _ _ h => h) (by rfl) ?_ (HST.out _ HRK.out) ?_
                            rotate_left
                            · (intro w hSw; obtain ⟨hRl, p1, p2⟩ := hSw; go_simp; try with_reducible rfl)
                            simp only [Act.put, List.setIfInBounds_toArray, List.set_cons_zero, List.set_cons_succ]
                            refine wpAnyH_ready (rs := [3]) (by kernel_rfl) (by simp) ?_
                            refine AllReadyH.cons (o := _) rfl (fun K hK => ?_) AllReadyH.nil
                            go_simp
                            refine (ahead_any n r i j WD (by omega) (by omega)).mono ?_
                            rintro e w9 ⟨rfl, hb9⟩
                            rw [hbit]
                            have HRL := Lib.hid (HRK.out.next hb9)
                            clear hb9
                            refine hK.out _ _ (HST.out _ HRL.out) (fun _ => ?_)
                            clear hK K
                            refine takeAt 4 107 (oi := _) (v := ?_) rfl rfl (by kernel_rfl) (by kernel_rfl) (by kernel_rfl) (fun _ _ _ h => h) (by rfl) ?_ (HST.out _ HRL.out) ?_
                            rotate_left
                            · (intro w hSw; obtain ⟨hRl, p1, p2⟩ := hSw; go_simp; try with_reducible rfl)
                            simp only [Act.put, List.setIfInBounds_toArray, List.set_cons_zero, List.set_cons_succ]
                            refine takeAt 5 108 (oi := _) (v := ?_) rfl rfl (by kernel_rfl) (by kernel_rfl) (by kernel_rfl) (fun _ _ _ h => h) (by rfl) ?_ (HST.out _ HRL.out) ?_
                            rotate_left
                            · (intro w hSw; obtain ⟨hRl, p1, p2⟩ := hSw; go_simp; try with_reducible rfl)
                            simp only [Act.put, List.setIfInBounds_toArray, List.set_cons_zero, List.set_cons_succ]
                            refine takeAt 6 109 (oi := _) (v := ?_) rfl rfl (by kernel_rfl) (by kernel_rfl) (by kernel_rfl) (fun _ _ _ h => h) (by rfl) ?_ (HST.out _ HRL.out) ?_
                            rotate_left
                            · (intro w hSw; obtain ⟨hRl, p1, p2⟩ := hSw; go_simp; try with_reducible rfl)
                            simp only [Act.put, List.setIfInBounds_toArray, List.set_cons_zero, List.set_cons_succ]
                            refine takeAt 7 110 (oi := _) (v := ?_) rfl rfl (by kernel_rfl) (by kernel_rfl) (by kernel_rfl) (fun _ _ _ h => h) (by rfl) ?_ (HST.out _ HRL.out) ?_
                            rotate_left
                            · (intro w hSw; obtain ⟨hRl, p1, p2⟩ := hSw; go_simp; try with_reducible rfl)
                            simp only [Act.put, List.setIfInBounds_toArray, List.set_cons_zero, List.set_cons_succ]
                            refine takeAt 8 111 (oi := _) (v := ?_) rfl rfl (by kernel_rfl) (by kernel_rfl) (by kernel_rfl) (fun _ _ _ h => h) (by rfl) ?_ (HST.out _ HRL.out) ?_
                            rotate_left
                            · (intro w hSw; obtain ⟨hRl, p1, p2⟩ := hSw; go_simp; try with_reducible rfl)
                            simp only [Act.put, List.setIfInBounds_toArray, List.set_cons_zero, List.set_cons_succ]
                            refine takeAt 9 112 (oi := _) (v := ?_) rfl rfl (by kernel_rfl) (by kernel_rfl) (by kernel_rfl) (fun _ _ _ h => h) (by rfl) ?_ (HST.out _ HRL.out) ?_
                            rotate_left
                            · (intro w hSw; obtain ⟨hRl, p1, p2⟩ := hSw; go_simp; try with_reducible rfl)
                            simp only [Act.put, List.setIfInBounds_toArray, List.set_cons_zero, List.set_cons_succ]
                            refine takeAt 10 113 (oi := _) (v := ?_) rfl rfl (by kernel_rfl) (by kernel_rfl) (by kernel_rfl) (fun _ _ _ h => h) (by rfl) ?_ (HST.out _ HRL.out) ?_
                            rotate_left
                            · (intro w hSw; obtain ⟨hRl, p1, p2⟩ := hSw; go_simp; try with_reducible rfl)
                            simp only [Act.put, List.setIfInBounds_toArray, List.set_cons_zero, List.set_cons_succ]
                            refine takeAt 11 114 (oi := _) (v := ?_) rfl rfl (by kernel_rfl) (by kernel_rfl) (by kernel_rfl) (fun _ _ _ h => h) (by rfl) ?_ (HST.out _ HRL.out) ?_
                            rotate_left
                            · (intro w hSw; obtain ⟨hRl, p1, p2⟩ := hSw; go_simp; try with_reducible rfl)
                            simp only [Act.put, List.setIfInBounds_toArray, List.set_cons_zero, List.set_cons_succ]
                            refine takeAt 12 115 (oi := _) (v := ?_) rfl rfl (by kernel_rfl) (by kernel_rfl) (by kernel_rfl) (fun _ _ _ h => h) (by rfl) ?_ (HST.out _ HRL.out) ?_
                            rotate_left
                            · (intro w hSw; obtain ⟨hRl, p1, p2⟩ := hSw; go_simp; try with_reducible rfl)
                            simp only [Act.put, List.setIfInBounds_toArray, List.set_cons_zero, List.set_cons_succ]
                            refine takeAt 13 116 (oi := _) (v := ?_) rfl rfl (by kernel_rfl) (by kernel_rfl) (by kernel_rfl) (fun _ _ _ h => h) (by rfl) ?_ (HST.out _ HRL.out) ?_
                            rotate_left
                            · (intro w hSw; obtain ⟨hRl, p1, p2⟩ := hSw; go_simp; try with_reducible rfl)
                            simp only [Act.put, List.setIfInBounds_toArray, List.set_cons_zero, List.set_cons_succ]
                            refine takeAt 14 117 (oi := _) (v := ?_) rfl rfl (by kernel_rfl) (by kernel_rfl) (by kernel_rfl) (fun _ _ _ h => h) (by rfl) ?_ (HST.out _ HRL.out) ?_
                            rotate_left
                            · (intro w hSw; obtain ⟨hRl, p1, p2⟩ := hSw; go_simp; try with_reducible rfl)
                            simp only [Act.put, List.setIfInBounds_toArray, List.set_cons_zero, List.set_cons_succ]
                            refine takeAt 15 118 (oi := _) (v := ?_) rfl rfl (by kernel_rfl) (by kernel_rfl) (by kernel_rfl) (fun _ _ _ h => h) (by rfl) ?_ (HST.out _ HRL.out) ?_
                            rotate_left
                            · (intro w hSw; obtain ⟨hRl, p1, p2⟩ := hSw; go_simp; try with_reducible rfl)
                            simp only [Act.put, List.setIfInBounds_toArray, List.set_cons_zero, List.set_cons_succ]
                            refine takeAt 16 119 (oi := _) (v := ?_) rfl rfl (by kernel_rfl) (by kernel_rfl) (by kernel_rfl) (fun _ _ _ h => h) (by rfl) ?_ (HST.out _ HRL.out) ?_
                            rotate_left
                            · (intro w hSw; obtain ⟨hRl, p1, p2⟩ := hSw; go_simp; try with_reducible rfl)
                            simp only [Act.put, List.setIfInBounds_toArray, List.set_cons_zero, List.set_cons_succ]
                            refine takeAt 17 120 (oi := _) (v := ?_) rfl rfl (by kernel_rfl) (by kernel_rfl) (by kernel_rfl) (fun _ _ _ h => h) (by rfl) ?_ (HST.out _ HRL.out) ?_
                            rotate_left
                            · (intro w hSw; obtain ⟨hRl, p1, p2⟩ := hSw; go_simp; try with_reducible rfl)
                            simp only [Act.put, List.setIfInBounds_toArray, List.set_cons_zero, List.set_cons_succ]
                            refine takeAt 18 121 (oi := _) (v := ?_) rfl rfl (by kernel_rfl) (by kernel_rfl) (by kernel_rfl) (fun _ _ _ h => h) (by rfl) ?_ (HST.out _ HRL.out) ?_
                            rotate_left
                            · (intro w hSw; obtain ⟨hRl, p1, p2⟩ := hSw; go_simp; try with_reducible rfl)
                            simp only [Act.put, List.setIfInBounds_toArray, List.set_cons_zero, List.set_cons_succ]
                            refine takeAt 19 122 (oi := _) (v := ?_) rfl rfl (by kernel_rfl) (by kernel_rfl) (by kernel_rfl) (fun _ _ _ h => h) (by rfl) ?_ (HST.out _ HRL.out) ?_
                            rotate_left
                            · (intro w hSw; obtain ⟨hRl, p1, p2⟩ := hSw; go_simp; try with_reducible rfl)
                            simp only [Act.put, List.setIfInBounds_toArray, List.set_cons_zero, List.set_cons_succ]
                            refine takeAt 20 123 (oi := _) (v := ?_) rfl rfl (by kernel_rfl) (by kernel_rfl) (by kernel_rfl) (fun _ _ _ h => h) (by rfl) ?_ (HST.out _ HRL.out) ?_
                            rotate_left
                            · (intro w hSw; obtain ⟨hRl, p1, p2⟩ := hSw; go_simp; try with_reducible rfl)
                            simp only [Act.put, List.setIfInBounds_toArray, List.set_cons_zero, List.set_cons_succ]
                            refine takeAt 21 124 (oi := _) (v := ?_) rfl rfl (by kernel_rfl) (by kernel_rfl) (by kernel_rfl) (fun _ _ _ h => h) (by rfl) ?_ (HST.out _ HRL.out) ?_
                            rotate_left
                            · (intro w hSw; obtain ⟨hRl, p1, p2⟩ := hSw; go_simp; try with_reducible rfl)
                            simp only [Act.put, List.setIfInBounds_toArray, List.set_cons_zero, List.set_cons_succ]
                            refine takeAt 22 125 (oi := _) (v := ?_) rfl rfl (by kernel_rfl) (by kernel_rfl) (by kernel_rfl) (fun _ _ _ h => h) (by rfl) ?_ (HST.out _ HRL.out) ?_
                            rotate_left
                            · (intro w hSw; obtain ⟨hRl, p1, p2⟩ := hSw; go_simp; try with_reducible rfl)
                            simp only [Act.put, List.setIfInBounds_toArray, List.set_cons_zero, List.set_cons_succ]
                            refine takeAt 23 126 (oi := _) (v := ?_) rfl rfl (by kernel_rfl) (by kernel_rfl) (by kernel_rfl) (fun _ _ _ h => h) (by rfl) ?_ (HST.out _ HRL.out) ?_
                            rotate_left
                            · (intro w hSw; obtain ⟨hRl, p1, p2⟩ := hSw; go_simp; try with_reducible rfl)
                            simp only [Act.put, List.setIfInBounds_toArray, List.set_cons_zero, List.set_cons_succ]
                            refine takeAt 24 127 (oi := _) (v := ?_) rfl rfl (by kernel_rfl) (by kernel_rfl) (by kernel_rfl) (fun _ _ _ h => h) (by rfl) ?_ (HST.out _ HRL.out) ?_
                            rotate_left
                            · (intro w hSw; obtain ⟨hRl, p1, p2⟩ := hSw; go_simp; try with_reducible rfl)
                            simp only [Act.put, List.setIfInBounds_toArray, List.set_cons_zero, List.set_cons_succ]
                            refine takeAt 25 128 (oi := _) (v := ?_) rfl rfl (by kernel_rfl) (by kernel_rfl) (by kernel_rfl) (fun _ _ _ h => h) (by rfl) ?_ (HST.out _ HRL.out) ?_
                            rotate_left
                            · (intro w hSw; obtain ⟨hRl, p1, p2⟩ := hSw; go_simp; try with_reducible rfl)
                            simp only [Act.put, List.setIfInBounds_toArray, List.set_cons_zero, List.set_cons_succ]
                            refine takeAt 26 129 (oi := _) (v := ?_) rfl rfl (by kernel_rfl) (by kernel_rfl) (by kernel_rfl) (fun _ _ _ h => h) (by rfl) ?_ (HST.out _ HRL.out) ?_
                            rotate_left
                            · (intro w hSw; obtain ⟨hRl, p1, p2⟩ := hSw; go_simp; try with_reducible rfl)
                            simp only [Act.put, List.setIfInBounds_toArray, List.set_cons_zero, List.set_cons_succ]
                            refine takeAt 27 130 (oi := _) (v := ?_) rfl rfl (by kernel_rfl) (by kernel_rfl) (by kernel_rfl) (fun _ _ _ h => h) (by rfl) ?_ (HST.out _ HRL.out) ?_
                            rotate_left
                            · (intro w hSw; obtain ⟨hRl, p1, p2⟩ := hSw; go_simp; try with_reducible rfl)
                            simp only [Act.put, List.setIfInBounds_toArray, List.set_cons_zero, List.set_cons_succ]
                            refine takeAt 28 131 (oi := _) (v := ?_) rfl rfl (by kernel_rfl) (by kernel_rfl) (by kernel_rfl) (fun _ _ _ h => h) (by rfl) ?_ (HST.out _ HRL.out) ?_
                            rotate_left
                            · (intro w hSw; obtain ⟨hRl, p1, p2⟩ := hSw; go_simp; try with_reducible rfl)
                            simp only [Act.put, List.setIfInBounds_toArray, List.set_cons_zero, List.set_cons_succ]
                            refine wpAnyH_done (by kernel_rfl) ?_ _
                            go_wp2_with fail
                            go_roundw
                            case rel => exact ⟨j + 1, by omega, by go_num, HJ.out.succ (fun _ h => ⟨by omega, by omega⟩), HRL.out⟩
                            case measure => simp [intOf]; omega
                  · obtain rfl : n = j := by omega
                    clear hJ hR
                    go_wp2_with fail
                    go_roundw
                    case rel => exact ⟨i + 1, by omega, by go_num, fun k hk => by
                      by_cases e : k = i
                      · subst e; exact ⟨HAI.out, HJ.out⟩
                      · exact HPH.out k (by omega), HRJ.out⟩
                    case measure => simp [intOf]; omega
              · have b2 : (y6 != -1) = true := by rw [bne_iff_ne]; exact hz
                by_cases hfi : f i < 0
                · have b3 : decide (f i < 0) = true := decide_eq_true hfi
                  go_wp2_with fail
                  go_ret
                  exact ⟨false, rfl, ⟨fun h => (by cases h), fun h => absurd h (not_rite2 (p := fun i j => (r i).testBit j) HAT.out hi' (by rw [← HY.out]; exact hz) hfi)⟩, HRI.out.below⟩
                · have b3 : decide (f i < 0) = false := decide_eq_false hfi
                  have HAI := Lib.hid (show (cs.getD i default).til ≠ -1 → 0 ≤ f i from fun _ => by omega)
                  clear hz
                  go_wp2_with fail
                  clear e6 d1
                  obtain ⟨W4, rfl⟩ : ∃ W4, W4 = wr := ⟨_, rfl⟩
                  go_wp2_with fail
                  go_loopw [100] (fun t wr => ∃ j : Nat, j ≤ n ∧ t = .int .i64 j ∧ PhJ n r f i j ∧ RoR w G n r f wr) (fun t _ => n - (intOf t).toNat)
                  case atStart => exact ⟨0, by omega, rfl, fun k hk => by omega, HRI.out⟩
                  case round =>
                    obtain ⟨j, hj, rfl, hJ, hR⟩ := hrel
                    have HJ := Lib.hid hJ
                    have HRJ := Lib.hid hR
                    by_cases hjn : j < n
                    · have i3 : (0 : Int) ≤ (j : Int) := by omega
                      have i4 : (j : Int) < (n : Int) := by omega
                      have HST := Lib.hid (fun (W : World) (h : RoR w G n r f W) => show RoT w.heap.size G n r i j (f i) (f j) W from ⟨h.rel, h.tab.cell hi, h.tab.cell hjn⟩)
                      clear hJ hR
                      cases hbit : (r i).testBit j
                      · skip
                        go_wp2_with fail
                        refine wp_region_held_drew (S := RoT w.heap.size G n r i j (f i) (f j)) (by kernel_rfl) (HST.out _ HRJ.out.drew) (fun hHeld => ?_)
                        change wpAnyH _ _ _ _ _ 29 _ _ _
                        clear hHeld
                        have HRK := Lib.hid HRJ.out.drew
                        generalize wr.drew = WD at HRK ⊢
                        refine takeAt 0 103 (oi := _) (v := ?_) rfl rfl (by kernel_rfl) (by kernel_rfl) (by kernel_rfl) (fun _ _ _ h => h) (by rfl) ?_ (HST.out _ HRK.out) ?_
                        rotate_left
                        · (intro w hSw; obtain ⟨hRl, p1, p2⟩ := hSw; have c0 := hRl.size; obtain ⟨c1, c2, c3, c4, c5, c6, c7, c8, c9, c10, c11, c12⟩ := hRl.rows; go_simp; try with_reducible rfl)
                        simp only [Act.put, List.setIfInBounds_toArray, List.set_cons_zero, List.set_cons_succ]
                        refine takeAt 1 104 (oi := _) (v := ?_) rfl rfl (by kernel_rfl) (by kernel_rfl) (by kernel_rfl) (fun _ _ _ h => h) (by rfl) ?_ (HST.out _ HRK.out) ?_
                        rotate_left
                        · (intro w hSw; obtain ⟨hRl, p1, p2⟩ := hSw; go_simp; try with_reducible rfl)
                        simp only [Act.put, List.setIfInBounds_toArray, List.set_cons_zero, List.set_cons_succ]
                        refine takeAt 2 105 (oi := _) (v := ?_) rfl rfl (by kernel_rfl) (by kernel_rfl) (by kernel_rfl) (fun _ _ _ h => h) (by rfl) ?_ (HST.out _ HRK.out) ?_
                        rotate_left
                        · (intro w hSw; obtain ⟨hRl, p1, p2⟩ := hSw; go_simp; try with_reducible rfl)
                        simp only [Act.put, List.setIfInBounds_toArray, List.set_cons_zero, List.set_cons_succ]
                        refine wpAnyH_ready (rs := [3]) (by kernel_rfl) (by simp) ?_
                        refine AllReadyH.cons (o := _) rfl (fun K hK => ?_) AllReadyH.nil
                        go_simp
                        refine (ahead_any n r i j WD (by omega) (by omega)).mono ?_
                        rintro e w9 ⟨rfl, hb9⟩
                        rw [hbit]
                        have HRL := Lib.hid (HRK.out.next hb9)
                        clear hb9
                        refine hK.out _ _ (HST.out _ HRL.out) (fun _ => ?_)
                        clear hK K
                        refine takeAt 4 107 (oi := _) (v := ?_) rfl rfl (by kernel_rfl) (by kernel_rfl) (by kernel_rfl) (fun _ _ _ h => h) (by rfl) ?_ (HST.out _ HRL.out) ?_
                        rotate_left
                        · (intro w hSw; obtain ⟨hRl, p1, p2⟩ := hSw; go_simp; try with_reducible rfl)
                        simp only [Act.put, List.setIfInBounds_toArray, List.set_cons_zero, List.set_cons_succ]
                        refine skipAt 5 108 (oi := _) rfl rfl (by kernel_rfl) (by kernel_rfl) (by kernel_rfl) (fun _ _ _ h => h) (by rfl) (HST.out _ HRL.out) ?_
                        simp only [Act.put, List.setIfInBounds_toArray, List.set_cons_zero, List.set_cons_succ]
                        refine skipAt 6 109 (oi := _) rfl rfl (by kernel_rfl) (by kernel_rfl) (by kernel_rfl) (fun _ _ _ h => h) (by rfl) (HST.out _ HRL.out) ?_
                        simp only [Act.put, List.setIfInBounds_toArray, List.set_cons_zero, List.set_cons_succ]
                        refine skipAt 7 110 (oi := _) rfl rfl (by kernel_rfl) (by kernel_rfl) (by kernel_rfl) (fun _ _ _ h => h) (by rfl) (HST.out _ HRL.out) ?_
                        simp only [Act.put, List.setIfInBounds_toArray, List.set_cons_zero, List.set_cons_succ]
                        refine skipAt 8 111 (oi := _) rfl rfl (by kernel_rfl) (by kernel_rfl) (by kernel_rfl) (fun _ _ _ h => h) (by rfl) (HST.out _ HRL.out) ?_
                        simp only [Act.put, List.setIfInBounds_toArray, List.set_cons_zero, List.set_cons_succ]
                        refine skipAt 9 112 (oi := _) rfl rfl (by kernel_rfl) (by kernel_rfl) (by kernel_rfl) (fun _ _ _ h => h) (by rfl) (HST.out _ HRL.out) ?_
                        simp only [Act.put, List.setIfInBounds_toArray, List.set_cons_zero, List.set_cons_succ]
                        refine takeAt 10 113 (oi := _) (v := ?_) rfl rfl (by kernel_rfl) (by kernel_rfl) (by kernel_rfl) (fun _ _ _ h => h) (by rfl) ?_ (HST.out _ HRL.out) ?_
                        rotate_left
                        · (intro w hSw; obtain ⟨hRl, p1, p2⟩ := hSw; go_simp; try with_reducible rfl)
                        simp only [Act.put, List.setIfInBounds_toArray, List.set_cons_zero, List.set_cons_succ]
                        refine takeAt 11 114 (oi := _) (v := ?_) rfl rfl (by kernel_rfl) (by kernel_rfl) (by kernel_rfl) (fun _ _ _ h => h) (by rfl) ?_ (HST.out _ HRL.out) ?_
                        rotate_left
                        · (intro w hSw; obtain ⟨hRl, p1, p2⟩ := hSw; go_simp; try with_reducible rfl)
                        simp only [Act.put, List.setIfInBounds_toArray, List.set_cons_zero, List.set_cons_succ]
                        refine skipAt 12 115 (oi := _) rfl rfl (by kernel_rfl) (by kernel_rfl) (by kernel_rfl) (fun _ _ _ h => h) (by rfl) (HST.out _ HRL.out) ?_
                        simp only [Act.put, List.setIfInBounds_toArray, List.set_cons_zero, List.set_cons_succ]
                        refine skipAt 13 116 (oi := _) rfl rfl (by kernel_rfl) (by kernel_rfl) (by kernel_rfl) (fun _ _ _ h => h) (by rfl) (HST.out _ HRL.out) ?_
                        simp only [Act.put, List.setIfInBounds_toArray, List.set_cons_zero, List.set_cons_succ]
                        refine skipAt 14 117 (oi := _) rfl rfl (by kernel_rfl) (by kernel_rfl) (by kernel_rfl) (fun _ _ _ h => h) (by rfl) (HST.out _ HRL.out) ?_
                        simp only [Act.put, List.setIfInBounds_toArray, List.set_cons_zero, List.set_cons_succ]
                        refine skipAt 15 118 (oi := _) rfl rfl (by kernel_rfl) (by kernel_rfl) (by kernel_rfl) (fun _ _ _ h => h) (by rfl) (HST.out _ HRL.out) ?_
                        simp only [Act.put, List.setIfInBounds_toArray, List.set_cons_zero, List.set_cons_succ]
                        refine skipAt 16 119 (oi := _) rfl rfl (by kernel_rfl) (by kernel_rfl) (by kernel_rfl) (fun _ _ _ h => h) (by rfl) (HST.out _ HRL.out) ?_
                        simp only [Act.put, List.setIfInBounds_toArray, List.set_cons_zero, List.set_cons_succ]
                        refine skipAt 17 120 (oi := _) rfl rfl (by kernel_rfl) (by kernel_rfl) (by kernel_rfl) (fun _ _ _ h => h) (by rfl) (HST.out _ HRL.out) ?_
                        simp only [Act.put, List.setIfInBounds_toArray, List.set_cons_zero, List.set_cons_succ]
                        refine skipAt 18 121 (oi := _) rfl rfl (by kernel_rfl) (by kernel_rfl) (by kernel_rfl) (fun _ _ _ h => h) (by rfl) (HST.out _ HRL.out) ?_
                        simp only [Act.put, List.setIfInBounds_toArray, List.set_cons_zero, List.set_cons_succ]
                        refine skipAt 19 122 (oi := _) rfl rfl (by kernel_rfl) (by kernel_rfl) (by kernel_rfl) (fun _ _ _ h => h) (by rfl) (HST.out _ HRL.out) ?_
                        simp only [Act.put, List.setIfInBounds_toArray, List.set_cons_zero, List.set_cons_succ]
                        refine skipAt 20 123 (oi := _) rfl rfl (by kernel_rfl) (by kernel_rfl) (by kernel_rfl) (fun _ _ _ h => h) (by rfl) (HST.out _ HRL.out) ?_
                        simp only [Act.put, List.setIfInBounds_toArray, List.set_cons_zero, List.set_cons_succ]
                        refine skipAt 21 124 (oi := _) rfl rfl (by kernel_rfl) (by kernel_rfl) (by kernel_rfl) (fun _ _ _ h => h) (by rfl) (HST.out _ HRL.out) ?_
                        simp only [Act.put, List.setIfInBounds_toArray, List.set_cons_zero, List.set_cons_succ]
                        refine skipAt 22 125 (oi := _) rfl rfl (by kernel_rfl) (by kernel_rfl) (by kernel_rfl) (fun _ _ _ h => h) (by rfl) (HST.out _ HRL.out) ?_
                        simp only [Act.put, List.setIfInBounds_toArray, List.set_cons_zero, List.set_cons_succ]
                        refine skipAt 23 126 (oi := _) rfl rfl (by kernel_rfl) (by kernel_rfl) (by kernel_rfl) (fun _ _ _ h => h) (by rfl) (HST.out _ HRL.out) ?_
                        simp only [Act.put, List.setIfInBounds_toArray, List.set_cons_zero, List.set_cons_succ]
                        refine skipAt 24 127 (oi := _) rfl rfl (by kernel_rfl) (by kernel_rfl) (by kernel_rfl) (fun _ _ _ h => h) (by rfl) (HST.out _ HRL.out) ?_
                        simp only [Act.put, List.setIfInBounds_toArray, List.set_cons_zero, List.set_cons_succ]
                        refine skipAt 25 128 (oi := _) rfl rfl (by kernel_rfl) (by kernel_rfl) (by kernel_rfl) (fun _ _ _ h => h) (by rfl) (HST.out _ HRL.out) ?_
                        simp only [Act.put, List.setIfInBounds_toArray, List.set_cons_zero, List.set_cons_succ]
                        refine skipAt 26 129 (oi := _) rfl rfl (by kernel_rfl) (by kernel_rfl) (by kernel_rfl) (fun _ _ _ h => h) (by rfl) (HST.out _ HRL.out) ?_
                        simp only [Act.put, List.setIfInBounds_toArray, List.set_cons_zero, List.set_cons_succ]
                        refine skipAt 27 130 (oi := _) rfl rfl (by kernel_rfl) (by kernel_rfl) (by kernel_rfl) (fun _ _ _ h => h) (by rfl) (HST.out _ HRL.out) ?_
                        simp only [Act.put, List.setIfInBounds_toArray, List.set_cons_zero, List.set_cons_succ]
                        refine takeAt 28 131 (oi := _) (v := ?_) rfl rfl (by kernel_rfl) (by kernel_rfl) (by kernel_rfl) (fun _ _ _ h => h) (by rfl) ?_ (HST.out _ HRL.out) ?_
                        rotate_left
                        · (intro w hSw; obtain ⟨hRl, p1, p2⟩ := hSw; go_simp; try with_reducible rfl)
                        simp only [Act.put, List.setIfInBounds_toArray, List.set_cons_zero, List.set_cons_succ]
                        refine wpAnyH_done (by kernel_rfl) ?_ _
                        go_wp2_with fail
                        go_roundw
                        case rel => exact ⟨j + 1, by omega, by go_num, HJ.out.succ (fun h => by rw [hbit] at h; cases h), HRL.out⟩
                        case measure => simp [intOf]; omega
                      · by_cases hf1 : f j < 0
                        · have b1 : decide (0 ≤ f j) = false := decide_eq_false (by omega)
                          go_wp2_with fail
                          refine wp_region_held_drew (S := RoT w.heap.size G n r i j (f i) (f j)) (by kernel_rfl) (HST.out _ HRJ.out.drew) (fun hHeld => ?_)
                          change wpAnyH _ _ _ _ _ 29 _ _ _
                          clear hHeld
                          have HRK := Lib.hid HRJ.out.drew
                          generalize wr.drew = WD at HRK ⊢
                          refine takeAt 0 103 (oi := _) (v := ?_) rfl rfl (by kernel_rfl) (by kernel_rfl) (by kernel_rfl) (fun _ _ _ h => h) (by rfl) ?_ (HST.out _ HRK.out) ?_
                          rotate_left
                          · (intro w hSw; obtain ⟨hRl, p1, p2⟩ := hSw; have c0 := hRl.size; obtain ⟨c1, c2, c3, c4, c5, c6, c7, c8, c9, c10, c11, c12⟩ := hRl.rows; go_simp; try with_reducible rfl)
                          simp only [Act.put, List.setIfInBounds_toArray, List.set_cons_zero, List.set_cons_succ]
                          refine takeAt 1 104 (oi := _) (v := ?_) rfl rfl (by kernel_rfl) (by kernel_rfl) (by kernel_rfl) (fun _ _ _ h => h) (by rfl) ?_ (HST.out _ HRK.out) ?_
                          rotate_left
                          · (intro w hSw; obtain ⟨hRl, p1, p2⟩ := hSw; go_simp; try with_reducible rfl)
                          simp only [Act.put, List.setIfInBounds_toArray, List.set_cons_zero, List.set_cons_succ]
                          refine takeAt 2 105 (oi := _) (v := ?_) rfl rfl (by kernel_rfl) (by kernel_rfl) (by kernel_rfl) (fun _ _ _ h => h) (by rfl) ?_ (HST.out _ HRK.out) ?_
                          rotate_left
                          · (intro w hSw; obtain ⟨hRl, p1, p2⟩ := hSw; go_simp; try with_reducible rfl)
                          simp only [Act.put, List.setIfInBounds_toArray, List.set_cons_zero, List.set_cons_succ]
                          refine wpAnyH_ready (rs := [3]) (by kernel_rfl) (by simp) ?_
                          refine AllReadyH.cons (o := _) rfl (fun K hK => ?_) AllReadyH.nil
                          go_simp
                          refine (ahead_any n r i j WD (by omega) (by omega)).mono ?_
                          rintro e w9 ⟨rfl, hb9⟩
                          rw [hbit]
                          have HRL := Lib.hid (HRK.out.next hb9)
                          clear hb9
                          refine hK.out _ _ (HST.out _ HRL.out) (fun _ => ?_)
                          clear hK K
                          refine takeAt 4 107 (oi := _) (v := ?_) rfl rfl (by kernel_rfl) (by kernel_rfl) (by kernel_rfl) (fun _ _ _ h => h) (by rfl) ?_ (HST.out _ HRL.out) ?_
                          rotate_left
                          · (intro w hSw; obtain ⟨hRl, p1, p2⟩ := hSw; go_simp; try with_reducible rfl)
                          simp only [Act.put, List.setIfInBounds_toArray, List.set_cons_zero, List.set_cons_succ]
                          refine takeAt 5 108 (oi := _) (v := ?_) rfl rfl (by kernel_rfl) (by kernel_rfl) (by kernel_rfl) (fun _ _ _ h => h) (by rfl) ?_ (HST.out _ HRL.out) ?_
                          rotate_left
                          · (intro w hSw; obtain ⟨hRl, p1, p2⟩ := hSw; go_simp; try with_reducible rfl)
                          simp only [Act.put, List.setIfInBounds_toArray, List.set_cons_zero, List.set_cons_succ]
                          refine takeAt 6 109 (oi := _) (v := ?_) rfl rfl (by kernel_rfl) (by kernel_rfl) (by kernel_rfl) (fun _ _ _ h => h) (by rfl) ?_ (HST.out _ HRL.out) ?_
                          rotate_left
                          · (intro w hSw; obtain ⟨hRl, p1, p2⟩ := hSw; go_simp; try with_reducible rfl)
                          simp only [Act.put, List.setIfInBounds_toArray, List.set_cons_zero, List.set_cons_succ]
                          refine takeAt 7 110 (oi := _) (v := ?_) rfl rfl (by kernel_rfl) (by kernel_rfl) (by kernel_rfl) (fun _ _ _ h => h) (by rfl) ?_ (HST.out _ HRL.out) ?_
                          rotate_left
                          · (intro w hSw; obtain ⟨hRl, p1, p2⟩ := hSw; go_simp; try with_reducible rfl)
                          simp only [Act.put, List.setIfInBounds_toArray, List.set_cons_zero, List.set_cons_succ]
                          refine takeAt 8 111 (oi := _) (v := ?_) rfl rfl (by kernel_rfl) (by kernel_rfl) (by kernel_rfl) (fun _ _ _ h => h) (by rfl) ?_ (HST.out _ HRL.out) ?_
                          rotate_left
                          · (intro w hSw; obtain ⟨hRl, p1, p2⟩ := hSw; go_simp; try with_reducible rfl)
                          simp only [Act.put, List.setIfInBounds_toArray, List.set_cons_zero, List.set_cons_succ]
                          refine takeAt 9 112 (oi := _) (v := ?_) rfl rfl (by kernel_rfl) (by kernel_rfl) (by kernel_rfl) (fun _ _ _ h => h) (by rfl) ?_ (HST.out _ HRL.out) ?_
                          rotate_left
                          · (intro w hSw; obtain ⟨hRl, p1, p2⟩ := hSw; go_simp; try with_reducible rfl)
                          simp only [Act.put, List.setIfInBounds_toArray, List.set_cons_zero, List.set_cons_succ]
                          refine takeAt 10 113 (oi := _) (v := ?_) rfl rfl (by kernel_rfl) (by kernel_rfl) (by kernel_rfl) (fun _ _ _ h => h) (by rfl) ?_ (HST.out _ HRL.out) ?_
                          rotate_left
                          · (intro w hSw; obtain ⟨hRl, p1, p2⟩ := hSw; go_simp; try with_reducible rfl)
                          simp only [Act.put, List.setIfInBounds_toArray, List.set_cons_zero, List.set_cons_succ]
                          refine takeAt 11 114 (oi := _) (v := ?_) rfl rfl (by kernel_rfl) (by kernel_rfl) (by kernel_rfl) (fun _ _ _ h => h) (by rfl) ?_ (HST.out _ HRL.out) ?_
                          rotate_left
                          · (intro w hSw; obtain ⟨hRl, p1, p2⟩ := hSw; go_simp; try with_reducible rfl)
                          simp only [Act.put, List.setIfInBounds_toArray, List.set_cons_zero, List.set_cons_succ]
                          refine skipAt 12 115 (oi := _) rfl rfl (by kernel_rfl) (by kernel_rfl) (by kernel_rfl) (fun _ _ _ h => h) (by rfl) (HST.out _ HRL.out) ?_
                          simp only [Act.put, List.setIfInBounds_toArray, List.set_cons_zero, List.set_cons_succ]
                          refine skipAt 13 116 (oi := _) rfl rfl (by kernel_rfl) (by kernel_rfl) (by kernel_rfl) (fun _ _ _ h => h) (by rfl) (HST.out _ HRL.out) ?_
                          simp only [Act.put, List.setIfInBounds_toArray, List.set_cons_zero, List.set_cons_succ]
                          refine skipAt 14 117 (oi := _) rfl rfl (by kernel_rfl) (by kernel_rfl) (by kernel_rfl) (fun _ _ _ h => h) (by rfl) (HST.out _ HRL.out) ?_
                          simp only [Act.put, List.setIfInBounds_toArray, List.set_cons_zero, List.set_cons_succ]
                          refine skipAt 15 118 (oi := _) rfl rfl (by kernel_rfl) (by kernel_rfl) (by kernel_rfl) (fun _ _ _ h => h) (by rfl) (HST.out _ HRL.out) ?_
                          simp only [Act.put, List.setIfInBounds_toArray, List.set_cons_zero, List.set_cons_succ]
                          refine skipAt 16 119 (oi := _) rfl rfl (by kernel_rfl) (by kernel_rfl) (by kernel_rfl) (fun _ _ _ h => h) (by rfl) (HST.out _ HRL.out) ?_
                          simp only [Act.put, List.setIfInBounds_toArray, List.set_cons_zero, List.set_cons_succ]
                          refine skipAt 17 120 (oi := _) rfl rfl (by kernel_rfl) (by kernel_rfl) (by kernel_rfl) (fun _ _ _ h => h) (by rfl) (HST.out _ HRL.out) ?_
                          simp only [Act.put, List.setIfInBounds_toArray, List.set_cons_zero, List.set_cons_succ]
                          refine skipAt 18 121 (oi := _) rfl rfl (by kernel_rfl) (by kernel_rfl) (by kernel_rfl) (fun _ _ _ h => h) (by rfl) (HST.out _ HRL.out) ?_
                          simp only [Act.put, List.setIfInBounds_toArray, List.set_cons_zero, List.set_cons_succ]
                          refine skipAt 19 122 (oi := _) rfl rfl (by kernel_rfl) (by kernel_rfl) (by kernel_rfl) (fun _ _ _ h => h) (by rfl) (HST.out _ HRL.out) ?_
                          simp only [Act.put, List.setIfInBounds_toArray, List.set_cons_zero, List.set_cons_succ]
                          refine skipAt 20 123 (oi := _) rfl rfl (by kernel_rfl) (by kernel_rfl) (by kernel_rfl) (fun _ _ _ h => h) (by rfl) (HST.out _ HRL.out) ?_
                          simp only [Act.put, List.setIfInBounds_toArray, List.set_cons_zero, List.set_cons_succ]
                          refine skipAt 21 124 (oi := _) rfl rfl (by kernel_rfl) (by kernel_rfl) (by kernel_rfl) (fun _ _ _ h => h) (by rfl) (HST.out _ HRL.out) ?_
                          simp only [Act.put, List.setIfInBounds_toArray, List.set_cons_zero, List.set_cons_succ]
                          refine skipAt 22 125 (oi := _) rfl rfl (by kernel_rfl) (by kernel_rfl) (by kernel_rfl) (fun _ _ _ h => h) (by rfl) (HST.out _ HRL.out) ?_
                          simp only [Act.put, List.setIfInBounds_toArray, List.set_cons_zero, List.set_cons_succ]
                          refine skipAt 23 126 (oi := _) rfl rfl (by kernel_rfl) (by kernel_rfl) (by kernel_rfl) (fun _ _ _ h => h) (by rfl) (HST.out _ HRL.out) ?_
                          simp only [Act.put, List.setIfInBounds_toArray, List.set_cons_zero, List.set_cons_succ]
                          refine skipAt 24 127 (oi := _) rfl rfl (by kernel_rfl) (by kernel_rfl) (by kernel_rfl) (fun _ _ _ h => h) (by rfl) (HST.out _ HRL.out) ?_
                          simp only [Act.put, List.setIfInBounds_toArray, List.set_cons_zero, List.set_cons_succ]
                          refine skipAt 25 128 (oi := _) rfl rfl (by kernel_rfl) (by kernel_rfl) (by kernel_rfl) (fun _ _ _ h => h) (by rfl) (HST.out _ HRL.out) ?_
                          simp only [Act.put, List.setIfInBounds_toArray, List.set_cons_zero, List.set_cons_succ]
                          refine skipAt 26 129 (oi := _) rfl rfl (by kernel_rfl) (by kernel_rfl) (by kernel_rfl) (fun _ _ _ h => h) (by rfl) (HST.out _ HRL.out) ?_
                          simp only [Act.put, List.setIfInBounds_toArray, List.set_cons_zero, List.set_cons_succ]
                          refine skipAt 27 130 (oi := _) rfl rfl (by kernel_rfl) (by kernel_rfl) (by kernel_rfl) (fun _ _ _ h => h) (by rfl) (HST.out _ HRL.out) ?_
                          simp only [Act.put, List.setIfInBounds_toArray, List.set_cons_zero, List.set_cons_succ]
                          refine takeAt 28 131 (oi := _) (v := ?_) rfl rfl (by kernel_rfl) (by kernel_rfl) (by kernel_rfl) (fun _ _ _ h => h) (by rfl) ?_ (HST.out _ HRL.out) ?_
                          rotate_left
                          · (intro w hSw; obtain ⟨hRl, p1, p2⟩ := hSw; go_simp; try with_reducible rfl)
                          simp only [Act.put, List.setIfInBounds_toArray, List.set_cons_zero, List.set_cons_succ]
                          refine wpAnyH_done (by kernel_rfl) ?_ _
                          go_wp2_with fail
                          go_roundw
                          case rel => exact ⟨j + 1, by omega, by go_num, HJ.out.succ (fun _ h => by omega), HRL.out⟩
                          case measure => simp [intOf]; omega
                        · have b1 : decide (0 ≤ f j) = true := decide_eq_true (by omega)
                          by_cases hf2 : f i < 0
                          · have b2 : decide (f i < 0) = true := decide_eq_true hf2
                            go_wp2_with fail
                            refine wp_region_held_drew (S := RoT w.heap.size G n r i j (f i) (f j)) (by kernel_rfl) (HST.out _ HRJ.out.drew) (fun hHeld => ?_)
                            change wpAnyH _ _ _ _ _ 29 _ _ _
                            clear hHeld
                            have HRK := Lib.hid HRJ.out.drew
                            generalize wr.drew = WD at HRK ⊢
                            refine takeAt 0 103 (oi := _) (v := ?_) rfl rfl (by kernel_rfl) (by kernel_rfl) (by kernel_rfl) (fun _ _ _ h => h) (by rfl) ?_ (HST.out _ HRK.out) ?_
                            rotate_left
                            · (intro w hSw; obtain ⟨hRl, p1, p2⟩ := hSw; have c0 := hRl.size; obtain ⟨c1, c2, c3, c4, c5, c6, c7, c8, c9, c10, c11, c12⟩ := hRl.rows; go_simp; try with_reducible rfl)
                            simp only [Act.put, List.setIfInBounds_toArray, List.set_cons_zero, List.set_cons_succ]
                            refine takeAt 1 104 (oi := _) (v := ?_) rfl rfl (by kernel_rfl) (by kernel_rfl) (by kernel_rfl) (fun _ _ _ h => h) (by rfl) ?_ (HST.out _ HRK.out) ?_
                            rotate_left
                            · (intro w hSw; obtain ⟨hRl, p1, p2⟩ := hSw; go_simp; try with_reducible rfl)
                            simp only [Act.put, List.setIfInBounds_toArray, List.set_cons_zero, List.set_cons_succ]
                            refine takeAt 2 105 (oi := _) (v := ?_) rfl rfl (by kernel_rfl) (by kernel_rfl) (by kernel_rfl) (fun _ _ _ h => h) (by rfl) ?_ (HST.out _ HRK.out) ?_
                            rotate_left
                            · (intro w hSw; obtain ⟨hRl, p1, p2⟩ := hSw; go_simp; try with_reducible rfl)
                            simp only [Act.put, List.setIfInBounds_toArray, List.set_cons_zero, List.set_cons_succ]
                            refine wpAnyH_ready (rs := [3]) (by kernel_rfl) (by simp) ?_
                            refine AllReadyH.cons (o := _) rfl (fun K hK => ?_) AllReadyH.nil
                            go_simp
                            refine (ahead_any n r i j WD (by omega) (by omega)).mono ?_
                            rintro e w9 ⟨rfl, hb9⟩
                            rw [hbit]
                            have HRL := Lib.hid (HRK.out.next hb9)
                            clear hb9
                            refine hK.out _ _ (HST.out _ HRL.out) (fun _ => ?_)
                            clear hK K
                            refine takeAt 4 107 (oi := _) (v := ?_) rfl rfl (by kernel_rfl) (by kernel_rfl) (by kernel_rfl) (fun _ _ _ h => h) (by rfl) ?_ (HST.out _ HRL.out) ?_
                            rotate_left
                            · (intro w hSw; obtain ⟨hRl, p1, p2⟩ := hSw; go_simp; try with_reducible rfl)
                            simp only [Act.put, List.setIfInBounds_toArray, List.set_cons_zero, List.set_cons_succ]
                            refine takeAt 5 108 (oi := _) (v := ?_) rfl rfl (by kernel_rfl) (by kernel_rfl) (by kernel_rfl) (fun _ _ _ h => h) (by rfl) ?_ (HST.out _ HRL.out) ?_
                            rotate_left
                            · (intro w hSw; obtain ⟨hRl, p1, p2⟩ := hSw; go_simp; try with_reducible rfl)
                            simp only [Act.put, List.setIfInBounds_toArray, List.set_cons_zero, List.set_cons_succ]
                            refine takeAt 6 109 (oi := _) (v := ?_) rfl rfl (by kernel_rfl) (by kernel_rfl) (by kernel_rfl) (fun _ _ _ h => h) (by rfl) ?_ (HST.out _ HRL.out) ?_
                            rotate_left
                            · (intro w hSw; obtain ⟨hRl, p1, p2⟩ := hSw; go_simp; try with_reducible rfl)
                            simp only [Act.put, List.setIfInBounds_toArray, List.set_cons_zero, List.set_cons_succ]
                            refine takeAt 7 110 (oi := _) (v := ?_) rfl rfl (by kernel_rfl) (by kernel_rfl) (by kernel_rfl) (fun _ _ _ h => h) (by rfl) ?_ (HST.out _ HRL.out) ?_
                            rotate_left
                            · (intro w hSw; obtain ⟨hRl, p1, p2⟩ := hSw; go_simp; try with_reducible rfl)
                            simp only [Act.put, List.setIfInBounds_toArray, List.set_cons_zero, List.set_cons_succ]
                            refine takeAt 8 111 (oi := _) (v := ?_) rfl rfl (by kernel_rfl) (by kernel_rfl) (by kernel_rfl) (fun _ _ _ h => h) (by rfl) ?_ (HST.out _ HRL.out) ?_
                            rotate_left
                            · (intro w hSw; obtain ⟨hRl, p1, p2⟩ := hSw; go_simp; try with_reducible rfl)
                            simp only [Act.put, List.setIfInBounds_toArray, List.set_cons_zero, List.set_cons_succ]
                            refine takeAt 9 112 (oi := _) (v := ?_) rfl rfl (by kernel_rfl) (by kernel_rfl) (by kernel_rfl) (fun _ _ _ h => h) (by rfl) ?_ (HST.out _ HRL.out) ?_
                            rotate_left
                            · (intro w hSw; obtain ⟨hRl, p1, p2⟩ := hSw; go_simp; try with_reducible rfl)
                            simp only [Act.put, List.setIfInBounds_toArray, List.set_cons_zero, List.set_cons_succ]
                            refine takeAt 10 113 (oi := _) (v := ?_) rfl rfl (by kernel_rfl) (by kernel_rfl) (by kernel_rfl) (fun _ _ _ h => h) (by rfl) ?_ (HST.out _ HRL.out) ?_
                            rotate_left
                            · (intro w hSw; obtain ⟨hRl, p1, p2⟩ := hSw; go_simp; try with_reducible rfl)
                            simp only [Act.put, List.setIfInBounds_toArray, List.set_cons_zero, List.set_cons_succ]
                            refine takeAt 11 114 (oi := _) (v := ?_) rfl rfl (by kernel_rfl) (by kernel_rfl) (by kernel_rfl) (fun _ _ _ h => h) (by rfl) ?_ (HST.out _ HRL.out) ?_
                            rotate_left
                            · (intro w hSw; obtain ⟨hRl, p1, p2⟩ := hSw; go_simp; try with_reducible rfl)
                            simp only [Act.put, List.setIfInBounds_toArray, List.set_cons_zero, List.set_cons_succ]
                            refine takeAt 12 115 (oi := _) (v := ?_) rfl rfl (by kernel_rfl) (by kernel_rfl) (by kernel_rfl) (fun _ _ _ h => h) (by rfl) ?_ (HST.out _ HRL.out) ?_
                            rotate_left
                            · (intro w hSw; obtain ⟨hRl, p1, p2⟩ := hSw; go_simp; try with_reducible rfl)
                            simp only [Act.put, List.setIfInBounds_toArray, List.set_cons_zero, List.set_cons_succ]
                            refine takeAt 13 116 (oi := _) (v := ?_) rfl rfl (by kernel_rfl) (by kernel_rfl) (by kernel_rfl) (fun _ _ _ h => h) (by rfl) ?_ (HST.out _ HRL.out) ?_
                            rotate_left
                            · (intro w hSw; obtain ⟨hRl, p1, p2⟩ := hSw; go_simp; try with_reducible rfl)
                            simp only [Act.put, List.setIfInBounds_toArray, List.set_cons_zero, List.set_cons_succ]
                            refine takeAt 14 117 (oi := _) (v := ?_) rfl rfl (by kernel_rfl) (by kernel_rfl) (by kernel_rfl) (fun _ _ _ h => h) (by rfl) ?_ (HST.out _ HRL.out) ?_
                            rotate_left
                            · (intro w hSw; obtain ⟨hRl, p1, p2⟩ := hSw; go_simp; try with_reducible rfl)
                            simp only [Act.put, List.setIfInBounds_toArray, List.set_cons_zero, List.set_cons_succ]
                            refine takeAt 15 118 (oi := _) (v := ?_) rfl rfl (by kernel_rfl) (by kernel_rfl) (by kernel_rfl) (fun _ _ _ h => h) (by rfl) ?_ (HST.out _ HRL.out) ?_
                            rotate_left
                            · (intro w hSw; obtain ⟨hRl, p1, p2⟩ := hSw; go_simp; try with_reducible rfl)
                            simp only [Act.put, List.setIfInBounds_toArray, List.set_cons_zero, List.set_cons_succ]
                            refine takeAt 16 119 (oi := _) (v := ?_) rfl rfl (by kernel_rfl) (by kernel_rfl) (by kernel_rfl) (fun _ _ _ h => h) (by rfl) ?_ (HST.out _ HRL.out) ?_
                            rotate_left
                            · (intro w hSw; obtain ⟨hRl, p1, p2⟩ := hSw; go_simp; try with_reducible rfl)
                            simp only [Act.put, List.setIfInBounds_toArray, List.set_cons_zero, List.set_cons_succ]
                            refine takeAt 17 120 (oi := _) (v := ?_) rfl rfl (by kernel_rfl) (by kernel_rfl) (by kernel_rfl) (fun _ _ _ h => h) (by rfl) ?_ (HST.out _ HRL.out) ?_
                            rotate_left
                            · (intro w hSw; obtain ⟨hRl, p1, p2⟩ := hSw; go_simp; try with_reducible rfl)
                            simp only [Act.put, List.setIfInBounds_toArray, List.set_cons_zero, List.set_cons_succ]
                            refine skipAt 18 121 (oi := _) rfl rfl (by kernel_rfl) (by kernel_rfl) (by kernel_rfl) (fun _ _ _ h => h) (by rfl) (HST.out _ HRL.out) ?_
                            simp only [Act.put, List.setIfInBounds_toArray, List.set_cons_zero, List.set_cons_succ]
                            refine skipAt 19 122 (oi := _) rfl rfl (by kernel_rfl) (by kernel_rfl) (by kernel_rfl) (fun _ _ _ h => h) (by rfl) (HST.out _ HRL.out) ?_
                            simp only [Act.put, List.setIfInBounds_toArray, List.set_cons_zero, List.set_cons_succ]
                            refine skipAt 20 123 (oi := _) rfl rfl (by kernel_rfl) (by kernel_rfl) (by kernel_rfl) (fun _ _ _ h => h) (by rfl) (HST.out _ HRL.out) ?_
                            simp only [Act.put, List.setIfInBounds_toArray, List.set_cons_zero, List.set_cons_succ]
                            refine skipAt 21 124 (oi := _) rfl rfl (by kernel_rfl) (by kernel_rfl) (by kernel_rfl) (fun _ _ _ h => h) (by rfl) (HST.out _ HRL.out) ?_
                            simp only [Act.put, List.setIfInBounds_toArray, List.set_cons_zero, List.set_cons_succ]
                            refine skipAt 22 125 (oi := _) rfl rfl (by kernel_rfl) (by kernel_rfl) (by kernel_rfl) (fun _ _ _ h => h) (by rfl) (HST.out _ HRL.out) ?_
                            simp only [Act.put, List.setIfInBounds_toArray, List.set_cons_zero, List.set_cons_succ]
                            refine skipAt 23 126 (oi := _) rfl rfl (by kernel_rfl) (by kernel_rfl) (by kernel_rfl) (fun _ _ _ h => h) (by rfl) (HST.out _ HRL.out) ?_
                            simp only [Act.put, List.setIfInBounds_toArray, List.set_cons_zero, List.set_cons_succ]
                            refine skipAt 24 127 (oi := _) rfl rfl (by kernel_rfl) (by kernel_rfl) (by kernel_rfl) (fun _ _ _ h => h) (by rfl) (HST.out _ HRL.out) ?_
                            simp only [Act.put, List.setIfInBounds_toArray, List.set_cons_zero, List.set_cons_succ]
                            refine skipAt 25 128 (oi := _) rfl rfl (by kernel_rfl) (by kernel_rfl) (by kernel_rfl) (fun _ _ _ h => h) (by rfl) (HST.out _ HRL.out) ?_
                            simp only [Act.put, List.setIfInBounds_toArray, List.set_cons_zero, List.set_cons_succ]
                            refine skipAt 26 129 (oi := _) rfl rfl (by kernel_rfl) (by kernel_rfl) (by kernel_rfl) (fun _ _ _ h => h) (by rfl) (HST.out _ HRL.out) ?_
                            simp only [Act.put, List.setIfInBounds_toArray, List.set_cons_zero, List.set_cons_succ]
                            refine takeAt 27 130 (oi := _) (v := ?_) rfl rfl (by kernel_rfl) (by kernel_rfl) (by kernel_rfl) (fun _ _ _ h => h) (by rfl) ?_ (HST.out _ HRL.out) ?_
                            rotate_left
                            · (intro w hSw; obtain ⟨hRl, p1, p2⟩ := hSw; go_simp; try with_reducible rfl)
                            simp only [Act.put, List.setIfInBounds_toArray, List.set_cons_zero, List.set_cons_succ]
                            refine takeAt 28 131 (oi := _) (v := ?_) rfl rfl (by kernel_rfl) (by kernel_rfl) (by kernel_rfl) (fun _ _ _ h => h) (by rfl) ?_ (HST.out _ HRL.out) ?_
                            rotate_left
                            · (intro w hSw; obtain ⟨hRl, p1, p2⟩ := hSw; go_simp; try with_reducible rfl)
                            simp only [Act.put, List.setIfInBounds_toArray, List.set_cons_zero, List.set_cons_succ]
                            refine wpAnyH_done (by kernel_rfl) ?_ _
                            go_wp2_with fail
                            go_ret
                            exact ⟨false, rfl, ⟨fun h => (by cases h), fun h => absurd h (not_rite3 (p := fun i j => (r i).testBit j) HAT.out hi' (by rw [← HNN.out]; exact hjn) hbit (by omega) (.inl hf2))⟩, HRL.out.below⟩
                          · have b2 : decide (f i < 0) = false := decide_eq_false hf2
                            by_cases hf3 : f j < f i
                            · have b3 : decide (f j < f i) = true := decide_eq_true hf3
                              go_wp2_with fail
                              refine wp_region_held_drew (S := RoT w.heap.size G n r i j (f i) (f j)) (by kernel_rfl) (HST.out _ HRJ.out.drew) (fun hHeld => ?_)
                              change wpAnyH _ _ _ _ _ 29 _ _ _
                              clear hHeld
                              have HRK := Lib.hid HRJ.out.drew
                              generalize wr.drew = WD at HRK ⊢
                              refine takeAt 0 103 (oi := _) (v := ?_) rfl rfl (by kernel_rfl) (by kernel_rfl) (by kernel_rfl) (fun _ _ _ h => h) (by rfl) ?_ (HST.out _ HRK.out) ?_
                              rotate_left
                              · (intro w hSw; obtain ⟨hRl, p1, p2⟩ := hSw; have c0 := hRl.size; obtain ⟨c1, c2, c3, c4, c5, c6, c7, c8, c9, c10, c11, c12⟩ := hRl.rows; go_simp; try with_reducible rfl)
                              simp only [Act.put, List.setIfInBounds_toArray, List.set_cons_zero, List.set_cons_succ]
                              refine takeAt 1 104 (oi := _) (v := ?_) rfl rfl (by kernel_rfl) (by kernel_rfl) (by kernel_rfl) (fun _ _ _ h => h) (by rfl) ?_ (HST.out _ HRK.out) ?_
                              rotate_left
                              · (intro w hSw; obtain ⟨hRl, p1, p2⟩ := hSw; go_simp; try with_reducible rfl)
                              simp only [Act.put, List.setIfInBounds_toArray, List.set_cons_zero, List.set_cons_succ]
                              refine takeAt 2 105 (oi := _) (v := ?_) rfl rfl (by kernel_rfl) (by kernel_rfl) (by kernel_rfl) (fun _ _ _ h => h) (by rfl) ?_ (HST.out _ HRK.out) ?_
                              rotate_left
                              · (intro w hSw; obtain ⟨hRl, p1, p2⟩ := hSw; go_simp; try with_reducible rfl)
                              simp only [Act.put, List.setIfInBounds_toArray, List.set_cons_zero, List.set_cons_succ]
                              refine wpAnyH_ready (rs := [3]) (by kernel_rfl) (by simp) ?_
                              refine AllReadyH.cons (o := _) rfl (fun K hK => ?_) AllReadyH.nil
                              go_simp
                              refine (ahead_any n r i j WD (by omega) (by omega)).mono ?_
                              rintro e w9 ⟨rfl, hb9⟩
                              rw [hbit]
                              have HRL := Lib.hid (HRK.out.next hb9)
                              clear hb9
                              refine hK.out _ _ (HST.out _ HRL.out) (fun _ => ?_)
                              clear hK K
                              refine takeAt 4 107 (oi := _) (v := ?_) rfl rfl (by kernel_rfl) (by kernel_rfl) (by kernel_rfl) (fun _ _ _ h => h) (by rfl) ?_ (HST.out _ HRL.out) ?_
                              rotate_left
                              · (intro w hSw; obtain ⟨hRl, p1, p2⟩ := hSw; go_simp; try with_reducible rfl)
                              simp only [Act.put, List.setIfInBounds_toArray, List.set_cons_zero, List.set_cons_succ]
                              refine takeAt 5 108 (oi := _) (v := ?_) rfl rfl (by kernel_rfl) (by kernel_rfl) (by kernel_rfl) (fun _ _ _ h => h) (by rfl) ?_ (HST.out _ HRL.out) ?_
                              rotate_left
                              · (intro w hSw; obtain ⟨hRl, p1, p2⟩ := hSw; go_simp; try with_reducible rfl)
                              simp only [Act.put, List.setIfInBounds_toArray, List.set_cons_zero, List.set_cons_succ]
                              refine takeAt 6 109 (oi := _) (v := ?_) rfl rfl (by kernel_rfl) (by kernel_rfl) (by kernel_rfl) (fun _ _ _ h => h) (by rfl) ?_ (HST.out _ HRL.out) ?_
                              rotate_left
                              · (intro w hSw; obtain ⟨hRl, p1, p2⟩ := hSw; go_simp; try with_reducible rfl)
                              simp only [Act.put, List.setIfInBounds_toArray, List.set_cons_zero, List.set_cons_succ]
                              refine takeAt 7 110 (oi := _) (v := ?_) rfl rfl (by kernel_rfl) (by kernel_rfl) (by kernel_rfl) (fun _ _ _ h => h) (by rfl) ?_ (HST.out _ HRL.out) ?_
                              rotate_left
                              · (intro w hSw; obtain ⟨hRl, p1, p2⟩ := hSw; go_simp; try with_reducible rfl)
                              simp only [Act.put, List.setIfInBounds_toArray, List.set_cons_zero, List.set_cons_succ]
                              refine takeAt 8 111 (oi := _) (v := ?_) rfl rfl (by kernel_rfl) (by kernel_rfl) (by kernel_rfl) (fun _ _ _ h => h) (by rfl) ?_ (HST.out _ HRL.out) ?_
                              rotate_left
                              · (intro w hSw; obtain ⟨hRl, p1, p2⟩ := hSw; go_simp; try with_reducible rfl)
                              simp only [Act.put, List.setIfInBounds_toArray, List.set_cons_zero, List.set_cons_succ]
                              refine takeAt 9 112 (oi := _) (v := ?_) rfl rfl (by kernel_rfl) (by kernel_rfl) (by kernel_rfl) (fun _ _ _ h => h) (by rfl) ?_ (HST.out _ HRL.out) ?_
                              rotate_left
                              · (intro w hSw; obtain ⟨hRl, p1, p2⟩ := hSw; go_simp; try with_reducible rfl)
                              simp only [Act.put, List.setIfInBounds_toArray, List.set_cons_zero, List.set_cons_succ]
                              refine takeAt 10 113 (oi := _) (v := ?_) rfl rfl (by kernel_rfl) (by kernel_rfl) (by kernel_rfl) (fun _ _ _ h => h) (by rfl) ?_ (HST.out _ HRL.out) ?_
                              rotate_left
                              · (intro w hSw; obtain ⟨hRl, p1, p2⟩ := hSw; go_simp; try with_reducible rfl)
                              simp only [Act.put, List.setIfInBounds_toArray, List.set_cons_zero, List.set_cons_succ]
                              refine takeAt 11 114 (oi := _) (v := ?_) rfl rfl (by kernel_rfl) (by kernel_rfl) (by kernel_rfl) (fun _ _ _ h => h) (by rfl) ?_ (HST.out _ HRL.out) ?_
                              rotate_left
                              · (intro w hSw; obtain ⟨hRl, p1, p2⟩ := hSw; go_simp; try with_reducible rfl)
                              simp only [Act.put, List.setIfInBounds_toArray, List.set_cons_zero, List.set_cons_succ]
                              refine takeAt 12 115 (oi := _) (v := ?_) rfl rfl (by kernel_rfl) (by kernel_rfl) (by kernel_rfl) (fun _ _ _ h => h) (by rfl) ?_ (HST.out _ HRL.out) ?_
                              rotate_left
                              · (intro w hSw; obtain ⟨hRl, p1, p2⟩ := hSw; go_simp; try with_reducible rfl)
                              simp only [Act.put, List.setIfInBounds_toArray, List.set_cons_zero, List.set_cons_succ]
                              refine takeAt 13 116 (oi := _) (v := ?_) rfl rfl (by kernel_rfl) (by kernel_rfl) (by kernel_rfl) (fun _ _ _ h => h) (by rfl) ?_ (HST.out _ HRL.out) ?_
                              rotate_left
                              · (intro w hSw; obtain ⟨hRl, p1, p2⟩ := hSw; go_simp; try with_reducible rfl)
                              simp only [Act.put, List.setIfInBounds_toArray, List.set_cons_zero, List.set_cons_succ]
                              refine takeAt 14 117 (oi := _) (v := ?_) rfl rfl (by kernel_rfl) (by kernel_rfl) (by kernel_rfl) (fun _ _ _ h => h) (by rfl) ?_ (HST.out _ HRL.out) ?_
                              rotate_left
                              · (intro w hSw; obtain ⟨hRl, p1, p2⟩ := hSw; go_simp; try with_reducible rfl)
                              simp only [Act.put, List.setIfInBounds_toArray, List.set_cons_zero, List.set_cons_succ]
                              refine takeAt 15 118 (oi := _) (v := ?_) rfl rfl (by kernel_rfl) (by kernel_rfl) (by kernel_rfl) (fun _ _ _ h => h) (by rfl) ?_ (HST.out _ HRL.out) ?_
                              rotate_left
                              · (intro w hSw; obtain ⟨hRl, p1, p2⟩ := hSw; go_simp; try with_reducible rfl)
                              simp only [Act.put, List.setIfInBounds_toArray, List.set_cons_zero, List.set_cons_succ]
                              refine takeAt 16 119 (oi := _) (v := ?_) rfl rfl (by kernel_rfl) (by kernel_rfl) (by kernel_rfl) (fun _ _ _ h => h) (by rfl) ?_ (HST.out _ HRL.out) ?_
                              rotate_left
                              · (intro w hSw; obtain ⟨hRl, p1, p2⟩ := hSw; go_simp; try with_reducible rfl)
                              simp only [Act.put, List.setIfInBounds_toArray, List.set_cons_zero, List.set_cons_succ]
                              refine takeAt 17 120 (oi := _) (v := ?_) rfl rfl (by kernel_rfl) (by kernel_rfl) (by kernel_rfl) (fun _ _ _ h => h) (by rfl) ?_ (HST.out _ HRL.out) ?_
                              rotate_left
                              · (intro w hSw; obtain ⟨hRl, p1, p2⟩ := hSw; go_simp; try with_reducible rfl)
                              simp only [Act.put, List.setIfInBounds_toArray, List.set_cons_zero, List.set_cons_succ]
                              refine takeAt 18 121 (oi := _) (v := ?_) rfl rfl (by kernel_rfl) (by kernel_rfl) (by kernel_rfl) (fun _ _ _ h => h) (by rfl) ?_ (HST.out _ HRL.out) ?_
                              rotate_left
                              · (intro w hSw; obtain ⟨hRl, p1, p2⟩ := hSw; go_simp; try with_reducible rfl)
                              simp only [Act.put, List.setIfInBounds_toArray, List.set_cons_zero, List.set_cons_succ]
                              refine takeAt 19 122 (oi := _) (v := ?_) rfl rfl (by kernel_rfl) (by kernel_rfl) (by kernel_rfl) (fun _ _ _ h => h) (by rfl) ?_ (HST.out _ HRL.out) ?_
                              rotate_left
                              · (intro w hSw; obtain ⟨hRl, p1, p2⟩ := hSw; go_simp; try with_reducible rfl)
                              simp only [Act.put, List.setIfInBounds_toArray, List.set_cons_zero, List.set_cons_succ]
                              refine takeAt 20 123 (oi := _) (v := ?_) rfl rfl (by kernel_rfl) (by kernel_rfl) (by kernel_rfl) (fun _ _ _ h => h) (by rfl) ?_ (HST.out _ HRL.out) ?_
                              rotate_left
                              · (intro w hSw; obtain ⟨hRl, p1, p2⟩ := hSw; go_simp; try with_reducible rfl)
                              simp only [Act.put, List.setIfInBounds_toArray, List.set_cons_zero, List.set_cons_succ]
                              refine takeAt 21 124 (oi := _) (v := ?_) rfl rfl (by kernel_rfl) (by kernel_rfl) (by kernel_rfl) (fun _ _ _ h => h) (by rfl) ?_ (HST.out _ HRL.out) ?_
                              rotate_left
                              · (intro w hSw; obtain ⟨hRl, p1, p2⟩ := hSw; go_simp; try with_reducible rfl)
                              simp only [Act.put, List.setIfInBounds_toArray, List.set_cons_zero, List.set_cons_succ]
                              refine takeAt 22 125 (oi := _) (v := ?_) rfl rfl (by kernel_rfl) (by kernel_rfl) (by kernel_rfl) (fun _ _ _ h => h) (by rfl) ?_ (HST.out _ HRL.out) ?_
                              rotate_left
                              · (intro w hSw; obtain ⟨hRl, p1, p2⟩ := hSw; go_simp; try with_reducible rfl)
                              simp only [Act.put, List.setIfInBounds_toArray, List.set_cons_zero, List.set_cons_succ]
                              refine takeAt 23 126 (oi := _) (v := ?_) rfl rfl (by kernel_rfl) (by kernel_rfl) (by kernel_rfl) (fun _ _ _ h => h) (by rfl) ?_ (HST.out _ HRL.out) ?_
                              rotate_left
                              · (intro w hSw; obtain ⟨hRl, p1, p2⟩ := hSw; go_simp; try with_reducible rfl)
                              simp only [Act.put, List.setIfInBounds_toArray, List.set_cons_zero, List.set_cons_succ]
                              refine takeAt 24 127 (oi := _) (v := ?_) rfl rfl (by kernel_rfl) (by kernel_rfl) (by kernel_rfl) (fun _ _ _ h => h) (by rfl) ?_ (HST.out _ HRL.out) ?_
                              rotate_left
                              · (intro w hSw; obtain ⟨hRl, p1, p2⟩ := hSw; go_simp; try with_reducible rfl)
                              simp only [Act.put, List.setIfInBounds_toArray, List.set_cons_zero, List.set_cons_succ]
                              refine takeAt 25 128 (oi := _) (v := ?_) rfl rfl (by kernel_rfl) (by kernel_rfl) (by kernel_rfl) (fun _ _ _ h => h) (by rfl) ?_ (HST.out _ HRL.out) ?_
                              rotate_left
                              · (intro w hSw; obtain ⟨hRl, p1, p2⟩ := hSw; go_simp; try with_reducible rfl)
                              simp only [Act.put, List.setIfInBounds_toArray, List.set_cons_zero, List.set_cons_succ]
                              refine takeAt 26 129 (oi := _) (v := ?_) rfl rfl (by kernel_rfl) (by kernel_rfl) (by kernel_rfl) (fun _ _ _ h => h) (by rfl) ?_ (HST.out _ HRL.out) ?_
                              rotate_left
                              · (intro w hSw; obtain ⟨hRl, p1, p2⟩ := hSw; go_simp; try with_reducible rfl)
                              simp only [Act.put, List.setIfInBounds_toArray, List.set_cons_zero, List.set_cons_succ]
                              refine takeAt 27 130 (oi := _) (v := ?_) rfl rfl (by kernel_rfl) (by kernel_rfl) (by kernel_rfl) (fun _ _ _ h => h) (by rfl) ?_ (HST.out _ HRL.out) ?_
                              rotate_left
                              · (intro w hSw; obtain ⟨hRl, p1, p2⟩ := hSw; go_simp; try with_reducible rfl)
                              simp only [Act.put, List.setIfInBounds_toArray, List.set_cons_zero, List.set_cons_succ]
                              refine takeAt 28 131 (oi := _) (v := ?_) rfl rfl (by kernel_rfl) (by kernel_rfl) (by kernel_rfl) (fun _ _ _ h => h) (by rfl) ?_ (HST.out _ HRL.out) ?_
                              rotate_left
                              · (intro w hSw; obtain ⟨hRl, p1, p2⟩ := hSw; go_simp; try with_reducible rfl)
                              simp only [Act.put, List.setIfInBounds_toArray, List.set_cons_zero, List.set_cons_succ]
                              refine wpAnyH_done (by kernel_rfl) ?_ _
                              go_wp2_with fail
                              go_ret
                              exact ⟨false, rfl, ⟨fun h => (by cases h), fun h => absurd h (not_rite3 (p := fun i j => (r i).testBit j) HAT.out hi' (by rw [← HNN.out]; exact hjn) hbit (by omega) (.inr hf3))⟩, HRL.out.below⟩
                            · have b3 : decide (f j < f i) = false := decide_eq_false hf3
                              go_wp2_with fail
                              refine wp_region_held_drew (S := RoT w.heap.size G n r i j (f i) (f j)) (by kernel_rfl) (HST.out _ HRJ.out.drew) (fun hHeld => ?_)
                              change wpAnyH _ _ _ _ _ 29 _ _ _
                              clear hHeld
                              have HRK := Lib.hid HRJ.out.drew
                              generalize wr.drew = WD at HRK ⊢
                              refine takeAt 0 103 (oi := _) (v := ?_) rfl rfl (by kernel_rfl) (by kernel_rfl) (by kernel_rfl) (fun _ _ _ h => h) (by rfl) ?_ (HST.out _ HRK.out) ?_
                              rotate_left
                              · (intro w hSw; obtain ⟨hRl, p1, p2⟩ := hSw; have c0 := hRl.size; obtain ⟨c1, c2, c3, c4, c5, c6, c7, c8, c9, c10, c11, c12⟩ := hRl.rows; go_simp; try with_reducible rfl)
                              simp only [Act.put, List.setIfInBounds_toArray, List.set_cons_zero, List.set_cons_succ]
                              refine takeAt 1 104 (oi := _) (v := ?_) rfl rfl (by kernel_rfl) (by kernel_rfl) (by kernel_rfl) (fun _ _ _ h => h) (by rfl) ?_ (HST.out _ HRK.out) ?_
                              rotate_left
                              · (intro w hSw; obtain ⟨hRl, p1, p2⟩ := hSw; go_simp; try with_reducible rfl)
                              simp only [Act.put, List.setIfInBounds_toArray, List.set_cons_zero, List.set_cons_succ]
                              refine takeAt 2 105 (oi := _) (v := ?_) rfl rfl (by kernel_rfl) (by kernel_rfl) (by kernel_rfl) (fun _ _ _ h => h) (by rfl) ?_ (HST.out _ HRK.out) ?_
                              rotate_left
                              · (intro w hSw; obtain ⟨hRl, p1, p2⟩ := hSw; go_simp; try with_reducible rfl)
                              simp only [Act.put, List.setIfInBounds_toArray, List.set_cons_zero, List.set_cons_succ]
                              refine wpAnyH_ready (rs := [3]) (by kernel_rfl) (by simp) ?_
                              refine AllReadyH.cons (o := _) rfl (fun K hK => ?_) AllReadyH.nil
                              go_simp
                              refine (ahead_any n r i j WD (by omega) (by omega)).mono ?_
                              rintro e w9 ⟨rfl, hb9⟩
                              rw [hbit]
                              have HRL := Lib.hid (HRK.out.next hb9)
                              clear hb9
                              refine hK.out _ _ (HST.out _ HRL.out) (fun _ => ?_)
                              clear hK K
                              refine takeAt 4 107 (oi := _) (v := ?_) rfl rfl (by kernel_rfl) (by kernel_rfl) (by kernel_rfl) (fun _ _ _ h => h) (by rfl) ?_ (HST.out _ HRL.out) ?_
                              rotate_left
                              · (intro w hSw; obtain ⟨hRl, p1, p2⟩ := hSw; go_simp; try with_reducible rfl)
                              simp only [Act.put, List.setIfInBounds_toArray, List.set_cons_zero, List.set_cons_succ]
                              refine takeAt 5 108 (oi := _) (v := ?_) rfl rfl (by kernel_rfl) (by kernel_rfl) (by kernel_rfl) (fun _ _ _ h => h) (by rfl) ?_ (HST.out _ HRL.out) ?_
                              rotate_left
                              · (intro w hSw; obtain ⟨hRl, p1, p2⟩ := hSw; go_simp; try with_reducible rfl)
                              simp only [Act.put, List.setIfInBounds_toArray, List.set_cons_zero, List.set_cons_succ]
                              refine takeAt 6 109 (oi := _) (v := ?_) rfl rfl (by kernel_rfl) (by kernel_rfl) (by kernel_rfl) (fun _ _ _ h => h) (by rfl) ?_ (HST.out _ HRL.out) ?_
                              rotate_left
                              · (intro w hSw; obtain ⟨hRl, p1, p2⟩ := hSw; go_simp; try with_reducible rfl)
                              simp only [Act.put, List.setIfInBounds_toArray, List.set_cons_zero, List.set_cons_succ]
                              refine takeAt 7 110 (oi := _) (v := ?_) rfl rfl (by kernel_rfl) (by kernel_rfl) (by kernel_rfl) (fun _ _ _ h => h) (by rfl) ?_ (HST.out _ HRL.out) ?_
                              rotate_left
                              · (intro w hSw; obtain ⟨hRl, p1, p2⟩ := hSw; go_simp; try with_reducible rfl)
                              simp only [Act.put, List.setIfInBounds_toArray, List.set_cons_zero, List.set_cons_succ]
                              refine takeAt 8 111 (oi := _) (v := ?_) rfl rfl (by kernel_rfl) (by kernel_rfl) (by kernel_rfl) (fun _ _ _ h => h) (by rfl) ?_ (HST.out _ HRL.out) ?_
                              rotate_left
                              · (intro w hSw; obtain ⟨hRl, p1, p2⟩ := hSw; go_simp; try with_reducible rfl)
                              simp only [Act.put, List.setIfInBounds_toArray, List.set_cons_zero, List.set_cons_succ]
                              refine takeAt 9 112 (oi := _) (v := ?_) rfl rfl (by kernel_rfl) (by kernel_rfl) (by kernel_rfl) (fun _ _ _ h => h) (by rfl) ?_ (HST.out _ HRL.out) ?_
                              rotate_left
                              · (intro w hSw; obtain ⟨hRl, p1, p2⟩ := hSw; go_simp; try with_reducible rfl)
                              simp only [Act.put, List.setIfInBounds_toArray, List.set_cons_zero, List.set_cons_succ]
                              refine takeAt 10 113 (oi := _) (v := ?_) rfl rfl (by kernel_rfl) (by kernel_rfl) (by kernel_rfl) (fun _ _ _ h => h) (by rfl) ?_ (HST.out _ HRL.out) ?_
                              rotate_left
                              · (intro w hSw; obtain ⟨hRl, p1, p2⟩ := hSw; go_simp; try with_reducible rfl)
                              simp only [Act.put, List.setIfInBounds_toArray, List.set_cons_zero, List.set_cons_succ]
                              refine takeAt 11 114 (oi := _) (v := ?_) rfl rfl (by kernel_rfl) (by kernel_rfl) (by kernel_rfl) (fun _ _ _ h => h) (by rfl) ?_ (HST.out _ HRL.out) ?_
                              rotate_left
                              · (intro w hSw; obtain ⟨hRl, p1, p2⟩ := hSw; go_simp; try with_reducible rfl)
                              simp only [Act.put, List.setIfInBounds_toArray, List.set_cons_zero, List.set_cons_succ]
                              refine takeAt 12 115 (oi := _) (v := ?_) rfl rfl (by kernel_rfl) (by kernel_rfl) (by kernel_rfl) (fun _ _ _ h => h) (by rfl) ?_ (HST.out _ HRL.out) ?_
                              rotate_left
                              · (intro w hSw; obtain ⟨hRl, p1, p2⟩ := hSw; go_simp; try with_reducible rfl)
                              simp only [Act.put, List.setIfInBounds_toArray, List.set_cons_zero, List.set_cons_succ]
                              refine takeAt 13 116 (oi := _) (v := ?_) rfl rfl (by kernel_rfl) (by kernel_rfl) (by kernel_rfl) (fun _ _ _ h => h) (by rfl) ?_ (HST.out _ HRL.out) ?_
                              rotate_left
                              · (intro w hSw; obtain ⟨hRl, p1, p2⟩ := hSw; go_simp; try with_reducible rfl)
                              simp only [Act.put, List.setIfInBounds_toArray, List.set_cons_zero, List.set_cons_succ]
                              refine takeAt 14 117 (oi := _) (v := ?_) rfl rfl (by kernel_rfl) (by kernel_rfl) (by kernel_rfl) (fun _ _ _ h => h) (by rfl) ?_ (HST.out _ HRL.out) ?_
                              rotate_left
                              · (intro w hSw; obtain ⟨hRl, p1, p2⟩ := hSw; go_simp; try with_reducible rfl)
                              simp only [Act.put, List.setIfInBounds_toArray, List.set_cons_zero, List.set_cons_succ]
                              refine takeAt 15 118 (oi := _) (v := ?_) rfl rfl (by kernel_rfl) (by kernel_rfl) (by kernel_rfl) (fun _ _ _ h => h) (by rfl) ?_ (HST.out _ HRL.out) ?_
                              rotate_left
                              · (intro w hSw; obtain ⟨hRl, p1, p2⟩ := hSw; go_simp; try with_reducible rfl)
                              simp only [Act.put, List.setIfInBounds_toArray, List.set_cons_zero, List.set_cons_succ]
                              refine takeAt 16 119 (oi := _) (v := ?_) rfl rfl (by kernel_rfl) (by kernel_rfl) (by kernel_rfl) (fun _ _ _ h => h) (by rfl) ?_ (HST.out _ HRL.out) ?_
                              rotate_left
                              · (intro w hSw; obtain ⟨hRl, p1, p2⟩ := hSw; go_simp; try with_reducible rfl)
                              simp only [Act.put, List.setIfInBounds_toArray, List.set_cons_zero, List.set_cons_succ]
                              refine takeAt 17 120 (oi := _) (v := ?_) rfl rfl (by kernel_rfl) (by kernel_rfl) (by kernel_rfl) (fun _ _ _ h => h) (by rfl) ?_ (HST.out _ HRL.out) ?_
                              rotate_left
                              · (intro w hSw; obtain ⟨hRl, p1, p2⟩ := hSw; go_simp; try with_reducible rfl)
                              simp only [Act.put, List.setIfInBounds_toArray, List.set_cons_zero, List.set_cons_succ]
                              refine takeAt 18 121 (oi := _) (v := ?_) rfl rfl (by kernel_rfl) (by kernel_rfl) (by kernel_rfl) (fun _ _ _ h => h) (by rfl) ?_ (HST.out _ HRL.out) ?_
                              rotate_left
                              · (intro w hSw; obtain ⟨hRl, p1, p2⟩ := hSw; go_simp; try with_reducible rfl)
                              simp only [Act.put, List.setIfInBounds_toArray, List.set_cons_zero, List.set_cons_succ]
                              refine takeAt 19 122 (oi := _) (v := ?_) rfl rfl (by kernel_rfl) (by kernel_rfl) (by kernel_rfl) (fun _ _ _ h => h) (by rfl) ?_ (HST.out _ HRL.out) ?_
                              rotate_left
                              · (intro w hSw; obtain ⟨hRl, p1, p2⟩ := hSw; go_simp; try with_reducible rfl)
                              simp only [Act.put, List.setIfInBounds_toArray, List.set_cons_zero, List.set_cons_succ]
                              refine takeAt 20 123 (oi := _) (v := ?_) rfl rfl (by kernel_rfl) (by kernel_rfl) (by kernel_rfl) (fun _ _ _ h => h) (by rfl) ?_ (HST.out _ HRL.out) ?_
                              rotate_left
                              · (intro w hSw; obtain ⟨hRl, p1, p2⟩ := hSw; go_simp; try with_reducible rfl)
                              simp only [Act.put, List.setIfInBounds_toArray, List.set_cons_zero, List.set_cons_succ]
                              refine takeAt 21 124 (oi := _) (v := ?_) rfl rfl (by kernel_rfl) (by kernel_rfl) (by kernel_rfl) (fun _ _ _ h => h) (by rfl) ?_ (HST.out _ HRL.out) ?_
                              rotate_left
                              · (intro w hSw; obtain ⟨hRl, p1, p2⟩ := hSw; go_simp; try with_reducible rfl)
                              simp only [Act.put, List.setIfInBounds_toArray, List.set_cons_zero, List.set_cons_succ]
                              refine takeAt 22 125 (oi := _) (v := ?_) rfl rfl (by kernel_rfl) (by kernel_rfl) (by kernel_rfl) (fun _ _ _ h => h) (by rfl) ?_ (HST.out _ HRL.out) ?_
                              rotate_left
                              · (intro w hSw; obtain ⟨hRl, p1, p2⟩ := hSw; go_simp; try with_reducible rfl)
                              simp only [Act.put, List.setIfInBounds_toArray, List.set_cons_zero, List.set_cons_succ]
                              refine takeAt 23 126 (oi := _) (v := ?_) rfl rfl (by kernel_rfl) (by kernel_rfl) (by kernel_rfl) (fun _ _ _ h => h) (by rfl) ?_ (HST.out _ HRL.out) ?_
                              rotate_left
                              · (intro w hSw; obtain ⟨hRl, p1, p2⟩ := hSw; go_simp; try with_reducible rfl)
                              simp only [Act.put, List.setIfInBounds_toArray, List.set_cons_zero, List.set_cons_succ]
                              refine takeAt 24 127 (oi := _) (v := ?_) rfl rfl (by kernel_rfl) (by kernel_rfl) (by kernel_rfl) (fun _ _ _ h => h) (by rfl) ?_ (HST.out _ HRL.out) ?_
                              rotate_left
                              · (intro w hSw; obtain ⟨hRl, p1, p2⟩ := hSw; go_simp; try with_reducible rfl)
                              simp only [Act.put, List.setIfInBounds_toArray, List.set_cons_zero, List.set_cons_succ]
                              refine takeAt 25 128 (oi := _) (v := ?_) rfl rfl (by kernel_rfl) (by kernel_rfl) (by kernel_rfl) (fun _ _ _ h => h) (by rfl) ?_ (HST.out _ HRL.out) ?_
                              rotate_left
                              · (intro w hSw; obtain ⟨hRl, p1, p2⟩ := hSw; go_simp; try with_reducible rfl)
                              simp only [Act.put, List.setIfInBounds_toArray, List.set_cons_zero, List.set_cons_succ]
                              refine takeAt 26 129 (oi := _) (v := ?_) rfl rfl (by kernel_rfl) (by kernel_rfl) (by kernel_rfl) (fun _ _ _ h => h) (by rfl) ?_ (HST.out _ HRL.out) ?_
                              rotate_left
                              · (intro w hSw; obtain ⟨hRl, p1, p2⟩ := hSw; go_simp; try with_reducible rfl)
                              simp only [Act.put, List.setIfInBounds_toArray, List.set_cons_zero, List.set_cons_succ]
                              refine takeAt 27 130 (oi := _) (v := ?_) rfl rfl (by kernel_rfl) (by kernel_rfl) (by kernel_rfl) (fun _ _ _ h => h) (by rfl) ?_ (HST.out _ HRL.out) ?_
                              rotate_left
                              · (intro w hSw; obtain ⟨hRl, p1, p2⟩ := hSw; go_simp; try with_reducible rfl)
                              simp only [Act.put, List.setIfInBounds_toArray, List.set_cons_zero, List.set_cons_succ]
                              refine takeAt 28 131 (oi := _) (v := ?_) rfl rfl (by kernel_rfl) (by kernel_rfl) (by kernel_rfl) (fun _ _ _ h => h) (by rfl) ?_ (HST.out _ HRL.out) ?_
                              rotate_left
                              · (intro w hSw; obtain ⟨hRl, p1, p2⟩ := hSw; go_simp; try with_reducible rfl)
                              simp only [Act.put, List.setIfInBounds_toArray, List.set_cons_zero, List.set_cons_succ]
                              refine wpAnyH_done (by kernel_rfl) ?_ _
                              go_wp2_with fail
                              go_roundw
                              case rel => exact ⟨j + 1, by omega, by go_num, HJ.out.succ (fun _ h => ⟨by omega, by omega⟩), HRL.out⟩
                              case measure => simp [intOf]; omega
                    · obtain rfl : n = j := by omega
                      clear hJ hR
                      go_wp2_with fail
                      go_roundw
                      case rel => exact ⟨i + 1, by omega, by go_num, fun k hk => by
                        by_cases e : k = i
                        · subst e; exact ⟨HAI.out, HJ.out⟩
                        · exact HPH.out k (by omega), HRJ.out⟩
                      case measure => simp [intOf]; omega
            · obtain rfl : n = i := by omega
              clear hph hR hi0
              obtain ⟨W5, rfl⟩ : ∃ W5, W5 = wr := ⟨_, rfl⟩
              have hq12 : q ≤ 12 := by
                have h9 := rite_len HPR.out
                rw [← HMM.out, ← HNN.out] at h9
                omega
              go_wp2_with fail
              go_loopw [136] (fun t wr => ∃ u : Nat, u ≤ tl ∧ t = .int .i64 u ∧ (∀ k, k < u → playN (ts.getD k 0) (ownD cs k ws) = (ownD cs k ws).length) ∧ RoR w G n r f wr) (fun t _ => tl - (intOf t).toNat)
              case atStart => exact ⟨0, by omega, rfl, fun k hk => by omega, HRI.out⟩
              case round =>
                obtain ⟨u, hu, rfl, hpl, hR⟩ := hrel
                have HPL := Lib.hid hpl
                have HRU := Lib.hid hR
                clear hpl hR
                by_cases hut : u < tl
                · have hu' : u < ts.length := by rw [← HTL.out]; exact hut
                  obtain ⟨W6, rfl⟩ : ∃ W6, W6 = wr := ⟨_, rfl⟩
                  have i1 : (0 : Int) ≤ (u : Int) := by omega
                  have i2 : (u : Int) < (tl : Int) := by omega
                  go_wp2_with fail
                  go_loopw [16, 141] (fun v t wr => ∃ (m : Nat) (A : Option Addr) (N cap : Nat), m ≤ q ∧ v = .slice A N cap ∧ t = .int .i64 m ∧ DOwn wr W6.heap.size (.slice A N cap) (ownD cs u (ws.take m)) ∧ Below W6.heap.size W6 wr) (fun _ t _ => q - (intOf t).toNat)
                  case atStart => exact ⟨0, none, 0, 0, by omega, rfl, rfl, DOwn.nil _ _, Below.refl _ _⟩
                  case round =>
                    obtain ⟨m, A, N, cap, hm, rfl, rfl, hO, hb⟩ := hrel
                    have HO := Lib.hid (And.intro hO hb)
                    have HRM := Lib.hid (HRU.out.next hb)
                    clear hO hb
                    by_cases hmq : m < q
                    · obtain ⟨x, hx⟩ : ∃ x, ws[m]? = some x := ⟨_, List.getElem?_eq_getElem (by rw [← HMM.out]; exact hmq)⟩
                      have hr := HT.out.2.2.below HRM.out.below
                      obtain ⟨g, o, rfl, -, d0, d1⟩ := hr.sp hx
                      have hxr := HPR.out.rng m x (by rw [← HMM.out]; exact hmq) hx
                      have htk := ownD_take (cs := cs) (t := u) hx
                      have hxi := hx
                      obtain ⟨x0, x1⟩ := x
                      simp only at d0 d1 hxr
                      obtain ⟨k, rfl⟩ : ∃ k : Nat, x0 = (k : Int) := ⟨x0.toNat, by omega⟩
                      have hkc : k < cs.length := by omega
                      have hkn : k < n := by rw [HNN.out]; exact hkc
                      have hy := getD_some hkc
                      have hth := HX.out.2.2 _ (List.mem_of_getElem? hy)
                      have hrc := HT.out.2.1.below HRM.out.below
                      obtain ⟨gc, oc, rfl, -, e0, e1, e2, e3, e4, e5, e6⟩ := hrc.cl hy
                      have i3 : (0 : Int) ≤ (m : Int) := by omega
                      have i4 : (m : Int) < (q : Int) := by omega
                      have i5 : (0 : Int) ≤ (k : Int) := by omega
                      have i6 : (k : Int) < (n : Int) := by omega
                      unfold ddC atC at htk
                      simp only [Int.toNat_natCast] at htk
                      generalize cs.getD k default = y at e0 e1 e2 e3 e4 e5 e6 hth htk
                      obtain ⟨y0, y1, y2, y3, y4, y5, y6⟩ := y
                      simp only at e0 e1 e2 e3 e4 e5 e6 hth htk
                      have HTK := Lib.hid htk
                      have E0 : ∀ o2, (wr.alloc o2).cell? ⟨gc, oc + k * 7, none⟩ = some (.int .i64 y0) := fun _ => Lib.cell?_alloc_some _ e0
                      have E1 : ∀ o2, (wr.alloc o2).cell? ⟨gc, oc + k * 7 + 1, none⟩ = some (.int .i64 y1) := fun _ => Lib.cell?_alloc_some _ e1
                      have E2 : ∀ o2, (wr.alloc o2).cell? ⟨gc, oc + k * 7 + 2, none⟩ = some (.int .i64 y2) := fun _ => Lib.cell?_alloc_some _ e2
                      have E3 : ∀ o2, (wr.alloc o2).cell? ⟨gc, oc + k * 7 + 3, none⟩ = some (.int .i64 y3) := fun _ => Lib.cell?_alloc_some _ e3
                      have E4 : ∀ o2, (wr.alloc o2).cell? ⟨gc, oc + k * 7 + 4, none⟩ = some (.int .i64 y4) := fun _ => Lib.cell?_alloc_some _ e4
                      have E5 : ∀ o2, (wr.alloc o2).cell? ⟨gc, oc + k * 7 + 5, none⟩ = some (.int .i64 y5) := fun _ => Lib.cell?_alloc_some _ e5
                      have E6 : ∀ o2, (wr.alloc o2).cell? ⟨gc, oc + k * 7 + 6, none⟩ = some (.int .i64 y6) := fun _ => Lib.cell?_alloc_some _ e6
                      clear hr hx hxi hy hrc hxr htk e0 e1 e2 e3 e4 e5 e6
                      by_cases hyu : y1 = (u : Int)
                      · have b1 : (y1 == (u : Int)) = true := by rw [beq_iff_eq]; exact hyu
                        have hyt : y1.toNat = u := by omega
                        have HYT := Lib.hid hyt
                        obtain ⟨W7, hW7⟩ : ∃ W7, W7 = (wr.alloc (.cells #[.int .i64 (k : Int), .int .i64 x1] 38)).alloc (.cells #[.int .i64 y0, .int .i64 y1, .int .i64 y2, .int .i64 y3, .int .i64 y4, .int .i64 y5, .int .i64 y6] 51) := ⟨_, rfl⟩
                        have hsz7 : W7.heap.size = wr.heap.size + 1 + 1 := by rw [hW7, World.size_alloc, World.size_alloc]
                        have hb7 : Below W6.heap.size W6 W7 := by rw [hW7]; exact (HO.out.2.alloc HO.out.2.size _).alloc (by have := HO.out.2.size; simp; omega) _
                        have ho7 : DOwn W7 W6.heap.size (.slice A N cap) (ownD cs u (ws.take m)) := by rw [hW7]; exact (HO.out.1.alloc _).alloc _
                        have hlit : DRd (W7.alloc (.cells #[.int .i64 y2, .int .i64 y3, .int .i64 x1] 81)) (W7.heap.size + 1) (.slice (some ⟨W7.heap.size, 0, none⟩) 1 1) [⟨y2, y3, x1⟩] := LRd.of_lit (f := ddCs) (s := 3) (w := W7) (l := [⟨y2, y3, x1⟩]) (fun _ => rfl) 81 (cs := #[.int .i64 y2, .int .i64 y3, .int .i64 x1]) rfl (n := 1) rfl (by unfold maxLen; omega)
                        have hl9 := ownD_len cs u (ws.take m)
                        have hl8 : (ws.take m).length ≤ m := List.length_take_le _ _
                        obtain ⟨v8, w8, hrun, ho8, hb8⟩ := run_app_dds 82 (ho7.alloc (.cells #[.int .i64 y2, .int .i64 y3, .int .i64 x1] 81)) hlit (by simp; omega) (by have := hb7.size; simp; omega) (by simp)
                        have hbx : Below W6.heap.size W6 w8 := (hb7.alloc hb7.size _).trans hb8
                        rw [hsz7, hW7] at hrun
                        have HRUN := Lib.hid hrun
                        obtain ⟨A8, c8, e8, -, -⟩ := ho8.rd.is
                        obtain ⟨n8, hn8⟩ : ∃ n8, n8 = (ownD cs u (ws.take m) ++ [(⟨y2, y3, x1⟩ : Dd)]).length := ⟨_, rfl⟩
                        rw [← hn8] at e8
                        subst e8
                        have HO8 := Lib.hid (And.intro ho8 hbx)
                        clear hn8 hW7 hsz7 hb7 ho7 hlit hl9 hl8 hrun ho8 hb8 hbx hyu hyt
                        go_wp2_with (at_builtin; refine Lib.wpList_append_run _ rfl (.tmp 154) (.tmp 162) _ _ rfl _ _ rfl rfl _ w8 HRUN.out ?_)
                        go_roundw
                        case rel =>
                          refine ⟨m + 1, A8, _, c8, by omega, rfl, by go_num, ?_, HO8.out.2⟩
                          rw [HTK.out, if_pos HYT.out]
                          exact HO8.out.1
                        case measure => simp [intOf]; omega
                      · have b1 : (y1 == (u : Int)) = false := by rw [beq_eq_false_iff_ne]; exact hyu
                        have hyt : ¬ y1.toNat = u := by omega
                        have HYT := Lib.hid hyt
                        clear hyu hyt
                        go_wp2_with fail
                        go_roundw
                        case rel =>
                          refine ⟨m + 1, A, N, cap, by omega, rfl, by go_num, ?_, (HO.out.2.alloc HO.out.2.size _).alloc (by have := HO.out.2.size; simp; omega) _⟩
                          rw [HTK.out, if_neg HYT.out]
                          exact (HO.out.1.alloc _).alloc _
                        case measure => simp [intOf]; omega
                    · obtain rfl : q = m := by omega
                      have hrd : DRd wr wr.heap.size (.slice A N cap) (ownD cs u (ws.take q)) := HO.out.1.rd
                      have hNl : (ownD cs u (ws.take q)).length = N := by
                        obtain ⟨A9, c9, e9, -, -⟩ := hrd.is
                        injection e9 with _ h9 _
                        exact h9.symm
                      rw [HMM.out, List.take_length] at hrd hNl
                      have hge := getD_lt hu'
                      have hrt := HT.out.1.below HRM.out.below
                      obtain ⟨gt, ot, rfl, -, d0⟩ := hrt.num hge
                      have hty := HX.out.2.1 _ (List.mem_of_getElem? hge)
                      generalize hty9 : ts.getD u 0 = ty at d0 hty
                      have HPD := Lib.hid (played_any (typ := ty) (btw_iff.2 hty) hrd)
                      have HTY := Lib.hid hty9
                      have HNL := Lib.hid hNl
                      clear hrd hge hrt hty hty9 hNl
                      by_cases hgo : playN ty (ownD cs u ws) = N
                      · have HGO := Lib.hid hgo
                        rw [hgo] at HPD
                        clear hgo
                        go_wp2_with fail
                        refine HPD.out.mono ?_
                        rintro e w9 ⟨rfl, hb9⟩
                        have HR9 := Lib.hid (HRM.out.next hb9)
                        clear hb9 HPD d0
                        go_wp2_with fail
                        go_roundw
                        case rel => exact ⟨u + 1, by omega, by go_num, fun k hk => by
                          by_cases e : k = u
                          · subst e; rw [HTY.out, HGO.out, HNL.out]
                          · exact HPL.out k (by omega), HR9.out⟩
                        case measure => simp [intOf]; omega
                      · have hz : ((playN ty (ownD cs u ws) : Int) != (N : Int)) = true := by rw [bne_iff_ne]; omega
                        have HGO := Lib.hid hgo
                        generalize hpn : playN ty (ownD cs u ws) = pn at HPD hz HGO
                        have HPN := Lib.hid hpn
                        clear hgo hpn
                        go_wp2_with fail
                        refine HPD.out.mono ?_
                        rintro e w9 ⟨rfl, hb9⟩
                        have HR9 := Lib.hid (HRM.out.next hb9)
                        clear hb9 HPD d0
                        go_wp2_with fail
                        go_ret
                        exact ⟨false, rfl, ⟨fun h => (by cases h), fun h => absurd h (not_rite4 (p := fun i j => (r i).testBit j) hu' (by rw [HTY.out, HPN.out, HNL.out]; exact HGO.out))⟩, HR9.out.below⟩
                · obtain rfl : tl = u := by omega
                  go_wp2_with fail
                  go_ret
                  refine ⟨true, rfl, ⟨fun _ => ?_, fun _ => rfl⟩, HRU.out.below⟩
                  refine rite_mk HPR.out HAT.out HX.out.1 (fun k hk => ?_) (fun k hk => HPL.out k (by rw [HTL.out]; exact hk))
                  obtain ⟨h1, h2⟩ := HPH.out k (by rw [HNN.out]; exact hk)
                  exact ⟨h1, fun j hj hb hf => h2 j (by rw [HNN.out]; exact hj) (by rw [HNN.out]; exact hj) hb hf⟩
end Go.Proofs.YtfgangkpebkicaaDoor
