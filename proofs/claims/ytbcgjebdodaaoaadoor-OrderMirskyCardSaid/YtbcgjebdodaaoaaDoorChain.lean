/-
  Contract of order.Chain.
-/
import Derived.Test.YtbcgjebdodaaoaaDoorRanks
namespace Go.Proofs.YtbcgjebdodaaoaaDoor
open Go.RowKit

/-- The first i from m on, below n, that s has, and of which f is k; n where there is none. -/
def pick (s : Nat) (f : Nat → Nat) (k n : Nat) : Nat → Nat
  | 0 => n
  | t + 1 => if s.testBit (n - (t + 1)) = true ∧ f (n - (t + 1)) = k then n - (t + 1) else pick s f k n t
theorem pick_yes {s : Nat} {f : Nat → Nat} {k n m : Nat} (hm : m < n) (h : s.testBit m = true ∧ f m = k) : pick s f k n (n - m) = m := by
  rw [show n - m = (n - m - 1) + 1 by omega, pick, show n - (n - m - 1 + 1) = m by omega, if_pos h]
theorem pick_no {s : Nat} {f : Nat → Nat} {k n m : Nat} (hm : m < n) (h : ¬ (s.testBit m = true ∧ f m = k)) : pick s f k n (n - m) = pick s f k n (n - (m + 1)) := by
  rw [show n - m = (n - (m + 1)) + 1 by omega, pick, show n - (n - (m + 1) + 1) = m by omega, if_neg h]
/-- The chain: k items still to come, out of the set s. -/
def chL (c f : Nat → Nat) (n : Nat) : Nat → Nat → List Int
  | 0, _ => []
  | k + 1, s => if pick s f (k + 1) n n < n then (pick s f (k + 1) n n : Int) :: chL c f n k (c (pick s f (k + 1) n n)) else chL c f n k s
theorem idx_len (f : Nat → Nat) (k : Nat) (hk : k < 12) (w : World) :
    (Instr.index 60 (.agg (lenCs f)) (.int .i64 k)).run Tryd.prog w = .ok (.int .i64 (f k : Nat)) w := by
  rcases nat12 hk with rfl | rfl | rfl | rfl | rfl | rfl | rfl | rfl | rfl | rfl | rfl | rfl <;> kernel_rfl
theorem rnd_out {c : Nat → Nat} {n : Nat} : ∀ r j, n ≤ j → rnd c n r j = 0
  | 0, _, _ => rfl
  | r + 1, j, hj => by
    have hi : ∀ (k : Nat) (F : Nat → Nat), k ≠ j → ∀ m, inn c k F m j = F j := fun k F hk m => by
      induction m with
      | zero => show updF F k 1 j = F j; unfold updF; rw [if_neg (fun e => hk e.symm)]
      | succ m ih =>
        rw [inn]
        split
        · unfold updF; rw [if_neg (fun e => hk e.symm)]; exact ih
        · exact ih
    have hm : ∀ (F : Nat → Nat) k, k ≤ n → mid c n F k j = F j := fun F k => by
      induction k with
      | zero => intro _; rfl
      | succ k ih => intro hk; rw [mid, hi k _ (by omega) n]; exact ih (by omega)
    rw [rnd, hm _ n (Nat.le_refl _)]
    exact rnd_out r j hj
theorem maxUp_out {f : Nat → Nat} {n : Nat} (h : ∀ j, n ≤ j → f j = 0) : ∀ m, maxUp f (n + m) = maxUp f n
  | 0 => rfl
  | m + 1 => by rw [show n + (m + 1) = (n + m) + 1 by omega, maxUp, maxUp_out h m, h _ (by omega)]; omega

structure HRel (w : World) (L C G n : Nat) (a c f : Nat → Nat) (v : Value) (xs : List Int) (wr : World) : Prop where
  below : Below w.heap.size w wr
  arg : RelB wr w.heap.size n a
  clo : RelB wr C n c
  len : LenB wr L f
  own : IOwn wr G v xs
  fw : w.heap.size < G
  fc : C < G
  fl : L < G
  sz : G ≤ wr.heap.size
theorem HRel.app {w wr w' : World} {L C G n : Nat} {a c f : Nat → Nat} {v v' : Value} {xs ys : List Int} (h : HRel w L C G n a c f v xs wr) (hb : Below G wr w') (ho : IOwn w' G v' ys) : HRel w L C G n a c f v' ys w' := by
  have h1 := h.fw; have h2 := h.fc; have h3 := h.fl; have h4 := h.sz
  exact ⟨h.below.trans (hb.mono (by omega)), Lies.below h.arg hb h1, Lies.below h.clo hb h2, Lies.below h.len hb h3, ho, h1, h2, h3, Nat.le_trans h4 hb.size⟩

set_option maxHeartbeats 1000000 in
theorem chain_no (n : Nat) (a : Nat → Nat) (w : World) (h : Good n a) (hy : cyc (clo n a) n = false) :
    Calls Tryd.prog 21 #[relV n a] w fun e w' => ∃ v, e = .returned (.tuple #[v, .int .i64 0]) ∧ IOwn w' w.heap.size v (chL (clo n a) (rnd (clo n a) n n) n (maxUp (len (clo n a) n) n) (2 ^ n - 1)) ∧ Below w.heap.size w w' := by
  have hcl := clo_lt h
  have hle := h.le
  have hs := strict_clo h hy
  have HS := Lib.hid hs
  clear hs
  go_enter Tryd.func21, Tryd.ntmps21
  go_wp2_with fail
  refine (acyclic_no n a _ h hy).mono ?_
  rintro e w1 ⟨rfl, hb1⟩
  have hz1 : w.heap.size + 1 ≤ w1.heap.size := by have := hb1.size; simpa using this
  have hA1 : RelB w1 w.heap.size n a := Lies.below (Lies.new w _ _) hb1 (by rw [World.size_alloc]; omega)
  have hw1 : Below w.heap.size w w1 := ((Below.refl _ _).alloc (Nat.le_refl _) _).trans (hb1.mono (by simp))
  have HH := Lib.hid (And.intro hA1 (And.intro hw1 hz1))
  clear hb1 hA1 hw1 hz1
  go_wp2_with fail
  obtain ⟨hA1, hw1, hz1⟩ := HH.out
  refine (longest_any n (clo n a) _ hle hcl HS.out.irr).mono ?_
  rintro e w3 ⟨rfl, hb3⟩
  have hA3 : RelB w3 w.heap.size n a := Lies.below (Lies.alloc hA1 _) hb3 (by simp; omega)
  have hC3 : RelB w3 w1.heap.size n (clo n a) := Lies.below (Lies.new w1 _ _) hb3 (by simp)
  have hw3 : Below w.heap.size w w3 := (hw1.alloc (by omega) _).trans (hb3.mono (by simp; omega))
  have hsz := hA3.size
  have hlt := hA3.lt
  have HH3 := Lib.hid (And.intro hA3 (And.intro hC3 (And.intro hw3 hz1)))
  clear hb3 HH hA3 hw3 hA1 hw1 hz1 hC3
  go_wp2_with fail
  change Code.wp _ _ _ _ (w3.alloc (.cells (lenCs (rnd (clo n a) n n)) 60))
  have hbd := fun i => rnd_bound (c := clo n a) (n := n) n i
  have hbB : ∀ i, rnd (clo n a) n n i ≤ 2000 := fun i => by
    have h1 := hbd i
    have h2 : n * (n * (n + 1)) ≤ 12 * (12 * 13) := Nat.mul_le_mul hle (Nat.mul_le_mul hle (by omega))
    omega
  have hmx : maxUp (rnd (clo n a) n n) 12 = maxUp (len (clo n a) n) n := by
    have h1 := maxUp_out (f := rnd (clo n a) n n) (n := n) (fun j hj => rnd_out n j hj) (12 - n)
    rw [show n + (12 - n) = 12 by omega] at h1
    rw [h1]
    exact maxUp_congr fun j hj => rnd_len HS.out hj
  have hR : maxUp (len (clo n a) n) n ≤ 12 := maxUp_le fun j hj => Nat.le_trans (len_le HS.out hj) hle
  have h4 : LenB (w3.alloc (.cells (lenCs (rnd (clo n a) n n)) 60)) w3.heap.size (rnd (clo n a) n n) := Lies.new _ _ _
  have hb4 := (Below.refl w3.heap.size w3).alloc (Nat.le_refl _) (.cells (lenCs (rnd (clo n a) n n)) 60)
  have HM := Lib.hid (And.intro hmx hR)
  have HB := Lib.hid hbB
  have H4 := Lib.hid (And.intro h4 hb4)
  clear hmx hR hbd hbB h4 hb4 hsz hlt
  generalize hRR : maxUp (len (clo n a) n) n = R at HM ⊢
  generalize hf : rnd (clo n a) n n = f at HM HB H4 ⊢
  generalize hcc : clo n a = c at hcl HS HH3 hRR hf ⊢
  have HE := Lib.hid (And.intro hRR (And.intro hf hcc))
  clear hcc hf hRR h hy
  generalize w3.alloc (.cells (lenCs f) 60) = W at H4 ⊢
  go_loop [7, 24] (fun v i => ∃ k : Nat, k ≤ 12 ∧ i = .int .i64 k ∧ v = .int .i64 (maxUp f k : Nat)) (fun _ i => 12 - (intOf i).toNat)
  case atStart => exact ⟨0, by omega, rfl, rfl⟩
  case round =>
    obtain ⟨k, hk, rfl, rfl⟩ := hrel
    by_cases hk12 : k < 12
    · have hix := idx_len f k hk12 W
      have hb1 : maxUp f k ≤ 2000 := maxUp_le fun j _ => HB.out j
      have hb2 := HB.out k
      go_wp2_with fail
      go_round
      case rel => exact ⟨k + 1, by omega, by go_num, congrArg (Value.int .i64) (by rw [maxUp, Nat.max_def]; split <;> split <;> omega)⟩
      case measure => simp [intOf]; omega
    · have hk' : k = 12 := by omega
      subst hk'
      rw [HM.out.1]
      obtain ⟨hA3, hC3, hw3, hz1⟩ := HH3.out
      have hR := HM.out.2
      have hmk := fun W : World => made_cap R (by omega) W
      have hA4 : RelB W w.heap.size n a := Lies.below hA3 H4.out.2 hA3.lt
      have hC4 : RelB W w1.heap.size n c := Lies.below hC3 H4.out.2 hC3.lt
      have hL4 := H4.out.1
      have hw4 : Below w.heap.size w W := hw3.trans (H4.out.2.mono hw3.size)
      have hsz := hA4.size
      have hlt := hA4.lt
      have hAC : HRel w w3.heap.size w1.heap.size W.heap.size n a c f (.slice (some ⟨W.heap.size, 0, none⟩) 0 R) [] (W.alloc (.cells (tabCs R fun _ => 0) 3)) := by
        have hG := IOwn.made W R (by omega)
        exact ⟨hw4.alloc (by omega) _, Lies.alloc hA4 _, Lies.alloc hC4 _, Lies.alloc hL4 _, hG, hlt, hC4.lt, Lies.lt hL4, by simp⟩
      have H := Lib.hid hAC
      clear hA3 hC3 hw3 hz1 hA4 hC4 hL4 hw4 hAC HH3
      go_wp2_with fail
      clear hmk hsz hlt
      generalize W.alloc (.cells (tabCs R fun _ => 0) 3) = W2 at H ⊢
      generalize W.heap.size = G at H ⊢
      refine (first_any n _ (by omega)).mono ?_
      rintro e w' ⟨rfl, rfl⟩
      go_wp2_with fail
      have hfull : 2 ^ n - 1 < 65536 := ones_lt hle
      have hRR := HM.out.2
      clear HM H4
      go_loopw [7, 10, 11] (fun r v s wr => ∃ (k : Nat) (acc : List Int) (cand : Nat), r = .int .i64 k ∧ s = .int .u16 cand ∧ cand < 65536 ∧ acc.length + k ≤ 12 ∧ acc ++ chL c f n k cand = chL c f n R (2 ^ n - 1) ∧ HRel w w3.heap.size w1.heap.size G n a c f v acc wr) (fun r _ _ _ => (intOf r).toNat)
      case atStart => exact ⟨R, [], 2 ^ n - 1, rfl, rfl, hfull, by simpa using hRR, rfl, H.out⟩
      case round =>
        clear H hfull
        obtain ⟨k, acc, cand, rfl, rfl, hcand, hlen, hacc, hR⟩ := hrel
        cases k with
        | zero =>
          have HA := Lib.hid hacc
          have H := Lib.hid hR
          clear hacc hR
          go_wp2_with fail
          go_ret2
          refine ⟨_, rfl, ?_, H.out.below⟩
          obtain ⟨e1, e2, e3⟩ := HE.out
          rw [e3, e2, e1, ← HA.out]
          simpa [chL] using H.out.own.mono (by have := H.out.fw; omega)
        | succ k =>
          have hs := hR.arg.size
          generalize hK : ((k + 1 : Nat) : Int) = K
          have hk0 : (0 : Int) < K := by omega
          have hk12 : K ≤ 12 := by omega
          have HK := Lib.hid hK
          clear hK
          have HA := Lib.hid hacc
          have H := Lib.hid hR
          clear hacc hR
          go_wp2_with fail
          clear hs
          obtain ⟨wo, rfl⟩ : ∃ wo : World, wo = wr := ⟨_, rfl⟩
          go_loopw [10, 11, 42] (fun v s i wz => ∃ m : Nat, m ≤ n ∧ i = .int .i64 m ∧ s = .int .u16 cand ∧ pick cand f (k + 1) n (n - m) = pick cand f (k + 1) n n ∧ HRel w w3.heap.size w1.heap.size G n a c f v acc wz) (fun _ _ i _ => n - (intOf i).toNat)
          case atStart => exact ⟨0, by omega, rfl, rfl, rfl, H.out⟩
          case round =>
            clear H
            obtain ⟨m, hm, rfl, rfl, hp, hR⟩ := hrel
            have H := Lib.hid hR
            clear hR
            by_cases hmn : m < n
            · have hm12 : m < 12 := by omega
              have h15 : m ≤ 15 := by omega
              have hmk := (H.out).len.at_ hm12
              cases hb : cand.testBit m
              · rw [pick_no hmn (fun h => by rw [hb] at h; exact absurd h.1 (by decide))] at hp
                have HP := Lib.hid hp
                have Hb := Lib.hid hb
                clear hp hb hmk
                go_wp2_with (go_at_call 31; refine (has_no cand m _ hcand h15 Hb.out).mono ?_; rintro e w' ⟨rfl, rfl⟩)
                go_roundw
                case rel => exact ⟨m + 1, by omega, by go_num, rfl, HP.out, H.out⟩
                case measure => simp [intOf]; omega
              · by_cases hf : f m = k + 1
                · rw [pick_yes hmn ⟨hb, hf⟩] at hp
                  have hz : ((f m : Int) == K) = true := (by rw [hf, beq_iff_eq]; exact HK.out)
                  have hown := H.out.own
                  have hsz := H.out.sz
                  have hal : acc.length ≤ 65536 := by omega
                  have HP := Lib.hid hp
                  have Hb := Lib.hid hb
                  have HO := Lib.hid hown
                  clear hp hb hf hown
                  go_wp2_with fail
                  refine (has_yes cand m _ hcand h15 Hb.out).mono ?_
                  rintro e w' ⟨rfl, rfl⟩
                  go_wp2_with (at_builtin; refine app_one rfl (.tmp 55) (.tmp 57) rfl G _ acc rfl HO.out (m : Int) rfl hal hsz ?_; intro v' w5 ho5 hb5; have ck := ((H.out).app hb5 ho5).clo.row' (k := m) hm12)
                  go_roundw
                  case rel => exact ⟨k, acc ++ [(m : Int)], c m, by rw [show K - 1 = (k : Int) from (by have := HK.out; omega)], rfl, hcl m hm12, by simp; omega, by
                    have hA := HA.out
                    rw [chL, if_pos (by rw [← HP.out]; exact hmn), ← HP.out] at hA
                    rw [← hA]
                    simp, (H.out).app hb5 ho5⟩
                  case measure => simp [intOf]; omega
                · rw [pick_no hmn (fun h => hf h.2)] at hp
                  have hz : ((f m : Int) == K) = false := (by rw [beq_eq_false_iff_ne]; have := HK.out; omega)
                  have HP := Lib.hid hp
                  have Hb := Lib.hid hb
                  clear hp hb
                  go_wp2_with (go_at_call 31; refine (has_yes cand m _ hcand h15 Hb.out).mono ?_; rintro e w' ⟨rfl, rfl⟩)
                  go_roundw
                  case rel => exact ⟨m + 1, by omega, by go_num, rfl, HP.out, H.out⟩
                  case measure => simp [intOf]; omega
            · have hmn' : m = n := by omega
              subst hmn'
              rw [Nat.sub_self] at hp
              have hst : chL c f m (k + 1) cand = chL c f m k cand := by
                rw [chL, if_neg (by rw [← hp]; simp [pick])]
              have HST := Lib.hid hst
              clear hp hst
              go_wp2_with fail
              go_roundw
              case rel => exact ⟨k, acc, cand, by rw [show K - 1 = (k : Int) from (by have := HK.out; omega)], rfl, hcand, by omega, by rw [← HST.out]; exact HA.out, H.out⟩
              case measure => simp [intOf]; omega
end Go.Proofs.YtbcgjebdodaaoaaDoor
