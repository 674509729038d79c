/-
  Joined by a program out of: Chain, LongPure, ListPure.
-/
import Derived.Test.YtkfijolimoehmaaDoorMgAR
import Derived.Test.YtkfijolimoehmaaDoorMgAL
import Derived.Test.YtkfijolimoehmaaDoorMgAO

/-
  Contract of order.Chain.
-/
namespace Go.Proofs.YtkfijolimoehmaaDoor
open Go.RowKit
set_option maxRecDepth 20000

/-- The first i from m on, below n, that s has, and of which f is k; n where there is none. -/
def pick (s : Nat) (f : Nat → Nat) (k n : Nat) : Nat → Nat
  | 0 => n
  | t + 1 => if s.testBit (n - (t + 1)) = true ∧ f (n - (t + 1)) = k then n - (t + 1) else pick s f k n t
theorem pick_yes {s : Nat} {f : Nat → Nat} {k n m : Nat} (hm : m < n) (h : s.testBit m = true ∧ f m = k) : pick s f k n (n - m) = m := by
  rw [show n - m = (n - m - 1) + 1 by omega, pick, show n - (n - m - 1 + 1) = m by omega, if_pos h]
theorem pick_no {s : Nat} {f : Nat → Nat} {k n m : Nat} (hm : m < n) (h : ¬ (s.testBit m = true ∧ f m = k)) : pick s f k n (n - m) = pick s f k n (n - (m + 1)) := by
  rw [show n - m = (n - (m + 1)) + 1 by omega, pick, show n - (n - (m + 1) + 1) = m by omega, if_neg h]
/-- The chain: k items still to come, out of the set s. -/
def chL (c f : Nat → Nat) (n : Nat) : Nat → Nat → List Int
  | 0, _ => []
  | k + 1, s => if pick s f (k + 1) n n < n then (pick s f (k + 1) n n : Int) :: chL c f n k (c (pick s f (k + 1) n n)) else chL c f n k s
theorem idx_len (f : Nat → Nat) (k : Nat) (hk : k < 12) (w : World) :
    (Instr.index 55 (.agg (lenCs f)) (.int .i64 k)).run Tryd.prog w = .ok (.int .i64 (f k : Nat)) w := by
  rcases nat12 hk with rfl | rfl | rfl | rfl | rfl | rfl | rfl | rfl | rfl | rfl | rfl | rfl <;> kernel_rfl
theorem rnd_out {c : Nat → Nat} {n : Nat} : ∀ r j, n ≤ j → rnd c n r j = 0
  | 0, _, _ => rfl
  | r + 1, j, hj => by
    have hi : ∀ (k : Nat) (F : Nat → Nat), k ≠ j → ∀ m, inn c k F m j = F j := fun k F hk m => by
      induction m with
      | zero => show updF F k 1 j = F j; unfold updF; rw [if_neg (fun e => hk e.symm)]
      | succ m ih =>
        rw [inn]
        split
        · unfold updF; rw [if_neg (fun e => hk e.symm)]; exact ih
        · exact ih
    have hm : ∀ (F : Nat → Nat) k, k ≤ n → mid c n F k j = F j := fun F k => by
      induction k with
      | zero => intro _; rfl
      | succ k ih => intro hk; rw [mid, hi k _ (by omega) n]; exact ih (by omega)
    rw [rnd, hm _ n (Nat.le_refl _)]
    exact rnd_out r j hj
theorem maxUp_out {f : Nat → Nat} {n : Nat} (h : ∀ j, n ≤ j → f j = 0) : ∀ m, maxUp f (n + m) = maxUp f n
  | 0 => rfl
  | m + 1 => by rw [show n + (m + 1) = (n + m) + 1 by omega, maxUp, maxUp_out h m, h _ (by omega)]; omega

structure HRel (w : World) (L C G n : Nat) (a c f : Nat → Nat) (v : Value) (xs : List Int) (wr : World) : Prop where
  below : Below w.heap.size w wr
  arg : RelB wr w.heap.size n a
  clo : RelB wr C n c
  len : LenB wr L f
  own : IOwn wr G v xs
  fw : w.heap.size < G
  fc : C < G
  fl : L < G
  sz : G ≤ wr.heap.size
theorem HRel.app {w wr w' : World} {L C G n : Nat} {a c f : Nat → Nat} {v v' : Value} {xs ys : List Int} (h : HRel w L C G n a c f v xs wr) (hb : Below G wr w') (ho : IOwn w' G v' ys) : HRel w L C G n a c f v' ys w' := by
  have h1 := h.fw; have h2 := h.fc; have h3 := h.fl; have h4 := h.sz
  exact ⟨h.below.trans (hb.mono (by omega)), Lies.below h.arg hb h1, Lies.below h.clo hb h2, Lies.below h.len hb h3, ho, h1, h2, h3, Nat.le_trans h4 hb.size⟩

set_option maxHeartbeats 1000000 in
theorem chain_no (n : Nat) (a : Nat → Nat) (w : World) (h : Good n a) (hy : cyc (clo n a) n = false) :
    Calls Tryd.prog 14 #[relV n a] w fun e w' => ∃ v, e = .returned (.tuple #[v, .int .i64 0]) ∧ IOwn w' w.heap.size v (chL (clo n a) (rnd (clo n a) n n) n (maxUp (len (clo n a) n) n) (2 ^ n - 1)) ∧ Below w.heap.size w w' := by
  have hcl := clo_lt h
  have hle := h.le
  have hs := strict_clo h hy
  have HS := Lib.hid hs
  clear hs
  go_enter Tryd.func14, Tryd.ntmps14
  go_wp2_with fail
  refine (acyclic_no n a _ h hy).mono ?_
  rintro e w1 ⟨rfl, hb1⟩
  have hz1 : w.heap.size + 1 ≤ w1.heap.size := by have := hb1.size; simpa using this
  have hA1 : RelB w1 w.heap.size n a := Lies.below (Lies.new w _ _) hb1 (by rw [World.size_alloc]; omega)
  have hw1 : Below w.heap.size w w1 := ((Below.refl _ _).alloc (Nat.le_refl _) _).trans (hb1.mono (by simp))
  have HH := Lib.hid (And.intro hA1 (And.intro hw1 hz1))
  clear hb1 hA1 hw1 hz1
  go_wp2_with fail
  obtain ⟨hA1, hw1, hz1⟩ := HH.out
  refine (longest_any n (clo n a) _ hle hcl HS.out.irr).mono ?_
  rintro e w3 ⟨rfl, hb3⟩
  have hA3 : RelB w3 w.heap.size n a := Lies.below (Lies.alloc hA1 _) hb3 (by simp; omega)
  have hC3 : RelB w3 w1.heap.size n (clo n a) := Lies.below (Lies.new w1 _ _) hb3 (by simp)
  have hw3 : Below w.heap.size w w3 := (hw1.alloc (by omega) _).trans (hb3.mono (by simp; omega))
  have hsz := hA3.size
  have hlt := hA3.lt
  have HH3 := Lib.hid (And.intro hA3 (And.intro hC3 (And.intro hw3 hz1)))
  clear hb3 HH hA3 hw3 hA1 hw1 hz1 hC3
  go_wp2_with fail
  change Code.wp _ _ _ _ (w3.alloc (.cells (lenCs (rnd (clo n a) n n)) 55))
  have hbd := fun i => rnd_bound (c := clo n a) (n := n) n i
  have hbB : ∀ i, rnd (clo n a) n n i ≤ 2000 := fun i => by
    have h1 := hbd i
    have h2 : n * (n * (n + 1)) ≤ 12 * (12 * 13) := Nat.mul_le_mul hle (Nat.mul_le_mul hle (by omega))
    omega
  have hmx : maxUp (rnd (clo n a) n n) 12 = maxUp (len (clo n a) n) n := by
    have h1 := maxUp_out (f := rnd (clo n a) n n) (n := n) (fun j hj => rnd_out n j hj) (12 - n)
    rw [show n + (12 - n) = 12 by omega] at h1
    rw [h1]
    exact maxUp_congr fun j hj => rnd_len HS.out hj
  have hR : maxUp (len (clo n a) n) n ≤ 12 := maxUp_le fun j hj => Nat.le_trans (len_le HS.out hj) hle
  have h4 : LenB (w3.alloc (.cells (lenCs (rnd (clo n a) n n)) 55)) w3.heap.size (rnd (clo n a) n n) := Lies.new _ _ _
  have hb4 := (Below.refl w3.heap.size w3).alloc (Nat.le_refl _) (.cells (lenCs (rnd (clo n a) n n)) 55)
  have HM := Lib.hid (And.intro hmx hR)
  have HB := Lib.hid hbB
  have H4 := Lib.hid (And.intro h4 hb4)
  clear hmx hR hbd hbB h4 hb4 hsz hlt
  generalize hRR : maxUp (len (clo n a) n) n = R at HM ⊢
  generalize hf : rnd (clo n a) n n = f at HM HB H4 ⊢
  generalize hcc : clo n a = c at hcl HS HH3 hRR hf ⊢
  have HE := Lib.hid (And.intro hRR (And.intro hf hcc))
  clear hcc hf hRR h hy
  generalize w3.alloc (.cells (lenCs f) 55) = W at H4 ⊢
  go_loop [7, 24] (fun v i => ∃ k : Nat, k ≤ 12 ∧ i = .int .i64 k ∧ v = .int .i64 (maxUp f k : Nat)) (fun _ i => 12 - (intOf i).toNat)
  case atStart => exact ⟨0, by omega, rfl, rfl⟩
  case round =>
    obtain ⟨k, hk, rfl, rfl⟩ := hrel
    by_cases hk12 : k < 12
    · have hix := idx_len f k hk12 W
      have hb1 : maxUp f k ≤ 2000 := maxUp_le fun j _ => HB.out j
      have hb2 := HB.out k
      go_wp2_with fail
      go_round
      case rel => exact ⟨k + 1, by omega, by go_num, congrArg (Value.int .i64) (by rw [maxUp]; first | omega | (rw [Nat.max_def]; split <;> split <;> omega))⟩
      case measure => simp [intOf]; omega
    · have hk' : k = 12 := by omega
      subst hk'
      rw [HM.out.1]
      obtain ⟨hA3, hC3, hw3, hz1⟩ := HH3.out
      have hR := HM.out.2
      have hmk := fun W : World => made_cap R (by omega) W
      have hA4 : RelB W w.heap.size n a := Lies.below hA3 H4.out.2 hA3.lt
      have hC4 : RelB W w1.heap.size n c := Lies.below hC3 H4.out.2 hC3.lt
      have hL4 := H4.out.1
      have hw4 : Below w.heap.size w W := hw3.trans (H4.out.2.mono hw3.size)
      have hsz := hA4.size
      have hlt := hA4.lt
      have hAC : HRel w w3.heap.size w1.heap.size W.heap.size n a c f (.slice (some ⟨W.heap.size, 0, none⟩) 0 R) [] (W.alloc (.cells (tabCs R fun _ => 0) 3)) := by
        have hG := IOwn.made W R (by omega)
        exact ⟨hw4.alloc (by omega) _, Lies.alloc hA4 _, Lies.alloc hC4 _, Lies.alloc hL4 _, hG, hlt, hC4.lt, Lies.lt hL4, by simp⟩
      have H := Lib.hid hAC
      clear hA3 hC3 hw3 hz1 hA4 hC4 hL4 hw4 hAC HH3
      go_wp2_with fail
      clear hmk hsz hlt
      generalize W.alloc (.cells (tabCs R fun _ => 0) 3) = W2 at H ⊢
      generalize W.heap.size = G at H ⊢
      refine (first_any n _ (by omega)).mono ?_
      rintro e w' ⟨rfl, rfl⟩
      go_wp2_with fail
      have hfull : 2 ^ n - 1 < 65536 := ones_lt hle
      have hRR := HM.out.2
      clear HM H4
      go_loopw [7, 10, 11] (fun r v s wr => ∃ (k : Nat) (acc : List Int) (cand : Nat), r = .int .i64 k ∧ s = .int .u16 cand ∧ cand < 65536 ∧ acc.length + k ≤ 12 ∧ acc ++ chL c f n k cand = chL c f n R (2 ^ n - 1) ∧ HRel w w3.heap.size w1.heap.size G n a c f v acc wr) (fun r _ _ _ => (intOf r).toNat)
      case atStart => exact ⟨R, [], 2 ^ n - 1, rfl, rfl, hfull, by simpa using hRR, rfl, H.out⟩
      case round =>
        clear H hfull
        obtain ⟨k, acc, cand, rfl, rfl, hcand, hlen, hacc, hR⟩ := hrel
        cases k with
        | zero =>
          have HA := Lib.hid hacc
          have H := Lib.hid hR
          clear hacc hR
          go_wp2_with fail
          go_ret2
          refine ⟨_, rfl, ?_, H.out.below⟩
          obtain ⟨e1, e2, e3⟩ := HE.out
          rw [e3, e2, e1, ← HA.out]
          simpa [chL] using H.out.own.mono (by have := H.out.fw; omega)
        | succ k =>
          have hs := hR.arg.size
          generalize hK : ((k + 1 : Nat) : Int) = K
          have hk0 : (0 : Int) < K := by omega
          have hk12 : K ≤ 12 := by omega
          have HK := Lib.hid hK
          clear hK
          have HA := Lib.hid hacc
          have H := Lib.hid hR
          clear hacc hR
          go_wp2_with fail
          clear hs
          obtain ⟨wo, rfl⟩ : ∃ wo : World, wo = wr := ⟨_, rfl⟩
          go_loopw [10, 11, 42] (fun v s i wz => ∃ m : Nat, m ≤ n ∧ i = .int .i64 m ∧ s = .int .u16 cand ∧ pick cand f (k + 1) n (n - m) = pick cand f (k + 1) n n ∧ HRel w w3.heap.size w1.heap.size G n a c f v acc wz) (fun _ _ i _ => n - (intOf i).toNat)
          case atStart => exact ⟨0, by omega, rfl, rfl, rfl, H.out⟩
          case round =>
            clear H
            obtain ⟨m, hm, rfl, rfl, hp, hR⟩ := hrel
            have H := Lib.hid hR
            clear hR
            by_cases hmn : m < n
            · have hm12 : m < 12 := by omega
              have h15 : m ≤ 15 := by omega
              have hmk := (H.out).len.at_ hm12
              cases hb : cand.testBit m
              · rw [pick_no hmn (fun h => by rw [hb] at h; exact absurd h.1 (by decide))] at hp
                have HP := Lib.hid hp
                have Hb := Lib.hid hb
                clear hp hb hmk
                go_wp2_with (go_at_call 22; refine (has_no cand m _ hcand h15 Hb.out).mono ?_; rintro e w' ⟨rfl, rfl⟩)
                go_roundw
                case rel => exact ⟨m + 1, by omega, by go_num, rfl, HP.out, H.out⟩
                case measure => simp [intOf]; omega
              · by_cases hf : f m = k + 1
                · rw [pick_yes hmn ⟨hb, hf⟩] at hp
                  have hz : ((f m : Int) == K) = true := (by rw [hf, beq_iff_eq]; exact HK.out)
                  have hown := H.out.own
                  have hsz := H.out.sz
                  have hal : acc.length ≤ 65536 := by omega
                  have HP := Lib.hid hp
                  have Hb := Lib.hid hb
                  have HO := Lib.hid hown
                  clear hp hb hf hown
                  go_wp2_with fail
                  refine (has_yes cand m _ hcand h15 Hb.out).mono ?_
                  rintro e w' ⟨rfl, rfl⟩
                  go_wp2_with (at_builtin; refine app_one rfl (.tmp 55) (.tmp 57) rfl G _ acc rfl HO.out (m : Int) rfl hal hsz ?_; intro v' w5 ho5 hb5; have ck := ((H.out).app hb5 ho5).clo.row' (k := m) hm12)
                  go_roundw
                  case rel => exact ⟨k, acc ++ [(m : Int)], c m, by rw [show K - 1 = (k : Int) from (by have := HK.out; omega)], rfl, hcl m hm12, by simp; omega, by
                    have hA := HA.out
                    rw [chL, if_pos (by rw [← HP.out]; exact hmn), ← HP.out] at hA
                    rw [← hA]
                    simp, (H.out).app hb5 ho5⟩
                  case measure => simp [intOf]; omega
                · rw [pick_no hmn (fun h => hf h.2)] at hp
                  have hz : ((f m : Int) == K) = false := (by rw [beq_eq_false_iff_ne]; have := HK.out; omega)
                  have HP := Lib.hid hp
                  have Hb := Lib.hid hb
                  clear hp hb
                  go_wp2_with (go_at_call 22; refine (has_yes cand m _ hcand h15 Hb.out).mono ?_; rintro e w' ⟨rfl, rfl⟩)
                  go_roundw
                  case rel => exact ⟨m + 1, by omega, by go_num, rfl, HP.out, H.out⟩
                  case measure => simp [intOf]; omega
            · have hmn' : m = n := by omega
              subst hmn'
              rw [Nat.sub_self] at hp
              have hst : chL c f m (k + 1) cand = chL c f m k cand := by
                rw [chL, if_neg (by rw [← hp]; simp [pick])]
              have HST := Lib.hid hst
              clear hp hst
              go_wp2_with fail
              go_roundw
              case rel => exact ⟨k, acc, cand, by rw [show K - 1 = (k : Int) from (by have := HK.out; omega)], rfl, hcand, by omega, by rw [← HST.out]; exact HA.out, H.out⟩
              case measure => simp [intOf]; omega
end Go.Proofs.YtkfijolimoehmaaDoor

/-
  Plain: the longest chain from each item, by what comes behind it; the first of the longest is the one that Chain finds.
-/
namespace Go.Proofs.YtkfijolimoehmaaDoor
open Go.RowKit
set_option maxRecDepth 20000

/-- The first of the longest lists g j, for the j below m that s has. -/
def bestL (g : Nat → List Int) (s : Nat) : Nat → List Int
  | 0 => []
  | m + 1 => if s.testBit m = true ∧ (bestL g s m).length < (g m).length then g m else bestL g s m
/-- The longest chain that begins with i; no more than f + 1 items. -/
def lcL (c : Nat → Nat) (n : Nat) : Nat → Nat → List Int
  | 0, i => [(i : Int)]
  | f + 1, i => (i : Int) :: bestL (lcL c n f) (c i) n
theorem bestL_ways (g : Nat → List Int) (s : Nat) : ∀ m, (bestL g s m = [] ∧ ∀ i, i < m → s.testBit i = true → (g i).length = 0) ∨
    ∃ j, j < m ∧ s.testBit j = true ∧ bestL g s m = g j ∧ (∀ i, i < j → s.testBit i = true → (g i).length < (g j).length) ∧ ∀ i, i < m → s.testBit i = true → (g i).length ≤ (g j).length
  | 0 => .inl ⟨rfl, fun i hi => by omega⟩
  | m + 1 => by
    rw [bestL]
    by_cases h : s.testBit m = true ∧ (bestL g s m).length < (g m).length
    · rw [if_pos h]
      have hall : ∀ i, i < m → s.testBit i = true → (g i).length < (g m).length := fun i hi hb => by
        rcases bestL_ways g s m with ⟨h1, h2⟩ | ⟨j, h1, h2, h3, h4, h5⟩
        · have := h2 i hi hb; have := h.2; omega
        · have h6 := h5 i hi hb
          have h7 := h.2
          rw [h3] at h7
          omega
      exact .inr ⟨m, by omega, h.1, rfl, hall, fun i hi hb => by
        rcases Nat.lt_or_ge i m with h' | h'
        · exact Nat.le_of_lt (hall i h' hb)
        · obtain rfl : i = m := by omega
          exact Nat.le_refl _⟩
    · rw [if_neg h]
      rcases bestL_ways g s m with ⟨h1, h2⟩ | ⟨j, h1, h2, h3, h4, h5⟩
      · refine .inl ⟨h1, fun i hi hb => ?_⟩
        rcases Nat.lt_or_ge i m with h' | h'
        · exact h2 i h' hb
        · obtain rfl : i = m := by omega
          rw [h1] at h
          apply Classical.byContradiction
          intro hne
          exact h ⟨hb, by simp only [List.length_nil]; omega⟩
      · refine .inr ⟨j, by omega, h2, h3, h4, fun i hi hb => ?_⟩
        rcases Nat.lt_or_ge i m with h' | h'
        · exact h5 i h' hb
        · obtain rfl : i = m := by omega
          rw [h3] at h
          apply Classical.byContradiction
          intro hne
          exact h ⟨hb, by omega⟩
theorem bestL_len {g : Nat → List Int} {s : Nat} {L : Nat → Nat} : ∀ m, (∀ j, j < m → s.testBit j = true → (g j).length = L j) → (bestL g s m).length + 1 = rowMax s L m
  | 0, _ => rfl
  | m + 1, h => by
    have ih := bestL_len (g := g) (s := s) (L := L) m (fun j hj hb => h j (by omega) hb)
    rw [bestL, rowMax]
    by_cases hb : s.testBit m = true
    · rw [if_pos hb]
      have hm := h m (by omega) hb
      by_cases hlt : (bestL g s m).length < (g m).length
      · rw [if_pos ⟨hb, hlt⟩]; omega
      · rw [if_neg (fun h => hlt h.2)]; omega
    · rw [if_neg hb, if_neg (fun h => hb h.1)]; exact ih
section
variable {n : Nat} {c : Nat → Nat}
theorem lcL_len (h : Strict n c) : ∀ f i, i < n → len c n i ≤ f + 1 → (lcL c n f i).length = len c n i
  | 0, i, hi, hl => by
    have := len_one h hi
    rw [lcL]
    simp only [List.length_cons, List.length_nil]
    omega
  | f + 1, i, hi, hl => by
    rw [lcL, List.length_cons, bestL_len (L := len c n) n (fun j hj hb => lcL_len h f j hj (by have := len_less h hi hb; omega)), ← len_eq h hi]
theorem pick_at {s k j : Nat} {f : Nat → Nat} (hj : j < n) (hb : s.testBit j = true) (hf : f j = k) (hno : ∀ i, i < j → ¬ (s.testBit i = true ∧ f i = k)) : ∀ d m, m + d = j → pick s f k n (n - m) = j
  | 0, m, h => by
    obtain rfl : m = j := by omega
    exact pick_yes hj ⟨hb, hf⟩
  | d + 1, m, h => by
    rw [pick_no (by omega) (hno m (by omega))]
    exact pick_at hj hb hf hno d (m + 1) (by omega)
theorem best_chL (h : Strict n c) : ∀ r f s, (∀ j, j < n → s.testBit j = true → len c n j ≤ f + 1) → (bestL (lcL c n f) s n).length = r → bestL (lcL c n f) s n = chL c (len c n) n r s
  | 0, f, s, _, hr => by rw [chL]; exact List.length_eq_zero_iff.1 hr
  | r + 1, f, s, hs, hr => by
    rcases bestL_ways (lcL c n f) s n with ⟨h1, _⟩ | ⟨j, h1, h2, h3, h4, h5⟩
    · rw [h1] at hr; cases hr
    · have hlj := lcL_len h f j h1 (hs j h1 h2)
      rw [h3] at hr ⊢
      rw [hlj] at hr
      have hp : pick s (len c n) (r + 1) n n = j := pick_at (n := n) (m := 0) (d := j) h1 h2 hr (fun i hi hh => by
        have h6 := h4 i hi hh.1
        rw [hlj, lcL_len h f i (by omega) (hs i (by omega) hh.1)] at h6
        omega) (by omega)
      rw [chL, hp, if_pos h1]
      cases f with
      | zero =>
        have := hs j h1 h2
        have hr0 : r = 0 := by omega
        subst hr0
        rfl
      | succ f =>
        rw [lcL, best_chL h r f (c j) (fun i hi hb => by have := len_less h h1 hb; have := hs j h1 h2; omega) (by
          rw [lcL, List.length_cons] at hlj
          omega)]
theorem pick_congr {s k : Nat} {f g : Nat → Nat} (e : ∀ j, j < n → f j = g j) : ∀ t, t ≤ n → pick s f k n t = pick s g k n t
  | 0, _ => rfl
  | t + 1, ht => by rw [pick, pick, e _ (by omega), pick_congr e t (by omega)]
theorem chL_congr {f g : Nat → Nat} (e : ∀ j, j < n → f j = g j) : ∀ k s, chL c f n k s = chL c g n k s
  | 0, _ => rfl
  | k + 1, s => by rw [chL, chL, pick_congr e n (Nat.le_refl _), chL_congr e k, chL_congr e k]
theorem best_all {g : Nat → List Int} {L : Nat → Nat} (s : Nat) : ∀ m, (∀ j, j < m → s.testBit j = true ∧ (g j).length = L j) → (bestL g s m).length = maxUp L m
  | 0, _ => rfl
  | m + 1, h => by
    have ih := best_all (g := g) (L := L) s m (fun j hj => h j (by omega))
    have hm := h m (by omega)
    rw [bestL, maxUp]
    by_cases hlt : (bestL g s m).length < (g m).length
    · rw [if_pos ⟨hm.1, hlt⟩]; omega
    · rw [if_neg (fun h => hlt h.2)]; omega
/-- What Chain finds is the first of the longest. -/
theorem chain_list (h : Strict n c) (hn : n ≤ 12) : chL c (rnd c n n) n (maxUp (len c n) n) (2 ^ n - 1) = bestL (lcL c n 12) (2 ^ n - 1) n := by
  have hb : ∀ j, j < n → (2 ^ n - 1).testBit j = true := fun j hj => by rw [Nat.testBit_two_pow_sub_one]; simpa using hj
  have hl : ∀ j, j < n → len c n j ≤ 12 + 1 := fun j hj => by have := len_le h hj; omega
  rw [chL_congr (fun j hj => rnd_len h hj)]
  exact (best_chL h _ 12 (2 ^ n - 1) (fun j hj _ => hl j hj) (best_all _ n (fun j hj => ⟨hb j hj, lcL_len h 12 j hj (hl j hj)⟩))).symm
end
end Go.Proofs.YtkfijolimoehmaaDoor

/-
  Plain: how many numbers it takes; what the least numbers are.
-/
namespace Go.Proofs.YtkfijolimoehmaaDoor
open Go.RowKit
set_option maxRecDepth 20000

theorem sum_ones : ∀ m, sumUp (fun _ => if true = true then 1 else 0) m = m
  | 0 => rfl
  | m + 1 => by rw [sumUp, sum_ones m, if_pos rfl]
theorem best_step {g : Nat → List Int} {n i : Nat} (hi : i < n) : bestL g (2 ^ n - 1) (i + 1) = if (bestL g (2 ^ n - 1) i).length < (g i).length then g i else bestL g (2 ^ n - 1) i := by
  have hb : (2 ^ n - 1).testBit i = true := by rw [Nat.testBit_two_pow_sub_one]; simpa using hi
  rw [bestL]
  by_cases h : (bestL g (2 ^ n - 1) i).length < (g i).length
  · rw [if_pos ⟨hb, h⟩, if_pos h]
  · rw [if_neg (fun k => h k.2), if_neg h]
theorem start_c (K : Nat) : CSt K [] (fun _ => 0) (fun _ => 0) :=
  ⟨fun j k h => by simp at h, fun k j => by simp, fun k h => by simp [freshL] at h, fun _ _ => rfl, fun _ => by show 0 < 65536; decide, by simp [freshL]⟩
section
variable {n : Nat} {a : Nat → Nat}
theorem both_bit {c : Nat → Nat} {i j : Nat} (hi : i < n) (hj : j < n) : (relUp c (rev n c) n i).testBit j = ((c i).testBit j || (c j).testBit i) := by
  unfold relUp
  rw [if_pos hi, Nat.testBit_or, rev_bit]
  simp [hi, hj]
theorem both_lt {c : Nat → Nat} (hg : Good n c) (i : Nat) : relUp c (rev n c) n i < 65536 := by
  have hn := hg.le
  unfold relUp
  split
  · exact Nat.or_lt_two_pow (n := 16) (hg.lt i (by omega)) (revs_lt n c 16 i n (by omega))
  · decide
theorem start_p (rel : Nat → Nat) (K : Nat) : PInv rel K (n - n) (fun _ => 0) (fun _ => 0) :=
  ⟨fun i hi => by omega, fun k i h => by simp at h, fun _ _ _ _ _ _ => rfl, fun i j hi => by omega, fun _ => by show 0 < 65536; decide⟩
theorem wide_zero (c : Nat → Nat) (h : n = 0) : pop (wide n c) = 0 := by
  subst h
  have := wide_small 0 c
  rw [show wide 0 c = 0 by omega]
  rfl
theorem pop_wide (c : Nat → Nat) (hn : n ≤ 12) : pop (wide n c) ≤ n := by
  rw [pop_is (by omega) (wide_small n c)]
  exact card_le n _
/-- As many numbers as there are items apart serve; the least are those that Chains finds. -/
theorem col_some (hg : Good n a) (hy : cyc (clo n a) n = false) : ∃ l', colC (relUp (clo n a) (rev n (clo n a)) n) (pop (wide n (clo n a))) n [] = some l' ∧ zs l' = listed n (chainsOf n (clo n a)).nu := by
  have hn := hg.le
  have hgc := hg.clo
  have hF := chains_found hg hy
  unfold chainsOf at hF ⊢
  generalize clo n a = c at hgc hF ⊢
  generalize pop (wide n c) = K at hF ⊢
  have hcs := col_same (rel := relUp c (rev n c) n) (K := K) (n := n) (both_lt hgc) hn n (Nat.le_refl _) [] (fun _ => 0) (fun _ => 0) (by simp) (start_c K)
  obtain ⟨a1, a2⟩ := placeM_keeps (rel := relUp c (rev n c) n) (K := K) (fun i _ => both_lt hgc i) hn (fun i j hi hj => by rw [both_bit hi hj, both_bit hj hi, Bool.or_comm]) n (Nat.le_refl _) _ _ (start_p _ K)
  generalize placeM (relUp c (rev n c) n) K n n (fun _ => 0) (fun _ => 0) = r at hF hcs a1 a2 ⊢
  have hok : r.ok = true := by
    cases hok : r.ok
    · exfalso
      refine (a2 hok).2.2 (fun i => (r.nu i).toNat) ⟨fun i hi => ?_, fun i j hi hj hij e => ?_, fun i hi => by omega⟩
      · obtain ⟨k, hk, e⟩ := hF.lt i hi
        show (r.nu i).toNat < K
        omega
      · obtain ⟨k, hk, e1⟩ := hF.lt i hi
        obtain ⟨k', hk', e2⟩ := hF.lt j hj
        have e' : (r.nu i).toNat = (r.nu j).toNat := e
        rw [both_bit hi hj, Bool.or_eq_true]
        exact hF.rel i j hi hj hij (by omega)
    · rfl
  obtain ⟨l', e1, e2, e3⟩ := hcs.1 hok
  refine ⟨l', e1, ?_⟩
  unfold zs listed
  apply List.ext_getElem
  · rw [List.length_map, List.length_map, List.length_range, e2]
  · intro j h1 h2
    rw [List.length_map] at h1
    rw [List.getElem_map, List.getElem_map, List.getElem_range]
    exact (e3 j l'[j] (List.getElem?_eq_getElem h1)).symm
/-- Fewer don't. -/
theorem col_none (hg : Good n a) {K : Nat} (hK : K < pop (wide n (clo n a))) : colC (relUp (clo n a) (rev n (clo n a)) n) K n [] = none := by
  have hn := hg.le
  have hgc := hg.clo
  generalize clo n a = c at hgc hK ⊢
  have hcs := col_same (rel := relUp c (rev n c) n) (K := K) (n := n) (both_lt hgc) hn n (Nat.le_refl _) [] (fun _ => 0) (fun _ => 0) (by simp) (start_c K)
  obtain ⟨a1, a2⟩ := placeM_keeps (rel := relUp c (rev n c) n) (K := K) (fun i _ => both_lt hgc i) hn (fun i j hi hj => by rw [both_bit hi hj, both_bit hj hi, Bool.or_comm]) n (Nat.le_refl _) _ _ (start_p _ K)
  generalize placeM (relUp c (rev n c) n) K n n (fun _ => 0) (fun _ => 0) = r at hcs a1 a2 ⊢
  cases hok : r.ok
  · exact (hcs.2 hok).1
  · exfalso
    have hP := a1 hok
    have hcard : card n (wide n c) = pop (wide n c) := (pop_is (by omega) (wide_small n c)).symm
    obtain ⟨g, g1, g2⟩ := enum_mask (wide n c) n
    rw [hcard] at g1 g2
    have hw := (anti_iff c (wide n c) n).1 (wide_most (c := c) (n := n) (2 ^ n)).1
    have hno : ∀ x y, x < n → y < n → (wide n c).testBit x = true → (wide n c).testBit y = true → (c x).testBit y = false := fun x y hx hy' hxb hyb => by
      have h3 := congrArg (fun z => z.testBit y) (hw x hx hxb)
      simp only [Nat.testBit_and, Nat.zero_testBit, hyb, Bool.and_true] at h3
      exact h3
    have hle := inj_le (n := K) (pop (wide n c)) (fun i => (r.nu (g i)).toNat) (fun _ => true) (fun i hi => by
      obtain ⟨k, hk, e, _⟩ := hP.place (g i) (g1 i hi).1
      exact ⟨by show (r.nu (g i)).toNat < K; omega, rfl⟩) (fun i j hi hj hij e => by
      obtain ⟨k, hk, e1, _⟩ := hP.place (g i) (g1 i hi).1
      obtain ⟨k', hk', e2, _⟩ := hP.place (g j) (g1 j hj).1
      have e' : (r.nu (g i)).toNat = (r.nu (g j)).toNat := e
      have h1 := hP.good (g i) (g j) (g1 i hi).1 (g1 j hj).1 (g2 i j hi hj hij) (by omega)
      rw [both_bit (g1 i hi).1 (g1 j hj).1, hno _ _ (g1 i hi).1 (g1 j hj).1 (g1 i hi).2 (g1 j hj).2, hno _ _ (g1 j hj).1 (g1 i hi).1 (g1 j hj).2 (g1 i hi).2] at h1
      cases h1)
    rw [sum_ones] at hle
    omega
end
end Go.Proofs.YtkfijolimoehmaaDoor
