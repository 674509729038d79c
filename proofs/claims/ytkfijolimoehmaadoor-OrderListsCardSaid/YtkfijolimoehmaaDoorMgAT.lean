/-
  Joined by a program out of: LongC.
-/
import Derived.Test.YtkfijolimoehmaaDoorMgAS
import Derived.Test.YtkfijolimoehmaaDoorMgAC
import Derived.Test.YtkfijolimoehmaaDoorMgAJ

/-
  Contract of the reference's LongChain.
-/
namespace Go.Proofs.YtkfijolimoehmaaDoor
open Go.RowKit
set_option maxRecDepth 20000

theorem IOwn.lit1 {W : World} {base g : Nat} {y : Int} (h : Lies W g 3 #[.int .i64 y]) (hg : base ≤ g) : IOwn W base (.slice (some ⟨g, 0, none⟩) 1 1) [y] :=
  ⟨rfl, .inr ⟨g, 1, #[.int .i64 y], rfl, hg, h, Nat.le_refl _, by unfold maxLen; omega, rfl, rfl⟩⟩

set_option maxHeartbeats 2000000 in
theorem lchain_step (n : Nat) (c : Nat → Nat) (hn : n ≤ 12) (g : Nat → List Int) (hg : ∀ j, (g j).length ≤ 100) (i : Nat) (hi : i < n)
    (ih : ∀ (j : Nat) (W : World), j < n → (c i).testBit j = true → Calls Tryd.prog 18 #[relV n c, .int .i64 j] W fun e w' => ∃ v', e = .returned v' ∧ IOwn w' W.heap.size v' (g j) ∧ Below W.heap.size W w') (w : World) :
    Calls Tryd.prog 18 #[relV n c, .int .i64 i] w fun e w' => ∃ v', e = .returned v' ∧ IOwn w' w.heap.size v' ((i : Int) :: bestL g (c i) n) ∧ Below w.heap.size w w' := by
  have IH := Lib.hid ih
  have HG := Lib.hid hg
  clear ih hg
  have h0 : FsR w n c (w.alloc (.cells (relCs n c) 25)) := ⟨(Below.refl _ _).alloc (Nat.le_refl _) _, Lies.new _ _ _⟩
  have H0 := Lib.hid h0
  have hs0 := h0.rel.size
  clear h0
  go_enter Tryd.func18, Tryd.ntmps18
  go_wp2_with fail
  have h0 := H0.out
  clear hs0 H0
  change Code.wp _ _ _ _ (w.alloc (.cells (relCs n c) 25))
  generalize w.alloc (.cells (relCs n c) 25) = W at h0 ⊢
  go_loopw [5, 10] (fun v t wr => ∃ (k : Nat) (v0 : Value), k ≤ n ∧ t = .int .i64 k ∧ v0 = v ∧ FsR w n c wr ∧ IOwn wr w.heap.size v0 (bestL g (c i) k)) (fun _ t _ => n - (intOf t).toNat)
  case atStart => exact ⟨0, _, by omega, rfl, rfl, h0, World.ownsRow_nil _ _ _ _⟩
  case round =>
    clear h0
    obtain ⟨k, v0, hk, rfl, rfl, hF, ho⟩ := hrel
    have hb12 : (bestL g (c i) k).length ≤ 100 := by
      rcases bestL_ways g (c i) k with ⟨e, _⟩ | ⟨j, _, _, e, _⟩
      · rw [e]; simp
      · rw [e]; exact HG.out j
    by_cases hkn : k < n
    · have k2 : (k : Int) < (n : Int) := by omega
      have hs := hF.rel.size
      obtain ⟨c1, c2, c3, c4, c5, c6, c7, c8, c9, c10, c11, c12⟩ := hF.rel.rows
      have hst : bestL g (c i) (k + 1) = if (c i).testBit k = true ∧ (bestL g (c i) k).length < (g k).length then g k else bestL g (c i) k := rfl
      have HA := Lib.hid (fun W => ahead_any (n : Int) c i k W (by omega) (by omega))
      have HF := Lib.hid (And.intro hF ho)
      have HST := Lib.hid hst
      clear hF ho hst
      go_wp2_with fail
      refine (HA.out _).mono ?_
      rintro e w1 ⟨rfl, hb1⟩
      have h1 := HF.out.1.next hb1
      have ho1 := HF.out.2.then_ hb1
      clear hs c1 c2 c3 c4 c5 c6 c7 c8 c9 c10 c11 c12 hb1 HF HA
      cases hbit : (c i).testBit k
      · have HX := Lib.hid (And.intro h1 ho1)
        have HB := Lib.hid hbit
        clear h1 ho1 hbit
        go_wp2_with fail
        go_roundw
        case rel => exact ⟨k + 1, _, by omega, by go_num, rfl, HX.out.1, by rw [HST.out, if_neg (fun h => by rw [HB.out] at h; cases h.1)]; exact HX.out.2⟩
        case measure => simp [intOf]; omega
      · have hs := h1.rel.size
        obtain ⟨c1, c2, c3, c4, c5, c6, c7, c8, c9, c10, c11, c12⟩ := h1.rel.rows
        have HX := Lib.hid (And.intro h1 ho1)
        have HB := Lib.hid hbit
        clear h1 ho1 hbit
        go_wp2_with fail
        refine (IH.out k _ hkn HB.out).mono ?_
        rintro e w2 ⟨v2, rfl, ho2, hb2⟩
        have h2 := HX.out.1.next hb2
        have ho1 := HX.out.2.then_ hb2
        have ho3 := ho2.mono HX.out.1.below.size
        clear hs c1 c2 c3 c4 c5 c6 c7 c8 c9 c10 c11 c12 hb2 HX ho2
        obtain ⟨A2, p2, rfl, _⟩ := id ho3.rd
        obtain ⟨A1, p1, rfl, _⟩ := id ho1.rd
        have HX := Lib.hid (And.intro h2 (And.intro ho1 ho3))
        clear h2 ho1 ho3
        by_cases hlt : (bestL g (c i) k).length < (g k).length
        · have hlt' : ((bestL g (c i) k).length : Int) < ((g k).length : Int) := by omega
          have HL := Lib.hid hlt
          clear hlt
          go_wp2_with fail
          go_roundw
          case rel => exact ⟨k + 1, _, by omega, by go_num, rfl, HX.out.1, by rw [HST.out, if_pos ⟨HB.out, HL.out⟩]; exact HX.out.2.2⟩
          case measure => simp [intOf]; omega
        · have hlt' : ¬ ((bestL g (c i) k).length : Int) < ((g k).length : Int) := by omega
          have HL := Lib.hid hlt
          clear hlt
          go_wp2_with fail
          go_roundw
          case rel => exact ⟨k + 1, _, by omega, by go_num, rfl, HX.out.1, by rw [HST.out, if_neg (fun h => HL.out h.2)]; exact HX.out.2.1⟩
          case measure => simp [intOf]; omega
    · obtain rfl : k = n := by omega
      have hbs := hF.below.size
      have HO := Lib.hid (IOwn.lit1 (base := w.heap.size) (Lies.new wr 3 #[.int .i64 (i : Int)]) hbs)
      have HR := Lib.hid ((ho.rd.below ((Below.refl _ _).alloc (Nat.le_refl _) (.cells #[.int .i64 (i : Int)] 3))))
      have HB := Lib.hid (hF.below.alloc hbs (.cells #[.int .i64 (i : Int)] 3))
      have HL := Lib.hid (show [(i : Int)].length + (bestL g (c i) k).length ≤ 65536 by simp; omega)
      clear hF ho
      go_wp2_with (at_builtin; refine wpList_app_rd rfl (.tmp 28) (.tmp 29) rfl w.heap.size wr.heap.size _ _ [(i : Int)] (bestL g (c i) k) rfl rfl HO.out HR.out HL.out HB.out.size ?_; intro v' w5 ho5 hb5 hg5; have HN := Lib.hid (And.intro ho5 (HB.out.trans hb5)); clear ho5 hb5 hg5)
      go_ret
      exact ⟨_, rfl, HN.out.1, HN.out.2⟩
theorem lchain_any (n : Nat) (c : Nat → Nat) (hn : n ≤ 12) (h : Strict n c) : ∀ (f i : Nat) (w : World), i < n → len c n i ≤ f + 1 →
    Calls Tryd.prog 18 #[relV n c, .int .i64 i] w fun e w' => ∃ v', e = .returned v' ∧ IOwn w' w.heap.size v' (lcL c n f i) ∧ Below w.heap.size w w'
  | 0, i, w, hi, hl => by
    have hno : ∀ j, j < n → (c i).testBit j = true → False := fun j hj hb => by
      have h1 := len_less h hi hb
      have h2 := len_one h hj
      omega
    have hb : bestL (fun _ => []) (c i) n = [] := by
      rcases bestL_ways (fun _ => []) (c i) n with ⟨e, _⟩ | ⟨j, _, _, e, _⟩
      · exact e
      · exact e
    have := lchain_step n c hn (fun _ => []) (fun _ => by simp) i hi (fun j W hj hb => (hno j hj hb).elim) w
    rw [hb] at this
    exact this
  | f + 1, i, w, hi, hl => by
    -- lists of items that are not behind i don't matter
    have key := lchain_step n c hn (fun j => if j < n ∧ (c i).testBit j = true then lcL c n f j else []) (fun j => by
      split
      · rename_i hj
        rw [lcL_len h f j hj.1 (by have := len_less h hi hj.2; omega)]
        have := len_le h hj.1
        omega
      · simp) i hi (fun j W hj hb => by
      simp only [hj, hb, and_self, if_true]
      exact lchain_any n c hn h f j W hj (by have := len_less h hi hb; omega)) w
    have e : ∀ m, m ≤ n → bestL (fun j => if j < n ∧ (c i).testBit j = true then lcL c n f j else []) (c i) m = bestL (lcL c n f) (c i) m := fun m => by
      induction m with
      | zero => intro _; rfl
      | succ m ihm =>
        intro hm
        rw [bestL, bestL, ihm (by omega)]
        by_cases hb : (c i).testBit m = true
        · simp only [hb, show m < n by omega, and_self, if_true, true_and]
        · rw [if_neg (fun h => hb h.1), if_neg (fun h => hb h.1)]
    rw [e n (Nat.le_refl _)] at key
    rw [lcL]
    exact key
end Go.Proofs.YtkfijolimoehmaaDoor
