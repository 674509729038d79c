/-
  Contract of alibref.Reaches.
-/
import Derived.Test.YtcpmhflkooipdaaDoorQueue
import Derived.Test.YtcpmhflkooipdaaDoorSrchPure
import Derived.Test.YtcpmhflkooipdaaDoorAhead
namespace Go.Proofs.YtcpmhflkooipdaaDoor
open Go.RowKit
set_option maxRecDepth 20000

theorem Srch.start {n i j : Nat} {a : Nat → Nat} (hi : i < n) : Srch n a i j (fun _ => false) [i] i n :=
  ⟨fun _ h => absurd h (by decide), fun x h => by
    have : x = i := by simpa using h
    exact ⟨by omega, .inl this⟩, ⟨hi, .inl rfl⟩, fun x h => by
    rcases h with rfl | h
    · exact .inl (by simp)
    · cases h⟩

/-- What the table of truths in block g says. -/
def seenW (w : World) (g x : Nat) : Bool := match w.cell? ⟨g, x, none⟩ with | some (.bool b) => b | _ => false
theorem unseen_congr {S T : Nat → Bool} : ∀ n, (∀ x, x < n → S x = T x) → unseen S n = unseen T n
  | 0, _ => rfl
  | n + 1, h => by
    unfold unseen
    rw [unseen_congr n (fun x hx => h x (by omega)), h n (by omega)]
theorem unseenW {w : World} {g n : Nat} {S : Nat → Bool} (h : BTab w g n S) : unseen (seenW w g) n = unseen S n :=
  unseen_congr n fun x hx => by
    unfold seenW
    rw [h.cell hx]
def lenV : Value → Nat
  | .slice _ l _ => l
  | _ => 0

structure RchR (w : World) (n : Nat) (a : Nat → Nat) (G : Nat) (S : Nat → Bool) (q : Value) (l : List Nat) (wr : World) : Prop where
  below : Below w.heap.size w wr
  rel : RelB wr w.heap.size n a
  seen : BTab wr G n S
  todo : QOwn wr (G + 1) q l
  fg : w.heap.size < G
section
variable {w wr w' : World} {n G : Nat} {a : Nat → Nat} {S : Nat → Bool} {q : Value} {l : List Nat}
theorem RchR.then_ (h : RchR w n a G S q l wr) (hb : Below wr.heap.size wr w') : RchR w n a G S q l w' :=
  ⟨h.below.trans (hb.mono h.below.size), Lies.below h.rel hb h.rel.lt, Lies.below h.seen hb h.seen.lt, h.todo.then_ hb, h.fg⟩
theorem RchR.see (h : RchR w n a G S q l wr) (m : Nat) : RchR w n a G (fun x => if x = m then true else S x) q l (wr.setCell ⟨G, m, none⟩ (.bool true)) :=
  ⟨h.below.setCell (p := ⟨G, m, none⟩) (Nat.le_of_lt h.fg) _, Lies.far h.rel (by have := h.fg; show w.heap.size ≠ G; omega) _, h.seen.set_ m true, h.todo.far (p := ⟨G, m, none⟩) (Nat.lt_succ_self G) _, h.fg⟩
theorem RchR.app (h : RchR w n a G S q l wr) {q' : Value} {l' : List Nat} (hb : Below (G + 1) wr w') (ho : QOwn w' (G + 1) q' l') : RchR w n a G S q' l' w' :=
  ⟨h.below.trans (hb.mono (by have := h.fg; omega)), Lies.below h.rel hb (by have := h.fg; omega), Lies.below h.seen hb (by omega), ho, h.fg⟩
end

set_option maxHeartbeats 2000000 in
theorem reaches_any (n i j : Nat) (a : Nat → Nat) (w : World) (h : Good n a) (hi : i < n) :
    Calls Tryd.prog 29 #[relV n a, .int .i64 i, .int .i64 j] w fun e w' => e = .returned (.bool ((clo n a i).testBit j)) ∧ Below w.heap.size w w' := by
  have hle := h.le
  have hmk := fun W : World => made_bools n (n : Int) rfl (by omega) W
  have HG := Lib.hid h
  clear h
  go_enter Tryd.func29, Tryd.ntmps29
  go_wp2_with fail
  have hR0 : RchR w n a (w.heap.size + 1) (fun _ => false) (.slice (some ⟨w.heap.size + 1 + 1, 0, none⟩) 1 1) [i]
      (((w.alloc (.cells (relCs n a) 25)).alloc (.cells (bitCs n fun _ => false) 4)).alloc (.cells #[.int .i64 (i : Int)] 3)) := by
    have hT := Lies.new (w.alloc (.cells (relCs n a) 25)) 4 (bitCs n fun _ => false)
    have hQ := QOwn.first (B := w.heap.size + 1 + 1) ((w.alloc (.cells (relCs n a) 25)).alloc (.cells (bitCs n fun _ => false) 4)) i (by simp)
    rw [World.size_alloc] at hT
    rw [World.size_alloc, World.size_alloc] at hQ
    exact ⟨(((Below.refl _ _).alloc (Nat.le_refl _) _).alloc (by simp) _).alloc (by simp; omega) _, Lies.alloc (Lies.alloc (Lies.new _ _ _) _) _, Lies.alloc hT _, hQ, by omega⟩
  generalize ((w.alloc (.cells (relCs n a) 25)).alloc (.cells (bitCs n fun _ => false) 4)).alloc (.cells #[.int .i64 (i : Int)] 3) = W at hR0 ⊢
  generalize hGG : w.heap.size + 1 = G at hR0 ⊢
  clear hmk
  go_loopw [8] (fun q wr => ∃ (S : Nat → Bool) (l : List Nat) (k : Nat), Srch n a i j S l k n ∧ l.length + unseen S n ≤ n + 1 ∧ RchR w n a G S q l wr) (fun q wr => lenV q + unseen (seenW wr G) n)
  case atStart => exact ⟨fun _ => false, [i], i, Srch.start hi, by have := unseen_le (fun _ => false) n; simp; omega, hR0⟩
  case round =>
    clear hR0
    obtain ⟨S, l, k0, hS, hM, hR⟩ := hrel
    have hms : unseen (seenW wr G) n = unseen S n := unseenW hR.seen
    cases l with
    | nil =>
      obtain ⟨g, o, cap, cs, rfl, _⟩ := hR.todo
      have hno := hS.no HG.out hi
      have HH := Lib.hid (And.intro hno hR.below)
      clear hno hR hS
      go_wp2_with fail
      go_ret
      exact ⟨ret_bool HH.out.1.symm, HH.out.2⟩
    | cons k l =>
      obtain ⟨g, o, cap, cs, hq, _⟩ := hR.todo
      obtain ⟨L, hL⟩ : ∃ L, L = (k :: l).length := ⟨_, rfl⟩
      rw [← hL] at hq
      subst hq
      have hL0 : (0 : Int) < (L : Int) := by rw [hL]; simp
      have hL1 : 0 < L := by omega
      obtain ⟨hc, hq⟩ := hR.todo.tail
      have htl := slice_tail g o L cap hL1
      have hk : k < n := (hS.todo k (by simp)).1
      have hP := hS.pop HG.out
      have hlL : l.length + 1 = L := by rw [hL]; simp
      have hsz := hR.rel.size
      have hR' : RchR w n a G S (.slice (some ⟨g, tailAt o cap, none⟩) (L - 1) (cap - 1)) l wr := ⟨hR.below, hR.rel, hR.seen, hq, hR.fg⟩
      have HR := Lib.hid (And.intro hR' (And.intro hP (And.intro hM hms)))
      clear hR hR' hq hP hS hM hL
      obtain ⟨M, hMM⟩ : ∃ M, M = l.length + unseen S n := ⟨_, rfl⟩
      have hMn : M + 1 ≤ n + 1 := by have := HR.out.2.2.1; simp at this; omega
      have hMW : M + 1 = L + unseen (seenW wr G) n := by rw [HR.out.2.2.2]; omega
      go_wp2_with fail
      have hR := HR.out.1
      have hS := HR.out.2.1
      generalize (Value.slice (some ⟨g, tailAt o cap, none⟩) (L - 1) (cap - 1)) = q0 at hR ⊢
      have hMW' : M + 1 = lenV (.slice (some ⟨g, o, none⟩) L cap) + unseen (seenW wr G) n := hMW
      clear HR hc htl hsz hMW hL0 hL1
      go_loopw [8, 26] (fun q t wr => ∃ (m : Nat) (S : Nat → Bool) (l : List Nat), m ≤ n ∧ t = .int .i64 m ∧ Srch n a i j S l k m ∧ l.length + unseen S n ≤ M ∧ RchR w n a G S q l wr) (fun _ t _ => n - (intOf t).toNat)
      case atStart => exact ⟨0, S, l, by omega, rfl, hS, by omega, hR⟩
      case round =>
        clear hR hS hMM hlL
        obtain ⟨m, S, l, hm, rfl, hS, hM, hR⟩ := hrel
        by_cases hmn : m < n
        · have hsz := hR.rel.size
          obtain ⟨c0, c1, c2, c3, c4, c5, c6, c7, c8, c9, c10, c11⟩ := hR.rel.rows
          have i1 : (0 : Int) ≤ (m : Int) := by omega
          have i2 : (m : Int) < (n : Int) := by omega
          have HR := Lib.hid (And.intro hR (And.intro hS hM))
          clear hR hS hM
          go_wp2_with fail
          refine (ahead_any n a k m wr (by omega) (by omega)).mono ?_
          rintro e w1 ⟨rfl, hb⟩
          have hR := HR.out.1.then_ hb
          have HR2 := Lib.hid (And.intro hR HR.out.2)
          clear hR HR hb hsz c0 c1 c2 c3 c4 c5 c6 c7 c8 c9 c10 c11
          cases hbit : (a k).testBit m with
          | false =>
            have HB := Lib.hid hbit
            clear hbit
            go_wp2_with fail
            go_roundw
            case rel => exact ⟨m + 1, S, l, by omega, by go_num, HR2.out.2.1.skip (.inl HB.out), HR2.out.2.2, HR2.out.1⟩
            case measure => simp [intOf]; omega
          | true =>
            have HB := Lib.hid hbit
            clear hbit
            by_cases hmj : m = j
            · subst hmj
              go_wp2_with fail
              go_ret
              exact ⟨ret_bool (HR2.out.2.1.step_in hi HB.out).symm, HR2.out.1.below⟩
            · have hne : ((m : Int) == (j : Int)) = false := by rw [beq_eq_false_iff_ne]; omega
              have hcS := HR2.out.1.seen.cell hmn
              have hfz : w1.frozen? ⟨G, m, none⟩ = false := Lies.frozen HR2.out.1.seen m
              have HJ := Lib.hid hmj
              clear hmj
              cases hSm : S m with
              | true =>
                rw [hSm] at hcS
                have HSM := Lib.hid hSm
                clear hSm
                go_wp2_with fail
                go_roundw
                case rel => exact ⟨m + 1, S, l, by omega, by go_num, HR2.out.2.1.skip (.inr HSM.out), HR2.out.2.2, HR2.out.1⟩
                case measure => simp [intOf]; omega
              | false =>
                rw [hSm] at hcS
                have hP := HR2.out.2.1.push hi hmn HB.out HJ.out
                have hu := unseen_push S m hSm n hmn
                have hR3 := HR2.out.1.see m
                have hll : l.length ≤ 65536 := by have := HR2.out.2.2; omega
                have hgl : G + 1 ≤ (w1.setCell ⟨G, m, none⟩ (.bool true)).heap.size := hR3.seen.lt
                have hsw : (w1.setCell ⟨G, m, none⟩ (.bool true)).heap.size = w1.heap.size := by simp
                have HQ := Lib.hid hR3.todo
                have HSM := Lib.hid (And.intro hP (And.intro hu hR3))
                clear hSm hP hu hR3
                go_wp2_with (at_builtin; refine app_q rfl (.tmp 44) (.tmp 46) rfl (G + 1) _ l rfl HQ.out m w1.heap.size hsw rfl hll hgl ?_; intro v' w5 ho5 hb5)
                go_roundw
                case rel => exact ⟨m + 1, _, _, by omega, by go_num, HSM.out.1, by have := HR2.out.2.2; have := HSM.out.2.1; rw [List.length_append, List.length_singleton]; omega, HSM.out.2.2.app hb5 ho5⟩
                case measure => simp [intOf]; omega
        · obtain rfl : m = n := by omega
          go_wp2_with fail
          go_roundw
          case rel => exact ⟨S, l, k, hS, by omega, hR⟩
          case measure =>
            obtain ⟨g', o', cap', cs', rfl, _⟩ := hR.todo
            rw [unseenW hR.seen, ← hMW']
            show l.length + unseen S m < M + 1
            omega
end Go.Proofs.YtcpmhflkooipdaaDoor
