/-
  Contract of alibref.Spanned.
-/
import Derived.Test.YtfjanniojphdoaaAhead
namespace Go.Proofs.Ytfjanniojphdoaa
open Go.RowKit
set_option maxRecDepth 20000

/-- Of a, b, c, d one thing is wrong: a stands ahead of itself; or a is ahead of b, c of d, and neither ahead of the other's. -/
def bad4 (r : Nat → Nat) (a b c d : Nat) : Bool := (r a).testBit a || ((r a).testBit b && (r c).testBit d && !(r a).testBit d && !(r c).testBit b)
def bad3 (r : Nat → Nat) (a b c : Nat) : Bool := (r a).testBit b && (r b).testBit c && !(r a).testBit c
/-- May the relation be one of spans? -/
def SpOK (n : Nat) (r : Nat → Nat) : Prop := ∀ a, a < n → ∀ b, b < n → ∀ c, c < n → (∀ d, d < n → bad4 r a b c d = false) ∧ bad3 r a b c = false

structure FsR (w0 : World) (n : Nat) (r : Nat → Nat) (w : World) : Prop where
  below : Below w0.heap.size w0 w
  rel : RelB w w0.heap.size n r
theorem FsR.next {w0 w w' : World} {n : Nat} {r : Nat → Nat} (h : FsR w0 n r w) (hb : Below w.heap.size w w') : FsR w0 n r w' :=
  ⟨h.below.trans (hb.mono h.below.size), Lies.below h.rel hb h.rel.lt⟩

set_option maxHeartbeats 8000000 in
theorem spanned_go (n : Nat) (r : Nat → Nat) (w : World) (hn : n ≤ 12) :
    Calls Try.prog 15 #[relV n r] w fun e w' => Below w.heap.size w w' ∧ ((e = .returned (.bool true) ∧ SpOK n r) ∨ (e = .returned (.bool false) ∧ ¬ SpOK n r)) := by
  have hR : FsR w n r (w.alloc (.cells (relCs n r) 26)) := ⟨(Below.refl _ _).alloc (Nat.le_refl _) _, Lies.new _ _ _⟩
  have HR := Lib.hid hR
  clear hR
  go_enter Try.func15, Try.ntmps15
  go_wp2_with fail
  have hR := HR.out
  clear HR
  change Code.wp _ _ _ _ (w.alloc (.cells (relCs n r) 26))
  generalize w.alloc (.cells (relCs n r) 26) = W at hR ⊢
  go_loopw [9] (fun i wr => ∃ a : Nat, a ≤ n ∧ i = .int .i64 a ∧ FsR w n r wr ∧ ∀ x, x < a → ∀ b, b < n → ∀ c, c < n → (∀ d, d < n → bad4 r x b c d = false) ∧ bad3 r x b c = false) (fun i _ => n - (intOf i).toNat)
  case atStart => exact ⟨0, by omega, rfl, hR, fun x hx => by omega⟩
  case round =>
    clear hR
    obtain ⟨a, ha, rfl, hR, h1⟩ := hrel
    have H1 := Lib.hid h1
    clear h1
    by_cases han : a < n
    · have s0 := hR.rel.size
      have HR := Lib.hid hR
      clear hR
      go_wp2_with fail
      have hR := HR.out
      clear HR s0
      obtain ⟨wo1, rfl⟩ : ∃ wo : World, wo = wr := ⟨_, rfl⟩
      go_loopw [14] (fun i wr => ∃ b : Nat, b ≤ n ∧ i = .int .i64 b ∧ FsR w n r wr ∧ ∀ x, x < b → ∀ c, c < n → (∀ d, d < n → bad4 r a x c d = false) ∧ bad3 r a x c = false) (fun i _ => n - (intOf i).toNat)
      case atStart => exact ⟨0, by omega, rfl, hR, fun x hx => by omega⟩
      case round =>
        clear hR
        obtain ⟨b, hb, rfl, hR, h2⟩ := hrel
        have H2 := Lib.hid h2
        clear h2
        by_cases hbn : b < n
        · have s0 := hR.rel.size
          have HR := Lib.hid hR
          clear hR
          go_wp2_with fail
          have hR := HR.out
          clear HR s0
          obtain ⟨wo2, rfl⟩ : ∃ wo : World, wo = wr := ⟨_, rfl⟩
          go_loopw [19] (fun i wr => ∃ c : Nat, c ≤ n ∧ i = .int .i64 c ∧ FsR w n r wr ∧ ∀ x, x < c → (∀ d, d < n → bad4 r a b x d = false) ∧ bad3 r a b x = false) (fun i _ => n - (intOf i).toNat)
          case atStart => exact ⟨0, by omega, rfl, hR, fun x hx => by omega⟩
          case round =>
            clear hR
            obtain ⟨c, hc, rfl, hR, h3⟩ := hrel
            have H3 := Lib.hid h3
            clear h3
            by_cases hcn : c < n
            · have s0 := hR.rel.size
              have HR := Lib.hid hR
              clear hR
              go_wp2_with fail
              have hR := HR.out
              clear HR s0
              obtain ⟨wo3, rfl⟩ : ∃ wo : World, wo = wr := ⟨_, rfl⟩
              go_loopw [24] (fun i wr => ∃ d : Nat, d ≤ n ∧ i = .int .i64 d ∧ FsR w n r wr ∧ ∀ x, x < d → bad4 r a b c x = false) (fun i _ => n - (intOf i).toNat)
              case atStart => exact ⟨0, by omega, rfl, hR, fun x hx => by omega⟩
              case round =>
                clear hR
                obtain ⟨d, hd, rfl, hR, h4⟩ := hrel
                have H4 := Lib.hid h4
                clear h4
                by_cases hdn : d < n
                · have c0 := hR.rel.size
                  obtain ⟨c1, c2, c3, c4, c5, c6, c7, c8, c9, c10, c11, c12⟩ := hR.rel.rows
                  have HR := Lib.hid hR
                  clear hR
                  have a12 : a < 12 := by omega
                  have c12' : c < 12 := by omega
                  have b15 : b ≤ 15 := by omega
                  have d15 : d ≤ 15 := by omega
                  have a15 : a ≤ 15 := by omega
                  have HN := Lib.hid (And.intro han (And.intro hbn (And.intro hcn hdn)))
                  cases e1 : (r a).testBit a
                  · cases e2 : (r a).testBit b
                    · have hbad : bad4 r a b c d = false := by simp [bad4, e1, e2]
                      have HB := Lib.hid hbad
                      clear hbad
                      go_wp2_with (go_at_call 27; refine (ahead_any _ r _ _ _ (by omega) (by omega)).mono ?_; rintro e w' ⟨rfl, hb'⟩; clear c0 c1 c2 c3 c4 c5 c6 c7 c8 c9 c10 c11 c12; have hR' := HR.out.next hb'; have c0 := hR'.rel.size; obtain ⟨c1, c2, c3, c4, c5, c6, c7, c8, c9, c10, c11, c12⟩ := hR'.rel.rows; have HR := Lib.hid hR'; clear hR' hb')
                      go_roundw
                      case rel => exact ⟨d + 1, by omega, by go_num, HR.out, fun x hx => (Nat.lt_or_ge x d).elim (fun h => H4.out x h) (fun h => by
                        obtain rfl : x = d := by omega
                        exact HB.out)⟩
                      case measure => simp [intOf]; omega
                    · cases e3 : (r c).testBit d
                      · have hbad : bad4 r a b c d = false := by simp [bad4, e1, e2, e3]
                        have HB := Lib.hid hbad
                        clear hbad
                        go_wp2_with (go_at_call 27; refine (ahead_any _ r _ _ _ (by omega) (by omega)).mono ?_; rintro e w' ⟨rfl, hb'⟩; clear c0 c1 c2 c3 c4 c5 c6 c7 c8 c9 c10 c11 c12; have hR' := HR.out.next hb'; have c0 := hR'.rel.size; obtain ⟨c1, c2, c3, c4, c5, c6, c7, c8, c9, c10, c11, c12⟩ := hR'.rel.rows; have HR := Lib.hid hR'; clear hR' hb')
                        go_roundw
                        case rel => exact ⟨d + 1, by omega, by go_num, HR.out, fun x hx => (Nat.lt_or_ge x d).elim (fun h => H4.out x h) (fun h => by
                          obtain rfl : x = d := by omega
                          exact HB.out)⟩
                        case measure => simp [intOf]; omega
                      · cases e4 : (r a).testBit d
                        · cases e5 : (r c).testBit b
                          · have hbad : bad4 r a b c d = true := by simp [bad4, e1, e2, e3, e4, e5]
                            have HB := Lib.hid hbad
                            clear hbad
                            go_wp2_with (go_at_call 27; refine (ahead_any _ r _ _ _ (by omega) (by omega)).mono ?_; rintro e w' ⟨rfl, hb'⟩; clear c0 c1 c2 c3 c4 c5 c6 c7 c8 c9 c10 c11 c12; have hR' := HR.out.next hb'; have c0 := hR'.rel.size; obtain ⟨c1, c2, c3, c4, c5, c6, c7, c8, c9, c10, c11, c12⟩ := hR'.rel.rows; have HR := Lib.hid hR'; clear hR' hb')
                            go_ret
                            refine ⟨HR.out.below, Or.inr ⟨rfl, fun hs => ?_⟩⟩
                            have h0 := (hs a HN.out.1 b HN.out.2.1 c HN.out.2.2.1).1 d HN.out.2.2.2
                            rw [HB.out] at h0
                            cases h0
                          · have hbad : bad4 r a b c d = false := by simp [bad4, e1, e2, e3, e4, e5]
                            have HB := Lib.hid hbad
                            clear hbad
                            go_wp2_with (go_at_call 27; refine (ahead_any _ r _ _ _ (by omega) (by omega)).mono ?_; rintro e w' ⟨rfl, hb'⟩; clear c0 c1 c2 c3 c4 c5 c6 c7 c8 c9 c10 c11 c12; have hR' := HR.out.next hb'; have c0 := hR'.rel.size; obtain ⟨c1, c2, c3, c4, c5, c6, c7, c8, c9, c10, c11, c12⟩ := hR'.rel.rows; have HR := Lib.hid hR'; clear hR' hb')
                            go_roundw
                            case rel => exact ⟨d + 1, by omega, by go_num, HR.out, fun x hx => (Nat.lt_or_ge x d).elim (fun h => H4.out x h) (fun h => by
                              obtain rfl : x = d := by omega
                              exact HB.out)⟩
                            case measure => simp [intOf]; omega
                        · have hbad : bad4 r a b c d = false := by simp [bad4, e1, e2, e3, e4]
                          have HB := Lib.hid hbad
                          clear hbad
                          go_wp2_with (go_at_call 27; refine (ahead_any _ r _ _ _ (by omega) (by omega)).mono ?_; rintro e w' ⟨rfl, hb'⟩; clear c0 c1 c2 c3 c4 c5 c6 c7 c8 c9 c10 c11 c12; have hR' := HR.out.next hb'; have c0 := hR'.rel.size; obtain ⟨c1, c2, c3, c4, c5, c6, c7, c8, c9, c10, c11, c12⟩ := hR'.rel.rows; have HR := Lib.hid hR'; clear hR' hb')
                          go_roundw
                          case rel => exact ⟨d + 1, by omega, by go_num, HR.out, fun x hx => (Nat.lt_or_ge x d).elim (fun h => H4.out x h) (fun h => by
                            obtain rfl : x = d := by omega
                            exact HB.out)⟩
                          case measure => simp [intOf]; omega
                  · have hbad : bad4 r a b c d = true := by simp [bad4, e1]
                    have HB := Lib.hid hbad
                    clear hbad
                    go_wp2_with (go_at_call 27; refine (ahead_any _ r _ _ _ (by omega) (by omega)).mono ?_; rintro e w' ⟨rfl, hb'⟩; clear c0 c1 c2 c3 c4 c5 c6 c7 c8 c9 c10 c11 c12; have hR' := HR.out.next hb'; have c0 := hR'.rel.size; obtain ⟨c1, c2, c3, c4, c5, c6, c7, c8, c9, c10, c11, c12⟩ := hR'.rel.rows; have HR := Lib.hid hR'; clear hR' hb')
                    go_ret
                    refine ⟨HR.out.below, Or.inr ⟨rfl, fun hs => ?_⟩⟩
                    have h0 := (hs a HN.out.1 b HN.out.2.1 c HN.out.2.2.1).1 d HN.out.2.2.2
                    rw [HB.out] at h0
                    cases h0
                · obtain rfl : d = n := by omega
                  have c0 := hR.rel.size
                  obtain ⟨c1, c2, c3, c4, c5, c6, c7, c8, c9, c10, c11, c12⟩ := hR.rel.rows
                  have HR := Lib.hid hR
                  clear hR
                  have HN := Lib.hid (And.intro han (And.intro hbn hcn))
                  have a12 : a < 12 := by omega
                  have b12 : b < 12 := by omega
                  have c15 : c ≤ 15 := by omega
                  have b15 : b ≤ 15 := by omega
                  cases e1 : (r a).testBit b
                  · have hbad : bad3 r a b c = false := by simp [bad3, e1]
                    have HB := Lib.hid hbad
                    clear hbad
                    go_wp2_with (go_at_call 27; refine (ahead_any _ r _ _ _ (by omega) (by omega)).mono ?_; rintro e w' ⟨rfl, hb'⟩; clear c0 c1 c2 c3 c4 c5 c6 c7 c8 c9 c10 c11 c12; have hR' := HR.out.next hb'; have c0 := hR'.rel.size; obtain ⟨c1, c2, c3, c4, c5, c6, c7, c8, c9, c10, c11, c12⟩ := hR'.rel.rows; have HR := Lib.hid hR'; clear hR' hb')
                    go_roundw
                    case rel => exact ⟨c + 1, by omega, by go_num, HR.out, fun x hx => (Nat.lt_or_ge x c).elim (fun h => H3.out x h) (fun h => by
                      obtain rfl : x = c := by omega
                      exact ⟨H4.out, HB.out⟩)⟩
                    case measure => simp [intOf]; omega
                  · cases e2 : (r b).testBit c
                    · have hbad : bad3 r a b c = false := by simp [bad3, e1, e2]
                      have HB := Lib.hid hbad
                      clear hbad
                      go_wp2_with (go_at_call 27; refine (ahead_any _ r _ _ _ (by omega) (by omega)).mono ?_; rintro e w' ⟨rfl, hb'⟩; clear c0 c1 c2 c3 c4 c5 c6 c7 c8 c9 c10 c11 c12; have hR' := HR.out.next hb'; have c0 := hR'.rel.size; obtain ⟨c1, c2, c3, c4, c5, c6, c7, c8, c9, c10, c11, c12⟩ := hR'.rel.rows; have HR := Lib.hid hR'; clear hR' hb')
                      go_roundw
                      case rel => exact ⟨c + 1, by omega, by go_num, HR.out, fun x hx => (Nat.lt_or_ge x c).elim (fun h => H3.out x h) (fun h => by
                        obtain rfl : x = c := by omega
                        exact ⟨H4.out, HB.out⟩)⟩
                      case measure => simp [intOf]; omega
                    · cases e3 : (r a).testBit c
                      · have hbad : bad3 r a b c = true := by simp [bad3, e1, e2, e3]
                        have HB := Lib.hid hbad
                        clear hbad
                        go_wp2_with (go_at_call 27; refine (ahead_any _ r _ _ _ (by omega) (by omega)).mono ?_; rintro e w' ⟨rfl, hb'⟩; clear c0 c1 c2 c3 c4 c5 c6 c7 c8 c9 c10 c11 c12; have hR' := HR.out.next hb'; have c0 := hR'.rel.size; obtain ⟨c1, c2, c3, c4, c5, c6, c7, c8, c9, c10, c11, c12⟩ := hR'.rel.rows; have HR := Lib.hid hR'; clear hR' hb')
                        go_ret
                        refine ⟨HR.out.below, Or.inr ⟨rfl, fun hs => ?_⟩⟩
                        have h0 := (hs a HN.out.1 b HN.out.2.1 c HN.out.2.2).2
                        rw [HB.out] at h0
                        cases h0
                      · have hbad : bad3 r a b c = false := by simp [bad3, e1, e2, e3]
                        have HB := Lib.hid hbad
                        clear hbad
                        go_wp2_with (go_at_call 27; refine (ahead_any _ r _ _ _ (by omega) (by omega)).mono ?_; rintro e w' ⟨rfl, hb'⟩; clear c0 c1 c2 c3 c4 c5 c6 c7 c8 c9 c10 c11 c12; have hR' := HR.out.next hb'; have c0 := hR'.rel.size; obtain ⟨c1, c2, c3, c4, c5, c6, c7, c8, c9, c10, c11, c12⟩ := hR'.rel.rows; have HR := Lib.hid hR'; clear hR' hb')
                        go_roundw
                        case rel => exact ⟨c + 1, by omega, by go_num, HR.out, fun x hx => (Nat.lt_or_ge x c).elim (fun h => H3.out x h) (fun h => by
                          obtain rfl : x = c := by omega
                          exact ⟨H4.out, HB.out⟩)⟩
                        case measure => simp [intOf]; omega
            · obtain rfl : c = n := by omega
              have HR := Lib.hid hR
              clear hR
              go_wp2_with fail
              go_roundw
              case rel => exact ⟨b + 1, by omega, by go_num, HR.out, fun x hx => (Nat.lt_or_ge x b).elim (fun h => H2.out x h) (fun h => by
                obtain rfl : x = b := by omega
                exact H3.out)⟩
              case measure => simp [intOf]; omega
        · obtain rfl : b = n := by omega
          have HR := Lib.hid hR
          clear hR
          go_wp2_with fail
          go_roundw
          case rel => exact ⟨a + 1, by omega, by go_num, HR.out, fun x hx => (Nat.lt_or_ge x a).elim (fun h => H1.out x h) (fun h => by
            obtain rfl : x = a := by omega
            exact H2.out)⟩
          case measure => simp [intOf]; omega
    · obtain rfl : a = n := by omega
      have s0 := hR.rel.size
      have HR := Lib.hid hR
      clear hR
      go_wp2_with fail
      go_ret
      exact ⟨HR.out.below, Or.inl ⟨rfl, H1.out⟩⟩
end Go.Proofs.Ytfjanniojphdoaa
