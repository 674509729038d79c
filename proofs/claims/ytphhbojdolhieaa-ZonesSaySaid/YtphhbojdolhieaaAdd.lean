/-
  Contract of (*history.record).add.
-/
import Derived.Test.YtphhbojdolhieaaInvoke
namespace Go.Proofs.Ytphhbojdolhieaa
open Go.RowKit
set_option maxRecDepth 20000
set_option maxHeartbeats 4000000 in
theorem add_any {g : Nat} {tv : Value} {ts : List Int} {cs : List Cl} {w : World} (h : RecS g tv ts cs w) (n : Nat) (x : Ev) (hlen : cs.length ≤ 200) :
    Calls Try.prog 33 #[.pointer (some ⟨g, 0, none⟩), .int .i64 n, evV x] w (Did g tv ts w (step ts n cs x)) := by
  obtain ⟨who, thing, kind, val⟩ := x
  have HR := Lib.hid h
  obtain ⟨⟨cv, b, c, h1, h2, h3⟩, h4⟩ := h
  have HI := Lib.hid (EvSt.start (x := ⟨who, thing, kind, val⟩) h1 h2 h4)
  obtain ⟨At, capt, rfl, m1, m2⟩ := h4.is
  obtain ⟨Ac, capc, rfl, m3, m4⟩ := h2.rd.is
  clear h1 h2 h3 h4
  unfold maxLen at m2 m4
  have hgl := HR.out.lt
  have er : step ts n cs ⟨who, thing, kind, val⟩ = if ¬ (0 ≤ who ∧ who ≤ 7) ∨ ¬ (0 ≤ thing ∧ thing < ts.length) then .inl 3 else if kind = 0 then respS n cs ⟨who, thing, kind, val⟩ else invS ts n cs ⟨who, thing, kind, val⟩ := rfl
  generalize step ts n cs ⟨who, thing, kind, val⟩ = s at er ⊢
  have HS := Lib.hid er
  have hw : IntKind.i64.wrap ((ts.length : Int) - 1) = (ts.length : Int) - 1 := by rw [IntKind.wrap_i64]; omega
  have HRA := Lib.hid (HR.out.next ((Below.refl _ _).alloc (Nat.le_refl _) (.cells (evCs ⟨who, thing, kind, val⟩).toArray 55)))
  clear er HR
  go_enter Try.func33, Try.ntmps33
  go_wp2_with fail
  have HI' := HI.out
  have HRA' := HRA.out
  clear HI HRA
  generalize w.heap.size = P at HI' ⊢
  change Code.wp _ _ _ _ (w.alloc (.cells #[.int .i64 who, .int .i64 thing, .int .i64 kind, .int .i64 val] 55))
  generalize w.alloc (.cells #[.int .i64 who, .int .i64 thing, .int .i64 kind, .int .i64 val] 55) = W at HI' HRA' ⊢
  obtain ⟨d0, d1, d2, d3⟩ := HI'.cells
  have r0 := HI'.rc.types
  have HB := Lib.hid HI'
  have HR := Lib.hid HRA'
  clear HI' HRA'
  cases c1 : btw 0 who 7
  · have C1 := Lib.hid c1
    go_quiet ((go_at_call 47; exact quiet_left (within_any _ _ _ _)))
    go_wp2_with fail
    go_ret
    have e := HS.out
    rw [if_pos (Or.inl (btw_not.1 C1.out))] at e
    rw [e]
    exact ⟨belowN HB.out.below _, rfl⟩
  · have C1 := Lib.hid c1
    cases c2 : btw 0 thing ((ts.length : Int) - 1)
    · have C2 := Lib.hid c2
      go_quiet ((go_at_call 47; exact quiet_left (within_any _ _ _ _)))
      go_wp2_with fail
      go_ret
      have e := HS.out
      have hn := btw_not.1 C2.out
      rw [if_pos (Or.inr (by omega))] at e
      rw [e]
      exact ⟨belowN HB.out.below _, rfl⟩
    · have C2 := Lib.hid c2
      go_quiet ((go_at_call 47; exact quiet_left (within_any _ _ _ _)))
      have e := HS.out
      have hn1 := btw_iff.1 C1.out
      have hn2 := btw_iff.1 C2.out
      rw [if_neg (by omega)] at e
      obtain ⟨p, rfl⟩ : ∃ p : Nat, who = (p : Int) := ⟨who.toNat, by omega⟩
      obtain ⟨q, rfl⟩ : ∃ q : Nat, thing = (q : Int) := ⟨thing.toNat, by omega⟩
      have hp : p < 8 := by omega
      have hq : q < ts.length := by omega
      clear HS hn1 hn2 C1 C2 c1 c2
      have hpl : Below W.heap.size W (W.drewN nq) := belowN (Below.refl _ _) _
      by_cases hk : kind = 0
      · subst hk
        rw [if_pos rfl] at e
        have hc := respond_any (HR.out.next hpl) n ⟨p, q, 0, val⟩ p hp rfl
        rw [← e] at hc
        have HC := Lib.hid hc
        clear hc e
        have HL := Lib.hid hpl
        clear hpl
        go_wp2_with fail
        refine HC.out.mono ?_
        rintro e w' ⟨hb, hd⟩
        have hb' : Below g w w' := HB.out.below.trans ((belowN (Below.refl _ _) _).trans hb)
        cases s with
        | inl r =>
          simp only at hd
          subst hd
          have HX := Lib.hid hb'
          clear hb hb'
          go_wp2_with fail
          go_ret
          exact ⟨HX.out, rfl⟩
        | inr cs' =>
          obtain ⟨rfl, hd⟩ := hd
          have HX := Lib.hid (And.intro hb' hd)
          clear hb hb' hd
          go_wp2_with fail
          go_ret
          exact ⟨HX.out.1, rfl, HX.out.2⟩
      · rw [if_neg hk] at e
        have hz : (kind == 0) = false := by rw [beq_eq_false_iff_ne]; exact hk
        have hc := invoke_any (HR.out.next hpl) n ⟨p, q, kind, val⟩ p q hp rfl hq rfl hlen
        rw [← e] at hc
        have HC := Lib.hid hc
        clear hc e
        have HL := Lib.hid hpl
        clear hpl hk
        go_wp2_with fail
        refine HC.out.mono ?_
        rintro e w' ⟨hb, hd⟩
        have hb' : Below g w w' := HB.out.below.trans ((belowN (Below.refl _ _) _).trans hb)
        cases s with
        | inl r =>
          simp only at hd
          subst hd
          have HX := Lib.hid hb'
          clear hb hb'
          go_wp2_with fail
          go_ret
          exact ⟨HX.out, rfl⟩
        | inr cs' =>
          obtain ⟨rfl, hd⟩ := hd
          have HX := Lib.hid (And.intro hb' hd)
          clear hb hb' hd
          go_wp2_with fail
          go_ret
          exact ⟨HX.out.1, rfl, HX.out.2⟩
end Go.Proofs.Ytphhbojdolhieaa
