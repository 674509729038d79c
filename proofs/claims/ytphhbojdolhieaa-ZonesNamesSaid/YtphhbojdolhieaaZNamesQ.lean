/-
  Plain: values one more: what can't be is of the same kind.
-/
import Derived.Test.YtphhbojdolhieaaZNamesP
namespace Go.Proofs.Ytphhbojdolhieaa
open Go.RowKit
set_option maxRecDepth 20000
/-- Two values, each with a call answered ahead of one of the other's, and of one of its own. -/
def CrossP (cs : List Cl) : Prop := ∃ a b, a ≠ b ∧ BefV cs a b ∧ BefV cs b a ∧ BefV cs a a ∧ BefV cs b b
section
variable {n : Nat} {cs : List Cl}
/-- Which kind is told. -/
theorem RegH.kinds (h : RegH n cs) : ((badZ cs).kind = 1 ∧ StrayP cs) ∨ ((badZ cs).kind = 3 ∧ ¬ StrayP cs ∧ EarlyP cs) ∨ ((badZ cs).kind = 4 ∧ ¬ StrayP cs ∧ ¬ EarlyP cs ∧ CrossP cs) ∨ ((badZ cs).kind = 5 ∧ ¬ StrayP cs ∧ ¬ EarlyP cs ∧ ¬ CrossP cs ∧ TwoP cs) ∨ ((badZ cs).kind = 0 ∧ ¬ StrayP cs ∧ ¬ EarlyP cs ∧ ¬ CrossP cs ∧ ¬ TwoP cs) := by
  rcases h.bad with ⟨h1, _, h2, h3, h4⟩ | ⟨h1, i, c, _, _, _, _, e⟩ | ⟨h0, h1, i, c, j, d, _, _, _, _, _, e⟩ | ⟨h0, h1, a, ha, b, hb, hne, fa, fb, hl, e⟩ | ⟨h0, h1, hno, a, ha, b, hb, hne, fa, fb, hl, e⟩
  · exact .inr (.inr (.inr (.inr ⟨h1, h2, h3, fun ⟨a, b, k1, k2, k3, _⟩ => h4 ⟨a, b, k1, k2, k3⟩, h4⟩)))
  · exact .inl ⟨by rw [e], h1⟩
  · exact .inr (.inl ⟨by rw [e], h0, h1⟩)
  · obtain ⟨k1, k2, _⟩ := h.laps a ha b hb hne hl
    have za := h.zone_pair ha ha
    have zb := h.zone_pair hb hb
    rw [fa] at za
    rw [fb] at zb
    exact .inr (.inr (.inl ⟨by rw [e], h0, h1, a.value, b.value, hne, k1, k2, za.1.1 (of_decide_eq_true za.2.symm), zb.1.1 (of_decide_eq_true zb.2.symm)⟩))
  · obtain ⟨k1, k2, _⟩ := h.laps a ha b hb hne hl
    refine .inr (.inr (.inr (.inl ⟨by rw [e], h0, h1, ?_, _, _, hne, k1, k2⟩)))
    rintro ⟨x, y, hxy, q1, q2, q3, q4⟩
    obtain ⟨zx, hx, hxv⟩ := h.zone_two h0 q1 q2
    obtain ⟨zy, hy, hyv⟩ := h.zone_two h0 q2 q1
    have e1 : lapZ zx zy = true := by
      unfold lapZ
      rw [decide_eq_true_iff]
      exact ⟨(h.zone_pair hx hy).1.2 (by rw [hxv, hyv]; exact q1), (h.zone_pair hy hx).1.2 (by rw [hxv, hyv]; exact q2)⟩
    have e2 : zx.fwd = true := by rw [(h.zone_pair hx hx).2, decide_eq_true_iff]; exact (h.zone_pair hx hx).1.2 (by rw [hxv]; exact q3)
    have e3 : zy.fwd = true := by rw [(h.zone_pair hy hy).2, decide_eq_true_iff]; exact (h.zone_pair hy hy).1.2 (by rw [hyv]; exact q4)
    have := hno zx hx zy hy (by rw [hxv, hyv]; exact hxy)
    rw [e1, e2, e3] at this
    cases this
end
def phiV (k v : Int) : Int := if v = 0 then 0 else v + k
theorem phi_inj {k a b : Int} (hk : 0 ≤ k) (ha : 0 ≤ a) (hb : 0 ≤ b) : phiV k a = phiV k b ↔ a = b := by
  unfold phiV
  split <;> split <;> omega
theorem phi_zero {k a : Int} (hk : 0 ≤ k) (ha : 0 ≤ a) : phiV k a = 0 ↔ a = 0 := by
  unfold phiV
  split <;> omega
section
variable {k : Int} {cs : List Cl}
/-- What is known of calls of a register. -/
def RgV (cs : List Cl) : Prop := ∀ c ∈ cs, (c.kind = 1 ∧ 1 ≤ c.arg) ∨ (c.kind = 2 ∧ (c.til ≠ -1 → 0 ≤ c.res))
theorem sh_has (hk : 0 ≤ k) (hg : RgV cs) {c : Cl} (hc : c ∈ cs) {v : Int} (hv : 0 ≤ v) : hasV (phiV k v) (shC k c) = true ↔ hasV v c = true := by
  rw [hasV_iff, hasV_iff]
  rcases hg c hc with ⟨h1, h2⟩ | ⟨h1, h2⟩
  · have e : (shC k c).arg = c.arg + k := by unfold shC; simp [h1]
    have e2 : (shC k c).kind = c.kind := rfl
    rw [e, e2]
    unfold phiV
    split <;> omega
  · have e : (shC k c).til ≠ -1 → (shC k c).res = phiV k c.res := by
      intro ht
      have ht : c.til ≠ -1 := ht
      unfold shC phiV
      simp only
      by_cases h0 : c.res = 0
      · rw [if_neg (fun h => h.2.2 h0), if_pos h0, h0]
      · rw [if_pos ⟨h1, ht, h0⟩, if_neg h0]
    have e2 : (shC k c).kind = c.kind := rfl
    have e3 : (shC k c).til = c.til := rfl
    rw [e2, e3]
    constructor
    · rintro (h | ⟨h3, h4, h5⟩)
      · omega
      · rw [e h4] at h5
        exact .inr ⟨h3, h4, (phi_inj hk (h2 h4) hv).1 h5⟩
    · rintro (h | ⟨h3, h4, h5⟩)
      · omega
      · exact .inr ⟨h3, h4, by rw [e h4, h5]⟩
theorem sh_val (hg : RgV cs) {c : Cl} (hc : c ∈ cs) {v : Int} (hv : hasV v (shC k c) = true) : ∃ u, 0 ≤ u ∧ v = phiV k u ∧ hasV u c = true := by
  have hv2 := hv
  rw [hasV_iff] at hv
  rcases hg c hc with ⟨h1, h2⟩ | ⟨h1, h2⟩
  · have e : (shC k c).arg = c.arg + k := by unfold shC; simp [h1]
    have e2 : (shC k c).kind = c.kind := rfl
    rw [e, e2] at hv
    refine ⟨c.arg, by omega, ?_, hasV_iff.2 (.inl ⟨h1, rfl⟩)⟩
    unfold phiV
    rw [if_neg (by omega)]
    omega
  · have e2 : (shC k c).kind = c.kind := rfl
    have e3 : (shC k c).til = c.til := rfl
    rw [e2, e3] at hv
    rcases hv with h | ⟨h3, h4, h5⟩
    · omega
    · refine ⟨c.res, h2 h4, ?_, hasV_iff.2 (.inr ⟨h3, h4, rfl⟩)⟩
      rw [← h5]
      unfold shC phiV
      simp only
      by_cases h0 : c.res = 0
      · rw [if_neg (fun h => h.2.2 h0), if_pos h0, h0]
      · rw [if_pos ⟨h1, h4, h0⟩, if_neg h0]
theorem sh_bef (hk : 0 ≤ k) (hg : RgV cs) {a b : Int} (ha : 0 ≤ a) (hb : 0 ≤ b) : BefV (cs.map (shC k)) (phiV k a) (phiV k b) ↔ BefV cs a b := by
  constructor
  · rintro ⟨y, hy, h1, h2⟩
    obtain ⟨y, hy2, rfl⟩ := List.mem_map.1 hy
    refine ⟨y, hy2, (sh_has hk hg hy2 hb).1 h1, ?_⟩
    rcases h2 with h2 | ⟨x, hx, h3, h4, h5⟩
    · exact .inl ((phi_zero hk ha).1 h2)
    · obtain ⟨x, hx2, rfl⟩ := List.mem_map.1 hx
      exact .inr ⟨x, hx2, (sh_has hk hg hx2 ha).1 h3, h4, h5⟩
  · rintro ⟨y, hy, h1, h2⟩
    refine ⟨_, List.mem_map.2 ⟨y, hy, rfl⟩, (sh_has hk hg hy hb).2 h1, ?_⟩
    rcases h2 with h2 | ⟨x, hx, h3, h4, h5⟩
    · exact .inl ((phi_zero hk ha).2 h2)
    · exact .inr ⟨_, List.mem_map.2 ⟨x, hx, rfl⟩, (sh_has hk hg hx ha).2 h3, h4, h5⟩
theorem sh_back (hg : RgV cs) {a b : Int} (h : BefV (cs.map (shC k)) a b) : ∃ u, 0 ≤ u ∧ b = phiV k u := by
  obtain ⟨y, hy, h1, _⟩ := h
  obtain ⟨y, hy2, rfl⟩ := List.mem_map.1 hy
  obtain ⟨u, h2, h3, _⟩ := sh_val hg hy2 h1
  exact ⟨u, h2, h3⟩
theorem bef_pos (hg : RgV cs) {a b : Int} (h : BefV cs a b) : 0 ≤ b := by
  obtain ⟨y, hy, h1, _⟩ := h
  rcases hasV_iff.1 h1 with h2 | h2
  · rcases hg y hy with h3 | h3 <;> omega
  · rcases hg y hy with h3 | h3
    · omega
    · rw [← h2.2.2]; exact h3.2 h2.2.1
theorem sh_two (hk : 0 ≤ k) (hg : RgV cs) : TwoP (cs.map (shC k)) ↔ TwoP cs := by
  constructor
  · rintro ⟨a, b, h1, h2, h3⟩
    obtain ⟨u, hu, rfl⟩ := sh_back hg h3
    obtain ⟨v, hv, rfl⟩ := sh_back hg h2
    exact ⟨u, v, fun e => h1 (by rw [e]), (sh_bef hk hg hu hv).1 h2, (sh_bef hk hg hv hu).1 h3⟩
  · rintro ⟨a, b, h1, h2, h3⟩
    have ha := bef_pos hg h3
    have hb := bef_pos hg h2
    exact ⟨phiV k a, phiV k b, fun e => h1 ((phi_inj hk ha hb).1 e), (sh_bef hk hg ha hb).2 h2, (sh_bef hk hg hb ha).2 h3⟩
theorem sh_cross (hk : 0 ≤ k) (hg : RgV cs) : CrossP (cs.map (shC k)) ↔ CrossP cs := by
  constructor
  · rintro ⟨a, b, h1, h2, h3, h4, h5⟩
    obtain ⟨u, hu, rfl⟩ := sh_back hg h3
    obtain ⟨v, hv, rfl⟩ := sh_back hg h2
    exact ⟨u, v, fun e => h1 (by rw [e]), (sh_bef hk hg hu hv).1 h2, (sh_bef hk hg hv hu).1 h3, (sh_bef hk hg hu hu).1 h4, (sh_bef hk hg hv hv).1 h5⟩
  · rintro ⟨a, b, h1, h2, h3, h4, h5⟩
    have ha := bef_pos hg h3
    have hb := bef_pos hg h2
    exact ⟨phiV k a, phiV k b, fun e => h1 ((phi_inj hk ha hb).1 e), (sh_bef hk hg ha hb).2 h2, (sh_bef hk hg hb ha).2 h3, (sh_bef hk hg ha ha).2 h4, (sh_bef hk hg hb hb).2 h5⟩
theorem sh_read (hg : RgV cs) {c : Cl} (hc : c ∈ cs) : (isR (shC k c) = true ↔ isR c = true) ∧ (isR c = true → (shC k c).res = phiV k c.res ∧ 0 ≤ c.res) := by
  refine ⟨by rw [isR_iff, isR_iff]; exact Iff.rfl, fun h => ?_⟩
  obtain ⟨h1, h2⟩ := isR_iff.1 h
  have h3 : 0 ≤ c.res := by rcases hg c hc with h3 | h3; omega; exact h3.2 h2
  refine ⟨?_, h3⟩
  unfold shC phiV
  simp only
  by_cases h0 : c.res = 0
  · rw [if_neg (fun h => h.2.2 h0), if_pos h0, h0]
  · rw [if_pos ⟨h1, h2, h0⟩, if_neg h0]
theorem sh_isW (hk : 0 ≤ k) (hg : RgV cs) {c : Cl} (hc : c ∈ cs) {v : Int} : isW (phiV k v) (shC k c) = true ↔ isW v c = true := by
  rw [isW_iff, isW_iff]
  have e2 : (shC k c).kind = c.kind := rfl
  rw [e2]
  rcases hg c hc with ⟨h1, h2⟩ | ⟨h1, h2⟩
  · have e : (shC k c).arg = c.arg + k := by unfold shC; simp [h1]
    rw [e]
    unfold phiV
    split <;> omega
  · constructor <;> (rintro ⟨h3, _⟩; omega)
theorem sh_stray (hk : 0 ≤ k) (hg : RgV cs) : StrayP (cs.map (shC k)) ↔ StrayP cs := by
  constructor
  · rintro ⟨x, hx, h1, h2, h3⟩
    obtain ⟨x, hx2, rfl⟩ := List.mem_map.1 hx
    have hr := sh_read (k := k) hg hx2
    have h1 := hr.1.1 h1
    obtain ⟨e, h0⟩ := hr.2 h1
    rw [e] at h2 h3
    refine ⟨x, hx2, h1, fun h => h2 ((phi_zero hk h0).2 h), fun c hc => ?_⟩
    rw [Bool.eq_false_iff]
    intro hw
    have := h3 _ (List.mem_map.2 ⟨c, hc, rfl⟩)
    rw [(sh_isW hk hg hc).2 hw] at this
    cases this
  · rintro ⟨x, hx, h1, h2, h3⟩
    have hr := sh_read (k := k) hg hx
    obtain ⟨e, h0⟩ := hr.2 h1
    refine ⟨_, List.mem_map.2 ⟨x, hx, rfl⟩, hr.1.2 h1, ?_, ?_⟩
    · rw [e]; exact fun h => h2 ((phi_zero hk h0).1 h)
    · rw [e]
      intro c hc
      obtain ⟨c, hc2, rfl⟩ := List.mem_map.1 hc
      rw [Bool.eq_false_iff]
      intro hw
      have := h3 c hc2
      rw [(sh_isW hk hg hc2).1 hw] at this
      cases this
theorem sh_early (hk : 0 ≤ k) (hg : RgV cs) : EarlyP (cs.map (shC k)) ↔ EarlyP cs := by
  constructor
  · rintro ⟨x, hx, h1, h2, c, hc, h3, h4⟩
    obtain ⟨x, hx2, rfl⟩ := List.mem_map.1 hx
    obtain ⟨c, hc2, rfl⟩ := List.mem_map.1 hc
    have hr := sh_read (k := k) hg hx2
    have h1 := hr.1.1 h1
    obtain ⟨e, h0⟩ := hr.2 h1
    rw [e] at h2 h3
    exact ⟨x, hx2, h1, fun h => h2 ((phi_zero hk h0).2 h), c, hc2, (sh_isW hk hg hc2).1 h3, h4⟩
  · rintro ⟨x, hx, h1, h2, c, hc, h3, h4⟩
    have hr := sh_read (k := k) hg hx
    obtain ⟨e, h0⟩ := hr.2 h1
    refine ⟨_, List.mem_map.2 ⟨x, hx, rfl⟩, hr.1.2 h1, ?_, _, List.mem_map.2 ⟨c, hc, rfl⟩, ?_, h4⟩
    · rw [e]; exact fun h => h2 ((phi_zero hk h0).1 h)
    · rw [e]; exact (sh_isW hk hg hc).2 h3
theorem sh_kind (hk : 0 ≤ k) (hg : RgV cs) {n m : Nat} (h1 : RegH n cs) (h2 : RegH m (cs.map (shC k))) : (badZ (cs.map (shC k))).kind = (badZ cs).kind := by
  have e1 := sh_stray hk hg
  have e2 := sh_early hk hg
  have e3 := sh_cross hk hg
  have e4 := sh_two hk hg
  rcases h1.kinds with a | a | a | a | a <;> rcases h2.kinds with b | b | b | b | b <;> rw [e1] at b <;> (try rw [e2] at b) <;> (try rw [e3] at b) <;> (try rw [e4] at b) <;> first
    | (rw [a.1, b.1]; done)
    | (exfalso; exact a.2.1 b.2)
    | (exfalso; exact b.2.1 a.2)
    | (exfalso; exact a.2.2.1 b.2.2)
    | (exfalso; exact b.2.2.1 a.2.2)
    | (exfalso; exact a.2.2.2.1 b.2.2.2)
    | (exfalso; exact b.2.2.2.1 a.2.2.2)
    | (exfalso; exact a.2.2.2.2 b.2.2.2.2)
    | (exfalso; exact b.2.2.2.2 a.2.2.2.2)
end
/-- The calls of the events with values one more. -/
theorem calls_sh {k : Int} {l : List Ev} (h : zonesE l = 0) (hm : zonesE (shE k (callsOf [1] l).1 l) = 0) : (callsOf [1] (shE k (callsOf [1] l).1 l)).1 = (callsOf [1] l).1.map (shC k) := by
  have h1 := (zonesE_calls h).1
  have m1 := (zonesE_calls hm).1
  have e := (calls_zero h1).2.2
  have em := (calls_zero m1).2.2
  rw [em] at m1 ⊢
  have hr := zonesE_reg h
  rw [e] at h1 m1 hr ⊢
  have := run_sh (k := k) h1 (fun c hc => by rcases hr.kind hc with a | a; exact .inl a.1; exact .inr a.1) l.length (Nat.le_refl _) (by
    rw [List.take_of_length_le (by rw [shE_len]; exact Nat.le_refl _)]; exact m1)
  rwa [List.take_of_length_le (by rw [shE_len]; exact Nat.le_refl _), List.take_length] at this
end Go.Proofs.Ytphhbojdolhieaa
