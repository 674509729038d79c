/-
  Plain: of a history of a register in which nothing can't be each begin is so.
-/
import Derived.Test.YtphhbojdolhieaaZOpenP
import Derived.Test.YtphhbojdolhieaaFrontPure
namespace Go.Proofs.Ytphhbojdolhieaa
open Go.RowKit
set_option maxRecDepth 20000

section
variable {m : Nat} {d c : List Cl}
theorem Grow.at_ (h : Grow m d c) {i : Nat} {x : Cl} (hx : d[i]? = some x) : ∃ y, c[i]? = some y ∧ x = before_ m y := by
  have hi := (List.getElem?_eq_some_iff.1 hx).1
  obtain ⟨y, hy⟩ : ∃ y, c[i]? = some y := ⟨_, List.getElem?_eq_getElem (Nat.lt_of_lt_of_le hi h.len)⟩
  exact ⟨y, hy, h.same i x y hx hy⟩
theorem before_same (m : Nat) (y : Cl) : (before_ m y).kind = y.kind ∧ (before_ m y).arg = y.arg ∧ (before_ m y).frm = y.frm := by
  unfold before_
  split <;> exact ⟨rfl, rfl, rfl⟩
theorem before_til {m : Nat} {y : Cl} (h : (before_ m y).til ≠ -1) : before_ m y = y ∧ y.til < (m : Int) := by
  unfold before_ at h ⊢
  split at h
  · exact absurd rfl h
  · rename_i h1
    rw [if_neg h1]
    exact ⟨rfl, by omega⟩
theorem Grow.once (h : Grow m d c) (ho : Once c) : Once d := by
  intro i j x y hx hy k1 k2 he
  obtain ⟨x', hx', rfl⟩ := h.at_ hx
  obtain ⟨y', hy', rfl⟩ := h.at_ hy
  have a := before_same m x'
  have b := before_same m y'
  exact ho i j x' y' hx' hy' (a.1.symm.trans k1) (b.1.symm.trans k2) (by rw [← a.2.1, ← b.2.1]; exact he)
theorem Grow.has (h : Grow m d c) {v : Int} {i : Nat} {x : Cl} (hx : d[i]? = some x) (hv : hasV v x = true) : ∃ y, c[i]? = some y ∧ hasV v y = true ∧ y.frm = x.frm := by
  obtain ⟨y, hy, rfl⟩ := h.at_ hx
  have a := before_same m y
  refine ⟨y, hy, ?_, a.2.2.symm⟩
  rcases hasV_iff.1 hv with h1 | ⟨h1, h2, h3⟩
  · exact hasV_iff.2 (.inl ⟨a.1.symm.trans h1.1, a.2.1.symm.trans h1.2⟩)
  · have e := (before_til h2).1
    rw [e] at h1 h2 h3
    exact hasV_iff.2 (.inr ⟨h1, h2, h3⟩)
theorem Grow.ans (h : Grow m d c) {i : Nat} {x : Cl} (hx : d[i]? = some x) (ht : x.til ≠ -1) : c[i]? = some x ∧ x.til < (m : Int) := by
  obtain ⟨y, hy, rfl⟩ := h.at_ hx
  obtain ⟨e1, e2⟩ := before_til ht
  rw [e1] at ht ⊢
  exact ⟨hy, e2⟩
theorem Grow.bef (h : Grow m d c) {a b : Int} (hb : BefV d a b) : BefV c a b := by
  obtain ⟨y, hy, h1, h2⟩ := hb
  obtain ⟨j, hj, rfl⟩ := List.getElem_of_mem hy
  obtain ⟨y', k1, k2, k3⟩ := h.has (List.getElem?_eq_getElem hj) h1
  refine ⟨y', List.mem_of_getElem? k1, k2, ?_⟩
  rcases h2 with h2 | ⟨x, hx, h3, h4, h5⟩
  · exact .inl h2
  · obtain ⟨i, hi, rfl⟩ := List.getElem_of_mem hx
    have k4 := (h.ans (List.getElem?_eq_getElem hi) h4).1
    exact .inr ⟨_, List.mem_of_getElem? k4, h3, h4, by rw [k3]; exact h5⟩
theorem Grow.early (h : Grow m d c) (he : EarlyP d) : EarlyP c := by
  obtain ⟨x, hx, h1, h2, y, hy, h3, h4⟩ := he
  obtain ⟨i, hi, rfl⟩ := List.getElem_of_mem hx
  obtain ⟨j, hj, rfl⟩ := List.getElem_of_mem hy
  have k1 := (h.ans (List.getElem?_eq_getElem hi) (isR_iff.1 h1).2).1
  obtain ⟨y', k2, e⟩ := h.at_ (List.getElem?_eq_getElem hj)
  have a := before_same m y'
  rw [← e] at a
  refine ⟨_, List.mem_of_getElem? k1, h1, h2, y', List.mem_of_getElem? k2, isW_iff.2 ⟨a.1.symm.trans (isW_iff.1 h3).1, a.2.1.symm.trans (isW_iff.1 h3).2⟩, by rw [← a.2.2]; exact h4⟩
theorem Grow.stray (h : Grow m d c) (hs : StrayP d) : StrayP c ∨ EarlyP c := by
  obtain ⟨x, hx, h1, h2, h3⟩ := hs
  obtain ⟨i, hi, rfl⟩ := List.getElem_of_mem hx
  obtain ⟨k1, k2⟩ := h.ans (List.getElem?_eq_getElem hi) (isR_iff.1 h1).2
  by_cases hw : ∃ y ∈ c, isW (d[i]).res y = true
  · obtain ⟨y, hy, k3⟩ := hw
    obtain ⟨j, hj, rfl⟩ := List.getElem_of_mem hy
    right
    refine ⟨_, List.mem_of_getElem? k1, h1, h2, _, hy, k3, ?_⟩
    rcases Nat.lt_or_ge j d.length with hjd | hjd
    · exfalso
      have e := h.same j d[j] c[j] (List.getElem?_eq_getElem hjd) (List.getElem?_eq_getElem hj)
      have a := before_same m c[j]
      rw [← e] at a
      have := h3 d[j] (List.getElem_mem hjd)
      rw [isW_iff.2 ⟨a.1.trans (isW_iff.1 k3).1, a.2.1.trans (isW_iff.1 k3).2⟩] at this
      cases this
    · have := h.new j c[j] hjd (List.getElem?_eq_getElem hj)
      omega
  · exact .inl ⟨_, List.mem_of_getElem? k1, h1, h2, fun y hy => Bool.eq_false_iff.2 fun k3 => hw ⟨y, hy, k3⟩⟩
end
theorem zfront {l : List Ev} {n : Nat} (hn : n ≤ l.length) (h : zonesE l = 0) (hb : (badZ (callsOf [1] l).1).kind = 0) : zonesE (l.take n) = 0 ∧ (badZ (callsOf [1] (l.take n)).1).kind = 0 := by
  obtain ⟨h1, h2⟩ := zonesE_calls h
  have e := (calls_zero h1).2.2
  have e2 := (calls_run (ts := [1]) (l := l) (by rw [h1]; decide) (by rw [h1]; decide) n).2
  obtain ⟨f1, f2⟩ := front_ok hn (by rw [← e]; exact h1)
  rw [← e, ← e2] at f2
  rw [← e2] at f1
  have ho : zonesE (l.take n) = 0 := by
    unfold zonesE
    rw [if_neg (by rw [f1]; simp), if_pos (once_iff.2 (f2.once (once_iff.1 h2)))]
  refine ⟨ho, ?_⟩
  obtain ⟨s1, s2, s3⟩ := (zonesE_reg h).bad_iff.1 hb
  refine (zonesE_reg ho).bad_iff.2 ⟨fun hs => ?_, fun he => s2 (f2.early he), fun ⟨a, b, hab, k1, k2⟩ => s3 ⟨a, b, hab, f2.bef k1, f2.bef k2⟩⟩
  rcases f2.stray hs with k | k
  · exact s1 k
  · exact s2 k
end Go.Proofs.Ytphhbojdolhieaa
