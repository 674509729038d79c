/-
  Plain: what package zones makes of a history, call after call.
-/
import Derived.Test.YtphhbojdolhieaaZonePure
namespace Go.Proofs.Ytphhbojdolhieaa
open Go.RowKit
set_option maxRecDepth 20000
/-- The error of package zones. -/
def zonesE (l : List Ev) : Int := if (callsOf [1] l).2.2 ≠ 0 then (callsOf [1] l).2.2 else if onceZ (callsOf [1] l).1 = true then 0 else 6
theorem zonesE_calls {l : List Ev} (h : zonesE l = 0) : (callsOf [1] l).2.2 = 0 ∧ onceZ (callsOf [1] l).1 = true := by
  unfold zonesE at h
  split at h
  · rename_i h1; exact absurd h h1
  · rename_i h1
    split at h
    · rename_i h2; exact ⟨Classical.byContradiction h1, h2⟩
    · cases h
theorem zonesE_reg {l : List Ev} (h : zonesE l = 0) : RegH l.length (callsOf [1] l).1 := by
  obtain ⟨h1, h2⟩ := zonesE_calls h
  obtain ⟨h3, h4⟩ := calls_orderly h1
  exact ⟨h3, h4, calls_callOk h1, once_iff.1 h2⟩
/-- What the map holds of the first k calls. -/
def wUp (cs : List Cl) (k : Nat) : Int → Option Zop := wOf (cs.take k)
section
variable {cs : List Cl} {k : Nat} {c : Cl}
theorem wAt_lt {v : Int} : ∀ (cs : List Cl) (k i : Nat), wAt v k cs = some i → i < k + cs.length
  | [], k, i, h => by cases h
  | c :: r, k, i, h => by
    rw [wAt] at h
    split at h
    · injection h with h; simp; omega
    · have := wAt_lt r (k + 1) i h
      simp; omega
theorem wUp_eq (cs : List Cl) (k : Nat) (v : Int) : wUp cs k v = if v = 0 then some ⟨-1, 0, -1, -1⟩ else (wAt v 0 (cs.take k)).map fun i => wrZ i (cs.getD i default) := by
  unfold wUp wOf
  split
  · rfl
  · cases e : wAt v 0 (cs.take k) with
    | none => rfl
    | some i =>
      have hi := wAt_lt (cs.take k) 0 i e
      rw [List.length_take] at hi
      show some (wrZ i ((cs.take k).getD i default)) = some (wrZ i (cs.getD i default))
      rw [List.getD_eq_getElem?_getD, List.getD_eq_getElem?_getD, List.getElem?_take, if_pos (by omega)]
theorem wUp_all (cs : List Cl) (v : Int) : wUp cs cs.length v = wOf cs v := by unfold wUp; rw [List.take_length]
theorem wUp_zero (v : Int) : wUp cs 0 v = if v = 0 then some ⟨-1, 0, -1, -1⟩ else none := by
  rw [wUp_eq]
  split
  · rfl
  · rw [List.take_zero]; rfl
theorem take_snoc (h : cs[k]? = some c) : cs.take (k + 1) = cs.take k ++ [c] := by
  rw [List.take_add_one, h]
  rfl
theorem wAt_snoc {v : Int} (h : cs[k]? = some c) : wAt v 0 (cs.take (k + 1)) = match wAt v 0 (cs.take k) with
    | some i => some i
    | none => if isW v c = true then some k else none := by
  have hk := (List.getElem?_eq_some_iff.1 h).1
  rw [take_snoc h, wAt_append]
  cases wAt v 0 (cs.take k) with
  | some i => rfl
  | none =>
    simp only
    rw [wAt, List.length_take, Nat.min_eq_left (by omega), Nat.zero_add]
    rfl
/-- A call that writes nothing. -/
theorem wUp_other (h : cs[k]? = some c) (hk : c.kind ≠ 1) (v : Int) : wUp cs (k + 1) v = wUp cs k v := by
  rw [wUp_eq, wUp_eq, wAt_snoc h]
  have : isW v c = false := by rw [Bool.eq_false_iff]; intro hw; exact hk (isW_iff.1 hw).1
  rw [this]
  cases wAt v 0 (cs.take k) <;> rfl
/-- A write of what nobody wrote before. -/
theorem wUp_put (h : cs[k]? = some c) (hk : c.kind = 1) (hn : wUp cs k c.arg = none) : (fun v => if v = c.arg then some (wrZ k c) else wUp cs k v) = wUp cs (k + 1) := by
  funext v
  have h0 : c.arg ≠ 0 := by
    intro e
    rw [wUp_eq, if_pos e] at hn
    cases hn
  rw [wUp_eq, if_neg h0, Option.map_eq_none_iff] at hn
  rw [wUp_eq, wUp_eq, wAt_snoc h]
  by_cases hv : v = c.arg
  · subst hv
    rw [if_pos rfl, if_neg h0, hn]
    have : isW c.arg c = true := isW_iff.2 ⟨hk, rfl⟩
    rw [this]
    simp only [if_true, Option.map_some]
    rw [List.getD_eq_getElem?_getD, h]
    rfl
  · rw [if_neg hv]
    have : isW v c = false := by rw [Bool.eq_false_iff]; intro hw; exact hv (isW_iff.1 hw).2.symm
    rw [this]
    cases wAt v 0 (cs.take k) <;> rfl
theorem wUp_some (h : (wUp cs k c.arg).isSome = true) (h0 : c.arg ≠ 0) : ∃ i d, i < k ∧ cs[i]? = some d ∧ isW c.arg d = true := by
  rw [wUp_eq, if_neg h0, Option.isSome_map] at h
  obtain ⟨i, hi⟩ := Option.isSome_iff_exists.1 h
  obtain ⟨_, d, h1, h2⟩ := wAt_some _ 0 i hi
  rw [Nat.sub_zero, List.getElem?_take] at h1
  split at h1
  · rename_i hik; exact ⟨i, d, hik, h1, h2⟩
  · cases h1
/-- A value that was written before: not once. -/
theorem once_not (h : cs[k]? = some c) (hk : c.kind = 1) (h0 : c.arg ≠ 0) (hs : (wUp cs k c.arg).isSome = true) : onceZ cs = false := by
  obtain ⟨i, d, h1, h2, h3⟩ := wUp_some hs h0
  rw [Bool.eq_false_iff]
  intro ho
  have := once_iff.1 ho i k d c h2 h (isW_iff.1 h3).1 hk (isW_iff.1 h3).2
  omega
/-- Where none was: once. -/
theorem once_mk (h : ∀ (k : Nat) (c : Cl), cs[k]? = some c → c.kind = 1 → (wUp cs k c.arg).isSome = false) : onceZ cs = true := by
  rw [once_iff]
  have key : ∀ (i j : Nat) (c d : Cl), i < j → cs[i]? = some c → cs[j]? = some d → c.kind = 1 → d.kind = 1 → c.arg ≠ d.arg := by
    intro i j c d hij hc hd k1 k2 he
    have h1 := h j d hd k2
    rw [wUp_eq] at h1
    split at h1
    · cases h1
    · rw [Option.isSome_map, Option.isSome_eq_false_iff, Option.isNone_iff_eq_none, wAt_none] at h1
      have h2 : c ∈ cs.take j := List.mem_of_getElem? (i := i) (by rw [List.getElem?_take, if_pos hij]; exact hc)
      have h3 := h1 c h2
      rw [isW_iff.2 ⟨k1, he⟩] at h3
      cases h3
  intro i j c d hc hd k1 k2 he
  rcases Nat.lt_trichotomy i j with hij | hij | hij
  · exact absurd he (key i j c d hij hc hd k1 k2)
  · exact hij
  · exact absurd he.symm (key j i d c hij hd hc k2 k1)
/-- The reads of one more call. -/
theorem rds_snoc (h : cs[k]? = some c) : rds 0 (cs.take (k + 1)) = if isR c = true then rds 0 (cs.take k) ++ [rdZ k c] else rds 0 (cs.take k) := by
  have hk := (List.getElem?_eq_some_iff.1 h).1
  rw [take_snoc h, rds_append, rds, List.length_take, Nat.min_eq_left (by omega), Nat.zero_add]
  split
  · rfl
  · rw [show rds (k + 1) [] = [] from rfl, List.append_nil]
theorem rds_len : ∀ (cs : List Cl) (k : Nat), (rds k cs).length ≤ cs.length
  | [], _ => by simp [rds]
  | c :: r, k => by
    rw [rds]
    have := rds_len r (k + 1)
    split <;> simp <;> omega
end
/-- How many there are of a history: no more than events. -/
theorem calls_len {l : List Ev} (h : (callsOf [1] l).2.2 = 0) : (callsOf [1] l).1.length ≤ 200 := by
  obtain ⟨_, h2, e⟩ := calls_zero h
  rw [e]
  have key : ∀ (r : List Ev) (n : Nat) (cs : List Cl), (run [1] n cs r).1.length ≤ cs.length + r.length := by
    intro r
    induction r with
    | nil => intro n cs; simp [run]
    | cons x r ih =>
      intro n cs
      rw [run]
      cases hs : step [1] n cs x with
      | inl e => simp
      | inr cs' =>
        have h1 := ih (n + 1) cs'
        have h2 : cs'.length ≤ cs.length + 1 := by
          unfold step respS invS at hs
          repeat' split at hs
          all_goals (try cases hs)
          all_goals simp
        simp only [List.length_cons] at h1 ⊢
        omega
  have := key l 0 []
  simp at this
  omega
/-- A call of a register writes or reads. -/
theorem callOk_kind {c : Cl} (hk : CallOk [1] c) : (c.kind = 1 ∧ 1 ≤ c.arg ∧ c.arg ≤ 1000) ∨ (c.kind = 2 ∧ c.arg = 0) := by
  have hf := hk.fits
  have ht := hk.takes
  have h0 : c.thing.toNat = 0 := by have := hk.thing; simp at this; omega
  rw [h0] at hf
  unfold fitsB at hf
  rw [decide_eq_true_iff] at hf
  have h1 : (1 : Int) = kindType c.kind := hf.2
  unfold kindType at h1
  have h2 : c.kind = 1 ∨ c.kind = 2 := by
    apply Classical.byContradiction
    intro hn
    rw [if_neg hn] at h1
    repeat' split at h1
    all_goals omega
  rcases h2 with h2 | h2
  · left
    rw [h2] at ht
    unfold takesB at ht
    rw [if_pos (by simp), btw_iff] at ht
    exact ⟨h2, ht⟩
  · right
    rw [h2] at ht
    unfold takesB at ht
    rw [if_neg (by simp), beq_iff_eq] at ht
    exact ⟨h2, ht⟩
end Go.Proofs.Ytphhbojdolhieaa
