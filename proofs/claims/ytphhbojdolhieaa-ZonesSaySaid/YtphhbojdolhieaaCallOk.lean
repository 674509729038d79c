/-
  Plain: what is known of each call of a history.
-/
import Derived.Test.YtphhbojdolhieaaPartPure
import Derived.Test.YtphhbojdolhieaaOrderly
namespace Go.Proofs.Ytphhbojdolhieaa
open Go.RowKit
set_option maxRecDepth 20000
theorem getD_some {cs : List Cl} {i : Nat} (h : i < cs.length) : cs[i]? = some (cs.getD i default) := by
  rw [List.getD_eq_getElem?_getD, List.getElem?_eq_getElem h]
  rfl
structure CallOk (ts : List Int) (c : Cl) : Prop where
  who : 0 ≤ c.who ∧ c.who ≤ 7
  thing : 0 ≤ c.thing ∧ c.thing < ts.length
  fits : fitsB (ts.getD c.thing.toNat 0) c.kind = true
  takes : takesB c.kind c.arg = true
theorem step_callOk {ts : List Int} {n : Nat} {cs cs' : List Cl} {x : Ev} (h : ∀ c ∈ cs, CallOk ts c) (hs : step ts n cs x = .inr cs') : ∀ c ∈ cs', CallOk ts c := by
  unfold step at hs
  split at hs
  · cases hs
  · rename_i hr
    split at hs
    · unfold respS at hs
      split at hs
      · cases hs
      · rename_i ho
        split at hs
        · cases hs
        · injection hs with hs
          subst hs
          intro c hc
          rcases List.mem_or_eq_of_mem_set hc with hc | rfl
          · exact h c hc
          · obtain ⟨d, e1, e2, e3, e4⟩ := openOf_at (cs := cs) (who := x.who) (by omega)
            have := h _ (List.mem_of_getElem? (getD_some e4))
            exact ⟨this.who, this.thing, this.fits, this.takes⟩
    · unfold invS at hs
      split at hs
      · cases hs
      · rename_i hg
        split at hs
        · cases hs
        · injection hs with hs
          subst hs
          intro c hc
          rcases List.mem_append.1 hc with hc | hc
          · exact h c hc
          · rw [List.mem_singleton] at hc
            subst hc
            refine ⟨?_, ?_, ?_, ?_⟩
            · exact Classical.byContradiction fun hn => hr (.inl hn)
            · exact Classical.byContradiction fun hn => hr (.inr hn)
            · exact Classical.byContradiction fun hn => hg (.inl (by simpa using hn))
            · exact Classical.byContradiction fun hn => hg (.inr (by simpa using hn))
theorem run_callOk {ts : List Int} : ∀ (l : List Ev) (n : Nat) (cs : List Cl), (∀ c ∈ cs, CallOk ts c) → (run ts n cs l).2.2 = 0 → ∀ c ∈ (run ts n cs l).1, CallOk ts c
  | [], _, _, h, _ => h
  | x :: r, n, cs, h, h0 => by
    rw [run] at h0 ⊢
    cases hs : step ts n cs x with
    | inl e => rw [hs] at h0; exact absurd h0 (step_err hs)
    | inr cs' =>
      rw [hs] at h0
      exact run_callOk r (n + 1) cs' (step_callOk h hs) h0
theorem calls_callOk {ts : List Int} {l : List Ev} (h : (callsOf ts l).2.2 = 0) : ∀ c ∈ (callsOf ts l).1, CallOk ts c := by
  obtain ⟨_, _, e⟩ := calls_zero h
  rw [e] at h ⊢
  exact run_callOk l 0 [] (fun c hc => by simp at hc) h
/-- What one event does, if it may be: an answer, or a call. -/
theorem step_ways {ts : List Int} {n : Nat} {cs cs' : List Cl} {x : Ev} (hs : step ts n cs x = .inr cs') :
    (x.kind = 0 ∧ ∃ i, i < cs.length ∧ openOf cs x.who = (i : Int) ∧ (cs.getD i default).who = x.who ∧ (cs.getD i default).til = -1 ∧ cs' = cs.set i { cs.getD i default with res := x.val, til := n } ∧
      (∀ (m : Nat) (ds : List Cl) (j : Nat) (d : Cl), openOf ds x.who = (j : Int) → ds.getD j default = d → d.thing = (cs.getD i default).thing → d.kind = (cs.getD i default).kind → step ts m ds x = .inr (ds.set j { d with res := x.val, til := m }))) ∨
    (x.kind ≠ 0 ∧ openOf cs x.who < 0 ∧ cs' = cs ++ [⟨x.who, x.thing, x.kind, x.val, 0, n, -1⟩] ∧
      (∀ (m : Nat) (ds : List Cl), openOf ds x.who < 0 → step ts m ds x = .inr (ds ++ [⟨x.who, x.thing, x.kind, x.val, 0, m, -1⟩]))) := by
  unfold step at hs
  split at hs
  · cases hs
  · rename_i hr
    split at hs
    · rename_i hk
      left
      unfold respS at hs
      split at hs
      · cases hs
      · rename_i ho
        split at hs
        · cases hs
        · rename_i hg
          injection hs with hs
          obtain ⟨c, e1, e2, e3, e4⟩ := openOf_at (cs := cs) (who := x.who) (by omega)
          have hgd : cs.getD (openOf cs x.who).toNat default = c := by rw [List.getD_eq_getElem?_getD, e1]; rfl
          refine ⟨hk, (openOf cs x.who).toNat, e4, by omega, by rw [hgd]; exact e2, by rw [hgd]; exact e3, hs.symm, fun m ds j d o1 o2 o3 o4 => ?_⟩
          unfold step
          rw [if_neg hr, if_pos hk]
          unfold respS
          rw [if_neg (by omega), o1, Int.toNat_natCast, o2, if_neg (by rw [o3, o4]; exact hg)]
    · rename_i hk
      right
      unfold invS at hs
      split at hs
      · cases hs
      · rename_i hg
        split at hs
        · cases hs
        · rename_i ho
          injection hs with hs
          refine ⟨hk, by omega, hs.symm, fun m ds o1 => ?_⟩
          unfold step
          rw [if_neg hr, if_neg hk]
          unfold invS
          rw [if_neg hg, if_neg (by omega)]
end Go.Proofs.Ytphhbojdolhieaa
