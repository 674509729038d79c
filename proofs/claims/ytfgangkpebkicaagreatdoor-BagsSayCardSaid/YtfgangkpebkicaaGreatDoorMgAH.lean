/-
  Joined by a program out of: ObjStart, LinPt.
-/
import Derived.Test.YtfgangkpebkicaaGreatDoorMgAG
import Derived.Test.YtfgangkpebkicaaGreatDoorMgAD

/-
  Contracts of object.Start, object.Check, object.invocable.
-/
namespace Go.Proofs.YtfgangkpebkicaaGreatDoor
open Go.RowKit
set_option maxRecDepth 20000
def startE (typ : Int) : Int := if btw 1 typ 5 = true then 0 else 1
/-- What Start answers. -/
def StartPost (w : World) (typ : Int) (e : Ending) (w' : World) : Prop :=
  ∃ v, e = .returned (.tuple #[v, .int .i64 (startE typ)]) ∧ IOwn w' w.heap.size v (beginL typ) ∧ Below w.heap.size w w'
theorem nstart_any (a : Addr) (w : World) : Calls Tryz.prog 120 #[.pointer (some a)] w fun e w' => e = .returned (.slice (some ⟨w.heap.size, 0, none⟩) 1 1) ∧ w' = w.alloc (.cells #[.int .i64 0] 3) := by
  go_enter Tryz.func120, Tryz.ntmps120
  go_wp2
  go_ret
  exact ⟨rfl, rfl⟩
theorem rstart_any (a : Addr) (w : World) : Calls Tryz.prog 125 #[.pointer (some a)] w fun e w' => e = .returned (.slice none 0 0) ∧ w = w' := by
  go_enter Tryz.func125, Tryz.ntmps125
  go_wp2
  go_ret
  exact ⟨rfl, rfl⟩
theorem zero_own (w : World) (B : Nat) (hB : B ≤ w.heap.size) : IOwn (w.alloc (.cells #[.int .i64 0] 3)) B (.slice (some ⟨w.heap.size, 0, none⟩) 1 1) [0] :=
  Or.inr ⟨_, 1, [0], rfl, hB, Lies.new w _ _, rfl, Nat.le_refl _, by unfold maxLen; omega, rfl⟩
set_option maxHeartbeats 1000000 in
theorem start_any (typ : Int) (w : World) : Calls Tryz.prog 82 #[.int .i64 typ] w (StartPost w typ) := by
  rcases typ_ways typ with rfl | rfl | rfl | rfl | rfl | ⟨h1, h2, h3, h4, h5, h⟩
  · have m1 := meth_reg_start
    go_enter Tryz.func82, Tryz.ntmps82
    go_wp2_with (first | (go_at_call 88; (with_reducible refine (open_reg _ _ _ _).mono ?_); rintro e w' ⟨rfl, rfl⟩) | (go_at_call 120; (with_reducible refine (nstart_any _ _).mono ?_); rintro e w' ⟨rfl, rfl⟩))
    go_ret2
    refine ⟨_, rfl, ?_, ((Below.refl _ _).alloc (Nat.le_refl _) _).alloc (by simp) _⟩
    have := zero_own (w.alloc (.cells #[.slice none 0 0] 156)) w.heap.size (by simp)
    rw [show beginL 1 = [0] from rfl]
    simpa using this
  · have m1 := meth_queue_start
    go_enter Tryz.func82, Tryz.ntmps82
    go_wp2_with (first | (go_at_call 88; (with_reducible refine (open_queue _ _ _ _).mono ?_); rintro e w' ⟨rfl, rfl⟩) | (go_at_call 125; (with_reducible refine (rstart_any _ _).mono ?_); rintro e w' ⟨rfl, rfl⟩))
    go_ret2
    exact ⟨_, rfl, Or.inl ⟨rfl, rfl⟩, (Below.refl _ _).alloc (Nat.le_refl _) _⟩
  · have m1 := meth_stack_start
    go_enter Tryz.func82, Tryz.ntmps82
    go_wp2_with (first | (go_at_call 88; (with_reducible refine (open_stack _ _ _ _).mono ?_); rintro e w' ⟨rfl, rfl⟩) | (go_at_call 125; (with_reducible refine (rstart_any _ _).mono ?_); rintro e w' ⟨rfl, rfl⟩))
    go_ret2
    exact ⟨_, rfl, Or.inl ⟨rfl, rfl⟩, (Below.refl _ _).alloc (Nat.le_refl _) _⟩
  · have m1 := meth_set_start
    go_enter Tryz.func82, Tryz.ntmps82
    go_wp2_with (first | (go_at_call 88; (with_reducible refine (open_set _ _ _ _).mono ?_); rintro e w' ⟨rfl, rfl⟩) | (go_at_call 125; (with_reducible refine (rstart_any _ _).mono ?_); rintro e w' ⟨rfl, rfl⟩))
    go_ret2
    exact ⟨_, rfl, Or.inl ⟨rfl, rfl⟩, (Below.refl _ _).alloc (Nat.le_refl _) _⟩
  · have m1 := meth_ticket_start
    go_enter Tryz.func82, Tryz.ntmps82
    go_wp2_with (first | (go_at_call 88; (with_reducible refine (open_ticket _ _ _ _).mono ?_); rintro e w' ⟨rfl, rfl⟩) | (go_at_call 120; (with_reducible refine (nstart_any _ _).mono ?_); rintro e w' ⟨rfl, rfl⟩))
    go_ret2
    refine ⟨_, rfl, ?_, ((Below.refl _ _).alloc (Nat.le_refl _) _).alloc (by simp) _⟩
    have := zero_own (w.alloc (.cells #[.slice none 0 0] 166)) w.heap.size (by simp)
    rw [show beginL 5 = [0] from rfl]
    simpa using this
  · have e1 : startE typ = 1 := by unfold startE; rw [h]; rfl
    have e2 : beginL typ = [] := by
      unfold beginL oneB
      simp only [beq_eq_false_iff_ne] at h1 h5
      rw [if_neg (by simp [h1, h5])]
    unfold StartPost
    rw [e1, e2]
    have HC := Lib.hid (fun A n c W => open_none ⟨h1, h2, h3, h4, h5⟩ A n c W)
    clear h1 h2 h3 h4 h5 h e1 e2
    go_enter Tryz.func82, Tryz.ntmps82
    go_wp2_with (go_at_call 88; (with_reducible refine (HC.out _ _ _ _).mono ?_); rintro e w' ⟨rfl, rfl⟩)
    go_ret2
    exact ⟨_, rfl, Or.inl ⟨rfl, rfl⟩, Below.refl _ _⟩
/-- Behind open, over a state that was handed in. -/
theorem NRd.alloc {w : World} {v : Value} {l : List Int} (h : NRd w w.heap.size v l) (o : Obj) : NRd (w.alloc o) (w.alloc o).heap.size v l := (h.below ((Below.refl _ _).alloc (Nat.le_refl _) o)).mono (by simp)
theorem valid_num {typ : Int} (h : oneB typ = true) (l : List Int) : validB typ l = (decide (l.length = 1) && btw 0 (l.getD 0 0) 1000) := by unfold validB; rw [if_pos h]
theorem valid_rows {typ : Int} (h : oneB typ = false) (h4 : (typ != 4) = true) (l : List Int) : validB typ l = rowB l := by
  unfold validB
  rw [if_neg (by rw [h]; decide), h4, Bool.true_or, Bool.and_true]
  rfl
theorem valid_set (l : List Int) : validB 4 l = (rowB l && incrB l) := rfl
theorem stateE_long {typ : Int} {l : List Int} (h : btw 1 typ 5 = true) (hn : 50 < l.length) : stateE typ l = 2 := by unfold stateE; rw [h, if_neg (by decide), if_pos hn]
theorem stateE_bad {typ : Int} {l : List Int} (h : btw 1 typ 5 = true) (hn : ¬ 50 < l.length) (hv : validB typ l = false) : stateE typ l = 3 := by unfold stateE; rw [h, if_neg (by decide), if_neg hn, if_pos hv]
theorem stateE_good {typ : Int} {l : List Int} (h : btw 1 typ 5 = true) (hn : ¬ 50 < l.length) (hv : validB typ l = true) : stateE typ l = 0 := by unfold stateE; rw [h, if_neg (by decide), if_neg hn, if_neg (by rw [hv]; decide)]
set_option maxHeartbeats 4000000 in
theorem check_any {v : Value} {l : List Int} {w : World} (typ : Int) (hr : NRd w w.heap.size v l) :
    Calls Tryz.prog 91 #[.int .i64 typ, v] w fun e w' => e = .returned (.int .i64 (stateE typ l)) ∧ Below w.heap.size w w' := by
  obtain ⟨A, cap, rfl, m1, m2⟩ := hr.is
  unfold maxLen at m2
  rcases typ_ways typ with rfl | rfl | rfl | rfl | rfl | ⟨h1, h2, h3, h4, h5, h⟩
  · have m1 := meth_reg_valid
    by_cases hn : 50 < l.length
    · rw [stateE_long rfl hn]
      have hn' : (50 : Int) < (l.length : Int) := by omega
      clear hr hn
      go_enter Tryz.func91, Tryz.ntmps91
      go_wp2_with (go_at_call 88; (with_reducible refine (open_reg _ _ _ _).mono ?_); rintro e w' ⟨rfl, rfl⟩)
      go_ret
      exact ⟨rfl, (Below.refl _ _).alloc (Nat.le_refl _) _⟩
    · have hn' : ¬ (50 : Int) < (l.length : Int) := by omega
      have hV := nvalid_any (Lies.new w 156 #[.slice A l.length cap]) (hr.alloc _)
      rw [← valid_num (typ := 1) rfl l] at hV
      cases hb : validB 1 l
      all_goals
        first | rw [stateE_bad rfl hn hb] | rw [stateE_good rfl hn hb]
        rw [hb] at hV
        have HV := Lib.hid hV
        clear hV hb hr hn
        go_enter Tryz.func91, Tryz.ntmps91
        go_wp2_with (first | (go_at_call 88; (with_reducible refine (open_reg _ _ _ _).mono ?_); rintro e w' ⟨rfl, rfl⟩) | (go_at_call 122; refine HV.out.mono ?_; rintro e w' ⟨rfl, rfl⟩))
        go_ret
        exact ⟨rfl, (Below.refl _ _).alloc (Nat.le_refl _) _⟩
  · have m1 := meth_queue_valid
    by_cases hn : 50 < l.length
    · rw [stateE_long rfl hn]
      have hn' : (50 : Int) < (l.length : Int) := by omega
      clear hr hn
      go_enter Tryz.func91, Tryz.ntmps91
      go_wp2_with (go_at_call 88; (with_reducible refine (open_queue _ _ _ _).mono ?_); rintro e w' ⟨rfl, rfl⟩)
      go_ret
      exact ⟨rfl, (Below.refl _ _).alloc (Nat.le_refl _) _⟩
    · have hn' : ¬ (50 : Int) < (l.length : Int) := by omega
      have hV := rvalid_any (Lies.new w 160 #[.slice A l.length cap]) (hr.alloc _)
      rw [← valid_rows (typ := 2) rfl rfl l] at hV
      cases hb : validB 2 l
      all_goals
        first | rw [stateE_bad rfl hn hb] | rw [stateE_good rfl hn hb]
        rw [hb] at hV
        have HV := Lib.hid hV
        clear hV hb hr hn
        go_enter Tryz.func91, Tryz.ntmps91
        go_wp2_with (first | (go_at_call 88; (with_reducible refine (open_queue _ _ _ _).mono ?_); rintro e w' ⟨rfl, rfl⟩) | (go_at_call 127; refine HV.out.mono ?_; rintro e w' ⟨rfl, rfl⟩))
        go_ret
        exact ⟨rfl, (Below.refl _ _).alloc (Nat.le_refl _) _⟩
  · have m1 := meth_stack_valid
    by_cases hn : 50 < l.length
    · rw [stateE_long rfl hn]
      have hn' : (50 : Int) < (l.length : Int) := by omega
      clear hr hn
      go_enter Tryz.func91, Tryz.ntmps91
      go_wp2_with (go_at_call 88; (with_reducible refine (open_stack _ _ _ _).mono ?_); rintro e w' ⟨rfl, rfl⟩)
      go_ret
      exact ⟨rfl, (Below.refl _ _).alloc (Nat.le_refl _) _⟩
    · have hn' : ¬ (50 : Int) < (l.length : Int) := by omega
      have hV := rvalid_any (Lies.new w 162 #[.slice A l.length cap]) (hr.alloc _)
      rw [← valid_rows (typ := 3) rfl rfl l] at hV
      cases hb : validB 3 l
      all_goals
        first | rw [stateE_bad rfl hn hb] | rw [stateE_good rfl hn hb]
        rw [hb] at hV
        have HV := Lib.hid hV
        clear hV hb hr hn
        go_enter Tryz.func91, Tryz.ntmps91
        go_wp2_with (first | (go_at_call 88; (with_reducible refine (open_stack _ _ _ _).mono ?_); rintro e w' ⟨rfl, rfl⟩) | (go_at_call 127; refine HV.out.mono ?_; rintro e w' ⟨rfl, rfl⟩))
        go_ret
        exact ⟨rfl, (Below.refl _ _).alloc (Nat.le_refl _) _⟩
  · have m1 := meth_set_valid
    by_cases hn : 50 < l.length
    · rw [stateE_long rfl hn]
      have hn' : (50 : Int) < (l.length : Int) := by omega
      clear hr hn
      go_enter Tryz.func91, Tryz.ntmps91
      go_wp2_with (go_at_call 88; (with_reducible refine (open_set _ _ _ _).mono ?_); rintro e w' ⟨rfl, rfl⟩)
      go_ret
      exact ⟨rfl, (Below.refl _ _).alloc (Nat.le_refl _) _⟩
    · have hn' : ¬ (50 : Int) < (l.length : Int) := by omega
      have hV := svalid_any (Lies.new w 164 #[.slice A l.length cap]) (hr.alloc _)
      rw [← valid_set l] at hV
      cases hb : validB 4 l
      all_goals
        first | rw [stateE_bad rfl hn hb] | rw [stateE_good rfl hn hb]
        rw [hb] at hV
        have HV := Lib.hid hV
        clear hV hb hr hn
        go_enter Tryz.func91, Tryz.ntmps91
        go_wp2_with (first | (go_at_call 88; (with_reducible refine (open_set _ _ _ _).mono ?_); rintro e w' ⟨rfl, rfl⟩) | (go_at_call 138; refine HV.out.mono ?_; rintro e w' ⟨rfl, q, rfl⟩))
        go_ret
        exact ⟨rfl, belowN ((Below.refl _ _).alloc (Nat.le_refl _) _) _⟩
  · have m1 := meth_ticket_valid
    by_cases hn : 50 < l.length
    · rw [stateE_long rfl hn]
      have hn' : (50 : Int) < (l.length : Int) := by omega
      clear hr hn
      go_enter Tryz.func91, Tryz.ntmps91
      go_wp2_with (go_at_call 88; (with_reducible refine (open_ticket _ _ _ _).mono ?_); rintro e w' ⟨rfl, rfl⟩)
      go_ret
      exact ⟨rfl, (Below.refl _ _).alloc (Nat.le_refl _) _⟩
    · have hn' : ¬ (50 : Int) < (l.length : Int) := by omega
      have hV := nvalid_any (Lies.new w 166 #[.slice A l.length cap]) (hr.alloc _)
      rw [← valid_num (typ := 5) rfl l] at hV
      cases hb : validB 5 l
      all_goals
        first | rw [stateE_bad rfl hn hb] | rw [stateE_good rfl hn hb]
        rw [hb] at hV
        have HV := Lib.hid hV
        clear hV hb hr hn
        go_enter Tryz.func91, Tryz.ntmps91
        go_wp2_with (first | (go_at_call 88; (with_reducible refine (open_ticket _ _ _ _).mono ?_); rintro e w' ⟨rfl, rfl⟩) | (go_at_call 122; refine HV.out.mono ?_; rintro e w' ⟨rfl, rfl⟩))
        go_ret
        exact ⟨rfl, (Below.refl _ _).alloc (Nat.le_refl _) _⟩
  · have e1 : stateE typ l = 1 := by unfold stateE; rw [if_pos h]
    rw [e1]
    have HC := Lib.hid (fun A n c W => open_none ⟨h1, h2, h3, h4, h5⟩ A n c W)
    clear h1 h2 h3 h4 h5 h e1 hr
    go_enter Tryz.func91, Tryz.ntmps91
    go_wp2_with (go_at_call 88; (with_reducible refine (HC.out _ _ _ _).mono ?_); rintro e w' ⟨rfl, rfl⟩)
    go_ret
    exact ⟨rfl, Below.refl _ _⟩
/-- May it be called so? The history of the call alone tells. -/
theorem alone_calls {typ : Int} (h : btw 1 typ 5 = true) (kind arg : Int) : ((callsOf [typ] [⟨0, 0, kind, arg⟩]).2.2 == 0) = (fitsB typ kind && takesB kind arg) := by
  have ht := btw_iff.1 h
  have e1 : typesB [typ] = true := by
    unfold typesB
    simp
    omega
  unfold callsOf
  rw [if_neg (by rw [e1]; decide), if_neg (by simp)]
  have es : step [typ] 0 [] ⟨0, 0, kind, arg⟩ = if kind = 0 then .inl 4 else if fitsB typ kind = false ∨ takesB kind arg = false then .inl 3 else .inr [⟨0, 0, kind, arg, 0, 0, -1⟩] := by
    unfold step
    rw [if_neg (by simp)]
    rfl
  rw [run, es]
  by_cases h0 : kind = 0
  · rw [if_pos h0]
    subst h0
    have : fitsB typ 0 = false := by
      cases hf : fitsB typ 0
      · rfl
      · have := fits_kind hf; omega
    rw [this]
    rfl
  · rw [if_neg h0]
    cases fitsB typ kind <;> cases takesB kind arg <;> rfl
set_option maxHeartbeats 1000000 in
theorem invocable_any {typ : Int} (h : btw 1 typ 5 = true) (kind arg : Int) (w : World) :
    Calls Tryz.prog 92 #[.int .i64 typ, .int .i64 kind, .int .i64 arg] w fun e w' => e = .returned (.bool (fitsB typ kind && takesB kind arg)) ∧ Below w.heap.size w w' := by
  have hN : NRd ((w.alloc (.cells #[.int .i64 typ] 3)).alloc (.cells #[.int .i64 0, .int .i64 0, .int .i64 kind, .int .i64 arg] 37)) ((w.alloc (.cells #[.int .i64 typ] 3)).alloc (.cells #[.int .i64 0, .int .i64 0, .int .i64 kind, .int .i64 arg] 37)).heap.size (.slice (some ⟨w.heap.size, 0, none⟩) 1 1) [typ] :=
    ((LRd.of_lit (f := intCs) (s := 1) (w := w) (l := [typ]) (fun _ => rfl) 3 (cs := #[.int .i64 typ]) rfl (n := 1) rfl (by unfold maxLen; omega)).below ((Below.refl _ _).alloc (by simp) _)).mono (by simp)
  have hE : ERd ((w.alloc (.cells #[.int .i64 typ] 3)).alloc (.cells #[.int .i64 0, .int .i64 0, .int .i64 kind, .int .i64 arg] 37)) ((w.alloc (.cells #[.int .i64 typ] 3)).alloc (.cells #[.int .i64 0, .int .i64 0, .int .i64 kind, .int .i64 arg] 37)).heap.size (.slice (some ⟨w.heap.size + 1, 0, none⟩) 1 1) [⟨0, 0, kind, arg⟩] := by
    have := LRd.of_lit (f := evCs) (s := 4) (w := w.alloc (.cells #[.int .i64 typ] 3)) (l := [⟨0, 0, kind, arg⟩]) (fun _ => rfl) 37 (cs := #[.int .i64 0, .int .i64 0, .int .i64 kind, .int .i64 arg]) rfl (n := 1) rfl (by unfold maxLen; omega)
    simpa using this
  have hC := calls_any hN hE
  have ho := alone_calls h kind arg
  generalize callsOf [typ] [⟨0, 0, kind, arg⟩] = o at hC ho
  obtain ⟨cs, at_, er⟩ := o
  unfold CallsPost at hC
  simp only at hC ho
  rw [← ho]
  have HC := Lib.hid hC
  clear hN hE hC ho h
  generalize hb : (er == 0) = b
  go_enter Tryz.func92, Tryz.ntmps92
  go_wp2_with (go_at_call 35; refine HC.out.mono ?_; rintro e w' ⟨v', rfl, hb, hr⟩)
  go_ret
  exact ⟨rfl, (((Below.refl _ _).alloc (Nat.le_refl _) _).alloc (by simp) _).trans (hb.mono (by simp; omega))⟩
end Go.Proofs.YtfgangkpebkicaaGreatDoor

/-
  Points in memory; contracts of (*record).start and (*record).complete.
-/
namespace Go.Proofs.YtfgangkpebkicaaGreatDoor
open Go.RowKit
set_option maxRecDepth 20000
variable {Rl : Nat → Nat → Bool}
/-- A slice that reads as numbers, in a block of which S holds. -/
def NAw (S : Nat → Prop) (w : World) (v : Value) (xs : List Int) : Prop :=
  ∃ A cap, v = .slice A xs.length cap ∧ xs.length ≤ cap ∧ cap ≤ maxLen ∧ (0 < xs.length → ∃ g o, A = some ⟨g, o, none⟩ ∧ S g ∧ g < w.heap.size ∧ ∀ k x, xs[k]? = some x → ∀ j u, (intCs x)[j]? = some u → w.cell? ⟨g, o + k * 1 + j, none⟩ = some u)
theorem NAw.rd {S : Nat → Prop} {w : World} {v : Value} {xs : List Int} (h : NAw S w v xs) : NRd w w.heap.size v xs := by
  obtain ⟨A, cap, hv, h0, h1, h2⟩ := h
  refine ⟨A, cap, hv, h0, h1, fun hp => ?_⟩
  obtain ⟨g, o, hA, _, hg, hc⟩ := h2 hp
  exact ⟨g, o, hA, hg, hc⟩
theorem NAw.imp {S S' : Nat → Prop} {w : World} {v : Value} {xs : List Int} (h : NAw S w v xs) (hS : ∀ g, g < w.heap.size → S g → S' g) : NAw S' w v xs := by
  obtain ⟨A, cap, hv, h0, h1, h2⟩ := h
  refine ⟨A, cap, hv, h0, h1, fun hp => ?_⟩
  obtain ⟨g, o, hA, hs, hg, hc⟩ := h2 hp
  exact ⟨g, o, hA, hS g hg hs, hg, hc⟩
theorem NAw.keep {S : Nat → Prop} {w w' : World} {v : Value} {xs : List Int} (h : NAw S w v xs) (hz : w.heap.size ≤ w'.heap.size) (hk : ∀ g, S g → g < w.heap.size → w'.heap[g]? = w.heap[g]?) : NAw S w' v xs := by
  obtain ⟨A, cap, hv, h0, h1, h2⟩ := h
  refine ⟨A, cap, hv, h0, h1, fun hp => ?_⟩
  obtain ⟨g, o, hA, hs, hg, hc⟩ := h2 hp
  refine ⟨g, o, hA, hs, by omega, fun k x hx j u hu => ?_⟩
  rw [← hc k x hx j u hu]
  simp only [World.cell?, hk g hs hg]
theorem NAw.next {S : Nat → Prop} {w w' : World} {v : Value} {xs : List Int} (h : NAw S w v xs) (hb : Below w.heap.size w w') : NAw S w' v xs := h.keep hb.size (fun g _ hg => hb.block g hg)
theorem NAw.setCell {S : Nat → Prop} {w : World} {v : Value} {xs : List Int} (h : NAw S w v xs) (p : Addr) (u : Value) (hS : ∀ g, S g → g ≠ p.block) : NAw S (w.setCell p u) v xs := h.keep (by simp [World.setCell]) (fun g hs _ => Below.heap_setCell _ _ _ _ (hS g hs))
theorem NAw.nil (S : Nat → Prop) (w : World) : NAw S w (.slice none 0 0) [] := ⟨none, 0, rfl, Nat.le_refl _, Nat.zero_le _, fun h => by simp at h⟩
theorem NAw.of_own {B : Nat} {w : World} {v : Value} {xs : List Int} (h : IOwn w B v xs) : NAw (fun g => B ≤ g) w v xs := by
  have hr := h.rd
  obtain ⟨A, cap, hv, h0, h1, h2⟩ := hr
  refine ⟨A, cap, hv, h0, h1, fun hp => ?_⟩
  obtain ⟨g, o, hA, hg, hc⟩ := h2 hp
  refine ⟨g, o, hA, ?_, hg, hc⟩
  subst hA
  exact (h.lt hv).1
abbrev ptCs (d : Nat) (s : Nat → Value) : Array Value := #[.int .u16 (d : Nat), s 0, s 1, s 2, s 3]
abbrev ptV (d : Nat) (s : Nat → Value) : Value := .agg #[.int .u16 (d : Nat), s 0, s 1, s 2, s 3]
abbrev nilS : Nat → Value := fun _ => .slice none 0 0
/-- A point lies in block g. -/
def PtB (w : World) (g : Nat) (d : Nat) (s : Nat → Value) : Prop := Lies w g 118 (ptCs d s)
abbrev fillP (w : World) (g : Nat) (d : Nat) (s : Nat → Value) : World := ((((w.setCell ⟨g, 0, none⟩ (.int .u16 (d : Nat))).setCell ⟨g, 1, none⟩ (s 0)).setCell ⟨g, 2, none⟩ (s 1)).setCell ⟨g, 3, none⟩ (s 2)).setCell ⟨g, 4, none⟩ (s 3)
theorem fillP_below {B : Nat} {w0 w : World} {g : Nat} (h : Below B w0 w) (hg : B ≤ g) (d : Nat) (s : Nat → Value) : Below B w0 (fillP w g d s) :=
  ((((h.setCell (p := ⟨g, 0, none⟩) hg _).setCell (p := ⟨g, 1, none⟩) hg _).setCell (p := ⟨g, 2, none⟩) hg _).setCell (p := ⟨g, 3, none⟩) hg _).setCell (p := ⟨g, 4, none⟩) hg _
theorem fillP_far {w : World} {q g : Nat} (h : g ≠ q) (d : Nat) (s : Nat → Value) : (fillP w q d s).heap[g]? = w.heap[g]? := by
  have key : ∀ (W : World) (i : Nat) (u : Value), (W.setCell ⟨q, i, none⟩ u).heap[g]? = W.heap[g]? := fun W i u => Below.heap_setCell W ⟨q, i, none⟩ u g h
  unfold fillP
  rw [key, key, key, key, key]
section
variable {w : World} {g d : Nat} {s : Nat → Value}
theorem nat4 {k : Nat} (h : k < 4) : k = 0 ∨ k = 1 ∨ k = 2 ∨ k = 3 := by omega
theorem PtB.fill (h : PtB w g d s) (d' : Nat) (s' : Nat → Value) : PtB (fillP w g d' s') g d' s' := by
  have h0 := Lies.set_ h 0 (.int .u16 (d' : Nat))
  have h1 := Lies.set_ h0 1 (s' 0)
  have h2 := Lies.set_ h1 2 (s' 1)
  have h3 := Lies.set_ h2 3 (s' 2)
  have h4 := Lies.set_ h3 4 (s' 3)
  exact Lies.cast h4 (by simp [ptCs])
theorem PtB.setS (h : PtB w g d s) {k : Nat} (hk : k < 4) (x : Value) : PtB (w.setCell ⟨g, 1 + k, none⟩ x) g d (fun i => if i = k then x else s i) := by
  refine Lies.cast (Lies.set_ h (1 + k) x) ?_
  rcases nat4 hk with rfl | rfl | rfl | rfl <;> simp [ptCs]
theorem PtB.setD (h : PtB w g d s) (x : Nat) : PtB (w.setCell ⟨g, 0, none⟩ (.int .u16 (x : Nat))) g x s := by
  refine Lies.cast (Lies.set_ h 0 (.int .u16 (x : Nat))) ?_
  simp [ptCs]
theorem PtB.row (h : PtB w g d s) {k : Nat} (hk : k < 4) : w.cell? ⟨g, 1 + k, none⟩ = some (s k) := by
  rw [Lies.cell h]
  rcases nat4 hk with rfl | rfl | rfl | rfl <;> rfl
theorem PtB.cells (h : PtB w g d s) : w.cell? ⟨g, 0, none⟩ = some (.int .u16 (d : Nat)) ∧ w.cell? ⟨g, 1, none⟩ = some (s 0) ∧ w.cell? ⟨g, 2, none⟩ = some (s 1) ∧ w.cell? ⟨g, 3, none⟩ = some (s 2) ∧ w.cell? ⟨g, 4, none⟩ = some (s 3) :=
  ⟨Lies.cell h 0, Lies.cell h 1, Lies.cell h 2, Lies.cell h 3, Lies.cell h 4⟩
theorem PtB.free (h : PtB w g d s) (i : Nat) : w.frozen? ⟨g, i, none⟩ = false := Lies.frozen h i
end
/-- Four values by their number. -/
def four (a b c e : Value) : Nat → Value
  | 0 => a
  | 1 => b
  | 2 => c
  | _ => e
theorem PtB.four {w : World} {g d : Nat} {s : Nat → Value} (h : PtB w g d s) : PtB w g d (four (s 0) (s 1) (s 2) (s 3)) := h
theorem four_at (s : Nat → Value) {i : Nat} (hi : i < 4) : four (s 0) (s 1) (s 2) (s 3) i = s i := by
  rcases nat4 hi with rfl | rfl | rfl | rfl <;> rfl
/-- The value v is the point p. -/
def PtRd (S : Nat → Prop) (w : World) (v : Value) (p : Pt) : Prop := ∃ s : Nat → Value, v = ptV p.done s ∧ ∀ i, i < 4 → NAw S w (s i) (p.st i)
theorem PtRd.next {S : Nat → Prop} {w w' : World} {v : Value} {p : Pt} (h : PtRd S w v p) (hb : Below w.heap.size w w') : PtRd S w' v p := by
  obtain ⟨s, e, hs⟩ := h
  exact ⟨s, e, fun i hi => (hs i hi).next hb⟩
/-- A record stands at block Q: the types, the calls, what must be ahead of each, who was answered. -/
structure RecAt (Rl : Nat → Nat → Bool) (w : World) (Q : Nat) (tv cv : Value) (ts : List Int) (cs : List Cl) : Prop where
  c0 : w.cell? ⟨Q, 0, none⟩ = some tv
  c1 : w.cell? ⟨Q, 1, none⟩ = some cv
  bf : ∀ j, j < 9 → w.cell? ⟨Q, 2 + j, none⟩ = some (.int .u16 (befP Rl cs j : Nat))
  an : w.cell? ⟨Q, 11, none⟩ = some (.int .u16 (ansP cs : Nat))
  rt : NRd w w.heap.size tv ts
  rc : CRd w w.heap.size cv cs
  lt : Q < w.heap.size
theorem RecAt.next {w w' : World} {Q : Nat} {tv cv : Value} {ts : List Int} {cs : List Cl} (h : RecAt Rl w Q tv cv ts cs) (hb : Below w.heap.size w w') : RecAt Rl w' Q tv cv ts cs :=
  ⟨(hb.cell (p := ⟨Q, 0, none⟩) h.lt).trans h.c0, (hb.cell (p := ⟨Q, 1, none⟩) h.lt).trans h.c1, fun j hj => (hb.cell (p := ⟨Q, 2 + j, none⟩) h.lt).trans (h.bf j hj), (hb.cell (p := ⟨Q, 11, none⟩) h.lt).trans h.an, (h.rt.below hb).mono hb.size, (h.rc.below hb).mono hb.size, Nat.lt_of_lt_of_le h.lt hb.size⟩
theorem landnot (x y : Nat) (hx : x < 65536) (hy : y < 65536) : (bits BinOp.andNot IntKind.u16 (x : Int) (y : Int) == 0) = ((x &&& (65535 - y)) == 0) := by
  rw [u16_andNot_nat _ _ hx hy, Bool.eq_iff_iff, beq_iff_eq, beq_iff_eq]
  omega
/-- Does nothing have to follow? -/
theorem complete_any {w : World} {Q : Nat} {tv cv : Value} {ts : List Int} {cs : List Cl} (hR : RecAt Rl w Q tv cv ts cs) (hc : cs.length ≤ 9) {d : Nat} (hd : d < 65536) (s : Nat → Value) (p : Pt) (hp : p.done = d) :
    Calls Tryz.prog 79 #[.pointer (some ⟨Q, 0, none⟩), ptV d s] w fun e w' => e = .returned (.bool (fullB cs p)) ∧ Below w.heap.size w w' := by
  have han : (w.alloc (.cells (ptCs d s) 118)).cell? ⟨Q, 11, none⟩ = some (.int .u16 (ansP cs : Nat)) := (((Below.refl _ _).alloc (Nat.le_refl _) (.cells (ptCs d s) 118)).cell (p := ⟨Q, 11, none⟩) hR.lt).trans hR.an
  have hpt : PtB (w.alloc (.cells (ptCs d s) 118)) w.heap.size d s := Lies.new _ _ _
  have hd0 := hpt.cells.1
  have hb : Below w.heap.size w (w.alloc (.cells (ptCs d s) 118)) := (Below.refl _ _).alloc (Nat.le_refl _) _
  have hv := landnot (ansP cs) d (ans_lt hc) hd
  rw [← hp] at hv
  change _ = fullB cs p at hv
  rw [hp] at hv
  have HB := Lib.hid (And.intro hb hv)
  clear hpt hb hv hR hp
  generalize fullB cs p = F at HB ⊢
  generalize ansP cs = an at han HB
  go_enter Tryz.func79, Tryz.ntmps79
  go_wp2_with fail
  go_region
  go_wp2
  go_ret
  exact ⟨ret_bool (by rw [← HB.out.2]), HB.out.1.drew⟩
end Go.Proofs.YtfgangkpebkicaaGreatDoor
