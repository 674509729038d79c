/-
  Contracts of object.Start, object.Check, object.invocable.
-/
import Derived.Test.YtebcnhnkpmbgdaaObjOpen
import Derived.Test.YtebcnhnkpmbgdaaObjValid
import Derived.Test.YtebcnhnkpmbgdaaCalls
namespace Go.Proofs.Ytebcnhnkpmbgdaa
open Go.RowKit
set_option maxRecDepth 20000

def startE (typ : Int) : Int := if btw 1 typ 5 = true then 0 else 1
/-- What Start answers. -/
def StartPost (w : World) (typ : Int) (e : Ending) (w' : World) : Prop :=
  ∃ v, e = .returned (.tuple #[v, .int .i64 (startE typ)]) ∧ IOwn w' w.heap.size v (beginL typ) ∧ Below w.heap.size w w'

theorem nstart_any (a : Addr) (w : World) : Calls Try.prog 74 #[.pointer (some a)] w fun e w' => e = .returned (.slice (some ⟨w.heap.size, 0, none⟩) 1 1) ∧ w' = w.alloc (.cells #[.int .i64 0] 3) := by
  go_enter Try.func74, Try.ntmps74
  go_wp2
  go_ret
  exact ⟨rfl, rfl⟩
theorem rstart_any (a : Addr) (w : World) : Calls Try.prog 79 #[.pointer (some a)] w fun e w' => e = .returned (.slice none 0 0) ∧ w = w' := by
  go_enter Try.func79, Try.ntmps79
  go_wp2
  go_ret
  exact ⟨rfl, rfl⟩
theorem zero_own (w : World) (B : Nat) (hB : B ≤ w.heap.size) : IOwn (w.alloc (.cells #[.int .i64 0] 3)) B (.slice (some ⟨w.heap.size, 0, none⟩) 1 1) [0] :=
  Or.inr ⟨_, 1, [0], rfl, hB, Lies.new w _ _, rfl, Nat.le_refl _, by unfold maxLen; omega, rfl⟩

set_option maxHeartbeats 1000000 in
theorem start_any (typ : Int) (w : World) : Calls Try.prog 17 #[.int .i64 typ] w (StartPost w typ) := by
  rcases typ_ways typ with rfl | rfl | rfl | rfl | rfl | ⟨h1, h2, h3, h4, h5, h⟩
  · have m1 := meth_reg_start
    go_enter Try.func17, Try.ntmps17
    go_wp2_with (first | (go_at_call 41; (with_reducible refine (open_reg _ _ _ _).mono ?_); rintro e w' ⟨rfl, rfl⟩) | (go_at_call 74; (with_reducible refine (nstart_any _ _).mono ?_); rintro e w' ⟨rfl, rfl⟩))
    go_ret2
    refine ⟨_, rfl, ?_, ((Below.refl _ _).alloc (Nat.le_refl _) _).alloc (by simp) _⟩
    have := zero_own (w.alloc (.cells #[.slice none 0 0] 96)) w.heap.size (by simp)
    rw [show beginL 1 = [0] from rfl]
    simpa using this
  · have m1 := meth_queue_start
    go_enter Try.func17, Try.ntmps17
    go_wp2_with (first | (go_at_call 41; (with_reducible refine (open_queue _ _ _ _).mono ?_); rintro e w' ⟨rfl, rfl⟩) | (go_at_call 79; (with_reducible refine (rstart_any _ _).mono ?_); rintro e w' ⟨rfl, rfl⟩))
    go_ret2
    exact ⟨_, rfl, Or.inl ⟨rfl, rfl⟩, (Below.refl _ _).alloc (Nat.le_refl _) _⟩
  · have m1 := meth_stack_start
    go_enter Try.func17, Try.ntmps17
    go_wp2_with (first | (go_at_call 41; (with_reducible refine (open_stack _ _ _ _).mono ?_); rintro e w' ⟨rfl, rfl⟩) | (go_at_call 79; (with_reducible refine (rstart_any _ _).mono ?_); rintro e w' ⟨rfl, rfl⟩))
    go_ret2
    exact ⟨_, rfl, Or.inl ⟨rfl, rfl⟩, (Below.refl _ _).alloc (Nat.le_refl _) _⟩
  · have m1 := meth_set_start
    go_enter Try.func17, Try.ntmps17
    go_wp2_with (first | (go_at_call 41; (with_reducible refine (open_set _ _ _ _).mono ?_); rintro e w' ⟨rfl, rfl⟩) | (go_at_call 79; (with_reducible refine (rstart_any _ _).mono ?_); rintro e w' ⟨rfl, rfl⟩))
    go_ret2
    exact ⟨_, rfl, Or.inl ⟨rfl, rfl⟩, (Below.refl _ _).alloc (Nat.le_refl _) _⟩
  · have m1 := meth_ticket_start
    go_enter Try.func17, Try.ntmps17
    go_wp2_with (first | (go_at_call 41; (with_reducible refine (open_ticket _ _ _ _).mono ?_); rintro e w' ⟨rfl, rfl⟩) | (go_at_call 74; (with_reducible refine (nstart_any _ _).mono ?_); rintro e w' ⟨rfl, rfl⟩))
    go_ret2
    refine ⟨_, rfl, ?_, ((Below.refl _ _).alloc (Nat.le_refl _) _).alloc (by simp) _⟩
    have := zero_own (w.alloc (.cells #[.slice none 0 0] 106)) w.heap.size (by simp)
    rw [show beginL 5 = [0] from rfl]
    simpa using this
  · have e1 : startE typ = 1 := by unfold startE; rw [h]; rfl
    have e2 : beginL typ = [] := by
      unfold beginL oneB
      simp only [beq_eq_false_iff_ne] at h1 h5
      rw [if_neg (by simp [h1, h5])]
    unfold StartPost
    rw [e1, e2]
    have HC := Lib.hid (fun A n c W => open_none ⟨h1, h2, h3, h4, h5⟩ A n c W)
    clear h1 h2 h3 h4 h5 h e1 e2
    go_enter Try.func17, Try.ntmps17
    go_wp2_with (go_at_call 41; (with_reducible refine (HC.out _ _ _ _).mono ?_); rintro e w' ⟨rfl, rfl⟩)
    go_ret2
    exact ⟨_, rfl, Or.inl ⟨rfl, rfl⟩, Below.refl _ _⟩

/-- Behind open, over a state that was handed in. -/
theorem NRd.alloc {w : World} {v : Value} {l : List Int} (h : NRd w w.heap.size v l) (o : Obj) : NRd (w.alloc o) (w.alloc o).heap.size v l := (h.below ((Below.refl _ _).alloc (Nat.le_refl _) o)).mono (by simp)

theorem valid_num {typ : Int} (h : oneB typ = true) (l : List Int) : validB typ l = (decide (l.length = 1) && btw 0 (l.getD 0 0) 1000) := by unfold validB; rw [if_pos h]
theorem valid_rows {typ : Int} (h : oneB typ = false) (h4 : (typ != 4) = true) (l : List Int) : validB typ l = rowB l := by
  unfold validB
  rw [if_neg (by rw [h]; decide), h4, Bool.true_or, Bool.and_true]
  rfl
theorem valid_set (l : List Int) : validB 4 l = (rowB l && incrB l) := rfl
theorem stateE_long {typ : Int} {l : List Int} (h : btw 1 typ 5 = true) (hn : 50 < l.length) : stateE typ l = 2 := by unfold stateE; rw [h, if_neg (by decide), if_pos hn]
theorem stateE_bad {typ : Int} {l : List Int} (h : btw 1 typ 5 = true) (hn : ¬ 50 < l.length) (hv : validB typ l = false) : stateE typ l = 3 := by unfold stateE; rw [h, if_neg (by decide), if_neg hn, if_pos hv]
theorem stateE_good {typ : Int} {l : List Int} (h : btw 1 typ 5 = true) (hn : ¬ 50 < l.length) (hv : validB typ l = true) : stateE typ l = 0 := by unfold stateE; rw [h, if_neg (by decide), if_neg hn, if_neg (by rw [hv]; decide)]

set_option maxHeartbeats 4000000 in
theorem check_any {v : Value} {l : List Int} {w : World} (typ : Int) (hr : NRd w w.heap.size v l) :
    Calls Try.prog 20 #[.int .i64 typ, v] w fun e w' => e = .returned (.int .i64 (stateE typ l)) ∧ Below w.heap.size w w' := by
  obtain ⟨A, cap, rfl, m1, m2⟩ := hr.is
  unfold maxLen at m2
  rcases typ_ways typ with rfl | rfl | rfl | rfl | rfl | ⟨h1, h2, h3, h4, h5, h⟩
  · have m1 := meth_reg_valid
    by_cases hn : 50 < l.length
    · rw [stateE_long rfl hn]
      have hn' : (50 : Int) < (l.length : Int) := by omega
      clear hr hn
      go_enter Try.func20, Try.ntmps20
      go_wp2_with (go_at_call 41; (with_reducible refine (open_reg _ _ _ _).mono ?_); rintro e w' ⟨rfl, rfl⟩)
      go_ret
      exact ⟨rfl, (Below.refl _ _).alloc (Nat.le_refl _) _⟩
    · have hn' : ¬ (50 : Int) < (l.length : Int) := by omega
      have hV := nvalid_any (Lies.new w 96 #[.slice A l.length cap]) (hr.alloc _)
      rw [← valid_num (typ := 1) rfl l] at hV
      cases hb : validB 1 l
      all_goals
        first | rw [stateE_bad rfl hn hb] | rw [stateE_good rfl hn hb]
        rw [hb] at hV
        have HV := Lib.hid hV
        clear hV hb hr hn
        go_enter Try.func20, Try.ntmps20
        go_wp2_with (first | (go_at_call 41; (with_reducible refine (open_reg _ _ _ _).mono ?_); rintro e w' ⟨rfl, rfl⟩) | (go_at_call 76; refine HV.out.mono ?_; rintro e w' ⟨rfl, rfl⟩))
        go_ret
        exact ⟨rfl, (Below.refl _ _).alloc (Nat.le_refl _) _⟩
  · have m1 := meth_queue_valid
    by_cases hn : 50 < l.length
    · rw [stateE_long rfl hn]
      have hn' : (50 : Int) < (l.length : Int) := by omega
      clear hr hn
      go_enter Try.func20, Try.ntmps20
      go_wp2_with (go_at_call 41; (with_reducible refine (open_queue _ _ _ _).mono ?_); rintro e w' ⟨rfl, rfl⟩)
      go_ret
      exact ⟨rfl, (Below.refl _ _).alloc (Nat.le_refl _) _⟩
    · have hn' : ¬ (50 : Int) < (l.length : Int) := by omega
      have hV := rvalid_any (Lies.new w 100 #[.slice A l.length cap]) (hr.alloc _)
      rw [← valid_rows (typ := 2) rfl rfl l] at hV
      cases hb : validB 2 l
      all_goals
        first | rw [stateE_bad rfl hn hb] | rw [stateE_good rfl hn hb]
        rw [hb] at hV
        have HV := Lib.hid hV
        clear hV hb hr hn
        go_enter Try.func20, Try.ntmps20
        go_wp2_with (first | (go_at_call 41; (with_reducible refine (open_queue _ _ _ _).mono ?_); rintro e w' ⟨rfl, rfl⟩) | (go_at_call 81; refine HV.out.mono ?_; rintro e w' ⟨rfl, rfl⟩))
        go_ret
        exact ⟨rfl, (Below.refl _ _).alloc (Nat.le_refl _) _⟩
  · have m1 := meth_stack_valid
    by_cases hn : 50 < l.length
    · rw [stateE_long rfl hn]
      have hn' : (50 : Int) < (l.length : Int) := by omega
      clear hr hn
      go_enter Try.func20, Try.ntmps20
      go_wp2_with (go_at_call 41; (with_reducible refine (open_stack _ _ _ _).mono ?_); rintro e w' ⟨rfl, rfl⟩)
      go_ret
      exact ⟨rfl, (Below.refl _ _).alloc (Nat.le_refl _) _⟩
    · have hn' : ¬ (50 : Int) < (l.length : Int) := by omega
      have hV := rvalid_any (Lies.new w 102 #[.slice A l.length cap]) (hr.alloc _)
      rw [← valid_rows (typ := 3) rfl rfl l] at hV
      cases hb : validB 3 l
      all_goals
        first | rw [stateE_bad rfl hn hb] | rw [stateE_good rfl hn hb]
        rw [hb] at hV
        have HV := Lib.hid hV
        clear hV hb hr hn
        go_enter Try.func20, Try.ntmps20
        go_wp2_with (first | (go_at_call 41; (with_reducible refine (open_stack _ _ _ _).mono ?_); rintro e w' ⟨rfl, rfl⟩) | (go_at_call 81; refine HV.out.mono ?_; rintro e w' ⟨rfl, rfl⟩))
        go_ret
        exact ⟨rfl, (Below.refl _ _).alloc (Nat.le_refl _) _⟩
  · have m1 := meth_set_valid
    by_cases hn : 50 < l.length
    · rw [stateE_long rfl hn]
      have hn' : (50 : Int) < (l.length : Int) := by omega
      clear hr hn
      go_enter Try.func20, Try.ntmps20
      go_wp2_with (go_at_call 41; (with_reducible refine (open_set _ _ _ _).mono ?_); rintro e w' ⟨rfl, rfl⟩)
      go_ret
      exact ⟨rfl, (Below.refl _ _).alloc (Nat.le_refl _) _⟩
    · have hn' : ¬ (50 : Int) < (l.length : Int) := by omega
      have hV := svalid_any (Lies.new w 104 #[.slice A l.length cap]) (hr.alloc _)
      rw [← valid_set l] at hV
      cases hb : validB 4 l
      all_goals
        first | rw [stateE_bad rfl hn hb] | rw [stateE_good rfl hn hb]
        rw [hb] at hV
        have HV := Lib.hid hV
        clear hV hb hr hn
        go_enter Try.func20, Try.ntmps20
        go_wp2_with (first | (go_at_call 41; (with_reducible refine (open_set _ _ _ _).mono ?_); rintro e w' ⟨rfl, rfl⟩) | (go_at_call 92; refine HV.out.mono ?_; rintro e w' ⟨rfl, q, rfl⟩))
        go_ret
        exact ⟨rfl, belowN ((Below.refl _ _).alloc (Nat.le_refl _) _) _⟩
  · have m1 := meth_ticket_valid
    by_cases hn : 50 < l.length
    · rw [stateE_long rfl hn]
      have hn' : (50 : Int) < (l.length : Int) := by omega
      clear hr hn
      go_enter Try.func20, Try.ntmps20
      go_wp2_with (go_at_call 41; (with_reducible refine (open_ticket _ _ _ _).mono ?_); rintro e w' ⟨rfl, rfl⟩)
      go_ret
      exact ⟨rfl, (Below.refl _ _).alloc (Nat.le_refl _) _⟩
    · have hn' : ¬ (50 : Int) < (l.length : Int) := by omega
      have hV := nvalid_any (Lies.new w 106 #[.slice A l.length cap]) (hr.alloc _)
      rw [← valid_num (typ := 5) rfl l] at hV
      cases hb : validB 5 l
      all_goals
        first | rw [stateE_bad rfl hn hb] | rw [stateE_good rfl hn hb]
        rw [hb] at hV
        have HV := Lib.hid hV
        clear hV hb hr hn
        go_enter Try.func20, Try.ntmps20
        go_wp2_with (first | (go_at_call 41; (with_reducible refine (open_ticket _ _ _ _).mono ?_); rintro e w' ⟨rfl, rfl⟩) | (go_at_call 76; refine HV.out.mono ?_; rintro e w' ⟨rfl, rfl⟩))
        go_ret
        exact ⟨rfl, (Below.refl _ _).alloc (Nat.le_refl _) _⟩
  · have e1 : stateE typ l = 1 := by unfold stateE; rw [if_pos h]
    rw [e1]
    have HC := Lib.hid (fun A n c W => open_none ⟨h1, h2, h3, h4, h5⟩ A n c W)
    clear h1 h2 h3 h4 h5 h e1 hr
    go_enter Try.func20, Try.ntmps20
    go_wp2_with (go_at_call 41; (with_reducible refine (HC.out _ _ _ _).mono ?_); rintro e w' ⟨rfl, rfl⟩)
    go_ret
    exact ⟨rfl, Below.refl _ _⟩

/-- May it be called so? The history of the call alone tells. -/
theorem alone_calls {typ : Int} (h : btw 1 typ 5 = true) (kind arg : Int) : ((callsOf [typ] [⟨0, 0, kind, arg⟩]).2.2 == 0) = (fitsB typ kind && takesB kind arg) := by
  have ht := btw_iff.1 h
  have e1 : typesB [typ] = true := by
    unfold typesB
    simp
    omega
  unfold callsOf
  rw [if_neg (by rw [e1]; decide), if_neg (by simp)]
  have es : step [typ] 0 [] ⟨0, 0, kind, arg⟩ = if kind = 0 then .inl 4 else if fitsB typ kind = false ∨ takesB kind arg = false then .inl 3 else .inr [⟨0, 0, kind, arg, 0, 0, -1⟩] := by
    unfold step
    rw [if_neg (by simp)]
    rfl
  rw [run, es]
  by_cases h0 : kind = 0
  · rw [if_pos h0]
    subst h0
    have : fitsB typ 0 = false := by
      cases hf : fitsB typ 0
      · rfl
      · have := fits_kind hf; omega
    rw [this]
    rfl
  · rw [if_neg h0]
    cases fitsB typ kind <;> cases takesB kind arg <;> rfl

set_option maxHeartbeats 1000000 in
theorem invocable_any {typ : Int} (h : btw 1 typ 5 = true) (kind arg : Int) (w : World) :
    Calls Try.prog 42 #[.int .i64 typ, .int .i64 kind, .int .i64 arg] w fun e w' => e = .returned (.bool (fitsB typ kind && takesB kind arg)) ∧ Below w.heap.size w w' := by
  have hN : NRd ((w.alloc (.cells #[.int .i64 typ] 3)).alloc (.cells #[.int .i64 0, .int .i64 0, .int .i64 kind, .int .i64 arg] 39)) ((w.alloc (.cells #[.int .i64 typ] 3)).alloc (.cells #[.int .i64 0, .int .i64 0, .int .i64 kind, .int .i64 arg] 39)).heap.size (.slice (some ⟨w.heap.size, 0, none⟩) 1 1) [typ] :=
    ((LRd.of_lit (f := intCs) (s := 1) (w := w) (l := [typ]) (fun _ => rfl) 3 (cs := #[.int .i64 typ]) rfl (n := 1) rfl (by unfold maxLen; omega)).below ((Below.refl _ _).alloc (by simp) _)).mono (by simp)
  have hE : ERd ((w.alloc (.cells #[.int .i64 typ] 3)).alloc (.cells #[.int .i64 0, .int .i64 0, .int .i64 kind, .int .i64 arg] 39)) ((w.alloc (.cells #[.int .i64 typ] 3)).alloc (.cells #[.int .i64 0, .int .i64 0, .int .i64 kind, .int .i64 arg] 39)).heap.size (.slice (some ⟨w.heap.size + 1, 0, none⟩) 1 1) [⟨0, 0, kind, arg⟩] := by
    have := LRd.of_lit (f := evCs) (s := 4) (w := w.alloc (.cells #[.int .i64 typ] 3)) (l := [⟨0, 0, kind, arg⟩]) (fun _ => rfl) 39 (cs := #[.int .i64 0, .int .i64 0, .int .i64 kind, .int .i64 arg]) rfl (n := 1) rfl (by unfold maxLen; omega)
    simpa using this
  have hC := calls_any hN hE
  have ho := alone_calls h kind arg
  generalize callsOf [typ] [⟨0, 0, kind, arg⟩] = o at hC ho
  obtain ⟨cs, at_, er⟩ := o
  unfold CallsPost at hC
  simp only at hC ho
  rw [← ho]
  have HC := Lib.hid hC
  clear hN hE hC ho h
  generalize hb : (er == 0) = b
  go_enter Try.func42, Try.ntmps42
  go_wp2_with (go_at_call 32; refine HC.out.mono ?_; rintro e w' ⟨v', rfl, hb, hr⟩)
  go_ret
  exact ⟨rfl, (((Below.refl _ _).alloc (Nat.le_refl _) _).alloc (by simp) _).trans (hb.mono (by simp; omega))⟩
end Go.Proofs.Ytebcnhnkpmbgdaa
