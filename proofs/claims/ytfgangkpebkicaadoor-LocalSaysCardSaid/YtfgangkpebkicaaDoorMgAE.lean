/-
  Joined by a program out of: ObjStart, Splice, Shelf, ObjIns.
-/
import Derived.Test.YtfgangkpebkicaaDoorMgAC
import Derived.Test.YtfgangkpebkicaaDoorMgAD
import Derived.Test.YtfgangkpebkicaaDoorMgAB
import Derived.Laws.IdiomCopy
import Derived.Laws.AppendOwn
import Derived.Test.YtfgangkpebkicaaDoorProg
import Derived.Shelf.Slices.Delete
import Derived.Lib.RowBridge
import Derived.Shelf.Slices.Empties
import Derived.Shelf.Spec.SlicesInsertGrow

/-
  Contracts of object.Start, object.Check, object.invocable.
-/
namespace Go.Proofs.YtfgangkpebkicaaDoor
open Go.RowKit
set_option maxRecDepth 20000
def startE (typ : Int) : Int := if btw 1 typ 5 = true then 0 else 1
/-- What Start answers. -/
def StartPost (w : World) (typ : Int) (e : Ending) (w' : World) : Prop :=
  ∃ v, e = .returned (.tuple #[v, .int .i64 (startE typ)]) ∧ IOwn w' w.heap.size v (beginL typ) ∧ Below w.heap.size w w'
theorem nstart_any (a : Addr) (w : World) : Calls Tryd.prog 139 #[.pointer (some a)] w fun e w' => e = .returned (.slice (some ⟨w.heap.size, 0, none⟩) 1 1) ∧ w' = w.alloc (.cells #[.int .i64 0] 3) := by
  go_enter Tryd.func139, Tryd.ntmps139
  go_wp2
  go_ret
  exact ⟨rfl, rfl⟩
theorem rstart_any (a : Addr) (w : World) : Calls Tryd.prog 144 #[.pointer (some a)] w fun e w' => e = .returned (.slice none 0 0) ∧ w = w' := by
  go_enter Tryd.func144, Tryd.ntmps144
  go_wp2
  go_ret
  exact ⟨rfl, rfl⟩
theorem zero_own (w : World) (B : Nat) (hB : B ≤ w.heap.size) : IOwn (w.alloc (.cells #[.int .i64 0] 3)) B (.slice (some ⟨w.heap.size, 0, none⟩) 1 1) [0] :=
  Or.inr ⟨_, 1, [0], rfl, hB, Lies.new w _ _, rfl, Nat.le_refl _, by unfold maxLen; omega, rfl⟩
set_option maxHeartbeats 1000000 in
theorem start_any (typ : Int) (w : World) : Calls Tryd.prog 76 #[.int .i64 typ] w (StartPost w typ) := by
  rcases typ_ways typ with rfl | rfl | rfl | rfl | rfl | ⟨h1, h2, h3, h4, h5, h⟩
  · have m1 := meth_reg_start
    go_enter Tryd.func76, Tryd.ntmps76
    go_wp2_with (first | (go_at_call 95; (with_reducible refine (open_reg _ _ _ _).mono ?_); rintro e w' ⟨rfl, rfl⟩) | (go_at_call 139; (with_reducible refine (nstart_any _ _).mono ?_); rintro e w' ⟨rfl, rfl⟩))
    go_ret2
    refine ⟨_, rfl, ?_, ((Below.refl _ _).alloc (Nat.le_refl _) _).alloc (by simp) _⟩
    have := zero_own (w.alloc (.cells #[.slice none 0 0] 181)) w.heap.size (by simp)
    rw [show beginL 1 = [0] from rfl]
    simpa using this
  · have m1 := meth_queue_start
    go_enter Tryd.func76, Tryd.ntmps76
    go_wp2_with (first | (go_at_call 95; (with_reducible refine (open_queue _ _ _ _).mono ?_); rintro e w' ⟨rfl, rfl⟩) | (go_at_call 144; (with_reducible refine (rstart_any _ _).mono ?_); rintro e w' ⟨rfl, rfl⟩))
    go_ret2
    exact ⟨_, rfl, Or.inl ⟨rfl, rfl⟩, (Below.refl _ _).alloc (Nat.le_refl _) _⟩
  · have m1 := meth_stack_start
    go_enter Tryd.func76, Tryd.ntmps76
    go_wp2_with (first | (go_at_call 95; (with_reducible refine (open_stack _ _ _ _).mono ?_); rintro e w' ⟨rfl, rfl⟩) | (go_at_call 144; (with_reducible refine (rstart_any _ _).mono ?_); rintro e w' ⟨rfl, rfl⟩))
    go_ret2
    exact ⟨_, rfl, Or.inl ⟨rfl, rfl⟩, (Below.refl _ _).alloc (Nat.le_refl _) _⟩
  · have m1 := meth_set_start
    go_enter Tryd.func76, Tryd.ntmps76
    go_wp2_with (first | (go_at_call 95; (with_reducible refine (open_set _ _ _ _).mono ?_); rintro e w' ⟨rfl, rfl⟩) | (go_at_call 144; (with_reducible refine (rstart_any _ _).mono ?_); rintro e w' ⟨rfl, rfl⟩))
    go_ret2
    exact ⟨_, rfl, Or.inl ⟨rfl, rfl⟩, (Below.refl _ _).alloc (Nat.le_refl _) _⟩
  · have m1 := meth_ticket_start
    go_enter Tryd.func76, Tryd.ntmps76
    go_wp2_with (first | (go_at_call 95; (with_reducible refine (open_ticket _ _ _ _).mono ?_); rintro e w' ⟨rfl, rfl⟩) | (go_at_call 139; (with_reducible refine (nstart_any _ _).mono ?_); rintro e w' ⟨rfl, rfl⟩))
    go_ret2
    refine ⟨_, rfl, ?_, ((Below.refl _ _).alloc (Nat.le_refl _) _).alloc (by simp) _⟩
    have := zero_own (w.alloc (.cells #[.slice none 0 0] 191)) w.heap.size (by simp)
    rw [show beginL 5 = [0] from rfl]
    simpa using this
  · have e1 : startE typ = 1 := by unfold startE; rw [h]; rfl
    have e2 : beginL typ = [] := by
      unfold beginL oneB
      simp only [beq_eq_false_iff_ne] at h1 h5
      rw [if_neg (by simp [h1, h5])]
    unfold StartPost
    rw [e1, e2]
    have HC := Lib.hid (fun A n c W => open_none ⟨h1, h2, h3, h4, h5⟩ A n c W)
    clear h1 h2 h3 h4 h5 h e1 e2
    go_enter Tryd.func76, Tryd.ntmps76
    go_wp2_with (go_at_call 95; (with_reducible refine (HC.out _ _ _ _).mono ?_); rintro e w' ⟨rfl, rfl⟩)
    go_ret2
    exact ⟨_, rfl, Or.inl ⟨rfl, rfl⟩, Below.refl _ _⟩
/-- Behind open, over a state that was handed in. -/
theorem NRd.alloc {w : World} {v : Value} {l : List Int} (h : NRd w w.heap.size v l) (o : Obj) : NRd (w.alloc o) (w.alloc o).heap.size v l := (h.below ((Below.refl _ _).alloc (Nat.le_refl _) o)).mono (by simp)
theorem valid_num {typ : Int} (h : oneB typ = true) (l : List Int) : validB typ l = (decide (l.length = 1) && btw 0 (l.getD 0 0) 1000) := by unfold validB; rw [if_pos h]
theorem valid_rows {typ : Int} (h : oneB typ = false) (h4 : (typ != 4) = true) (l : List Int) : validB typ l = rowB l := by
  unfold validB
  rw [if_neg (by rw [h]; decide), h4, Bool.true_or, Bool.and_true]
  rfl
theorem valid_set (l : List Int) : validB 4 l = (rowB l && incrB l) := rfl
theorem stateE_long {typ : Int} {l : List Int} (h : btw 1 typ 5 = true) (hn : 50 < l.length) : stateE typ l = 2 := by unfold stateE; rw [h, if_neg (by decide), if_pos hn]
theorem stateE_bad {typ : Int} {l : List Int} (h : btw 1 typ 5 = true) (hn : ¬ 50 < l.length) (hv : validB typ l = false) : stateE typ l = 3 := by unfold stateE; rw [h, if_neg (by decide), if_neg hn, if_pos hv]
theorem stateE_good {typ : Int} {l : List Int} (h : btw 1 typ 5 = true) (hn : ¬ 50 < l.length) (hv : validB typ l = true) : stateE typ l = 0 := by unfold stateE; rw [h, if_neg (by decide), if_neg hn, if_neg (by rw [hv]; decide)]
set_option maxHeartbeats 4000000 in
theorem check_any {v : Value} {l : List Int} {w : World} (typ : Int) (hr : NRd w w.heap.size v l) :
    Calls Tryd.prog 108 #[.int .i64 typ, v] w fun e w' => e = .returned (.int .i64 (stateE typ l)) ∧ Below w.heap.size w w' := by
  obtain ⟨A, cap, rfl, m1, m2⟩ := hr.is
  unfold maxLen at m2
  rcases typ_ways typ with rfl | rfl | rfl | rfl | rfl | ⟨h1, h2, h3, h4, h5, h⟩
  · have m1 := meth_reg_valid
    by_cases hn : 50 < l.length
    · rw [stateE_long rfl hn]
      have hn' : (50 : Int) < (l.length : Int) := by omega
      clear hr hn
      go_enter Tryd.func108, Tryd.ntmps108
      go_wp2_with (go_at_call 95; (with_reducible refine (open_reg _ _ _ _).mono ?_); rintro e w' ⟨rfl, rfl⟩)
      go_ret
      exact ⟨rfl, (Below.refl _ _).alloc (Nat.le_refl _) _⟩
    · have hn' : ¬ (50 : Int) < (l.length : Int) := by omega
      have hV := nvalid_any (Lies.new w 181 #[.slice A l.length cap]) (hr.alloc _)
      rw [← valid_num (typ := 1) rfl l] at hV
      cases hb : validB 1 l
      all_goals
        first | rw [stateE_bad rfl hn hb] | rw [stateE_good rfl hn hb]
        rw [hb] at hV
        have HV := Lib.hid hV
        clear hV hb hr hn
        go_enter Tryd.func108, Tryd.ntmps108
        go_wp2_with (first | (go_at_call 95; (with_reducible refine (open_reg _ _ _ _).mono ?_); rintro e w' ⟨rfl, rfl⟩) | (go_at_call 141; refine HV.out.mono ?_; rintro e w' ⟨rfl, rfl⟩))
        go_ret
        exact ⟨rfl, (Below.refl _ _).alloc (Nat.le_refl _) _⟩
  · have m1 := meth_queue_valid
    by_cases hn : 50 < l.length
    · rw [stateE_long rfl hn]
      have hn' : (50 : Int) < (l.length : Int) := by omega
      clear hr hn
      go_enter Tryd.func108, Tryd.ntmps108
      go_wp2_with (go_at_call 95; (with_reducible refine (open_queue _ _ _ _).mono ?_); rintro e w' ⟨rfl, rfl⟩)
      go_ret
      exact ⟨rfl, (Below.refl _ _).alloc (Nat.le_refl _) _⟩
    · have hn' : ¬ (50 : Int) < (l.length : Int) := by omega
      have hV := rvalid_any (Lies.new w 185 #[.slice A l.length cap]) (hr.alloc _)
      rw [← valid_rows (typ := 2) rfl rfl l] at hV
      cases hb : validB 2 l
      all_goals
        first | rw [stateE_bad rfl hn hb] | rw [stateE_good rfl hn hb]
        rw [hb] at hV
        have HV := Lib.hid hV
        clear hV hb hr hn
        go_enter Tryd.func108, Tryd.ntmps108
        go_wp2_with (first | (go_at_call 95; (with_reducible refine (open_queue _ _ _ _).mono ?_); rintro e w' ⟨rfl, rfl⟩) | (go_at_call 146; refine HV.out.mono ?_; rintro e w' ⟨rfl, rfl⟩))
        go_ret
        exact ⟨rfl, (Below.refl _ _).alloc (Nat.le_refl _) _⟩
  · have m1 := meth_stack_valid
    by_cases hn : 50 < l.length
    · rw [stateE_long rfl hn]
      have hn' : (50 : Int) < (l.length : Int) := by omega
      clear hr hn
      go_enter Tryd.func108, Tryd.ntmps108
      go_wp2_with (go_at_call 95; (with_reducible refine (open_stack _ _ _ _).mono ?_); rintro e w' ⟨rfl, rfl⟩)
      go_ret
      exact ⟨rfl, (Below.refl _ _).alloc (Nat.le_refl _) _⟩
    · have hn' : ¬ (50 : Int) < (l.length : Int) := by omega
      have hV := rvalid_any (Lies.new w 187 #[.slice A l.length cap]) (hr.alloc _)
      rw [← valid_rows (typ := 3) rfl rfl l] at hV
      cases hb : validB 3 l
      all_goals
        first | rw [stateE_bad rfl hn hb] | rw [stateE_good rfl hn hb]
        rw [hb] at hV
        have HV := Lib.hid hV
        clear hV hb hr hn
        go_enter Tryd.func108, Tryd.ntmps108
        go_wp2_with (first | (go_at_call 95; (with_reducible refine (open_stack _ _ _ _).mono ?_); rintro e w' ⟨rfl, rfl⟩) | (go_at_call 146; refine HV.out.mono ?_; rintro e w' ⟨rfl, rfl⟩))
        go_ret
        exact ⟨rfl, (Below.refl _ _).alloc (Nat.le_refl _) _⟩
  · have m1 := meth_set_valid
    by_cases hn : 50 < l.length
    · rw [stateE_long rfl hn]
      have hn' : (50 : Int) < (l.length : Int) := by omega
      clear hr hn
      go_enter Tryd.func108, Tryd.ntmps108
      go_wp2_with (go_at_call 95; (with_reducible refine (open_set _ _ _ _).mono ?_); rintro e w' ⟨rfl, rfl⟩)
      go_ret
      exact ⟨rfl, (Below.refl _ _).alloc (Nat.le_refl _) _⟩
    · have hn' : ¬ (50 : Int) < (l.length : Int) := by omega
      have hV := svalid_any (Lies.new w 189 #[.slice A l.length cap]) (hr.alloc _)
      rw [← valid_set l] at hV
      cases hb : validB 4 l
      all_goals
        first | rw [stateE_bad rfl hn hb] | rw [stateE_good rfl hn hb]
        rw [hb] at hV
        have HV := Lib.hid hV
        clear hV hb hr hn
        go_enter Tryd.func108, Tryd.ntmps108
        go_wp2_with (first | (go_at_call 95; (with_reducible refine (open_set _ _ _ _).mono ?_); rintro e w' ⟨rfl, rfl⟩) | (go_at_call 157; refine HV.out.mono ?_; rintro e w' ⟨rfl, q, rfl⟩))
        go_ret
        exact ⟨rfl, belowN ((Below.refl _ _).alloc (Nat.le_refl _) _) _⟩
  · have m1 := meth_ticket_valid
    by_cases hn : 50 < l.length
    · rw [stateE_long rfl hn]
      have hn' : (50 : Int) < (l.length : Int) := by omega
      clear hr hn
      go_enter Tryd.func108, Tryd.ntmps108
      go_wp2_with (go_at_call 95; (with_reducible refine (open_ticket _ _ _ _).mono ?_); rintro e w' ⟨rfl, rfl⟩)
      go_ret
      exact ⟨rfl, (Below.refl _ _).alloc (Nat.le_refl _) _⟩
    · have hn' : ¬ (50 : Int) < (l.length : Int) := by omega
      have hV := nvalid_any (Lies.new w 191 #[.slice A l.length cap]) (hr.alloc _)
      rw [← valid_num (typ := 5) rfl l] at hV
      cases hb : validB 5 l
      all_goals
        first | rw [stateE_bad rfl hn hb] | rw [stateE_good rfl hn hb]
        rw [hb] at hV
        have HV := Lib.hid hV
        clear hV hb hr hn
        go_enter Tryd.func108, Tryd.ntmps108
        go_wp2_with (first | (go_at_call 95; (with_reducible refine (open_ticket _ _ _ _).mono ?_); rintro e w' ⟨rfl, rfl⟩) | (go_at_call 141; refine HV.out.mono ?_; rintro e w' ⟨rfl, rfl⟩))
        go_ret
        exact ⟨rfl, (Below.refl _ _).alloc (Nat.le_refl _) _⟩
  · have e1 : stateE typ l = 1 := by unfold stateE; rw [if_pos h]
    rw [e1]
    have HC := Lib.hid (fun A n c W => open_none ⟨h1, h2, h3, h4, h5⟩ A n c W)
    clear h1 h2 h3 h4 h5 h e1 hr
    go_enter Tryd.func108, Tryd.ntmps108
    go_wp2_with (go_at_call 95; (with_reducible refine (HC.out _ _ _ _).mono ?_); rintro e w' ⟨rfl, rfl⟩)
    go_ret
    exact ⟨rfl, Below.refl _ _⟩
/-- May it be called so? The history of the call alone tells. -/
theorem alone_calls {typ : Int} (h : btw 1 typ 5 = true) (kind arg : Int) : ((callsOf [typ] [⟨0, 0, kind, arg⟩]).2.2 == 0) = (fitsB typ kind && takesB kind arg) := by
  have ht := btw_iff.1 h
  have e1 : typesB [typ] = true := by
    unfold typesB
    simp
    omega
  unfold callsOf
  rw [if_neg (by rw [e1]; decide), if_neg (by simp)]
  have es : step [typ] 0 [] ⟨0, 0, kind, arg⟩ = if kind = 0 then .inl 4 else if fitsB typ kind = false ∨ takesB kind arg = false then .inl 3 else .inr [⟨0, 0, kind, arg, 0, 0, -1⟩] := by
    unfold step
    rw [if_neg (by simp)]
    rfl
  rw [run, es]
  by_cases h0 : kind = 0
  · rw [if_pos h0]
    subst h0
    have : fitsB typ 0 = false := by
      cases hf : fitsB typ 0
      · rfl
      · have := fits_kind hf; omega
    rw [this]
    rfl
  · rw [if_neg h0]
    cases fitsB typ kind <;> cases takesB kind arg <;> rfl
set_option maxHeartbeats 1000000 in
theorem invocable_any {typ : Int} (h : btw 1 typ 5 = true) (kind arg : Int) (w : World) :
    Calls Tryd.prog 109 #[.int .i64 typ, .int .i64 kind, .int .i64 arg] w fun e w' => e = .returned (.bool (fitsB typ kind && takesB kind arg)) ∧ Below w.heap.size w w' := by
  have hN : NRd ((w.alloc (.cells #[.int .i64 typ] 3)).alloc (.cells #[.int .i64 0, .int .i64 0, .int .i64 kind, .int .i64 arg] 84)) ((w.alloc (.cells #[.int .i64 typ] 3)).alloc (.cells #[.int .i64 0, .int .i64 0, .int .i64 kind, .int .i64 arg] 84)).heap.size (.slice (some ⟨w.heap.size, 0, none⟩) 1 1) [typ] :=
    ((LRd.of_lit (f := intCs) (s := 1) (w := w) (l := [typ]) (fun _ => rfl) 3 (cs := #[.int .i64 typ]) rfl (n := 1) rfl (by unfold maxLen; omega)).below ((Below.refl _ _).alloc (by simp) _)).mono (by simp)
  have hE : ERd ((w.alloc (.cells #[.int .i64 typ] 3)).alloc (.cells #[.int .i64 0, .int .i64 0, .int .i64 kind, .int .i64 arg] 84)) ((w.alloc (.cells #[.int .i64 typ] 3)).alloc (.cells #[.int .i64 0, .int .i64 0, .int .i64 kind, .int .i64 arg] 84)).heap.size (.slice (some ⟨w.heap.size + 1, 0, none⟩) 1 1) [⟨0, 0, kind, arg⟩] := by
    have := LRd.of_lit (f := evCs) (s := 4) (w := w.alloc (.cells #[.int .i64 typ] 3)) (l := [⟨0, 0, kind, arg⟩]) (fun _ => rfl) 84 (cs := #[.int .i64 0, .int .i64 0, .int .i64 kind, .int .i64 arg]) rfl (n := 1) rfl (by unfold maxLen; omega)
    simpa using this
  have hC := calls_any hN hE
  have ho := alone_calls h kind arg
  generalize callsOf [typ] [⟨0, 0, kind, arg⟩] = o at hC ho
  obtain ⟨cs, at_, er⟩ := o
  unfold CallsPost at hC
  simp only at hC ho
  rw [← ho]
  have HC := Lib.hid hC
  clear hN hE hC ho h
  generalize hb : (er == 0) = b
  go_enter Tryd.func109, Tryd.ntmps109
  go_wp2_with (go_at_call 37; refine HC.out.mono ?_; rintro e w' ⟨v', rfl, hb, hr⟩)
  go_ret
  exact ⟨rfl, (((Below.refl _ _).alloc (Nat.le_refl _) _).alloc (by simp) _).trans (hb.mono (by simp; omega))⟩
end Go.Proofs.YtfgangkpebkicaaDoor

/-
  A piece of a row laid over by other numbers: of lists, and in memory.
-/
namespace Go.Proofs.YtfgangkpebkicaaDoor
open Go.RowKit
set_option maxRecDepth 20000
/-- The numbers ys laid over those of zs from o on. -/
def splice (zs : List Int) (o : Nat) (ys : List Int) : List Int := zs.take o ++ ys ++ zs.drop (o + ys.length)
theorem splice_len {zs : List Int} {o : Nat} {ys : List Int} (h : o + ys.length ≤ zs.length) : (splice zs o ys).length = zs.length := by
  unfold splice
  simp
  omega
theorem splice_get {zs : List Int} {o : Nat} {ys : List Int} (h : o + ys.length ≤ zs.length) (j : Nat) :
    (splice zs o ys)[j]? = if j < o then zs[j]? else if j < o + ys.length then ys[j - o]? else zs[j]? := by
  unfold splice
  rw [List.append_assoc, List.getElem?_append, List.length_take, Nat.min_eq_left (by omega)]
  by_cases h1 : j < o
  · rw [if_pos h1, if_pos h1, List.getElem?_take_of_lt h1]
  · rw [if_neg h1, if_neg h1, List.getElem?_append]
    by_cases h2 : j < o + ys.length
    · rw [if_pos (by omega), if_pos h2]
    · rw [if_neg (by omega), if_neg h2, List.getElem?_drop]
      congr 1
      omega
theorem splice_cons {zs : List Int} {o : Nat} {y : Int} {ys : List Int} (h : o + (y :: ys).length ≤ zs.length) : splice (zs.set o y) (o + 1) ys = splice zs o (y :: ys) := by
  apply List.ext_getElem?
  intro j
  simp only [List.length_cons] at h
  rw [splice_get (by simp; omega), splice_get (by simp; omega)]
  rw [List.getElem?_set]
  simp only [List.length_cons]
  by_cases h1 : j < o
  · rw [if_pos (by omega), if_neg (by omega), if_pos h1]
  · rw [if_neg h1]
    by_cases h2 : j = o
    · subst h2
      rw [if_pos (by omega), if_pos rfl, if_pos (by omega), if_pos (by omega), Nat.sub_self]
      rfl
    · rw [if_neg (by omega)]
      by_cases h3 : j < o + 1 + ys.length
      · rw [if_pos h3, if_pos (by omega), show j - o = (j - (o + 1)) + 1 by omega, List.getElem?_cons_succ]
      · rw [if_neg h3, if_neg (by omega), if_neg (by omega)]
theorem insAt_get {l : List Int} {p : Nat} {x : Int} (h : p ≤ l.length) (j : Nat) : (insAt l p x)[j]? = if j < p then l[j]? else if j = p then some x else l[j - 1]? := by
  unfold insAt
  rw [List.getElem?_append, List.length_take, Nat.min_eq_left h]
  by_cases h1 : j < p
  · rw [if_pos h1, if_pos h1, List.getElem?_take_of_lt h1]
  · rw [if_neg h1, if_neg h1]
    by_cases h2 : j = p
    · subst h2
      rw [Nat.sub_self, if_pos rfl]
      rfl
    · rw [if_neg h2, show j - p = (j - p - 1) + 1 by omega, List.getElem?_cons_succ, List.getElem?_drop]
      congr 1
      omega
theorem take_get {zs l : List Int} (h : zs.take l.length = l) {j : Nat} (hj : j < l.length) : zs[j]? = l[j]? := by
  rw [← List.getElem?_take_of_lt (l := zs) hj, h]
/-- What stood from i on one place on, and x at i. -/
theorem splice_shift {zs l : List Int} {i : Nat} {x : Int} (h : zs.take l.length = l) (hi : i ≤ l.length) (hn : l.length + 1 ≤ zs.length) :
    (splice (splice zs (i + 1) (l.drop i)) i [x]).take (l.length + 1) = insAt l i x := by
  have e1 : i + 1 + (l.drop i).length ≤ zs.length := by simp; omega
  have e2 : i + [x].length ≤ (splice zs (i + 1) (l.drop i)).length := by rw [splice_len e1]; simp; omega
  apply List.ext_getElem?
  intro j
  rw [List.getElem?_take, insAt_get hi]
  by_cases hj : j < l.length + 1
  · rw [if_pos hj, splice_get e2]
    simp only [List.length_cons, List.length_nil, Nat.zero_add]
    by_cases h1 : j < i
    · rw [if_pos h1, if_pos h1, splice_get e1, if_pos (by omega)]
      exact take_get h (by omega)
    · rw [if_neg h1, if_neg h1]
      by_cases h2 : j = i
      · subst h2
        rw [if_pos (by omega), if_pos rfl, Nat.sub_self]
        rfl
      · rw [if_neg (by omega), if_neg h2, splice_get e1, if_neg (by omega), if_pos (by simp; omega), List.getElem?_drop]
        congr 1
        omega
  · rw [if_neg hj, if_neg (by omega), if_neg (by omega), List.getElem?_eq_none (by omega)]
theorem splice_end {zs l : List Int} {x : Int} (h : zs.take l.length = l) (hn : l.length + 1 ≤ zs.length) :
    (splice zs l.length [x]).take (l.length + 1) = insAt l l.length x := by
  have e2 : l.length + [x].length ≤ zs.length := by simpa using hn
  apply List.ext_getElem?
  intro j
  rw [List.getElem?_take, insAt_get (Nat.le_refl _)]
  by_cases hj : j < l.length + 1
  · rw [if_pos hj, splice_get e2]
    simp only [List.length_cons, List.length_nil, Nat.zero_add]
    by_cases h1 : j < l.length
    · rw [if_pos h1, if_pos h1]
      exact take_get h h1
    · rw [if_neg h1, if_neg h1, if_pos (by omega), if_pos (by omega), show j - l.length = 0 by omega]
      rfl
  · rw [if_neg hj, if_neg (by omega), if_neg (by omega), List.getElem?_eq_none (by omega)]
theorem splice_front {zs ys : List Int} {k : Nat} (hk : k ≤ ys.length) : (splice zs 0 ys).take k = ys.take k := by
  unfold splice
  rw [List.take_zero, List.nil_append, List.take_append, show k - ys.length = 0 by omega, List.take_zero, List.append_nil]
section
variable {w w' : World} {g : Nat} {t : TypeId} {zs : List Int}
theorem Lies.setInts : ∀ {ys : List Int} {o : Nat} {zs : List Int} {w : World}, Lies w g t (zs.map (Value.int .i64)).toArray → o + ys.length ≤ zs.length →
    Lies (w.setCells g o (ys.map (Value.int .i64))) g t ((splice zs o ys).map (Value.int .i64)).toArray
  | [], o, zs, w, h, _ => by
    have : splice zs o [] = zs := by unfold splice; simp
    rw [this]
    exact h
  | y :: ys, o, zs, w, h, hl => by
    have h1 := h.set_ o (.int .i64 y)
    have h2 : Lies (w.setCell ⟨g, o, none⟩ (.int .i64 y)) g t ((zs.set o y).map (Value.int .i64)).toArray := h1.cast (by
      rw [List.map_set]
      simp)
    have h3 := Lies.setInts (ys := ys) (o := o + 1) h2 (by simp at hl ⊢; omega)
    rw [splice_cons hl] at h3
    exact h3
theorem grown_refl (w : World) (r : Option Nat) : w.grownBy w r := ⟨rfl, rfl, rfl, Nat.le_refl _, fun _ _ _ => rfl⟩
theorem grown_trans {a b c : World} {r : Option Nat} (h1 : a.grownBy b r) (h2 : b.grownBy c r) : a.grownBy c r :=
  ⟨h2.os.trans h1.os, h2.tape.trans h1.tape, h2.output.trans h1.output, Nat.le_trans h1.size h2.size, fun k hk hr => (h2.block k (Nat.lt_of_lt_of_le hk h1.size) hr).trans (h1.block k hk hr)⟩
theorem grown_of_below {a b : World} {r : Option Nat} (h : Below a.heap.size a b) : a.grownBy b r := ⟨h.os, h.tape, h.output, h.size, fun k hk _ => h.block k hk⟩
theorem grown_drewN (w : World) (r : Option Nat) (n : Nat) : w.grownBy (w.drewN n) r := ⟨rfl, rfl, rfl, Nat.le_refl _, fun _ _ _ => rfl⟩
theorem grown_setCells (g : Nat) (r : Option Nat) (hr : r = some g) : ∀ (vs : List Value) (o : Nat) (w : World), w.grownBy (w.setCells g o vs) r
  | [], o, w => grown_refl w r
  | v :: vs, o, w => by
    subst hr
    refine grown_trans (b := w.setCell ⟨g, o, none⟩ v) ⟨rfl, rfl, rfl, by simp [World.setCell], fun k hk hne => ?_⟩ (grown_setCells g _ rfl vs (o + 1) _)
    exact Below.heap_setCell w ⟨g, o, none⟩ v k (fun e => hne (by rw [e]))
theorem below_setC {B g : Nat} {a : World} (hg : B ≤ g) : ∀ (vs : List Value) (o : Nat) (w : World), Below B a w → Below B a (w.setCells g o vs)
  | [], _, _, h => h
  | v :: vs, o, _, h => below_setC hg vs (o + 1) _ (h.setCell hg v)
end
end Go.Proofs.YtfgangkpebkicaaDoor

/-
  The library's contracts of slices.Insert, Delete, BinarySearch over integers, laid at this program.
-/
namespace Go.Proofs.YtfgangkpebkicaaDoor
open Go.RowKit Go.Shelf
set_option maxRecDepth 20000
def shelfRen : Go.Shelf.Ren := ⟨fun | 21 => 150 | 27 => 151 | 28 => 152 | 35 => 153 | 39 => 154 | 23 => 149 | 25 => 158 | 31 => 87 | 32 => 159 | 37 => 105 | n => n,
  fun | 0 => 0 | 3 => 3 | 4 => 4 | 22 => 22 | 40 => 135 | n => n, fun n => n⟩
theorem laysInsert : Lays2.n21 Tryd.prog shelfRen := {
  mixed := by kernel_rfl
  f21 := Tryd.func150.trans (congrArg some (by kernel_rfl))
  f27 := Tryd.func151.trans (congrArg some (by kernel_rfl))
  f28 := Tryd.func152.trans (congrArg some (by kernel_rfl))
  f35 := Tryd.func153.trans (congrArg some (by kernel_rfl))
  f39 := Tryd.func154.trans (congrArg some (by kernel_rfl))
  t0 := Tryd.underlying0
  a0 := Tryd.isAgg0
  z0 := Tryd.sizeOf0
  v0 := Tryd.zeroValue0
  t3 := Tryd.underlying3
  a3 := Tryd.isAgg3
  z3 := Tryd.sizeOf3
  v3 := Tryd.zeroValue3
  t4 := Tryd.underlying4
  a4 := Tryd.isAgg4
  z4 := Tryd.sizeOf4
  v4 := Tryd.zeroValue4
  t22 := Tryd.underlying22
  a22 := Tryd.isAgg22
  z22 := Tryd.sizeOf22
  v22 := Tryd.zeroValue22
  i3 := by kernel_rfl }
theorem laysDelete : Lays2.n23 Tryd.prog shelfRen := {
  mixed := by kernel_rfl
  f23 := Tryd.func149.trans (congrArg some (by kernel_rfl))
  t0 := Tryd.underlying0
  a0 := Tryd.isAgg0
  z0 := Tryd.sizeOf0
  v0 := Tryd.zeroValue0
  t3 := Tryd.underlying3
  a3 := Tryd.isAgg3
  z3 := Tryd.sizeOf3
  v3 := Tryd.zeroValue3
  t4 := Tryd.underlying4
  a4 := Tryd.isAgg4
  z4 := Tryd.sizeOf4
  v4 := Tryd.zeroValue4
  t22 := Tryd.underlying22
  a22 := Tryd.isAgg22
  z22 := Tryd.sizeOf22
  v22 := Tryd.zeroValue22
  i3 := by kernel_rfl }
theorem laysSearch : Lays2.n25 Tryd.prog shelfRen := {
  mixed := by kernel_rfl
  f25 := Tryd.func158.trans (congrArg some (by kernel_rfl))
  f31 := Tryd.func87.trans (congrArg some (by kernel_rfl))
  f32 := Tryd.func159.trans (congrArg some (by kernel_rfl))
  f37 := Tryd.func105.trans (congrArg some (by kernel_rfl))
  t0 := Tryd.underlying0
  a0 := Tryd.isAgg0
  z0 := Tryd.sizeOf0
  v0 := Tryd.zeroValue0
  t3 := Tryd.underlying3
  a3 := Tryd.isAgg3
  z3 := Tryd.sizeOf3
  v3 := Tryd.zeroValue3
  t4 := Tryd.underlying4
  a4 := Tryd.isAgg4
  z4 := Tryd.sizeOf4
  v4 := Tryd.zeroValue4
  t22 := Tryd.underlying22
  a22 := Tryd.isAgg22
  z22 := Tryd.sizeOf22
  v22 := Tryd.zeroValue22
  t40 := Tryd.underlying135
  a40 := Tryd.isAgg135
  z40 := Tryd.sizeOf135
  v40 := Tryd.zeroValue135 }
end Go.Proofs.YtfgangkpebkicaaDoor

/-
  slices.Insert, Delete, BinarySearch over a row of one's own.
-/
namespace Go.Proofs.YtfgangkpebkicaaDoor
open Go.RowKit
set_option maxRecDepth 20000
/-- The one value to be put in lies in a block of its own. -/
def OneCell (w : World) (vb : Nat) (x : Int) : Prop := Lies w vb 3 #[.int .i64 x]
theorem one_of_map {l : List Int} : ∀ v ∈ l.map (Value.int .i64), v.oneCell' = true := fun v hv => by
  obtain ⟨x, _, rfl⟩ := List.mem_map.1 hv
  rfl
theorem map_cell {w : World} {g o : Nat} {l : List Int} (h : ∀ j x, l[j]? = some x → w.cell? ⟨g, o + j, none⟩ = some (.int .i64 x)) : ∀ j v, (l.map (Value.int .i64))[j]? = some v → w.cell? ⟨g, o + j, none⟩ = some v := fun j v hv => by
  rw [List.getElem?_map] at hv
  cases hx : l[j]? with
  | none => rw [hx] at hv; cases hv
  | some x =>
    rw [hx] at hv
    simp only [Option.map_some, Option.some.injEq] at hv
    subst hv
    exact h j x hx
theorem one_cell {w : World} {vb : Nat} {x : Int} (h : OneCell w vb x) : ∀ j v, ([x].map (Value.int .i64))[j]? = some v → w.cell? ⟨vb, 0 + j, none⟩ = some v := fun j v hv => by
  rw [Nat.zero_add, Lies.cell h]
  simpa using hv
theorem shape_of {w : World} {g : Nat} {t : TypeId} {cs : Array Value} (h : Lies w g t cs) : w.shape? g = some (t, cs.size) := by
  have h' : w.heap[g]? = some (.cells cs t (0, 0)) := h
  simp [World.shape?, h']
/-- What an insert leaves. -/
def InsPost (w : World) (B : Nat) (v : Value) (l : List Int) (e : Ending) (w' : World) : Prop :=
  ∃ v', e = .returned v' ∧ IOwn w' B v' l ∧ w.grownBy w' v.ownBlock ∧ (v'.ownBlock = v.ownBlock ∨ ∀ k, v'.ownBlock = some k → w.heap.size ≤ k)
set_option maxHeartbeats 1000000 in
theorem insI_any {v : Value} {B vb p : Nat} {l : List Int} {x : Int} {w : World} (h : IOwn w B v l) (hp : p ≤ l.length) (h50 : l.length < 50) (hx : OneCell w vb x) (hne : v.ownBlock ≠ some vb) (hB : B ≤ w.heap.size) :
    Calls Tryd.prog 150 #[v, .int .i64 p, .slice (some ⟨vb, 0, none⟩) 1 1] w (InsPost w B v (insAt l p x)) := by
  rcases h with ⟨rfl, rfl⟩ | ⟨g, cap, zs, rfl, hgB, hL, hz, hc, hm, ht⟩
  · have hp0 : p = 0 := by simpa using hp
    subst hp0
    refine (Any2.slices_Insert_int_end_grow laysInsert none 0 0 vb 0 1 1 [] ([x].map (Value.int .i64)) w (by decide) (by decide) (by decide) (by decide) rfl rfl (fun _ => rfl) (fun a ha => by cases ha) (one_cell hx) one_of_map).mono ?_
    rintro e w' ⟨rfl, rfl⟩
    refine ⟨_, rfl, ?_, grown_of_below (((Below.refl _ _).drew).alloc (by simp) _), Or.inr fun k hk => Nat.le_of_eq (Option.some.inj hk)⟩
    have := own_made w.drew B [x] (c := grownCap w (0 + 1) 0 3) (by have := grownCap_ge w (0 + 1) 0 3; simpa using this) (grownCap_le_maxLen _ _ _ _ (by unfold maxLen; omega)) hB
    simpa [insAt, show shelfRen.t 3 = 3 from rfl] using this
  · have hcells : ∀ j x, l[j]? = some x → w.cell? ⟨g, 0 + j, none⟩ = some (.int .i64 x) := fun j y hy => by
      rw [Nat.zero_add]
      exact int_cell hL (take_at ht hy)
    have hvb : vb ≠ g := fun e => hne (by rw [e]; rfl)
    have hall : ∀ j, j < cap → (w.cell? ⟨g, 0 + j, none⟩).isSome = true := fun j hj => by
      rw [Nat.zero_add, hL.cell]
      simp [hz, hj]
    unfold maxLen at hm
    by_cases hroom : l.length + 1 ≤ cap
    · by_cases hpl : p = l.length
      · subst hpl
        refine (Any2.slices_Insert_int_end_room laysInsert g 0 l.length cap vb 0 1 1 ([x].map (Value.int .i64)) w (by decide) hroom (by omega) rfl (fun j hj => ?_) (fun j hj => hL.frozen _) (one_cell hx) one_of_map).mono ?_
        · have := hall (l.length + j) (by omega)
          rwa [← Nat.add_assoc] at this
        rintro e w' ⟨rfl, rfl⟩
        refine ⟨_, rfl, Or.inr ⟨g, cap, splice zs l.length [x], by rw [insAt_len _ _ (Nat.le_refl _)], hgB, ?_, by rw [splice_len (by simpa [hz] using hroom)]; exact hz, by rw [insAt_len _ _ (Nat.le_refl _)]; exact hroom, by unfold maxLen; omega, ?_⟩, grown_setCells g _ rfl _ _ _, Or.inl rfl⟩
        · have := hL.setInts (ys := [x]) (o := l.length) (by simpa [hz] using hroom)
          rw [Nat.zero_add]
          exact this
        · rw [insAt_len _ _ (Nat.le_refl _)]
          exact splice_end ht (by omega)
      · have hpl' : p < l.length := by omega
        refine (Any2.slices_Insert_int_shift laysInsert g 0 l.length cap p vb 0 1 1 (l.map (Value.int .i64)) ([x].map (Value.int .i64)) w hpl' (by decide) hroom (by omega) hvb (by simp) rfl (map_cell hcells) (fun j hj => hall j (by omega)) (fun j hj => hL.frozen _) (one_cell hx) one_of_map one_of_map 3 3 1 cap (shape_of hx) (by rw [shape_of hL]; simp [hz]) (by omega) (Lies.frozen hx _) (Lies.frozen hx _)).mono ?_
        rintro e w' ⟨rfl, rfl⟩
        have h1 : p + 1 + (l.drop p).length ≤ zs.length := by simp; omega
        have hL1 : Lies (w.drew.setCells g (p + 1) ((l.drop p).map (Value.int .i64))) g 3 ((splice zs (p + 1) (l.drop p)).map (Value.int .i64)).toArray := Lies.setInts hL.drew h1
        have h2 : p + [x].length ≤ (splice zs (p + 1) (l.drop p)).length := by rw [splice_len h1]; simp; omega
        have hL2 := hL1.setInts (ys := [x]) (o := p) h2
        refine ⟨_, rfl, Or.inr ⟨g, cap, splice (splice zs (p + 1) (l.drop p)) p [x], by rw [insAt_len _ _ hp], hgB, ?_, by rw [splice_len h2, splice_len h1]; exact hz, by rw [insAt_len _ _ hp]; exact hroom, by unfold maxLen; omega, ?_⟩, ?_, Or.inl rfl⟩
        · rw [Nat.zero_add, Nat.zero_add, ← List.map_drop]
          exact hL2
        · rw [insAt_len _ _ hp]
          exact splice_shift ht hp (by omega)
        · exact grown_trans (grown_trans (grown_drewN w _ 1) (grown_setCells g _ rfl _ _ _)) (grown_setCells g _ rfl _ _ _)
    · by_cases hpl : p = l.length
      · subst hpl
        refine (Any2.slices_Insert_int_end_grow laysInsert (some ⟨g, 0, none⟩) l.length cap vb 0 1 1 (l.map (Value.int .i64)) ([x].map (Value.int .i64)) w (by decide) hc (by omega) (by omega) (by simp) rfl (fun ha => by cases ha) (fun a ha => by
          injection ha with ha
          subst ha
          intro j v hv
          rw [Addr.add_lit]
          exact map_cell hcells j v hv) (one_cell hx) one_of_map).mono ?_
        rintro e w' ⟨rfl, rfl⟩
        refine ⟨_, rfl, ?_, grown_of_below (((Below.refl _ _).drew).alloc (by simp) _), Or.inr fun k hk => Nat.le_of_eq (Option.some.inj hk)⟩
        have hi : insAt l l.length x = l ++ [x] := by simp [insAt]
        rw [hi]
        have := own_made w.drew B (l ++ [x]) (c := grownCap w (l.length + 1) cap 3) (by have := grownCap_ge w (l.length + 1) cap 3; simpa using this) (grownCap_le_maxLen _ _ _ _ (by unfold maxLen; omega)) hB
        rw [List.length_append, List.map_append] at this
        exact this
      · have hpl' : p < l.length := by omega
        refine (Any2.slices_Insert_int_grow laysInsert g 0 l.length cap p vb 0 1 1 (l.map (Value.int .i64)) ([x].map (Value.int .i64)) w hpl' (by decide) hc (by omega) (by omega) (by simp) rfl (map_cell hcells) (one_cell hx) one_of_map one_of_map).mono ?_
        rintro e w' ⟨rfl, rfl⟩
        obtain ⟨k, hk⟩ : ∃ k, k = grownCap w (l.length + 1) cap 3 := ⟨_, rfl⟩
        have hk1 : l.length + 1 ≤ k := by rw [hk]; exact grownCap_ge w _ _ _
        have hk2 : k ≤ maxLen := by rw [hk]; exact grownCap_le_maxLen _ _ _ _ (by unfold maxLen; omega)
        obtain ⟨ys, hys⟩ : ∃ ys, ys = l.take p ++ List.replicate (l.length + 1 - p) 0 ++ List.replicate (k - (l.length + 1)) (0 : Int) := ⟨_, rfl⟩
        have hyl : ys.length = k := by rw [hys]; simp; omega
        have hL0 : Lies (w.alloc (.cells (((l.map (Value.int .i64)).take p).toArray ++ Builtin.zeroCells (Value.int .i64 0).cells (l.length + 1 - p) ++ Builtin.zeroCells (Value.int .i64 0).cells (k - (l.length + 1))) 3)) w.heap.size 3 (ys.map (Value.int .i64)).toArray := by
          refine (Lies.new w 3 _).cast ?_
          rw [zeros_int, zeros_int, hys]
          simp
        have h1 : p + [x].length ≤ ys.length := by rw [hyl]; simp; omega
        have hL1 := Lies.setInts hL0.drew h1
        have h2 : p + 1 + (l.drop p).length ≤ (splice ys p [x]).length := by rw [splice_len h1, hyl]; simp; omega
        have hL2 := Lies.setInts hL1.drew h2
        refine ⟨_, rfl, Or.inr ⟨w.heap.size, k, splice (splice ys p [x]) (p + 1) (l.drop p), by rw [insAt_len _ _ hp, hk]; rfl, hB, ?_, by rw [splice_len h2, splice_len h1, hyl], by rw [insAt_len _ _ hp]; exact hk1, hk2, ?_⟩, ?_, Or.inr fun k hk => Nat.le_of_eq (Option.some.inj hk)⟩
        · rw [hk] at hL2
          rw [← List.map_drop]
          exact hL2
        · apply List.ext_getElem?
          intro j
          rw [insAt_len _ _ hp, List.getElem?_take, insAt_get hp]
          by_cases hj : j < l.length + 1
          · rw [if_pos hj, splice_get h2]
            by_cases h3 : j < p + 1
            · rw [if_pos h3, splice_get h1]
              simp only [List.length_cons, List.length_nil, Nat.zero_add]
              by_cases h4 : j < p
              · rw [if_pos h4, if_pos h4, hys, List.append_assoc, List.getElem?_append_left (by simp; omega), List.getElem?_take_of_lt h4]
              · rw [if_neg h4, if_neg h4, if_pos h3, if_pos (by omega), show j - p = 0 by omega]
                rfl
            · rw [if_neg h3, if_pos (by simp; omega), if_neg (by omega), if_neg (by omega), List.getElem?_drop]
              congr 1
              omega
          · rw [if_neg hj, if_neg (by omega), if_neg (by omega), List.getElem?_eq_none (by omega)]
        · exact grown_of_below (below_setC (Nat.le_refl _) _ _ _ ((below_setC (Nat.le_refl _) _ _ _ (((Below.refl _ _).alloc (Nat.le_refl _) _).drew)).drew))
set_option maxHeartbeats 1000000 in
theorem delI_any {g cap B p : Nat} {l : List Int} {w : World} (h : IOwn w B (.slice (some ⟨g, 0, none⟩) l.length cap) l) (hp : p < l.length) :
    Calls Tryd.prog 149 #[.slice (some ⟨g, 0, none⟩) l.length cap, .int .i64 p, .int .i64 (p + 1 : Nat)] w (InsPost w B (.slice (some ⟨g, 0, none⟩) l.length cap) (delAt l p)) := by
  rcases h with ⟨h, _⟩ | ⟨g', cap', zs, he, hgB, hL, hz, hc, hm, ht⟩
  · cases h
  injection he with e1 e2 e3
  injection e1 with e1
  injection e1 with e1
  subst e1 e3
  have hH : Sort.Holds (Value.int .i64) w g 0 l.toArray := fun j hj => by
    simp only [List.size_toArray] at hj
    refine ⟨?_, hL.frozen _⟩
    rw [Nat.zero_add]
    have hy := int_cell hL (take_at ht (List.getElem?_eq_getElem hj))
    rw [hy]
    simp [hj]
  unfold maxLen at hm
  refine (Any.slices_Delete_int laysDelete g 0 cap p (p + 1) l w hH hc (by omega) (by omega) (by omega)).mono ?_
  rintro e w' ⟨rfl, q, rfl⟩
  have hlen : (l.take p ++ l.drop (p + 1) ++ List.replicate (p + 1 - p) 0).length = l.length := by simp; omega
  rw [Lib.putRow_eq_setCells _ w g 0 _ _ q hH (by simpa using hlen)]
  have h1 : 0 + (l.take p ++ l.drop (p + 1) ++ List.replicate (p + 1 - p) 0).length ≤ zs.length := by rw [hlen]; omega
  refine ⟨_, rfl, Or.inr ⟨g, cap, splice zs 0 (l.take p ++ l.drop (p + 1) ++ List.replicate (p + 1 - p) 0), ?_, hgB, (hL.drewN q).setInts h1, ?_, ?_, ?_, ?_⟩, grown_trans (grown_drewN w _ q) (grown_setCells g _ rfl _ _ _), Or.inl rfl⟩
  · rw [delAt_len l hp]
    congr 1
    omega
  · rw [splice_len h1]; exact hz
  · rw [delAt_len l hp]; omega
  · unfold maxLen; omega
  · rw [splice_front (by rw [hlen, delAt_len l hp]; omega)]
    unfold delAt
    rw [List.take_append_of_le_length (by omega), List.take_of_length_le (by omega)]
set_option maxHeartbeats 1000000 in
theorem searchI_any {v : Value} {B : Nat} {l : List Int} {x : Int} {w : World} (h : IOwn w B v l) (hs : l.Pairwise (· < ·)) (h50 : l.length ≤ 50) :
    Calls Tryd.prog 158 #[v, .int .i64 x] w fun e w' => e = .returned (.tuple #[.int .i64 (lessN l x : Nat), .bool (decide (x ∈ l))]) ∧ ∃ q, w' = w.drewN q := by
  by_cases h0 : l.length = 0
  · have hl : l = [] := List.length_eq_zero_iff.1 h0
    subst hl
    obtain ⟨A, cap, rfl, _⟩ := h.rd.is
    refine (Any.slices_BinarySearch_int_empty laysSearch A cap x w).mono ?_
    rintro e w' ⟨rfl, rfl⟩
    exact ⟨rfl, 0, rfl⟩
  · rcases h with ⟨rfl, rfl⟩ | ⟨g, cap, zs, rfl, hgB, hL, hz, hc, hm, ht⟩
    · simp at h0
    · refine (Any.slices_BinarySearch_int laysSearch g 0 l.length cap l x w (Nat.le_refl _) (by omega) (fun j hj => ?_) ?_).mono ?_
      · rw [Nat.zero_add, int_cell hL (take_at ht (List.getElem?_eq_getElem hj))]
        simp [hj]
      · rw [List.take_length]
        exact hs.imp fun h => Int.le_of_lt h
      · rintro e w' ⟨rfl, hq⟩
        refine ⟨?_, hq⟩
        rw [List.take_length, List.contains_eq_mem]
        rfl
end Go.Proofs.YtfgangkpebkicaaDoor
