/-
  Joined by a program out of: Add, Calls, ObjStart.
-/
import Derived.Test.YtecpjeililiafaaDoorMgAE
import Derived.Test.YtecpjeililiafaaDoorMgAC
import Derived.Test.YtecpjeililiafaaDoorMgAD

/-
  Contract of (*history.record).add.
-/
namespace Go.Proofs.YtecpjeililiafaaDoor
open Go.RowKit
set_option maxRecDepth 20000

set_option maxHeartbeats 4000000 in
theorem add_any {g : Nat} {tv : Value} {ts : List Int} {cs : List Cl} {w : World} (h : RecS g tv ts cs w) (n : Nat) (x : Ev) (hlen : cs.length ≤ 200) :
    Calls Tryd.prog 83 #[.pointer (some ⟨g, 0, none⟩), .int .i64 n, evV x] w (Did g tv ts w (step ts n cs x)) := by
  obtain ⟨who, thing, kind, val⟩ := x
  have HR := Lib.hid h
  obtain ⟨⟨cv, b, c, h1, h2, h3⟩, h4⟩ := h
  have HI := Lib.hid (EvSt.start (x := ⟨who, thing, kind, val⟩) h1 h2 h4)
  obtain ⟨At, capt, rfl, m1, m2⟩ := h4.is
  obtain ⟨Ac, capc, rfl, m3, m4⟩ := h2.rd.is
  clear h1 h2 h3 h4
  unfold maxLen at m2 m4
  have hgl := HR.out.lt
  have er : step ts n cs ⟨who, thing, kind, val⟩ = if ¬ (0 ≤ who ∧ who ≤ 7) ∨ ¬ (0 ≤ thing ∧ thing < ts.length) then .inl 3 else if kind = 0 then respS n cs ⟨who, thing, kind, val⟩ else invS ts n cs ⟨who, thing, kind, val⟩ := rfl
  generalize step ts n cs ⟨who, thing, kind, val⟩ = s at er ⊢
  have HS := Lib.hid er
  have hw : IntKind.i64.wrap ((ts.length : Int) - 1) = (ts.length : Int) - 1 := by rw [IntKind.wrap_i64]; omega
  have HRA := Lib.hid (HR.out.next ((Below.refl _ _).alloc (Nat.le_refl _) (.cells (evCs ⟨who, thing, kind, val⟩).toArray 77)))
  clear er HR
  go_enter Tryd.func83, Tryd.ntmps83
  go_wp2_with fail
  have HI' := HI.out
  have HRA' := HRA.out
  clear HI HRA
  generalize w.heap.size = P at HI' ⊢
  change Code.wp _ _ _ _ (w.alloc (.cells #[.int .i64 who, .int .i64 thing, .int .i64 kind, .int .i64 val] 77))
  generalize w.alloc (.cells #[.int .i64 who, .int .i64 thing, .int .i64 kind, .int .i64 val] 77) = W at HI' HRA' ⊢
  obtain ⟨d0, d1, d2, d3⟩ := HI'.cells
  have r0 := HI'.rc.types
  have HB := Lib.hid HI'
  have HR := Lib.hid HRA'
  clear HI' HRA'
  cases c1 : btw 0 who 7
  · have C1 := Lib.hid c1
    go_quiet ((go_at_call 85; exact quiet_left (within_any _ _ _ _)))
    go_wp2_with fail
    go_ret
    have e := HS.out
    rw [if_pos (Or.inl (btw_not.1 C1.out))] at e
    rw [e]
    exact ⟨belowN HB.out.below _, rfl⟩
  · have C1 := Lib.hid c1
    cases c2 : btw 0 thing ((ts.length : Int) - 1)
    · have C2 := Lib.hid c2
      go_quiet ((go_at_call 85; exact quiet_left (within_any _ _ _ _)))
      go_wp2_with fail
      go_ret
      have e := HS.out
      have hn := btw_not.1 C2.out
      rw [if_pos (Or.inr (by omega))] at e
      rw [e]
      exact ⟨belowN HB.out.below _, rfl⟩
    · have C2 := Lib.hid c2
      go_quiet ((go_at_call 85; exact quiet_left (within_any _ _ _ _)))
      have e := HS.out
      have hn1 := btw_iff.1 C1.out
      have hn2 := btw_iff.1 C2.out
      rw [if_neg (by omega)] at e
      obtain ⟨p, rfl⟩ : ∃ p : Nat, who = (p : Int) := ⟨who.toNat, by omega⟩
      obtain ⟨q, rfl⟩ : ∃ q : Nat, thing = (q : Int) := ⟨thing.toNat, by omega⟩
      have hp : p < 8 := by omega
      have hq : q < ts.length := by omega
      clear HS hn1 hn2 C1 C2 c1 c2
      have hpl : Below W.heap.size W (W.drewN nq) := belowN (Below.refl _ _) _
      by_cases hk : kind = 0
      · subst hk
        rw [if_pos rfl] at e
        have hc := respond_any (HR.out.next hpl) n ⟨p, q, 0, val⟩ p hp rfl
        rw [← e] at hc
        have HC := Lib.hid hc
        clear hc e
        have HL := Lib.hid hpl
        clear hpl
        go_wp2_with fail
        refine HC.out.mono ?_
        rintro e w' ⟨hb, hd⟩
        have hb' : Below g w w' := HB.out.below.trans ((belowN (Below.refl _ _) _).trans hb)
        cases s with
        | inl r =>
          simp only at hd
          subst hd
          have HX := Lib.hid hb'
          clear hb hb'
          go_wp2_with fail
          go_ret
          exact ⟨HX.out, rfl⟩
        | inr cs' =>
          obtain ⟨rfl, hd⟩ := hd
          have HX := Lib.hid (And.intro hb' hd)
          clear hb hb' hd
          go_wp2_with fail
          go_ret
          exact ⟨HX.out.1, rfl, HX.out.2⟩
      · rw [if_neg hk] at e
        have hz : (kind == 0) = false := by rw [beq_eq_false_iff_ne]; exact hk
        have hc := invoke_any (HR.out.next hpl) n ⟨p, q, kind, val⟩ p q hp rfl hq rfl hlen
        rw [← e] at hc
        have HC := Lib.hid hc
        clear hc e
        have HL := Lib.hid hpl
        clear hpl hk
        go_wp2_with fail
        refine HC.out.mono ?_
        rintro e w' ⟨hb, hd⟩
        have hb' : Below g w w' := HB.out.below.trans ((belowN (Below.refl _ _) _).trans hb)
        cases s with
        | inl r =>
          simp only at hd
          subst hd
          have HX := Lib.hid hb'
          clear hb hb'
          go_wp2_with fail
          go_ret
          exact ⟨HX.out, rfl⟩
        | inr cs' =>
          obtain ⟨rfl, hd⟩ := hd
          have HX := Lib.hid (And.intro hb' hd)
          clear hb hb' hd
          go_wp2_with fail
          go_ret
          exact ⟨HX.out.1, rfl, HX.out.2⟩
end Go.Proofs.YtecpjeililiafaaDoor

/-
  Contract of history.Calls.
-/
namespace Go.Proofs.YtecpjeililiafaaDoor
open Go.RowKit
set_option maxRecDepth 20000

/-- What Calls answers: the calls, where, and what went wrong. -/
def CallsPost (w : World) (o : List Cl × Nat × Int) (e : Ending) (w' : World) : Prop :=
  ∃ v, e = .returned (.tuple #[v, .int .i64 (o.2.1 : Nat), .int .i64 o.2.2]) ∧ Below w.heap.size w w' ∧ CRd w' w'.heap.size v o.1

theorem rec_start (w : World) (tv : Value) (ts : List Int) (h : NRd w w.heap.size tv ts) : RecS w.heap.size tv ts [] (w.alloc (.cells (recCs tv (.slice none 0 0) (fun _ => false) (fun _ => 0)) 112)) := by
  refine ⟨⟨.slice none 0 0, _, _, Lies.new w _ _, World.ownsRow_nil _ _ _ _, OneOpen.nil, fun p _ => ?_, fun p _ h => by cases h⟩, h.below ((Below.refl _ _).alloc (Nat.le_refl _) _)⟩
  simp [openOf, openFrom]

set_option maxHeartbeats 4000000 in
theorem calls_any {tv lv : Value} {ts : List Int} {l : List Ev} {w : World} (ht : NRd w w.heap.size tv ts) (hl : ERd w w.heap.size lv l) :
    Calls Tryd.prog 47 #[tv, lv] w (CallsPost w (callsOf ts l)) := by
  have er : callsOf ts l = if typesB ts = false then ([], 0, 1) else if 200 < l.length then ([], 0, 2) else run ts 0 [] l := rfl
  generalize callsOf ts l = o at er ⊢
  obtain ⟨At, capt, rfl, m1, m2⟩ := ht.is
  obtain ⟨Al, capl, rfl, m3, m4⟩ := hl.is
  unfold maxLen at m2 m4
  have HT := Lib.hid ht
  have HL := Lib.hid hl
  clear ht hl
  cases hb : typesB ts
  · rw [if_pos hb] at er
    subst er
    have HV := Lib.hid (valid_any HT.out)
    rw [hb] at HV
    clear hb
    go_enter Tryd.func47, Tryd.ntmps47
    go_wp2_with fail
    refine HV.out.mono ?_
    rintro e w' ⟨rfl, rfl⟩
    go_wp2_with fail
    go_ret3
    exact ⟨_, rfl, Below.refl _ _, LRd.nil _ _⟩
  · rw [if_neg (by rw [hb]; decide)] at er
    have HV := Lib.hid (valid_any HT.out)
    rw [hb] at HV
    clear hb
    by_cases hn : 200 < l.length
    · rw [if_pos hn] at er
      subst er
      have hn' : (200 : Int) < (l.length : Int) := by omega
      go_enter Tryd.func47, Tryd.ntmps47
      go_wp2_with fail
      refine HV.out.mono ?_
      rintro e w' ⟨rfl, rfl⟩
      go_wp2_with fail
      go_ret3
      exact ⟨_, rfl, Below.refl _ _, LRd.nil _ _⟩
    · rw [if_neg hn] at er
      have hn' : ¬ (200 : Int) < (l.length : Int) := by omega
      have HE := Lib.hid er
      have HR0 := Lib.hid (rec_start w _ ts HT.out)
      clear er
      go_enter Tryd.func47, Tryd.ntmps47
      go_wp2_with fail
      refine HV.out.mono ?_
      rintro e w' ⟨rfl, rfl⟩
      go_wp2_with fail
      obtain ⟨L, hL⟩ : ∃ L, L = l.length := ⟨_, rfl⟩
      have HR1 := HR0.out
      clear HR0
      change Code.wp _ _ _ _ (w.alloc (.cells (recCs (.slice At ts.length capt) (.slice none 0 0) (fun _ => false) (fun _ => 0)) 112))
      have hb0 : Below w.heap.size w (w.alloc (.cells (recCs (.slice At ts.length capt) (.slice none 0 0) (fun _ => false) (fun _ => 0)) 112)) := (Below.refl _ _).alloc (Nat.le_refl _) _
      obtain ⟨g, hg⟩ : ∃ g, g = w.heap.size := ⟨_, rfl⟩
      rw [← hg] at HR1
      rw [← hg]
      have HG := Lib.hid hg
      clear hg
      generalize w.alloc (.cells (recCs (.slice At ts.length capt) (.slice none 0 0) (fun _ => false) (fun _ => 0)) 112) = W at HR1 hb0 ⊢
      rw [← hL]
      rw [← hL] at m3 hn hn'
      have HLL := Lib.hid hL
      clear hL
      go_loopw [21] (fun i wr => ∃ (k : Nat) (cs : List Cl), k ≤ L ∧ i = .int .i64 k ∧ cs.length ≤ k ∧ run ts 0 [] l = run ts k cs (l.drop k) ∧ RecS g (.slice At ts.length capt) ts cs wr ∧ Below w.heap.size w wr) (fun i _ => L - (intOf i).toNat)
      case atStart => exact ⟨0, [], by omega, rfl, by simp, by simp, HR1, hb0⟩
      case round =>
        clear HR1 hb0
        obtain ⟨k, cs, hk, rfl, hck, hrun, hR, hB⟩ := hrel
        have HA := Lib.hid (And.intro hrun (And.intro hR hB))
        by_cases hkL : k < L
        · have hkl : k < l.length := by rw [← HLL.out]; exact hkL
          obtain ⟨x, hx⟩ : ∃ x, l[k]? = some x := ⟨_, List.getElem?_eq_getElem hkl⟩
          have hxe : l[k] = x := (List.getElem?_eq_some_iff.1 hx).2
          have hL' := HL.out.below hB
          rw [← HLL.out] at hL'
          obtain ⟨gl, o', rfl, hgl, d0, d1, d2, d3⟩ := hL'.ev hx
          have hst := run_drop (ts := ts) hkl cs
          rw [hxe] at hst
          generalize hs : step ts k cs x = s at hst
          have i1 : (0 : Int) ≤ (k : Int) := by omega
          have i2 : (k : Int) < (L : Int) := by omega
          obtain ⟨xw, xt, xk, xv⟩ := x
          have hR2 := hR.next ((Below.refl _ _).alloc (Nat.le_refl _) (.cells (evCs ⟨xw, xt, xk, xv⟩).toArray 77))
          have hl2 := Lies.new wr 77 (evCs ⟨xw, xt, xk, xv⟩).toArray
          have hb2 : Below w.heap.size w (wr.alloc (.cells (evCs ⟨xw, xt, xk, xv⟩).toArray 77)) := hB.alloc hB.size _
          have HX := Lib.hid (And.intro hst (And.intro hs (And.intro hR2 (And.intro hl2 hb2))))
          clear hx hxe hL' hst hs hrun hR hB hR2 hl2 hb2
          go_wp2_with fail
          change Calls _ _ _ (wr.alloc (.cells (evCs ⟨xw, xt, xk, xv⟩).toArray 77)) _
          generalize wr.alloc (.cells (evCs ⟨xw, xt, xk, xv⟩).toArray 77) = W2 at HX ⊢
          have hc := add_any HX.out.2.2.1 k ⟨xw, xt, xk, xv⟩ (by omega)
          rw [HX.out.2.1] at hc
          clear d0 d1 d2 d3
          refine hc.mono ?_
          rintro e w' ⟨hbw, hd⟩
          have hb' : Below w.heap.size w w' := HX.out.2.2.2.2.trans (by rw [← HG.out]; exact hbw)
          cases s with
          | inl r =>
            simp only at hd
            subst hd
            have hr : (r != 0) = true := by rw [bne_iff_ne]; exact step_err HX.out.2.1
            have HY := Lib.hid hb'
            clear hb' hbw hc
            go_wp2_with fail
            go_ret3
            have e := HE.out
            rw [HA.out.1, HX.out.1] at e
            subst e
            exact ⟨_, rfl, HY.out, LRd.nil _ _⟩
          | inr cs' =>
            obtain ⟨rfl, hd⟩ := hd
            have HY := Lib.hid (And.intro hb' hd)
            have HLN := Lib.hid (step_len HX.out.2.1)
            clear hb' hbw hd hc
            go_wp2_with fail
            go_roundw
            case rel => exact ⟨k + 1, cs', by omega, by go_num, by have := HLN.out; omega, HA.out.1.trans HX.out.1, HY.out.2, HY.out.1⟩
            case measure => simp [intOf]; omega
        · obtain rfl : k = L := by omega
          have hre : run ts 0 [] l = (cs, 0, 0) := by rw [HA.out.1, HLL.out, List.drop_length]; rfl
          have HZ := Lib.hid hre
          obtain ⟨⟨cv, b, c, h1, h2, h3⟩, h4⟩ := hR
          have r1 := h1.calls
          have HW := Lib.hid (And.intro h1 h2)
          clear hre hrun h1 h2 h3 h4 hB
          go_wp2_with fail
          go_ret3
          have e := HE.out
          rw [HZ.out] at e
          subst e
          exact ⟨_, rfl, HA.out.2.2, HW.out.2.rd⟩
end Go.Proofs.YtecpjeililiafaaDoor

/-
  Contracts of object.Start, object.Check, object.invocable.
-/
namespace Go.Proofs.YtecpjeililiafaaDoor
open Go.RowKit
set_option maxRecDepth 20000

def startE (typ : Int) : Int := if btw 1 typ 5 = true then 0 else 1
/-- What Start answers. -/
def StartPost (w : World) (typ : Int) (e : Ending) (w' : World) : Prop :=
  ∃ v, e = .returned (.tuple #[v, .int .i64 (startE typ)]) ∧ IOwn w' w.heap.size v (beginL typ) ∧ Below w.heap.size w w'

theorem nstart_any (a : Addr) (w : World) : Calls Tryd.prog 157 #[.pointer (some a)] w fun e w' => e = .returned (.slice (some ⟨w.heap.size, 0, none⟩) 1 1) ∧ w' = w.alloc (.cells #[.int .i64 0] 3) := by
  go_enter Tryd.func157, Tryd.ntmps157
  go_wp2
  go_ret
  exact ⟨rfl, rfl⟩
theorem rstart_any (a : Addr) (w : World) : Calls Tryd.prog 162 #[.pointer (some a)] w fun e w' => e = .returned (.slice none 0 0) ∧ w = w' := by
  go_enter Tryd.func162, Tryd.ntmps162
  go_wp2
  go_ret
  exact ⟨rfl, rfl⟩
theorem zero_own (w : World) (B : Nat) (hB : B ≤ w.heap.size) : IOwn (w.alloc (.cells #[.int .i64 0] 3)) B (.slice (some ⟨w.heap.size, 0, none⟩) 1 1) [0] :=
  Or.inr ⟨_, 1, [0], rfl, hB, Lies.new w _ _, rfl, Nat.le_refl _, by unfold maxLen; omega, rfl⟩

set_option maxHeartbeats 1000000 in
theorem start_any (typ : Int) (w : World) : Calls Tryd.prog 111 #[.int .i64 typ] w (StartPost w typ) := by
  rcases typ_ways typ with rfl | rfl | rfl | rfl | rfl | ⟨h1, h2, h3, h4, h5, h⟩
  · have m1 := meth_reg_start
    go_enter Tryd.func111, Tryd.ntmps111
    go_wp2_with (first | (go_at_call 119; (with_reducible refine (open_reg _ _ _ _).mono ?_); rintro e w' ⟨rfl, rfl⟩) | (go_at_call 157; (with_reducible refine (nstart_any _ _).mono ?_); rintro e w' ⟨rfl, rfl⟩))
    go_ret2
    refine ⟨_, rfl, ?_, ((Below.refl _ _).alloc (Nat.le_refl _) _).alloc (by simp) _⟩
    have := zero_own (w.alloc (.cells #[.slice none 0 0] 172)) w.heap.size (by simp)
    rw [show beginL 1 = [0] from rfl]
    simpa using this
  · have m1 := meth_queue_start
    go_enter Tryd.func111, Tryd.ntmps111
    go_wp2_with (first | (go_at_call 119; (with_reducible refine (open_queue _ _ _ _).mono ?_); rintro e w' ⟨rfl, rfl⟩) | (go_at_call 162; (with_reducible refine (rstart_any _ _).mono ?_); rintro e w' ⟨rfl, rfl⟩))
    go_ret2
    exact ⟨_, rfl, Or.inl ⟨rfl, rfl⟩, (Below.refl _ _).alloc (Nat.le_refl _) _⟩
  · have m1 := meth_stack_start
    go_enter Tryd.func111, Tryd.ntmps111
    go_wp2_with (first | (go_at_call 119; (with_reducible refine (open_stack _ _ _ _).mono ?_); rintro e w' ⟨rfl, rfl⟩) | (go_at_call 162; (with_reducible refine (rstart_any _ _).mono ?_); rintro e w' ⟨rfl, rfl⟩))
    go_ret2
    exact ⟨_, rfl, Or.inl ⟨rfl, rfl⟩, (Below.refl _ _).alloc (Nat.le_refl _) _⟩
  · have m1 := meth_set_start
    go_enter Tryd.func111, Tryd.ntmps111
    go_wp2_with (first | (go_at_call 119; (with_reducible refine (open_set _ _ _ _).mono ?_); rintro e w' ⟨rfl, rfl⟩) | (go_at_call 162; (with_reducible refine (rstart_any _ _).mono ?_); rintro e w' ⟨rfl, rfl⟩))
    go_ret2
    exact ⟨_, rfl, Or.inl ⟨rfl, rfl⟩, (Below.refl _ _).alloc (Nat.le_refl _) _⟩
  · have m1 := meth_ticket_start
    go_enter Tryd.func111, Tryd.ntmps111
    go_wp2_with (first | (go_at_call 119; (with_reducible refine (open_ticket _ _ _ _).mono ?_); rintro e w' ⟨rfl, rfl⟩) | (go_at_call 157; (with_reducible refine (nstart_any _ _).mono ?_); rintro e w' ⟨rfl, rfl⟩))
    go_ret2
    refine ⟨_, rfl, ?_, ((Below.refl _ _).alloc (Nat.le_refl _) _).alloc (by simp) _⟩
    have := zero_own (w.alloc (.cells #[.slice none 0 0] 182)) w.heap.size (by simp)
    rw [show beginL 5 = [0] from rfl]
    simpa using this
  · have e1 : startE typ = 1 := by unfold startE; rw [h]; rfl
    have e2 : beginL typ = [] := by
      unfold beginL oneB
      simp only [beq_eq_false_iff_ne] at h1 h5
      rw [if_neg (by simp [h1, h5])]
    unfold StartPost
    rw [e1, e2]
    have HC := Lib.hid (fun A n c W => open_none ⟨h1, h2, h3, h4, h5⟩ A n c W)
    clear h1 h2 h3 h4 h5 h e1 e2
    go_enter Tryd.func111, Tryd.ntmps111
    go_wp2_with (go_at_call 119; (with_reducible refine (HC.out _ _ _ _).mono ?_); rintro e w' ⟨rfl, rfl⟩)
    go_ret2
    exact ⟨_, rfl, Or.inl ⟨rfl, rfl⟩, Below.refl _ _⟩

/-- Behind open, over a state that was handed in. -/
theorem NRd.alloc {w : World} {v : Value} {l : List Int} (h : NRd w w.heap.size v l) (o : Obj) : NRd (w.alloc o) (w.alloc o).heap.size v l := (h.below ((Below.refl _ _).alloc (Nat.le_refl _) o)).mono (by simp)

theorem valid_num {typ : Int} (h : oneB typ = true) (l : List Int) : validB typ l = (decide (l.length = 1) && btw 0 (l.getD 0 0) 1000) := by unfold validB; rw [if_pos h]
theorem valid_rows {typ : Int} (h : oneB typ = false) (h4 : (typ != 4) = true) (l : List Int) : validB typ l = rowB l := by
  unfold validB
  rw [if_neg (by rw [h]; decide), h4, Bool.true_or, Bool.and_true]
  rfl
theorem valid_set (l : List Int) : validB 4 l = (rowB l && incrB l) := rfl
theorem stateE_long {typ : Int} {l : List Int} (h : btw 1 typ 5 = true) (hn : 50 < l.length) : stateE typ l = 2 := by unfold stateE; rw [h, if_neg (by decide), if_pos hn]
theorem stateE_bad {typ : Int} {l : List Int} (h : btw 1 typ 5 = true) (hn : ¬ 50 < l.length) (hv : validB typ l = false) : stateE typ l = 3 := by unfold stateE; rw [h, if_neg (by decide), if_neg hn, if_pos hv]
theorem stateE_good {typ : Int} {l : List Int} (h : btw 1 typ 5 = true) (hn : ¬ 50 < l.length) (hv : validB typ l = true) : stateE typ l = 0 := by unfold stateE; rw [h, if_neg (by decide), if_neg hn, if_neg (by rw [hv]; decide)]

set_option maxHeartbeats 4000000 in
theorem check_any {v : Value} {l : List Int} {w : World} (typ : Int) (hr : NRd w w.heap.size v l) :
    Calls Tryd.prog 120 #[.int .i64 typ, v] w fun e w' => e = .returned (.int .i64 (stateE typ l)) ∧ Below w.heap.size w w' := by
  obtain ⟨A, cap, rfl, m1, m2⟩ := hr.is
  unfold maxLen at m2
  rcases typ_ways typ with rfl | rfl | rfl | rfl | rfl | ⟨h1, h2, h3, h4, h5, h⟩
  · have m1 := meth_reg_valid
    by_cases hn : 50 < l.length
    · rw [stateE_long rfl hn]
      have hn' : (50 : Int) < (l.length : Int) := by omega
      clear hr hn
      go_enter Tryd.func120, Tryd.ntmps120
      go_wp2_with (go_at_call 119; (with_reducible refine (open_reg _ _ _ _).mono ?_); rintro e w' ⟨rfl, rfl⟩)
      go_ret
      exact ⟨rfl, (Below.refl _ _).alloc (Nat.le_refl _) _⟩
    · have hn' : ¬ (50 : Int) < (l.length : Int) := by omega
      have hV := nvalid_any (Lies.new w 172 #[.slice A l.length cap]) (hr.alloc _)
      rw [← valid_num (typ := 1) rfl l] at hV
      cases hb : validB 1 l
      all_goals
        first | rw [stateE_bad rfl hn hb] | rw [stateE_good rfl hn hb]
        rw [hb] at hV
        have HV := Lib.hid hV
        clear hV hb hr hn
        go_enter Tryd.func120, Tryd.ntmps120
        go_wp2_with (first | (go_at_call 119; (with_reducible refine (open_reg _ _ _ _).mono ?_); rintro e w' ⟨rfl, rfl⟩) | (go_at_call 159; refine HV.out.mono ?_; rintro e w' ⟨rfl, rfl⟩))
        go_ret
        exact ⟨rfl, (Below.refl _ _).alloc (Nat.le_refl _) _⟩
  · have m1 := meth_queue_valid
    by_cases hn : 50 < l.length
    · rw [stateE_long rfl hn]
      have hn' : (50 : Int) < (l.length : Int) := by omega
      clear hr hn
      go_enter Tryd.func120, Tryd.ntmps120
      go_wp2_with (go_at_call 119; (with_reducible refine (open_queue _ _ _ _).mono ?_); rintro e w' ⟨rfl, rfl⟩)
      go_ret
      exact ⟨rfl, (Below.refl _ _).alloc (Nat.le_refl _) _⟩
    · have hn' : ¬ (50 : Int) < (l.length : Int) := by omega
      have hV := rvalid_any (Lies.new w 176 #[.slice A l.length cap]) (hr.alloc _)
      rw [← valid_rows (typ := 2) rfl rfl l] at hV
      cases hb : validB 2 l
      all_goals
        first | rw [stateE_bad rfl hn hb] | rw [stateE_good rfl hn hb]
        rw [hb] at hV
        have HV := Lib.hid hV
        clear hV hb hr hn
        go_enter Tryd.func120, Tryd.ntmps120
        go_wp2_with (first | (go_at_call 119; (with_reducible refine (open_queue _ _ _ _).mono ?_); rintro e w' ⟨rfl, rfl⟩) | (go_at_call 164; refine HV.out.mono ?_; rintro e w' ⟨rfl, rfl⟩))
        go_ret
        exact ⟨rfl, (Below.refl _ _).alloc (Nat.le_refl _) _⟩
  · have m1 := meth_stack_valid
    by_cases hn : 50 < l.length
    · rw [stateE_long rfl hn]
      have hn' : (50 : Int) < (l.length : Int) := by omega
      clear hr hn
      go_enter Tryd.func120, Tryd.ntmps120
      go_wp2_with (go_at_call 119; (with_reducible refine (open_stack _ _ _ _).mono ?_); rintro e w' ⟨rfl, rfl⟩)
      go_ret
      exact ⟨rfl, (Below.refl _ _).alloc (Nat.le_refl _) _⟩
    · have hn' : ¬ (50 : Int) < (l.length : Int) := by omega
      have hV := rvalid_any (Lies.new w 178 #[.slice A l.length cap]) (hr.alloc _)
      rw [← valid_rows (typ := 3) rfl rfl l] at hV
      cases hb : validB 3 l
      all_goals
        first | rw [stateE_bad rfl hn hb] | rw [stateE_good rfl hn hb]
        rw [hb] at hV
        have HV := Lib.hid hV
        clear hV hb hr hn
        go_enter Tryd.func120, Tryd.ntmps120
        go_wp2_with (first | (go_at_call 119; (with_reducible refine (open_stack _ _ _ _).mono ?_); rintro e w' ⟨rfl, rfl⟩) | (go_at_call 164; refine HV.out.mono ?_; rintro e w' ⟨rfl, rfl⟩))
        go_ret
        exact ⟨rfl, (Below.refl _ _).alloc (Nat.le_refl _) _⟩
  · have m1 := meth_set_valid
    by_cases hn : 50 < l.length
    · rw [stateE_long rfl hn]
      have hn' : (50 : Int) < (l.length : Int) := by omega
      clear hr hn
      go_enter Tryd.func120, Tryd.ntmps120
      go_wp2_with (go_at_call 119; (with_reducible refine (open_set _ _ _ _).mono ?_); rintro e w' ⟨rfl, rfl⟩)
      go_ret
      exact ⟨rfl, (Below.refl _ _).alloc (Nat.le_refl _) _⟩
    · have hn' : ¬ (50 : Int) < (l.length : Int) := by omega
      have hV := svalid_any (Lies.new w 180 #[.slice A l.length cap]) (hr.alloc _)
      rw [← valid_set l] at hV
      cases hb : validB 4 l
      all_goals
        first | rw [stateE_bad rfl hn hb] | rw [stateE_good rfl hn hb]
        rw [hb] at hV
        have HV := Lib.hid hV
        clear hV hb hr hn
        go_enter Tryd.func120, Tryd.ntmps120
        go_wp2_with (first | (go_at_call 119; (with_reducible refine (open_set _ _ _ _).mono ?_); rintro e w' ⟨rfl, rfl⟩) | (go_at_call 175; refine HV.out.mono ?_; rintro e w' ⟨rfl, q, rfl⟩))
        go_ret
        exact ⟨rfl, belowN ((Below.refl _ _).alloc (Nat.le_refl _) _) _⟩
  · have m1 := meth_ticket_valid
    by_cases hn : 50 < l.length
    · rw [stateE_long rfl hn]
      have hn' : (50 : Int) < (l.length : Int) := by omega
      clear hr hn
      go_enter Tryd.func120, Tryd.ntmps120
      go_wp2_with (go_at_call 119; (with_reducible refine (open_ticket _ _ _ _).mono ?_); rintro e w' ⟨rfl, rfl⟩)
      go_ret
      exact ⟨rfl, (Below.refl _ _).alloc (Nat.le_refl _) _⟩
    · have hn' : ¬ (50 : Int) < (l.length : Int) := by omega
      have hV := nvalid_any (Lies.new w 182 #[.slice A l.length cap]) (hr.alloc _)
      rw [← valid_num (typ := 5) rfl l] at hV
      cases hb : validB 5 l
      all_goals
        first | rw [stateE_bad rfl hn hb] | rw [stateE_good rfl hn hb]
        rw [hb] at hV
        have HV := Lib.hid hV
        clear hV hb hr hn
        go_enter Tryd.func120, Tryd.ntmps120
        go_wp2_with (first | (go_at_call 119; (with_reducible refine (open_ticket _ _ _ _).mono ?_); rintro e w' ⟨rfl, rfl⟩) | (go_at_call 159; refine HV.out.mono ?_; rintro e w' ⟨rfl, rfl⟩))
        go_ret
        exact ⟨rfl, (Below.refl _ _).alloc (Nat.le_refl _) _⟩
  · have e1 : stateE typ l = 1 := by unfold stateE; rw [if_pos h]
    rw [e1]
    have HC := Lib.hid (fun A n c W => open_none ⟨h1, h2, h3, h4, h5⟩ A n c W)
    clear h1 h2 h3 h4 h5 h e1 hr
    go_enter Tryd.func120, Tryd.ntmps120
    go_wp2_with (go_at_call 119; (with_reducible refine (HC.out _ _ _ _).mono ?_); rintro e w' ⟨rfl, rfl⟩)
    go_ret
    exact ⟨rfl, Below.refl _ _⟩

/-- May it be called so? The history of the call alone tells. -/
theorem alone_calls {typ : Int} (h : btw 1 typ 5 = true) (kind arg : Int) : ((callsOf [typ] [⟨0, 0, kind, arg⟩]).2.2 == 0) = (fitsB typ kind && takesB kind arg) := by
  have ht := btw_iff.1 h
  have e1 : typesB [typ] = true := by
    unfold typesB
    simp
    omega
  unfold callsOf
  rw [if_neg (by rw [e1]; decide), if_neg (by simp)]
  have es : step [typ] 0 [] ⟨0, 0, kind, arg⟩ = if kind = 0 then .inl 4 else if fitsB typ kind = false ∨ takesB kind arg = false then .inl 3 else .inr [⟨0, 0, kind, arg, 0, 0, -1⟩] := by
    unfold step
    rw [if_neg (by simp)]
    rfl
  rw [run, es]
  by_cases h0 : kind = 0
  · rw [if_pos h0]
    subst h0
    have : fitsB typ 0 = false := by
      cases hf : fitsB typ 0
      · rfl
      · have := fits_kind hf; omega
    rw [this]
    rfl
  · rw [if_neg h0]
    cases fitsB typ kind <;> cases takesB kind arg <;> rfl

set_option maxHeartbeats 1000000 in
theorem invocable_any {typ : Int} (h : btw 1 typ 5 = true) (kind arg : Int) (w : World) :
    Calls Tryd.prog 121 #[.int .i64 typ, .int .i64 kind, .int .i64 arg] w fun e w' => e = .returned (.bool (fitsB typ kind && takesB kind arg)) ∧ Below w.heap.size w w' := by
  have hN : NRd ((w.alloc (.cells #[.int .i64 typ] 3)).alloc (.cells #[.int .i64 0, .int .i64 0, .int .i64 kind, .int .i64 arg] 77)) ((w.alloc (.cells #[.int .i64 typ] 3)).alloc (.cells #[.int .i64 0, .int .i64 0, .int .i64 kind, .int .i64 arg] 77)).heap.size (.slice (some ⟨w.heap.size, 0, none⟩) 1 1) [typ] :=
    ((LRd.of_lit (f := intCs) (s := 1) (w := w) (l := [typ]) (fun _ => rfl) 3 (cs := #[.int .i64 typ]) rfl (n := 1) rfl (by unfold maxLen; omega)).below ((Below.refl _ _).alloc (by simp) _)).mono (by simp)
  have hE : ERd ((w.alloc (.cells #[.int .i64 typ] 3)).alloc (.cells #[.int .i64 0, .int .i64 0, .int .i64 kind, .int .i64 arg] 77)) ((w.alloc (.cells #[.int .i64 typ] 3)).alloc (.cells #[.int .i64 0, .int .i64 0, .int .i64 kind, .int .i64 arg] 77)).heap.size (.slice (some ⟨w.heap.size + 1, 0, none⟩) 1 1) [⟨0, 0, kind, arg⟩] := by
    have := LRd.of_lit (f := evCs) (s := 4) (w := w.alloc (.cells #[.int .i64 typ] 3)) (l := [⟨0, 0, kind, arg⟩]) (fun _ => rfl) 77 (cs := #[.int .i64 0, .int .i64 0, .int .i64 kind, .int .i64 arg]) rfl (n := 1) rfl (by unfold maxLen; omega)
    simpa using this
  have hC := calls_any hN hE
  have ho := alone_calls h kind arg
  generalize callsOf [typ] [⟨0, 0, kind, arg⟩] = o at hC ho
  obtain ⟨cs, at_, er⟩ := o
  unfold CallsPost at hC
  simp only at hC ho
  rw [← ho]
  have HC := Lib.hid hC
  clear hN hE hC ho h
  generalize hb : (er == 0) = b
  go_enter Tryd.func121, Tryd.ntmps121
  go_wp2_with (go_at_call 47; refine HC.out.mono ?_; rintro e w' ⟨v', rfl, hb, hr⟩)
  go_ret
  exact ⟨rfl, (((Below.refl _ _).alloc (Nat.le_refl _) _).alloc (by simp) _).trans (hb.mono (by simp; omega))⟩
end Go.Proofs.YtecpjeililiafaaDoor
