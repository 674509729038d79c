/-
  Joined by a program out of: ObjStep, ObjPlayPure, AppDdRun, ITab.
-/
import Derived.Test.YtfgangkpebkicaaDoorMgAE
import Derived.Test.YtfgangkpebkicaaDoorMgAF
import Derived.Test.YtfgangkpebkicaaDoorMgAD
import Derived.Deep.DeepAppendWide
import Derived.Lib.AppendZeros
import Derived.Lib.SliceRun
import Derived.Test.YtfgangkpebkicaaDoorMgAA
import Derived.Deep.AppendLies

/-
  Contract of object.Step.
-/
namespace Go.Proofs.YtfgangkpebkicaaDoor
open Go.RowKit
set_option maxRecDepth 20000
theorem IOwn.base {w : World} {B B' : Nat} {v : Value} {l : List Int} (h : IOwn w B v l) (hB : B' ≤ B) : IOwn w B' v l := by
  rcases h with ⟨rfl, rfl⟩ | ⟨g, cap, zs, rfl, h1, hL, hz, hc, hm, ht⟩
  · exact Or.inl ⟨rfl, rfl⟩
  · exact Or.inr ⟨g, cap, zs, rfl, by omega, hL, hz, hc, hm, ht⟩
/-- What Step answers: the state (a row of its own), the answer, the error. -/
def StepPost (w : World) (o : List Int × Int × Int) (e : Ending) (w' : World) : Prop :=
  ∃ v, e = .returned (.tuple #[v, .int .i64 o.2.1, .int .i64 o.2.2]) ∧ IOwn w' w.heap.size v o.1 ∧ Below w.heap.size w w'
theorem nstate_any {g : Nat} {t : TypeId} {v : Value} {l : List Int} {w : World} {B : Nat} (h : Lies w g t #[v]) (hr : IOwn w B v l) :
    Calls Tryd.prog 140 #[.pointer (some ⟨g, 0, none⟩)] w fun e w' => e = .returned v ∧ w = w' := by
  have c0 := rec_cell h
  obtain ⟨A, cap, rfl, m1, m2⟩ := hr.rd.is
  clear h hr
  go_enter Tryd.func140, Tryd.ntmps140
  go_wp2
  go_ret
  exact ⟨rfl, rfl⟩
theorem rstate_any {g : Nat} {t : TypeId} {v : Value} {l : List Int} {w : World} {B : Nat} (h : Lies w g t #[v]) (hr : IOwn w B v l) :
    Calls Tryd.prog 145 #[.pointer (some ⟨g, 0, none⟩)] w fun e w' => e = .returned v ∧ w = w' := by
  have c0 := rec_cell h
  obtain ⟨A, cap, rfl, m1, m2⟩ := hr.rd.is
  clear h hr
  go_enter Tryd.func145, Tryd.ntmps145
  go_wp2
  go_ret
  exact ⟨rfl, rfl⟩
theorem fits_ways {typ kind : Int} (h : fitsB typ kind = true) : (typ = 1 → kind = 1 ∨ kind = 2) ∧ (typ = 2 → kind = 3 ∨ kind = 4) ∧ (typ = 3 → kind = 5 ∨ kind = 6) ∧ (typ = 4 → kind = 7 ∨ kind = 8 ∨ kind = 9) ∧ (typ = 5 → kind = 10) := by
  unfold fitsB at h
  rw [decide_eq_true_iff] at h
  obtain ⟨h1, h2⟩ := h
  unfold kindType at h2
  repeat' split at h2
  all_goals omega
theorem stepped_err {l : List Int} {kind arg : Int} (h : (stepped l kind arg).2.2 = 2) : stepped l kind arg = ([], 0, 2) := by
  unfold stepped at h ⊢
  repeat' split at h
  all_goals (try (simp at h))
  all_goals (simp_all)
theorem obj_new {w : World} {B : Nat} {v : Value} {l : List Int} (h : IOwn w B v l) (hB : B ≤ w.heap.size) (T : TypeId) : ObjAt (w.alloc (.cells #[v] T)) B w.heap.size T v l :=
  ⟨hB, Lies.new w T _, h.alloc _, fun e => by have := (own_block h e).2; omega⟩
set_option maxHeartbeats 2000000 in
theorem step_reg {v : Value} {l : List Int} {w : World} (kind arg : Int) (hr : NRd w w.heap.size v l) (he : stateE 1 l = 0) (hi : (fitsB 1 kind && takesB kind arg) = true) :
    Calls Tryd.prog 94 #[.int .i64 1, v, .int .i64 kind, .int .i64 arg] w (StepPost w (stepped l kind arg)) := by
  obtain ⟨A, cap, rfl, m1, m2⟩ := hr.is
  obtain ⟨ht, hn, hv⟩ := stateE_ok.1 he
  have hf : fitsB 1 kind = true := (Bool.and_eq_true_iff.1 hi).1
  have hk := (fits_ways hf).1 rfl
  have hc := check_any 1 hr
  rw [he] at hc
  have HK := Lib.hid hc
  have hv2 := fun W => invocable_any (typ := 1) rfl kind arg W
  rw [hi] at hv2
  have HI := Lib.hid hv2
  have HD := Lib.hid (fun (W : World) B g v (h : ObjAt W B g 181 v l) (_ : B ≤ W.heap.size) => regDo_any h ((valid_one rfl).1 hv).1 kind arg hk)
  have HE := Lib.hid (stepped_err (l := l) (kind := kind) (arg := arg))
  have HR := Lib.hid hr
  have HN := Lib.hid hn
  have d1 := meth_reg_do
  have d2 := meth_reg_state
  clear hr he hi ht hn hv hf hk hc hv2 m1 m2
  generalize stepped l kind arg = o at HD HE ⊢
  go_enter Tryd.func94, Tryd.ntmps94
  go_wp2_with fail
  refine HK.out.mono ?_
  rintro e w1 ⟨rfl, hb1⟩
  have H1 := Lib.hid hb1
  clear hb1 HK
  go_wp2_with fail
  refine (HI.out _).mono ?_
  rintro e w2 ⟨rfl, hb2⟩
  have H2 := Lib.hid (H1.out.trans (hb2.mono H1.out.size))
  clear hb2 HI H1
  go_wp2_with fail
  refine (cloneI_any ((HR.out.below H2.out).mono H2.out.size) (by have := HN.out; omega)).mono ?_
  rintro e w3 ⟨v3, rfl, ho3, hb3⟩
  obtain ⟨A3, c3, rfl, m1, m2⟩ := ho3.rd.is
  have H3 := Lib.hid (And.intro ho3 hb3)
  clear ho3 hb3 m1 m2
  go_wp2_with fail
  refine (open_reg _ _ _ _).mono ?_
  rintro e w4 ⟨rfl, rfl⟩
  go_wp2_with fail
  refine (HD.out _ w2.heap.size w3.heap.size _ (obj_new H3.out.1 H3.out.2.size _) (by have := H3.out.2.size; simp; omega)).mono ?_
  rintro e w5 ⟨hb5, hd⟩
  have H5 := Lib.hid (H2.out.trans (((H3.out.2.alloc H3.out.2.size _).trans hb5).mono H2.out.size))
  clear hb5
  rcases hd with ⟨ho, r, rfl⟩ | ⟨ho, rfl, v5, hs⟩
  · have HO := Lib.hid ho
    clear ho
    go_wp2_with fail
    go_ret3
    have e := HE.out HO.out
    subst e
    exact ⟨_, rfl, Or.inl ⟨rfl, rfl⟩, H5.out⟩
  · have HO := Lib.hid ho
    have HS := Lib.hid hs
    clear ho hs
    obtain ⟨A5, c5, rfl, m1, m2⟩ := HS.out.row.rd.is
    clear m1 m2
    go_wp2_with fail
    refine (nstate_any HS.out.rc HS.out.row).mono ?_
    rintro e w6 ⟨rfl, rfl⟩
    obtain ⟨s, r, er⟩ := o
    have e := HO.out
    simp only at e
    subst e
    go_wp2_with fail
    go_ret3
    exact ⟨_, rfl, HS.out.row.base H2.out.size, H5.out⟩
set_option maxHeartbeats 2000000 in
theorem step_queue {v : Value} {l : List Int} {w : World} (kind arg : Int) (hr : NRd w w.heap.size v l) (he : stateE 2 l = 0) (hi : (fitsB 2 kind && takesB kind arg) = true) :
    Calls Tryd.prog 94 #[.int .i64 2, v, .int .i64 kind, .int .i64 arg] w (StepPost w (stepped l kind arg)) := by
  obtain ⟨A, cap, rfl, m1, m2⟩ := hr.is
  obtain ⟨ht, hn, hv⟩ := stateE_ok.1 he
  have hf : fitsB 2 kind = true := (Bool.and_eq_true_iff.1 hi).1
  have hk := (fits_ways hf).2.1 rfl
  have hc := check_any 2 hr
  rw [he] at hc
  have HK := Lib.hid hc
  have hv2 := fun W => invocable_any (typ := 2) rfl kind arg W
  rw [hi] at hv2
  have HI := Lib.hid hv2
  have HD := Lib.hid (fun (W : World) B g v (h : ObjAt W B g 185 v l) (hB : B ≤ W.heap.size) => queueDo_any h hn hB kind arg hk)
  have HE := Lib.hid (stepped_err (l := l) (kind := kind) (arg := arg))
  have HR := Lib.hid hr
  have HN := Lib.hid hn
  have d1 := meth_queue_do
  have d2 := meth_queue_state
  clear hr he hi ht hn hv hf hk hc hv2 m1 m2
  generalize stepped l kind arg = o at HD HE ⊢
  go_enter Tryd.func94, Tryd.ntmps94
  go_wp2_with fail
  refine HK.out.mono ?_
  rintro e w1 ⟨rfl, hb1⟩
  have H1 := Lib.hid hb1
  clear hb1 HK
  go_wp2_with fail
  refine (HI.out _).mono ?_
  rintro e w2 ⟨rfl, hb2⟩
  have H2 := Lib.hid (H1.out.trans (hb2.mono H1.out.size))
  clear hb2 HI H1
  go_wp2_with fail
  refine (cloneI_any ((HR.out.below H2.out).mono H2.out.size) (by have := HN.out; omega)).mono ?_
  rintro e w3 ⟨v3, rfl, ho3, hb3⟩
  obtain ⟨A3, c3, rfl, m1, m2⟩ := ho3.rd.is
  have H3 := Lib.hid (And.intro ho3 hb3)
  clear ho3 hb3 m1 m2
  go_wp2_with fail
  refine (open_queue _ _ _ _).mono ?_
  rintro e w4 ⟨rfl, rfl⟩
  go_wp2_with fail
  refine (HD.out _ w2.heap.size w3.heap.size _ (obj_new H3.out.1 H3.out.2.size _) (by have := H3.out.2.size; simp; omega)).mono ?_
  rintro e w5 ⟨hb5, hd⟩
  have H5 := Lib.hid (H2.out.trans (((H3.out.2.alloc H3.out.2.size _).trans hb5).mono H2.out.size))
  clear hb5
  rcases hd with ⟨ho, r, rfl⟩ | ⟨ho, rfl, v5, hs⟩
  · have HO := Lib.hid ho
    clear ho
    go_wp2_with fail
    go_ret3
    have e := HE.out HO.out
    subst e
    exact ⟨_, rfl, Or.inl ⟨rfl, rfl⟩, H5.out⟩
  · have HO := Lib.hid ho
    have HS := Lib.hid hs
    clear ho hs
    obtain ⟨A5, c5, rfl, m1, m2⟩ := HS.out.row.rd.is
    clear m1 m2
    go_wp2_with fail
    refine (rstate_any HS.out.rc HS.out.row).mono ?_
    rintro e w6 ⟨rfl, rfl⟩
    obtain ⟨s, r, er⟩ := o
    have e := HO.out
    simp only at e
    subst e
    go_wp2_with fail
    go_ret3
    exact ⟨_, rfl, HS.out.row.base H2.out.size, H5.out⟩
set_option maxHeartbeats 2000000 in
theorem step_stack {v : Value} {l : List Int} {w : World} (kind arg : Int) (hr : NRd w w.heap.size v l) (he : stateE 3 l = 0) (hi : (fitsB 3 kind && takesB kind arg) = true) :
    Calls Tryd.prog 94 #[.int .i64 3, v, .int .i64 kind, .int .i64 arg] w (StepPost w (stepped l kind arg)) := by
  obtain ⟨A, cap, rfl, m1, m2⟩ := hr.is
  obtain ⟨ht, hn, hv⟩ := stateE_ok.1 he
  have hf : fitsB 3 kind = true := (Bool.and_eq_true_iff.1 hi).1
  have hk := (fits_ways hf).2.2.1 rfl
  have hc := check_any 3 hr
  rw [he] at hc
  have HK := Lib.hid hc
  have hv2 := fun W => invocable_any (typ := 3) rfl kind arg W
  rw [hi] at hv2
  have HI := Lib.hid hv2
  have HD := Lib.hid (fun (W : World) B g v (h : ObjAt W B g 187 v l) (hB : B ≤ W.heap.size) => stackDo_any h hn hB kind arg hk)
  have HE := Lib.hid (stepped_err (l := l) (kind := kind) (arg := arg))
  have HR := Lib.hid hr
  have HN := Lib.hid hn
  have d1 := meth_stack_do
  have d2 := meth_stack_state
  clear hr he hi ht hn hv hf hk hc hv2 m1 m2
  generalize stepped l kind arg = o at HD HE ⊢
  go_enter Tryd.func94, Tryd.ntmps94
  go_wp2_with fail
  refine HK.out.mono ?_
  rintro e w1 ⟨rfl, hb1⟩
  have H1 := Lib.hid hb1
  clear hb1 HK
  go_wp2_with fail
  refine (HI.out _).mono ?_
  rintro e w2 ⟨rfl, hb2⟩
  have H2 := Lib.hid (H1.out.trans (hb2.mono H1.out.size))
  clear hb2 HI H1
  go_wp2_with fail
  refine (cloneI_any ((HR.out.below H2.out).mono H2.out.size) (by have := HN.out; omega)).mono ?_
  rintro e w3 ⟨v3, rfl, ho3, hb3⟩
  obtain ⟨A3, c3, rfl, m1, m2⟩ := ho3.rd.is
  have H3 := Lib.hid (And.intro ho3 hb3)
  clear ho3 hb3 m1 m2
  go_wp2_with fail
  refine (open_stack _ _ _ _).mono ?_
  rintro e w4 ⟨rfl, rfl⟩
  go_wp2_with fail
  refine (HD.out _ w2.heap.size w3.heap.size _ (obj_new H3.out.1 H3.out.2.size _) (by have := H3.out.2.size; simp; omega)).mono ?_
  rintro e w5 ⟨hb5, hd⟩
  have H5 := Lib.hid (H2.out.trans (((H3.out.2.alloc H3.out.2.size _).trans hb5).mono H2.out.size))
  clear hb5
  rcases hd with ⟨ho, r, rfl⟩ | ⟨ho, rfl, v5, hs⟩
  · have HO := Lib.hid ho
    clear ho
    go_wp2_with fail
    go_ret3
    have e := HE.out HO.out
    subst e
    exact ⟨_, rfl, Or.inl ⟨rfl, rfl⟩, H5.out⟩
  · have HO := Lib.hid ho
    have HS := Lib.hid hs
    clear ho hs
    obtain ⟨A5, c5, rfl, m1, m2⟩ := HS.out.row.rd.is
    clear m1 m2
    go_wp2_with fail
    refine (rstate_any HS.out.rc HS.out.row).mono ?_
    rintro e w6 ⟨rfl, rfl⟩
    obtain ⟨s, r, er⟩ := o
    have e := HO.out
    simp only at e
    subst e
    go_wp2_with fail
    go_ret3
    exact ⟨_, rfl, HS.out.row.base H2.out.size, H5.out⟩
set_option maxHeartbeats 2000000 in
theorem step_set {v : Value} {l : List Int} {w : World} (kind arg : Int) (hr : NRd w w.heap.size v l) (he : stateE 4 l = 0) (hi : (fitsB 4 kind && takesB kind arg) = true) :
    Calls Tryd.prog 94 #[.int .i64 4, v, .int .i64 kind, .int .i64 arg] w (StepPost w (stepped l kind arg)) := by
  obtain ⟨A, cap, rfl, m1, m2⟩ := hr.is
  obtain ⟨ht, hn, hv⟩ := stateE_ok.1 he
  have hf : fitsB 4 kind = true := (Bool.and_eq_true_iff.1 hi).1
  have hk := (fits_ways hf).2.2.2.1 rfl
  have hc := check_any 4 hr
  rw [he] at hc
  have HK := Lib.hid hc
  have hv2 := fun W => invocable_any (typ := 4) rfl kind arg W
  rw [hi] at hv2
  have HI := Lib.hid hv2
  have HD := Lib.hid (fun (W : World) B g v (h : ObjAt W B g 189 v l) (hB : B ≤ W.heap.size) => setDo_any h hn (((valid_row rfl).1 hv).2 rfl) hB kind arg hk)
  have HE := Lib.hid (stepped_err (l := l) (kind := kind) (arg := arg))
  have HR := Lib.hid hr
  have HN := Lib.hid hn
  have d1 := meth_set_do
  have d2 := meth_set_state
  clear hr he hi ht hn hv hf hk hc hv2 m1 m2
  generalize stepped l kind arg = o at HD HE ⊢
  go_enter Tryd.func94, Tryd.ntmps94
  go_wp2_with fail
  refine HK.out.mono ?_
  rintro e w1 ⟨rfl, hb1⟩
  have H1 := Lib.hid hb1
  clear hb1 HK
  go_wp2_with fail
  refine (HI.out _).mono ?_
  rintro e w2 ⟨rfl, hb2⟩
  have H2 := Lib.hid (H1.out.trans (hb2.mono H1.out.size))
  clear hb2 HI H1
  go_wp2_with fail
  refine (cloneI_any ((HR.out.below H2.out).mono H2.out.size) (by have := HN.out; omega)).mono ?_
  rintro e w3 ⟨v3, rfl, ho3, hb3⟩
  obtain ⟨A3, c3, rfl, m1, m2⟩ := ho3.rd.is
  have H3 := Lib.hid (And.intro ho3 hb3)
  clear ho3 hb3 m1 m2
  go_wp2_with fail
  refine (open_set _ _ _ _).mono ?_
  rintro e w4 ⟨rfl, rfl⟩
  go_wp2_with fail
  refine (HD.out _ w2.heap.size w3.heap.size _ (obj_new H3.out.1 H3.out.2.size _) (by have := H3.out.2.size; simp; omega)).mono ?_
  rintro e w5 ⟨hb5, hd⟩
  have H5 := Lib.hid (H2.out.trans (((H3.out.2.alloc H3.out.2.size _).trans hb5).mono H2.out.size))
  clear hb5
  rcases hd with ⟨ho, r, rfl⟩ | ⟨ho, rfl, v5, hs⟩
  · have HO := Lib.hid ho
    clear ho
    go_wp2_with fail
    go_ret3
    have e := HE.out HO.out
    subst e
    exact ⟨_, rfl, Or.inl ⟨rfl, rfl⟩, H5.out⟩
  · have HO := Lib.hid ho
    have HS := Lib.hid hs
    clear ho hs
    obtain ⟨A5, c5, rfl, m1, m2⟩ := HS.out.row.rd.is
    clear m1 m2
    go_wp2_with fail
    refine (rstate_any HS.out.rc HS.out.row).mono ?_
    rintro e w6 ⟨rfl, rfl⟩
    obtain ⟨s, r, er⟩ := o
    have e := HO.out
    simp only at e
    subst e
    go_wp2_with fail
    go_ret3
    exact ⟨_, rfl, HS.out.row.base H2.out.size, H5.out⟩
set_option maxHeartbeats 2000000 in
theorem step_ticket {v : Value} {l : List Int} {w : World} (kind arg : Int) (hr : NRd w w.heap.size v l) (he : stateE 5 l = 0) (hi : (fitsB 5 kind && takesB kind arg) = true) :
    Calls Tryd.prog 94 #[.int .i64 5, v, .int .i64 kind, .int .i64 arg] w (StepPost w (stepped l kind arg)) := by
  obtain ⟨A, cap, rfl, m1, m2⟩ := hr.is
  obtain ⟨ht, hn, hv⟩ := stateE_ok.1 he
  have hf : fitsB 5 kind = true := (Bool.and_eq_true_iff.1 hi).1
  have hk := (fits_ways hf).2.2.2.2 rfl
  subst hk
  have hc := check_any 5 hr
  rw [he] at hc
  have HK := Lib.hid hc
  have hv2 := fun W => invocable_any (typ := 5) rfl 10 arg W
  rw [hi] at hv2
  have HI := Lib.hid hv2
  have HD := Lib.hid (fun (W : World) B g v (h : ObjAt W B g 191 v l) (_ : B ≤ W.heap.size) => ticketDo_any h ((valid_one rfl).1 hv).1 ((valid_one rfl).1 hv).2.1 ((valid_one rfl).1 hv).2.2 arg)
  have HE := Lib.hid (stepped_err (l := l) (kind := 10) (arg := arg))
  have HR := Lib.hid hr
  have HN := Lib.hid hn
  have d1 := meth_ticket_do
  have d2 := meth_ticket_state
  clear hr he hi ht hn hv hf hc hv2 m1 m2
  generalize stepped l 10 arg = o at HD HE ⊢
  go_enter Tryd.func94, Tryd.ntmps94
  go_wp2_with fail
  refine HK.out.mono ?_
  rintro e w1 ⟨rfl, hb1⟩
  have H1 := Lib.hid hb1
  clear hb1 HK
  go_wp2_with fail
  refine (HI.out _).mono ?_
  rintro e w2 ⟨rfl, hb2⟩
  have H2 := Lib.hid (H1.out.trans (hb2.mono H1.out.size))
  clear hb2 HI H1
  go_wp2_with fail
  refine (cloneI_any ((HR.out.below H2.out).mono H2.out.size) (by have := HN.out; omega)).mono ?_
  rintro e w3 ⟨v3, rfl, ho3, hb3⟩
  obtain ⟨A3, c3, rfl, m1, m2⟩ := ho3.rd.is
  have H3 := Lib.hid (And.intro ho3 hb3)
  clear ho3 hb3 m1 m2
  go_wp2_with fail
  refine (open_ticket _ _ _ _).mono ?_
  rintro e w4 ⟨rfl, rfl⟩
  go_wp2_with fail
  refine (HD.out _ w2.heap.size w3.heap.size _ (obj_new H3.out.1 H3.out.2.size _) (by have := H3.out.2.size; simp; omega)).mono ?_
  rintro e w5 ⟨hb5, hd⟩
  have H5 := Lib.hid (H2.out.trans (((H3.out.2.alloc H3.out.2.size _).trans hb5).mono H2.out.size))
  clear hb5
  rcases hd with ⟨ho, r, rfl⟩ | ⟨ho, rfl, v5, hs⟩
  · have HO := Lib.hid ho
    clear ho
    go_wp2_with fail
    go_ret3
    have e := HE.out HO.out
    subst e
    exact ⟨_, rfl, Or.inl ⟨rfl, rfl⟩, H5.out⟩
  · have HO := Lib.hid ho
    have HS := Lib.hid hs
    clear ho hs
    obtain ⟨A5, c5, rfl, m1, m2⟩ := HS.out.row.rd.is
    clear m1 m2
    go_wp2_with fail
    refine (nstate_any HS.out.rc HS.out.row).mono ?_
    rintro e w6 ⟨rfl, rfl⟩
    obtain ⟨s, r, er⟩ := o
    have e := HO.out
    simp only at e
    subst e
    go_wp2_with fail
    go_ret3
    exact ⟨_, rfl, HS.out.row.base H2.out.size, H5.out⟩
set_option maxHeartbeats 2000000 in
theorem step_any {v : Value} {l : List Int} {w : World} (typ kind arg : Int) (hr : NRd w w.heap.size v l) :
    Calls Tryd.prog 94 #[.int .i64 typ, v, .int .i64 kind, .int .i64 arg] w (StepPost w (stepO typ l kind arg)) := by
  by_cases he : stateE typ l = 0
  · have e1 : stepO typ l kind arg = if (fitsB typ kind && takesB kind arg) = false then ([], 0, 3) else stepped l kind arg := by
      unfold stepO
      rw [if_neg (by rw [he]; decide)]
    rw [e1]
    cases hi : fitsB typ kind && takesB kind arg
    · rw [if_pos rfl]
      obtain ⟨A, cap, rfl, m1, m2⟩ := hr.is
      have hc := check_any typ hr
      rw [he] at hc
      have HK := Lib.hid hc
      have hv2 := fun W => invocable_any (btw_iff.2 (stateE_ok.1 he).1) kind arg W
      rw [hi] at hv2
      have HI := Lib.hid hv2
      clear hr he hi hc hv2 m1 m2 e1
      go_enter Tryd.func94, Tryd.ntmps94
      go_wp2_with fail
      refine HK.out.mono ?_
      rintro e w1 ⟨rfl, hb1⟩
      have H1 := Lib.hid hb1
      clear hb1 HK
      go_wp2_with fail
      refine (HI.out _).mono ?_
      rintro e w2 ⟨rfl, hb2⟩
      have H2 := Lib.hid (H1.out.trans (hb2.mono H1.out.size))
      clear hb2 HI H1
      go_wp2_with fail
      go_ret3
      exact ⟨_, rfl, Or.inl ⟨rfl, rfl⟩, H2.out⟩
    · rw [if_neg (by decide)]
      have ht := (stateE_ok.1 he).1
      rcases typ_ways typ with rfl | rfl | rfl | rfl | rfl | ⟨_, _, _, _, _, h⟩
      · exact step_reg kind arg hr he hi
      · exact step_queue kind arg hr he hi
      · exact step_stack kind arg hr he hi
      · exact step_set kind arg hr he hi
      · have hf : fitsB 5 kind = true := (Bool.and_eq_true_iff.1 hi).1
        exact step_ticket kind arg hr he hi
      · exact absurd ht (btw_not.1 h)
  · have e1 : stepO typ l kind arg = ([], 0, stateE typ l) := by
      unfold stepO
      rw [if_pos he]
    rw [e1]
    obtain ⟨A, cap, rfl, m1, m2⟩ := hr.is
    have HK := Lib.hid (check_any typ hr)
    generalize stateE typ l = er at HK he ⊢
    have hz : (er != 0) = true := by rw [bne_iff_ne]; exact he
    clear hr he m1 m2 e1
    go_enter Tryd.func94, Tryd.ntmps94
    go_wp2_with fail
    refine HK.out.mono ?_
    rintro e w1 ⟨rfl, hb1⟩
    have H1 := Lib.hid hb1
    clear hb1 HK
    go_wp2_with fail
    go_ret3
    exact ⟨_, rfl, Or.inl ⟨rfl, rfl⟩, H1.out⟩
end Go.Proofs.YtfgangkpebkicaaDoor

/-
  Slices of what is done; plays, plainly.
-/
namespace Go.Proofs.YtfgangkpebkicaaDoor
open Go.RowKit
set_option maxRecDepth 20000
abbrev ddCs (d : Dd) : List Value := [.int .i64 d.kind, .int .i64 d.arg, .int .i64 d.res]
/-- A slice that reads as a list of what is done. -/
abbrev DRd (w : World) (B : Nat) (v : Value) (l : List Dd) : Prop := LRd 3 ddCs w B v l
theorem LRd.dd {w : World} {B : Nat} {A : Option Addr} {n cap k : Nat} {l : List Dd} (h : DRd w B (.slice A n cap) l) {x : Dd} (hk : l[k]? = some x) : ∃ g o, A = some ⟨g, o, none⟩ ∧ g < B ∧ w.cell? ⟨g, o + k * 3, none⟩ = some (.int .i64 x.kind) ∧ w.cell? ⟨g, o + k * 3 + 1, none⟩ = some (.int .i64 x.arg) ∧ w.cell? ⟨g, o + k * 3 + 2, none⟩ = some (.int .i64 x.res) := by
  obtain ⟨g, o, hA, hg, hc⟩ := LRd.at_ h hk
  exact ⟨g, o, hA, hg, hc 0 _ rfl, hc 1 _ rfl, hc 2 _ rfl⟩
theorem play_drop {typ : Int} {s : List Int} {l : List Dd} {k : Nat} (hk : k < l.length) : playFrom typ s (l.drop k) = if (stepO typ s l[k].kind l[k].arg).2.2 ≠ 0 ∨ (stepO typ s l[k].kind l[k].arg).2.1 ≠ l[k].res then 0 else playFrom typ (stepO typ s l[k].kind l[k].arg).1 (l.drop (k + 1)) + 1 := by
  rw [List.drop_eq_getElem_cons hk, playFrom]
end Go.Proofs.YtfgangkpebkicaaDoor

/-
  append of what is done: any slice of such behind a row of one's own.
-/
namespace Go.Proofs.YtfgangkpebkicaaDoor
open Go.RowKit
set_option maxRecDepth 20000
/-- A slice of the call's own (in blocks from B on) that holds these. -/
def DOwn (w : World) (B : Nat) (v : Value) (l : List Dd) : Prop := w.ownsRow B 81 3 v l.length (l.flatMap ddCs)
theorem DOwn.rd {w : World} {B : Nat} {v : Value} {l : List Dd} (h : DOwn w B v l) : DRd w w.heap.size v l := LRd.of_own (fun _ => rfl) h
theorem DOwn.nil (w : World) (B : Nat) : DOwn w B (.slice none 0 0) [] := World.ownsRow_nil _ _ _ _
theorem DOwn.below {w w' : World} {B : Nat} {v : Value} {l : List Dd} (h : DOwn w B v l) (hb : Below w.heap.size w w') : DOwn w' B v l := by
  refine ⟨h.1, h.2.elim (fun h => .inl h) fun ⟨g, cap, cur, h1, h2, h3, h4, h5, h6, h7⟩ => .inr ⟨g, cap, cur, h1, h2, ?_, h4, h5, h6, h7⟩⟩
  rw [hb.block g (Array.getElem?_eq_some_iff.1 h3).1]
  exact h3
theorem DOwn.alloc {w : World} {B : Nat} {v : Value} {l : List Dd} (h : DOwn w B v l) (o : Obj) : DOwn (w.alloc o) B v l := h.below ((Below.refl _ _).alloc (Nat.le_refl _) o)
theorem info_dd : (Tryd.prog.info? 81).map (fun i => (i.zero, i.size, i.bytes)) = some (some (.agg #[.int .i64 0, .int .i64 0, .int .i64 0]), 3, 24) := by kernel_rfl
theorem run_app_dds {W : World} {base n cap : Nat} {v : Value} {A : Option Addr} {l ys : List Dd} {B : Nat} (ty : TypeId) (hown : DOwn W base v l) (hr : DRd W B (.slice A n cap) ys) (hlen : ((l.length + ys.length) + (l.length + ys.length) / 4 + 192) * 24 ≤ 281474976710656) (hbase : base ≤ W.heap.size) (hA : A ≠ none) :
    ∃ v' w', (Builtin.append_ #[82, 82] ty #[v, .slice A n cap]).run Tryd.prog W = .ok v' w' ∧ DOwn w' base v' (l ++ ys) ∧ Below base W w' := by
  obtain ⟨i0, hi, hz0, hz1, hz2⟩ := info_of info_dd
  have hl := World.ownsRow.lt hown
  obtain ⟨A', cap', he, m1, m2, hc⟩ := hr
  injection he with e1 e2 e3
  subst e1 e2 e3
  cases A with
  | none => exact absurd rfl hA
  | some a =>
    have hlf : (ys.flatMap ddCs).length = ys.length * 3 := flat_len (f := ddCs) (s := 3) (fun _ => rfl) ys
    obtain ⟨v', w', hr, h2, h3, _⟩ := run_append_own_wide (P := Tryd.prog) W base 82 ty 81 i0 (.agg #[.int .i64 0, .int .i64 0, .int .i64 0]) 3 24 Tryd.underlying82 hi hz0 hz1 hz2 rfl (by decide) v l.length (l.flatMap ddCs) hown
      a ys.length cap (ys.flatMap ddCs) hlf (fun j u hu => by
        have hj := (List.getElem?_eq_some_iff.1 hu).1
        rw [hlf] at hj
        obtain ⟨g, o, ha, _, hcell⟩ := hc (by omega)
        injection ha with ha
        subst ha
        have hx := List.getElem?_eq_getElem (show j / 3 < ys.length by omega)
        have hm : j % 3 < (ddCs ys[j / 3]).length := by show j % 3 < 3; omega
        have hf := flat_at (l := ys) (f := ddCs) (s := 3) (fun _ => rfl) hx (List.getElem?_eq_getElem hm)
        have e : j / 3 * 3 + j % 3 = j := by omega
        rw [e, hu] at hf
        have := hcell (j / 3) _ hx (j % 3) _ ((List.getElem?_eq_getElem hm).trans hf.symm)
        rw [Addr.add_lit]
        rw [Nat.add_assoc, e] at this
        exact this) (fun u hu => by
        rw [List.mem_flatMap] at hu
        obtain ⟨x, _, hx⟩ := hu
        simp only [List.mem_cons, List.not_mem_nil, or_false] at hx
        rcases hx with rfl | rfl | rfl <;> rfl) (by unfold maxLen; omega) hlen hbase
    refine ⟨v', w', hr, ?_, (Below.refl base W).grown h3 hbase (fun k hk => (hl k hk).1)⟩
    unfold DOwn
    rw [List.length_append, List.flatMap_append]
    exact h2
theorem step_run_app {W : World} {ops : Array Oper} {o : Oper} {a : Act} {K : Act → World → Prop} {Q : Exit → Act → World → Prop} {E : Prop} (hgd : o.guard = none) (s x : Operand) (t tn : TypeId)
    (ho : o.op = .call { callee := .builtin .append, args := #[s, x], argTypes := #[t, tn] }) (vs vx : Value) (hs : a.eval s = vs) (hx : a.eval x = vx)
    (v' : Value) (w' : World) (hr : (Builtin.append_ #[t, tn] o.type #[vs, vx]).run Tryd.prog W = .ok v' w') (h : K (a.put o.dst v') w') :
    if Region.wanted o (yielded ops a.tmps) = true then Oper.wp Tryd.prog o a W K Q else E := by
  have hw : Region.wanted o (yielded ops a.tmps) = true := by simp [Region.wanted, hgd]
  rw [if_pos hw]
  exact Lib.wp_append_run W s x t tn ho vs vx hs hx v' w' hr h
end Go.Proofs.YtfgangkpebkicaaDoor

/-
  A table of integers in a block of the call's own; how it is made.
-/
namespace Go.Proofs.YtfgangkpebkicaaDoor
open Go.RowKit
set_option maxRecDepth 20000
/-- The cells of a table of N integers. -/
def tabCs (N : Nat) (f : Nat → Int) : Array Value := (Array.range N).map fun i => .int .i64 (f i)
def ITab (w : World) (g N : Nat) (f : Nat → Int) : Prop := Lies w g 3 (tabCs N f)
theorem tabCs_get (N : Nat) (f : Nat → Int) (i : Nat) (h : i < N) : (tabCs N f)[i]? = some (.int .i64 (f i)) := by
  simp [tabCs, h]
theorem tabCs_set (N : Nat) (f : Nat → Int) (i : Nat) (x : Int) : (tabCs N f).setIfInBounds i (.int .i64 x) = tabCs N (fun j => if j = i then x else f j) := by
  apply Array.ext_getElem?
  intro j
  rw [Array.getElem?_setIfInBounds]
  by_cases h : i = j
  · subst h
    by_cases hi : i < N <;> simp [tabCs, hi]
  · rw [if_neg h]
    by_cases hj : j < N <;> simp [tabCs, hj, show ¬ j = i from fun e => h e.symm]
section
variable {w : World} {g N : Nat} {f : Nat → Int}
theorem ITab.cell (h : ITab w g N f) {i : Nat} (hi : i < N) : w.cell? ⟨g, i, none⟩ = some (.int .i64 (f i)) := by
  rw [Lies.cell h, tabCs_get N f i hi]
theorem ITab.free (h : ITab w g N f) (i : Nat) : w.frozen? ⟨g, i, none⟩ = false := Lies.frozen h i
theorem ITab.set_ (h : ITab w g N f) (i : Nat) (x : Int) : ITab (w.setCell ⟨g, i, none⟩ (.int .i64 x)) g N (fun j => if j = i then x else f j) :=
  Lies.cast (Lies.set_ h i (.int .i64 x)) (tabCs_set N f i x)
theorem ITab.congr {f' : Nat → Int} (h : ITab w g N f) (e : ∀ i, i < N → f i = f' i) : ITab w g N f' := by
  refine Lies.cast h ?_
  apply Array.ext
  · simp [tabCs]
  · intro j h1 h2
    have : j < N := by simpa [tabCs] using h1
    simp [tabCs, e j this]
end
theorem info_intT : (Tryd.prog.info? 3).map (fun i => (i.zero, i.size, i.bytes)) = some (some (.int .i64 0), 1, 8) := by kernel_rfl
theorem made_ints (N : Nat) (l : Int) (hl : l = N) (hN : N ≤ 65536) (w : World) :
    (Instr.makeSlice 22 (.int .i64 l) (.int .i64 l)).run Tryd.prog w = .ok (.slice (some ⟨w.heap.size, 0, none⟩) N N) (w.alloc (.cells (tabCs N fun _ => 0) 3)) := by
  obtain ⟨i0, hi, hz0, hz1, hz2⟩ := info_parts info_intT
  subst hl
  rw [run_make w 22 3 i0 (.int .i64 0) Tryd.underlying22 hi hz0 .i64 .i64 N N (by omega) (by omega) (by rw [hz2]; omega) (by omega), hz1]
  simp only [Int.toNat_natCast, Nat.mul_one]
  congr 3
  apply Array.ext
  · simp [tabCs, madeCells]
  · intro j h1 h2
    simp [tabCs, madeCells, Value.cells, Nat.mod_one]
end Go.Proofs.YtfgangkpebkicaaDoor
