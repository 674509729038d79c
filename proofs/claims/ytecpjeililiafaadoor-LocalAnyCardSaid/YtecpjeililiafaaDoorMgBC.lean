/-
  Joined by a program out of: LOpen, CalmPure.
-/
import Derived.Test.YtecpjeililiafaaDoorMgAJ
import Derived.Test.YtecpjeililiafaaDoorMgBB
import Derived.Maps.RangeWalk
import Derived.Test.YtecpjeililiafaaDoorMgAZ

/-
  Contract of local.open; package local's Parts, whole.
-/
namespace Go.Proofs.YtecpjeililiafaaDoor
open Go.RowKit Go.Maps
set_option maxRecDepth 20000

def LOpenPost (w : World) (cs : List Cl) (X : Int) (e : Ending) (w' : World) : Prop :=
  Below w.heap.size w w' ∧ ∃ v, e = .returned (.tuple #[v, .int .i64 X]) ∧ (X = 0 → CRd w' w'.heap.size v cs) ∧ (X ≠ 0 → v = .slice none 0 0)
theorem idxK_len (cs : List Cl) (q : Int) : (idxK cs q cs.length).length = ownN cs q := by
  have key : ∀ k, k ≤ cs.length → (idxK cs q k).length = ((cs.take k).filter fun c => c.thing == q).length := fun k => by
    induction k with
    | zero => intro _; rfl
    | succ k ih =>
      intro hk
      rw [idxK_succ, List.take_add_one, getD_some (show k < cs.length by omega), List.filter_append, List.length_append, ← ih (by omega)]
      generalize cs.getD k default = y
      by_cases h : y.thing = q
      · rw [if_pos h]; simp [h]
      · rw [if_neg h]; simp [h]
  rw [key _ (Nat.le_refl _), List.take_length]
  rfl
theorem row_slice {w : World} {base : Nat} {e : TypeId} {v : Value} {zs : List Int} (h : w.ownsInts base e .i64 v zs) : ∃ c : Option Addr × Nat × Nat, v = .slice c.1 c.2.1 c.2.2 ∧ c.2.1 = zs.length := by
  rcases h.1.2 with ⟨rfl, h0⟩ | ⟨g, cap, cur, rfl, _⟩
  · exact ⟨(none, 0, 0), rfl, h0.symm⟩
  · exact ⟨(_, _, _), rfl, rfl⟩
theorem lit_ne {a b : Int} (h : a ≠ b) : (Lit.int .i64 a).sameKey (.int .i64 b) = false := sameKey_ne fun e => h (by injection e)
set_option maxHeartbeats 4000000 in
theorem lopen_any {tv lv : Value} {ts : List Int} {l : List Ev} {w : World} (ht : NRd w w.heap.size tv ts) (hl : ERd w w.heap.size lv l) :
    Calls Tryd.prog 70 #[tv, lv] w (LOpenPost w (callsOf ts l).1 (openE ts l)) := by
  have HCL := Lib.hid (calls_any ht hl)
  have hse : openE ts l = if (callsOf ts l).2.2 ≠ 0 then (callsOf ts l).2.2 else if 12 < (callsOf ts l).1.length then 2 else if ((callsOf ts l).1.any fun c => decide (9 < ownN (callsOf ts l).1 c.thing)) = true then 2 else 0 := rfl
  have hth := @calls_thing ts l
  have hty := @calls_types ts l
  generalize openE ts l = X at hse ⊢
  generalize callsOf ts l = o at HCL hse hth hty ⊢
  have HSE := Lib.hid (And.intro hse (And.intro hth hty))
  clear hse hth hty
  obtain ⟨At, capt, rfl, -, -⟩ := ht.is
  obtain ⟨Al, capl, rfl, -, -⟩ := hl.is
  clear ht hl
  obtain ⟨tl, htl⟩ : ∃ tl, tl = ts.length := ⟨_, rfl⟩
  rw [← htl] at HCL HSE ⊢
  clear htl
  generalize l.length = L at HCL ⊢
  go_enter Tryd.func70, Tryd.ntmps70
  go_wp2_with fail
  refine HCL.out.mono ?_
  rintro e w1 ⟨v, rfl, hb1, hcr⟩
  obtain ⟨cs, at1, E⟩ := o
  obtain ⟨hse, hth, hty⟩ := HSE.out
  obtain ⟨A, c, rfl, -, hc9⟩ := hcr.is
  unfold maxLen at hc9
  simp only at hcr hse hth hty ⊢
  have HR := Lib.hid (And.intro hb1 hcr)
  obtain ⟨n, hn⟩ : ∃ n, n = cs.length := ⟨_, rfl⟩
  by_cases hE : E = 0
  · rw [if_neg (fun h => h hE)] at hse
    have hg := lgroup_any hcr
    subst hE
    rw [← hn] at HR hse hg ⊢
    by_cases h12 : 12 < n
    · rw [if_pos h12] at hse
      subst hse
      have i12 : (12 : Int) < (n : Int) := by omega
      clear h12 hg HCL hb1 hcr HSE hth hty hn
      go_wp2_with fail
      go_ret2
      exact ⟨HR.out.1, _, rfl, fun h => by omega, fun _ => rfl⟩
    · rw [if_neg h12] at hse
      have i12 : ¬ (12 : Int) < (n : Int) := by omega
      have HSE2 := Lib.hid hse
      have HG := Lib.hid (hg (by omega) (fun c hc => by have := hth c hc; have := hty rfl; omega))
      have HN := Lib.hid hn
      clear h12 hg HCL hb1 hcr HSE hth hty hn hse
      go_wp2_with fail
      refine HG.out.mono ?_
      rintro e w2 ⟨rfl, hb2, D, hD, hO⟩
      have H2 := Lib.hid (And.intro (HR.out.1.trans (hb2.mono HR.out.1.size)) ((HR.out.2.below hb2).mono hb2.size))
      have hlt1 : w1.heap.size < w2.heap.size := by
        obtain ⟨es, clock, h1, _⟩ := hO
        exact (Array.getElem?_eq_some_iff.1 h1).1
      have hlt0 := HR.out.1.size
      have HD := Lib.hid hD
      have hown : w2.ownsMap Tryd.prog 3 (rowElem (H := Unit) w2 (w1.heap.size + 1) 3 .i64) w1.heap.size n D := by
        obtain ⟨es, clock, h1, h2, h3, h4, _⟩ := hO
        exact ⟨es, clock, h1, h2, h3, h4⟩
      clear hb2 hD HG hO
      go_wp2_with (at_range; refine wpList_range_own _ rfl _ 96 rfl 3 22 keyed_int Tryd.underlying96 _ w1.heap.size n _ rfl hown ?_; intro w3 hrg3 hg3 hs3)
      have hstart : ∀ q : Int, 9 < ownN cs q → has D (.int .i64 q) = true := fun q hq => by
        cases hh : has D (.int .i64 q)
        · have h1 := atKey_of_not_has hh .nil
          rw [HD.out.2 q, if_neg (fun e => by have := idxK_len cs q; rw [← HN.out, e] at this; simp at this; omega)] at h1
          cases h1
        · rfl
      have HST := Lib.hid hstart
      have H3 := Lib.hid (And.intro hrg3 (And.intro hg3 hlt1))
      clear hown hrg3 hg3 hstart hs3
      go_frame
      go_loopw [27] (fun _ wr => ∃ (left : Lit → Bool) (cnt : Nat), wr.ranges Tryd.prog 3 (rowElem (H := Unit) w2 (w1.heap.size + 1) 3 .i64) w1.heap.size w2.heap.size n D left cnt ∧ Below w2.heap.size w2 wr ∧ ∀ q : Int, 9 < ownN cs q → left (.int .i64 q) = true) (fun _ wr => wr.rangeLeft w1.heap.size w2.heap.size)
      case atStart => exact ⟨_, _, H3.out.1, ⟨H3.out.2.1.os, H3.out.2.1.tape, H3.out.2.1.output, H3.out.2.1.size, fun k hk => H3.out.2.1.block k hk (by simp)⟩, HST.out⟩
      case round =>
        obtain ⟨left, cnt, hrg, hb, hbig⟩ := hrel
        have HRG := Lib.hid hrg
        have HBG := Lib.hid (And.intro hb hbig)
        clear hb hbig H3 HST
        go_wp2_with (at_next; refine wpList_next_ranges _ rfl _ rfl 3 keyed_int (rowElem (H := Unit) w2 (w1.heap.size + 1) 3 .i64) (Value.int .i64) (fun c : Option Addr × Nat × Nat => .slice c.1 c.2.1 c.2.2) (fun key kl hkey => by obtain ⟨x, rfl, _⟩ := Maps.keyOf_int_inv Tryd.underlying3 hkey; exact ⟨x, rfl⟩) (fun v y hv => by obtain ⟨zs, hz, _⟩ := rowElem_inv hv; obtain ⟨c, hc, _⟩ := row_slice hz; exact ⟨c, hc⟩) w1.heap.size w2.heap.size n _ _ _ rfl hrg ?_ ?_)
        · intro _ hl0
          have hx : X = 0 := by
            rw [HSE2.out]
            refine if_neg fun h => ?_
            obtain ⟨c, hc, h9⟩ := List.any_eq_true.1 h
            rw [decide_eq_true_iff] at h9
            have := HBG.out.2 _ h9
            rw [hl0] at this
            cases this
          subst hx
          have HZ := Lib.hid (And.intro (H2.out.1.trans (HBG.out.1.mono H2.out.1.size)) ((H2.out.2.below HBG.out.1).mono HBG.out.1.size))
          clear hl0 hrg
          go_wp2_with fail
          go_ret2
          exact ⟨HZ.out.1, _, rfl, fun _ => HZ.out.2, fun h => absurd rfl h⟩
        · intro x ca cn ck kl y1 y2 w4 cnt4 hkey hlx hRy hat hrg4 hlt4 hg4 hs4 hen
          obtain ⟨x', hx', hkl, hwf⟩ := Maps.keyOf_int_inv Tryd.underlying3 hkey
          injection hx' with _ hx'
          subst hx'
          subst hkl
          obtain ⟨zs, hz, hyz⟩ := rowElem_inv hRy
          injection hyz with hy1 hy2
          subst hy1
          obtain ⟨c2, hc2, hcl⟩ := row_slice hz
          have hzs := HD.out.at_ (hat .nil) hz
          have hcn : cn = ownN cs x := by
            have e1 := idxK_len cs x
            rw [← HN.out, ← hzs] at e1
            injection hc2 with _ h2 _
            rw [h2, hcl, e1]
          have hb4 : Below w2.heap.size w2 w4 := HBG.out.1.trans ⟨hg4.os, hg4.tape, hg4.output, hg4.size, fun k hk => hg4.block k (Nat.lt_of_lt_of_le hk HBG.out.1.size) (fun e => by injection e with e; omega)⟩
          have HX := Lib.hid (And.intro hb4 (And.intro hrg4 (And.intro hlt4 hcn)))
          have hnm : cn ≤ 9223372036854775807 := by
            have h1 : zs.length ≤ n := by
              rw [hzs]
              unfold idxK
              rw [List.length_map]
              exact Nat.le_trans (List.length_filter_le _ _) (by simp)
            rw [hcn, ← idxK_len, ← HN.out, ← hzs]
            omega
          clear hRy hy2 hat hz hc2 hcl hzs hb4 hrg4 hlt4 hcn hg4 hs4 hkey hlx hwf hrg
          by_cases h9 : 9 < cn
          · have hx : X = 2 := by
              rw [HSE2.out]
              refine if_pos (List.any_eq_true.2 ?_)
              have hpos : 0 < ((cs.filter fun c => c.thing == x)).length := by
                have := HX.out.2.2.2
                unfold ownN at this
                omega
              obtain ⟨c, hc⟩ := List.exists_mem_of_length_pos hpos
              rw [List.mem_filter, beq_iff_eq] at hc
              exact ⟨c, hc.1, by rw [decide_eq_true_iff, hc.2, ← HX.out.2.2.2]; exact h9⟩
            subst hx
            have i9 : (9 : Int) < (cn : Int) := by omega
            have HZ := Lib.hid (H2.out.1.trans (HX.out.1.mono H2.out.1.size))
            clear h9
            go_wp2_with fail
            go_ret2
            exact ⟨HZ.out, _, rfl, fun h => by omega, fun _ => rfl⟩
          · have i9 : ¬ (9 : Int) < (cn : Int) := by omega
            have H9 := Lib.hid h9
            clear h9
            go_wp2_with fail
            go_roundw
            case rel =>
              refine ⟨_, cnt4, HX.out.2.1, HX.out.1, fun q hq => ?_⟩
              rw [HBG.out.2 q hq, lit_ne (fun e => H9.out (by rw [HX.out.2.2.2, ← e]; exact hq))]
              rfl
            case measure => rw [HX.out.2.1.left_eq, HRG.out.left_eq]; exact HX.out.2.2.1
  · rw [if_pos hE] at hse
    subst hse
    have hz : (X != 0) = true := by rw [bne_iff_ne]; exact hE
    have HE := Lib.hid hE
    clear hE HCL hb1 hcr HSE hth hty hn
    go_wp2_with fail
    go_ret2
    exact ⟨HR.out.1, _, rfl, fun h => absurd h HE.out, fun _ => rfl⟩
theorem lparts_any {tv lv : Value} {ts : List Int} {l : List Ev} {w : World} (ht : NRd w w.heap.size tv ts) (hl : ERd w w.heap.size lv l) (hp : Pow10 w.heap.size w) :
    Calls Tryd.prog 28 #[tv, lv] w fun e w' => Below w.heap.size w w' ∧ ((openE ts l ≠ 0 ∧ e = .returned (.tuple #[.slice none 0 0, .int .i64 (openE ts l)])) ∨ (openE ts l = 0 ∧ ∃ g, e = .returned (.tuple #[.slice (some ⟨g, 0, none⟩) ts.length ts.length, .int .i64 0]) ∧ BTab w' g ts.length (pB ts l))) :=
  lparts_of ht hl hp ((lopen_any ht hl).mono fun _ _ h => ⟨h.1, h.2.imp fun _ h => h.1⟩)
end Go.Proofs.YtecpjeililiafaaDoor

/-
  Plain: places at which nobody waits; how many stand ahead of each call.
-/
namespace Go.Proofs.YtecpjeililiafaaDoor
open Go.RowKit
set_option maxRecDepth 20000

/-- At place t somebody has called, and nobody waits. -/
def Quiet (cs : List Cl) (t : Int) : Prop := (∃ y ∈ cs, y.frm ≤ t) ∧ ∀ y ∈ cs, y.frm ≤ t → y.til ≠ -1 ∧ y.til ≤ t
def quietB (cs : List Cl) (t : Int) : Bool := (cs.any fun y => decide (y.frm ≤ t)) && (cs.all fun y => decide (y.frm ≤ t → y.til ≠ -1 ∧ y.til ≤ t))
theorem quietB_iff {cs : List Cl} {t : Int} : quietB cs t = true ↔ Quiet cs t := by
  unfold quietB Quiet
  simp only [Bool.and_eq_true, List.any_eq_true, List.all_eq_true, decide_eq_true_eq]
/-- How many of the first n places are so. -/
def quietN (cs : List Cl) (n : Nat) : Nat := (List.range n).countP fun (t : Nat) => quietB cs (t : Int)
def openN (cs : List Cl) : Nat := cs.countP fun y => y.til == -1
/-- The calm of a call. -/
def epochC (cs : List Cl) (c : Cl) : Int := (quietN cs c.frm.toNat : Nat)
/-- What package seq counts. -/
def calmF : Int → Int → List Ev → List Int
  | _, _, [] => []
  | p, q, x :: r => if x.kind = 0 then (if q - 1 = 0 then calmF (p + 1) (q - 1) r else calmF p (q - 1) r) else p :: calmF p (q + 1) r
def calmsL (l : List Ev) : List Int := calmF 0 0 l
theorem quiet_grow {m : Nat} {d c : List Cl} (h : Grow m d c) {t : Int} (ht : t < m) : quietB c t = quietB d t := by
  rw [Bool.eq_iff_iff, quietB_iff, quietB_iff]
  have fwd : ∀ i y, c[i]? = some y → y.frm ≤ t → ∃ x, d[i]? = some x ∧ x = before_ m y := fun i y hy hf => by
    have hlt : i < d.length := by
      apply Classical.byContradiction
      intro hn
      have := h.new i y (by omega) hy
      omega
    exact ⟨d[i], List.getElem?_eq_getElem hlt, h.same i _ y (List.getElem?_eq_getElem hlt) hy⟩
  have bwd : ∀ (i : Nat) x, d[i]? = some x → ∃ y, c[i]? = some y ∧ x = before_ m y := fun i x hx => by
    have hlt := (List.getElem?_eq_some_iff.1 hx).1
    have hl := h.len
    exact ⟨c[i], List.getElem?_eq_getElem (by omega), h.same i x _ hx (List.getElem?_eq_getElem (by omega))⟩
  have hfrm : ∀ y, (before_ m y).frm = y.frm := fun y => by unfold before_; split <;> rfl
  have htil : ∀ y, (before_ m y).til = if (m : Int) ≤ y.til then -1 else y.til := fun y => by unfold before_; split <;> rfl
  constructor
  · rintro ⟨⟨y, hy, hf⟩, h2⟩
    obtain ⟨i, hi⟩ := List.mem_iff_getElem?.1 hy
    obtain ⟨x, hx, e⟩ := fwd i y hi hf
    refine ⟨⟨x, List.mem_of_getElem? hx, by rw [e, hfrm]; exact hf⟩, fun x hx hf => ?_⟩
    obtain ⟨i, hi⟩ := List.mem_iff_getElem?.1 hx
    obtain ⟨y, hy, e⟩ := bwd i x hi
    rw [e, hfrm] at hf
    have := h2 y (List.mem_of_getElem? hy) hf
    rw [e, htil, if_neg (by omega)]
    exact this
  · rintro ⟨⟨x, hx, hf⟩, h2⟩
    obtain ⟨i, hi⟩ := List.mem_iff_getElem?.1 hx
    obtain ⟨y, hy, e⟩ := bwd i x hi
    rw [e, hfrm] at hf
    refine ⟨⟨y, List.mem_of_getElem? hy, hf⟩, fun y hy hf => ?_⟩
    obtain ⟨i, hi⟩ := List.mem_iff_getElem?.1 hy
    obtain ⟨x, hx, e⟩ := fwd i y hi hf
    have := h2 x (List.mem_of_getElem? hx) (by rw [e, hfrm]; exact hf)
    rw [e, htil] at this
    split at this
    · exact absurd rfl this.1
    · exact this
theorem quietN_grow {m : Nat} {d c : List Cl} (h : Grow m d c) {n : Nat} (hn : n ≤ m) : quietN c n = quietN d n := by
  unfold quietN
  apply List.countP_congr
  intro t ht
  have := List.mem_range.1 ht
  rw [quiet_grow h (by omega)]
theorem quietN_succ (cs : List Cl) (n : Nat) : quietN cs (n + 1) = quietN cs n + if quietB cs (n : Int) = true then 1 else 0 := by
  unfold quietN
  rw [List.range_succ, List.countP_append, List.countP_cons, List.countP_nil]
  split <;> rfl
theorem step_grow {ts : List Int} {n : Nat} {cs cs' : List Cl} {x : Ev} (ht : Tidy n cs) (hs : step ts n cs x = .inr cs') : Grow n cs cs' := (Grow.refl ht).step (Nat.le_refl _) ht hs
theorem openN_zero {cs : List Cl} : openN cs = 0 ↔ ∀ y ∈ cs, y.til ≠ -1 := by
  unfold openN
  rw [List.countP_eq_zero]
  constructor
  · intro h y hy e
    exact h y hy (by rw [beq_iff_eq]; exact e)
  · intro h y hy e
    exact h y hy (by rw [beq_iff_eq] at e; exact e)
theorem openN_set {cs : List Cl} {i : Nat} {c : Cl} (hi : i < cs.length) (h1 : (cs.getD i default).til = -1) (h2 : c.til ≠ -1) : openN cs = openN (cs.set i c) + 1 := by
  induction cs generalizing i with
  | nil => simp at hi
  | cons a r ih =>
    unfold openN at ih ⊢
    cases i with
    | zero =>
      simp at h1
      rw [List.set_cons_zero, List.countP_cons, List.countP_cons, if_pos (by rw [beq_iff_eq]; exact h1), if_neg (by rw [beq_iff_eq]; exact h2)]
    | succ i =>
      rw [List.set_cons_succ, List.countP_cons, List.countP_cons, ih (by simpa using hi) (by simpa using h1)]
      omega
/-- What package seq counts: of each call how many quiet places stand ahead of it. -/
theorem calm_run {ts : List Int} : ∀ (l : List Ev) (n : Nat) (cs : List Cl), Tidy n cs → (run ts n cs l).2.2 = 0 →
    calmF (quietN cs n : Nat) (openN cs : Nat) l = ((run ts n cs l).1.drop cs.length).map (epochC (run ts n cs l).1)
  | [], n, cs, ht, h0 => by
    rw [calmF, run]
    simp
  | x :: r, n, cs, ht, h0 => by
    rw [run] at h0 ⊢
    cases hs : step ts n cs x with
    | inl e => rw [hs] at h0; exact absurd h0 (step_err hs)
    | inr cs' =>
      rw [hs] at h0
      simp only at h0 ⊢
      have ht' := step_tidy ht hs
      have hg := step_grow ht hs
      have ih := calm_run r (n + 1) cs' ht' h0
      have hG := Grow.run r (n + 1) cs' (Grow.refl ht') (Nat.le_refl _) ht' h0
      have hq := quietN_grow hg (Nat.le_refl n)
      rw [quietN_succ, hq] at ih
      rcases step_ways hs with ⟨hk, i, hi, _, _, ho, rfl, _⟩ | ⟨hk, _, rfl, _⟩
      · rw [calmF, if_pos hk]
        have hop := openN_set (c := { cs.getD i default with res := x.val, til := (n : Int) }) hi ho (by show (n : Int) ≠ -1; omega)
        have hqn : quietB (cs.set i { cs.getD i default with res := x.val, til := (n : Int) }) (n : Int) = true ↔ openN (cs.set i { cs.getD i default with res := x.val, til := (n : Int) }) = 0 := by
          rw [quietB_iff, openN_zero]
          constructor
          · rintro ⟨_, h2⟩ y hy
            exact (h2 y hy (by have := (ht' y hy).2.1; omega)).1
          · intro h2
            refine ⟨⟨_, List.mem_set hi _, ?_⟩, fun y hy _ => ⟨h2 y hy, by have := (ht' y hy).1; omega⟩⟩
            have hm : cs.getD i default ∈ cs := by rw [List.getD_eq_getElem?_getD, List.getElem?_eq_getElem hi]; exact List.getElem_mem _
            have := (ht _ hm).2.1
            show (cs.getD i default).frm ≤ (n : Int)
            omega
        rw [List.length_set] at ih
        by_cases h0' : openN (cs.set i { cs.getD i default with res := x.val, til := (n : Int) }) = 0
        · rw [if_pos (hqn.2 h0')] at ih
          rw [if_pos (by omega), ← ih, hop, h0']
          rfl
        · rw [if_neg (fun h => h0' (hqn.1 h))] at ih
          rw [if_neg (by omega), ← ih, hop, Nat.add_zero]
          congr 1
          omega
      · rw [calmF, if_neg hk]
        have hnq : ¬ quietB (cs ++ [⟨x.who, x.thing, x.kind, x.val, 0, (n : Int), -1⟩]) (n : Int) = true := by
          rw [quietB_iff]
          rintro ⟨_, h2⟩
          exact (h2 _ (List.mem_append.2 (.inr (List.mem_singleton.2 rfl))) (Int.le_refl _)).1 rfl
        have hop : openN (cs ++ [⟨x.who, x.thing, x.kind, x.val, 0, (n : Int), -1⟩]) = openN cs + 1 := by
          unfold openN
          rw [List.countP_append, List.countP_cons, List.countP_nil]
          rfl
        rw [if_neg hnq, hop, List.length_append, Nat.add_zero] at ih
        generalize hfin : (run ts (n + 1) (cs ++ [⟨x.who, x.thing, x.kind, x.val, 0, (n : Int), -1⟩]) r).1 = fin at ih hG ⊢
        have hl := hG.len
        rw [List.length_append] at hl
        simp only [List.length_cons, List.length_nil, Nat.zero_add] at hl ih
        rw [List.drop_eq_getElem_cons (by omega : cs.length < fin.length), List.map_cons, ← ih]
        congr 1
        have hs2 := hG.same cs.length _ _ (by rw [List.getElem?_append_right (Nat.le_refl _), Nat.sub_self]; rfl) (List.getElem?_eq_getElem (by omega : cs.length < fin.length))
        have hfrm : (fin[cs.length]'(by omega)).frm = (n : Int) := by
          have h3 := congrArg Cl.frm hs2
          unfold before_ at h3
          split at h3 <;> exact h3.symm
        unfold epochC
        rw [hfrm, Int.toNat_natCast, ← hq, quietN_grow hG (by omega)]
theorem calms_of {ts : List Int} {l : List Ev} (h : (callsOf ts l).2.2 = 0) : calmsL l = (callsOf ts l).1.map (epochC (callsOf ts l).1) := by
  have e := (calls_zero h).2.2
  rw [e] at h ⊢
  have := calm_run l 0 [] (fun c hc => by simp at hc) h
  simpa [calmsL, quietN, openN] using this

/-- Who has the lesser calm. -/
def calmB (cs : List Cl) (i j : Nat) : Bool := decide (epochC cs (cs.getD i default) < epochC cs (cs.getD j default))
/-- One's own calls, as they came. -/
def ownB (cs : List Cl) (i j : Nat) : Bool := decide (i < j ∧ (cs.getD i default).who = (cs.getD j default).who)
theorem count_more {p : Nat → Bool} (a : Nat) : ∀ b, (List.range a).countP p < (List.range b).countP p → ∃ t, a ≤ t ∧ t < b ∧ p t = true
  | 0, h => by simp at h
  | b + 1, h => by
    by_cases hb : b + 1 ≤ a
    · obtain ⟨d, rfl⟩ : ∃ d, a = b + 1 + d := ⟨a - (b + 1), by omega⟩
      rw [List.range_add, List.countP_append] at h
      omega
    · rw [List.range_succ, List.countP_append, List.countP_cons, List.countP_nil] at h
      by_cases hp : p b = true
      · exact ⟨b, by omega, by omega, hp⟩
      · rw [if_neg hp] at h
        obtain ⟨t, h1, h2, h3⟩ := count_more a b (by omega)
        exact ⟨t, h1, by omega, h3⟩
/-- Who has the lesser calm stands ahead. -/
theorem calm_ahead {n : Nat} {cs : List Cl} (ht : Tidy n cs) {i j : Nat} (hi : i < cs.length) (hj : j < cs.length) (h : calmB cs i j = true) : aheadB cs i j = true := by
  have mi := List.mem_of_getElem? (getD_some hi)
  have mj := List.mem_of_getElem? (getD_some hj)
  have h1 := (ht _ mi).2.2.1
  have h2 := (ht _ mj).2.2.1
  unfold calmB epochC quietN at h
  rw [decide_eq_true_iff] at h
  obtain ⟨t, a1, a2, a3⟩ := count_more _ _ (Int.ofNat_lt.1 h)
  have := (quietB_iff.1 a3).2 _ mi (by omega)
  unfold aheadB
  rw [decide_eq_true_iff]
  exact ⟨this.1, by omega⟩
theorem own_ahead {n : Nat} {cs : List Cl} (ho : Orderly n cs) {i j : Nat} (hi : i < cs.length) (hj : j < cs.length) (h : ownB cs i j = true) : aheadB cs i j = true := by
  unfold ownB at h
  rw [decide_eq_true_iff] at h
  unfold aheadB
  rw [decide_eq_true_iff]
  exact ho.own i j _ _ h.1 (getD_some hi) (getD_some hj) h.2
theorem riteP_weak {ts : List Int} {cs : List Cl} {p q : Nat → Nat → Bool} {ws : List (Int × Int)} (hpq : ∀ i j, i < cs.length → j < cs.length → q i j = true → p i j = true) (h : RiteP ts cs p ws) : RiteP ts cs q ws :=
  ⟨h.rng, h.once, h.res, h.all, fun i j hi hj hq => h.ord i j hi hj (hpq i j hi hj hq), h.goes⟩

/-! ### Calls stand as they came -/
def Inc (cs : List Cl) : Prop := ∀ i j, i < j → j < cs.length → (cs.getD i default).frm < (cs.getD j default).frm
theorem Inc.step {ts : List Int} {n : Nat} {cs cs' : List Cl} {x : Ev} (ht : Tidy n cs) (h : Inc cs) (hs : step ts n cs x = .inr cs') : Inc cs' := by
  intro i j hij hj
  rcases step_ways hs with ⟨hk, k, hk2, _, _, ho, rfl, _⟩ | ⟨hk, _, rfl, _⟩
  · rw [List.length_set] at hj
    have := h i j hij hj
    have key : ∀ m, ((cs.set k { cs.getD k default with res := x.val, til := (n : Int) }).getD m default).frm = (cs.getD m default).frm := fun m => by
      rw [getD_set hk2]
      split
      · rename_i e; subst e; rfl
      · rfl
    rw [key, key]
    exact this
  · rw [List.length_append] at hj
    simp only [List.length_cons, List.length_nil, Nat.zero_add] at hj
    rw [getD_snoc, getD_snoc, if_pos (by omega)]
    by_cases e : j < cs.length
    · rw [if_pos e]
      exact h i j hij e
    · rw [if_neg e, if_pos (by omega)]
      have := (ht _ (List.mem_of_getElem? (getD_some (cs := cs) (i := i) (by omega)))).2.1
      exact this
theorem Inc.run {ts : List Int} : ∀ (l : List Ev) (n : Nat) (cs : List Cl), Tidy n cs → Inc cs → (run ts n cs l).2.2 = 0 → Inc (run ts n cs l).1
  | [], n, cs, _, h, _ => by rw [Go.Proofs.YtecpjeililiafaaDoor.run]; exact h
  | x :: r, n, cs, ht, h, h0 => by
    rw [Go.Proofs.YtecpjeililiafaaDoor.run] at h0 ⊢
    cases hs : Go.Proofs.YtecpjeililiafaaDoor.step ts n cs x with
    | inl e => rw [hs] at h0; exact absurd h0 (step_err hs)
    | inr cs' =>
      rw [hs] at h0
      simp only at h0 ⊢
      exact Inc.run r (n + 1) cs' (step_tidy ht hs) (h.step ht hs) h0
theorem calls_inc {ts : List Int} {l : List Ev} (h : (callsOf ts l).2.2 = 0) : Inc (callsOf ts l).1 := by
  have e := (calls_zero h).2.2
  rw [e] at h ⊢
  exact Inc.run l 0 [] (fun c hc => by simp at hc) (fun i j _ hj => by simp at hj) h
theorem quietN_mono (cs : List Cl) {a b : Nat} (h : a ≤ b) : quietN cs a ≤ quietN cs b := by
  obtain ⟨d, rfl⟩ : ∃ d, b = a + d := ⟨b - a, by omega⟩
  unfold quietN
  rw [List.range_add, List.countP_append]
  omega
theorem epoch_mono {cs : List Cl} (hi : Inc cs) {i j : Nat} (hij : i ≤ j) (hj : j < cs.length) : epochC cs (cs.getD i default) ≤ epochC cs (cs.getD j default) := by
  unfold epochC
  refine Int.ofNat_le.2 (quietN_mono cs ?_)
  by_cases e : i = j
  · subst e; exact Nat.le_refl _
  · have := hi i j (by omega) hj
    omega
/-- Where the calm of each is greater than the one's before, it tells who is ahead of whom. -/
theorem calm_strict {n : Nat} {cs : List Cl} (ho : Orderly n cs) (hi : Inc cs) (h : ∀ i, 0 < i → i < cs.length → epochC cs (cs.getD (i - 1) default) < epochC cs (cs.getD i default)) {i j : Nat} (h1 : i < cs.length) (h2 : j < cs.length) : aheadB cs i j = calmB cs i j := by
  rw [Bool.eq_iff_iff]
  refine ⟨fun ha => ?_, calm_ahead ho.tidy h1 h2⟩
  have hij : i < j := by
    apply Classical.byContradiction
    intro hn
    unfold aheadB at ha
    rw [decide_eq_true_iff] at ha
    have he := ho.ends _ (List.mem_of_getElem? (getD_some h1))
    by_cases e : i = j
    · subst e; omega
    · have := hi j i (by omega) h1
      omega
  unfold calmB
  rw [decide_eq_true_iff]
  have a1 := epoch_mono hi (i := i) (j := j - 1) (by omega) (by omega)
  have a2 := h j (by omega) h2
  omega
end Go.Proofs.YtecpjeililiafaaDoor
