/-
  Joined by a program out of: LinCalls, LinOpen, LinStart.
-/
import Derived.Test.YtfgangkpebkicaaDoorMgAJ
import Derived.Test.YtfgangkpebkicaaDoorMgAD
import Derived.Deep.CutRange
import Derived.Test.YtfgangkpebkicaaDoorMgAK

/-
  Contracts of search.Calls and of the order in time (search.realTime).
-/
namespace Go.Proofs.YtfgangkpebkicaaDoor
open Go.RowKit
set_option maxRecDepth 20000
/-- The error of a search. -/
def searchE (o : List Cl × Nat × Int) : Int := if o.2.2 ≠ 0 then o.2.2 else if 9 < o.1.length then 2 else 0
def SCallsPost (w : World) (o : List Cl × Nat × Int) (X : Int) (e : Ending) (w' : World) : Prop :=
  Below w.heap.size w w' ∧ ∃ v, e = .returned (.tuple #[v, .int .i64 X]) ∧ (X = 0 → CRd w' w'.heap.size v o.1) ∧ (X ≠ 0 → v = .slice none 0 0)
theorem scalls_any {tv lv : Value} {ts : List Int} {l : List Ev} {w : World} (ht : NRd w w.heap.size tv ts) (hl : ERd w w.heap.size lv l) :
    Calls Tryd.prog 56 #[tv, lv] w (SCallsPost w (callsOf ts l) (searchE (callsOf ts l))) := by
  have HCL := Lib.hid (calls_any ht hl)
  generalize callsOf ts l = o at HCL ⊢
  have hse : searchE o = if o.2.2 ≠ 0 then o.2.2 else if 9 < o.1.length then 2 else 0 := rfl
  generalize searchE o = X at hse ⊢
  have HSE := Lib.hid hse
  clear hse
  obtain ⟨At, capt, rfl, -, -⟩ := ht.is
  obtain ⟨Al, capl, rfl, -, -⟩ := hl.is
  clear ht hl
  generalize ts.length = tl at HCL ⊢
  generalize l.length = L at HCL ⊢
  go_enter Tryd.func56, Tryd.ntmps56
  go_wp2_with fail
  refine HCL.out.mono ?_
  rintro e w1 ⟨v, rfl, hb1, hcr⟩
  obtain ⟨cs, m, E⟩ := o
  obtain ⟨A, c, rfl, -, hc9⟩ := hcr.is
  unfold maxLen at hc9
  have hse := HSE.out
  clear HSE
  simp only at hcr hse ⊢
  have HR := Lib.hid (And.intro hb1 hcr)
  clear HCL hb1 hcr
  obtain ⟨n, hn⟩ : ∃ n, n = cs.length := ⟨_, rfl⟩
  rw [← hn] at HR hse ⊢
  clear hn
  by_cases hE : E = 0
  · rw [if_neg (fun h => h hE)] at hse
    subst hE
    by_cases h9 : 9 < n
    · rw [if_pos h9] at hse
      subst hse
      have i9 : (9 : Int) < (n : Int) := by omega
      clear h9
      go_wp2_with fail
      go_ret2
      exact ⟨HR.out.1, _, rfl, fun h => by omega, fun _ => rfl⟩
    · rw [if_neg h9] at hse
      subst hse
      have i9 : ¬ (9 : Int) < (n : Int) := by omega
      clear h9
      go_wp2_with fail
      go_ret2
      exact ⟨HR.out.1, _, rfl, fun _ => HR.out.2, fun h => absurd rfl h⟩
  · rw [if_pos hE] at hse
    subst hse
    have hz : (X != 0) = true := by rw [bne_iff_ne]; exact hE
    have HE := Lib.hid hE
    clear hE
    go_wp2_with fail
    go_ret2
    exact ⟨HR.out.1, _, rfl, fun h => absurd h HE.out, fun _ => rfl⟩
theorem search_few {o : List Cl × Nat × Int} (h : searchE o = 0) : o.2.2 = 0 ∧ o.1.length ≤ 9 := by
  unfold searchE at h
  split at h
  · rename_i h2; exact absurd h h2
  · rename_i h2
    split at h
    · cases h
    · exact ⟨by simpa using h2, by omega⟩
/-- The order in time. -/
def TimePost (w : World) (o : List Cl × Nat × Int) (X : Int) (e : Ending) (w' : World) : Prop :=
  Below w.heap.size w w' ∧ ∃ (N : Int) (r : Nat → Nat), e = .returned (.tuple #[relV N r, .int .i64 X]) ∧ (∀ i, r i < 65536) ∧ (X = 0 → r = relP (aheadB o.1) o.1.length)
theorem realTime_any {tv lv : Value} {ts : List Int} {l : List Ev} {w : World} (ht : NRd w w.heap.size tv ts) (hl : ERd w w.heap.size lv l) :
    Calls Tryd.prog 31 #[tv, lv] w (TimePost w (callsOf ts l) (searchE (callsOf ts l))) := by
  have hb0 : Below w.heap.size w (w.alloc (.cells (relCs 0 fun _ => 0) 46)) := (Below.refl _ _).alloc (Nat.le_refl _) _
  have hr0 : RelB (w.alloc (.cells (relCs 0 fun _ => 0) 46)) w.heap.size 0 (fun _ => 0) := Lies.new w 46 (relCs 0 fun _ => 0)
  have HCL := Lib.hid (scalls_any ((ht.below hb0).mono hb0.size) ((hl.below hb0).mono hb0.size))
  have HH := Lib.hid (And.intro hb0 hr0)
  have hfew := @search_few (callsOf ts l)
  generalize callsOf ts l = o at HCL hfew ⊢
  generalize searchE o = X at HCL hfew ⊢
  obtain ⟨At, capt, rfl, -, -⟩ := ht.is
  obtain ⟨Al, capl, rfl, -, -⟩ := hl.is
  clear ht hl hb0 hr0
  generalize ts.length = tl at HCL ⊢
  generalize l.length = L at HCL ⊢
  go_enter Tryd.func31, Tryd.ntmps31
  go_wp2_with fail
  refine HCL.out.mono ?_
  rintro e w1 ⟨hb1, v, rfl, hok, hbad⟩
  have hb : Below w.heap.size w w1 := HH.out.1.trans (hb1.mono HH.out.1.size)
  have hr1 : RelB w1 w.heap.size 0 (fun _ => 0) := Lies.below HH.out.2 hb1 HH.out.2.lt
  have HR := Lib.hid (And.intro hb hr1)
  by_cases hE : X = 0
  · have hc := hok hE
    obtain ⟨A, c, rfl, -, -⟩ := hc.is
    have h12 := (hfew hE).2
    have HA := Lib.hid (ahead_few hc (Nat.le_refl _) (by omega))
    have HX := Lib.hid (relP_lt (aheadB o.1) (m := o.1.length) (by omega))
    clear hok hbad HCL HH hb1 hb hr1 hfew h12 hc
    subst hE
    obtain ⟨n, hn⟩ : ∃ n, n = o.1.length := ⟨_, rfl⟩
    rw [← hn] at HA HX ⊢
    obtain ⟨r, hrr⟩ : ∃ r, r = relP (aheadB o.1) n := ⟨_, rfl⟩
    rw [← hrr] at HA HX
    have HRR : Hid (r = relP (aheadB o.1) o.1.length) := Lib.hid (by rw [hrr, hn])
    clear hrr hn
    go_wp2_with fail
    refine HA.out.mono ?_
    rintro e w2 ⟨rfl, hb2⟩
    have hr2 : RelB w2 w.heap.size 0 (fun _ => 0) := Lies.below HR.out.2 hb2 HR.out.2.lt
    have hbb := HR.out.1.trans (hb2.mono HR.out.1.size)
    have c0 := hr2.size
    obtain ⟨c1, c2, c3, c4, c5, c6, c7, c8, c9, c10, c11, c12⟩ := hr2.rows
    have hf := hr2.free
    have H2 := Lib.hid (And.intro hbb hr2)
    clear HA hb2 hr2 hbb
    go_wp2_with fail
    refine post_fill n r H2.out.2 H2.out.1 (Nat.le_refl _) fun wz hz hbz => ?_
    clear c0 c1 c2 c3 c4 c5 c6 c7 c8 c9 c10 c11 c12 hf
    have c0 := hz.size
    obtain ⟨c1, c2, c3, c4, c5, c6, c7, c8, c9, c10, c11, c12⟩ := hz.rows
    exact bodyPost_ret (v := .tuple #[relV n r, .int .i64 0])
      (by simp [results, Tryd.results31, go_sem, c0, c1, c2, c3, c4, c5, c6, c7, c8, c9, c10, c11, c12]) rfl ⟨hbz, _, _, rfl, HX.out, fun _ => HRR.out⟩
  · have hv := hbad hE
    subst hv
    have hz : (X != 0) = true := by rw [bne_iff_ne]; exact hE
    have HE := Lib.hid hE
    have c0 := hr1.size
    obtain ⟨c1, c2, c3, c4, c5, c6, c7, c8, c9, c10, c11, c12⟩ := hr1.rows
    have hf := hr1.free
    clear hE hok hbad HCL HH hb1 hb hr1 hfew
    go_wp2_with fail
    refine post_fill 0 (fun _ => 0) HR.out.2 HR.out.1 (Nat.le_refl _) fun wz hz hbz => ?_
    clear c0 c1 c2 c3 c4 c5 c6 c7 c8 c9 c10 c11 c12 hf
    have c0 := hz.size
    obtain ⟨c1, c2, c3, c4, c5, c6, c7, c8, c9, c10, c11, c12⟩ := hz.rows
    exact bodyPost_ret (v := .tuple #[relV 0 (fun _ => 0), .int .i64 X])
      (by simp [results, Tryd.results31, go_sem, c0, c1, c2, c3, c4, c5, c6, c7, c8, c9, c10, c11, c12]) rfl ⟨hbz, 0, fun _ => 0, rfl, fun _ => Nat.succ_pos _, fun h => absurd h HE.out⟩
end Go.Proofs.YtfgangkpebkicaaDoor

/-
  Contract of search.open, with any relation.
-/
namespace Go.Proofs.YtfgangkpebkicaaDoor
open Go.RowKit
set_option maxRecDepth 20000
variable {Rl : Nat → Nat → Bool}
def OpenPost (Rl : Nat → Nat → Bool) (w : World) (tv : Value) (o : List Cl × Nat × Int) (e : Ending) (w' : World) : Prop :=
  Below w.heap.size w w' ∧ ((searchE o ≠ 0 ∧ e = .returned (.tuple #[srV (.slice none 0 0) (.slice none 0 0) (fun _ => 0) 0, .int .i64 (searchE o)])) ∨
    (searchE o = 0 ∧ ∃ cv, e = .returned (.tuple #[srV tv cv (befP Rl o.1) (ansP o.1), .int .i64 0]) ∧ CRd w' w'.heap.size cv o.1))
theorem pick_succ (p : Nat → Bool) (m : Nat) : pickS p (m + 1) = if p m = true then pickS p m ||| 2 ^ m else pickS p m := rfl
/-- While the record is made. -/
structure OpR (w0 : World) (tv cv : Value) (cs : List Cl) (N : Int) (r : Nat → Nat) (K Q X : Nat) (b : Nat → Nat) (an : Nat) (wr : World) : Prop where
  below : Below w0.heap.size w0 wr
  res : SrB wr Q (.slice none 0 0) (.slice none 0 0) (fun _ => 0) 0
  ah : RelB wr K N r
  own : SrB wr X tv cv b an
  rc : CRd wr X cv cs
  rg : w0.heap.size ≤ K
  kq : K < Q
  gx : Q < X
section
variable {w0 wr w' : World} {tv cv : Value} {cs : List Cl} {N : Int} {r : Nat → Nat} {K Q X : Nat} {b : Nat → Nat} {an : Nat}
theorem OpR.next (h : OpR w0 tv cv cs N r K Q X b an wr) (hb : Below wr.heap.size wr w') : OpR w0 tv cv cs N r K Q X b an w' :=
  ⟨h.below.trans (hb.mono h.below.size), Lies.below h.res hb h.res.lt, Lies.below h.ah hb h.ah.lt, Lies.below h.own hb h.own.lt, h.rc.below (hb.mono (Nat.le_of_lt h.own.lt)), h.rg, h.kq, h.gx⟩
theorem OpR.setB (h : OpR w0 tv cv cs N r K Q X b an wr) {k : Nat} (hk : k < 9) (x : Nat) : OpR w0 tv cv cs N r K Q X (fun i => if i = k then x else b i) an (wr.setCell ⟨X, 2 + k, none⟩ (.int .u16 (x : Nat))) :=
  ⟨h.below.setCell (p := ⟨X, 2 + k, none⟩) (by have := h.rg; have := h.gx; have := h.kq; show w0.heap.size ≤ X; omega) _, Lies.far h.res (by have := h.gx; show Q ≠ X; omega) _, Lies.far h.ah (by have := h.gx; have := h.kq; show K ≠ X; omega) _, h.own.setB hk x, h.rc.below ((Below.refl _ _).setCell (p := ⟨X, 2 + k, none⟩) (Nat.le_refl _) _), h.rg, h.kq, h.gx⟩
theorem OpR.setA (h : OpR w0 tv cv cs N r K Q X b an wr) (x : Nat) : OpR w0 tv cv cs N r K Q X b x (wr.setCell ⟨X, 11, none⟩ (.int .u16 (x : Nat))) :=
  ⟨h.below.setCell (p := ⟨X, 11, none⟩) (by have := h.rg; have := h.gx; have := h.kq; show w0.heap.size ≤ X; omega) _, Lies.far h.res (by have := h.gx; show Q ≠ X; omega) _, Lies.far h.ah (by have := h.gx; have := h.kq; show K ≠ X; omega) _, h.own.setA x, h.rc.below ((Below.refl _ _).setCell (p := ⟨X, 11, none⟩) (Nat.le_refl _) _), h.rg, h.kq, h.gx⟩
theorem OpR.drew (h : OpR w0 tv cv cs N r K Q X b an wr) : OpR w0 tv cv cs N r K Q X b an wr.drew := ⟨h.below.drew, h.res, h.ah, h.own, h.rc.below (Below.refl _ _).drew, h.rg, h.kq, h.gx⟩
theorem OpR.congr {b' : Nat → Nat} (h : OpR w0 tv cv cs N r K Q X b an wr) (e : ∀ i, i < 9 → b i = b' i) : OpR w0 tv cv cs N r K Q X b' an wr := ⟨h.below, h.res, h.ah, h.own.congr e, h.rc, h.rg, h.kq, h.gx⟩
end
theorem rev_congr {n : Nat} {r q : Nat → Nat} (h : ∀ i, i < n → r i = q i) : rev n r = rev n q := by
  funext x
  apply Nat.eq_of_testBit_eq
  intro t
  rw [rev_bit, rev_bit]
  by_cases h1 : t < n
  · rw [h t h1]
  · simp [h1]
theorem fillS_far {wr : World} {q g : Nat} (h : g ≠ q) (tv cv : Value) (b : Nat → Nat) (an : Nat) : (fillS wr q tv cv b an).heap[g]? = wr.heap[g]? := by
  have key : ∀ (W : World) (i : Nat) (u : Value), (W.setCell ⟨q, i, none⟩ u).heap[g]? = W.heap[g]? := fun W i u => Below.heap_setCell W ⟨q, i, none⟩ u g h
  unfold fillS
  rw [key, key, key, key, key, key, key, key, key, key, key, key]
theorem calls_far {wr : World} {B q : Nat} {v : Value} {l : List Cl} (h : CRd wr B v l) (hz : SrB wr q (.slice none 0 0) (.slice none 0 0) (fun _ => 0) 0) (tv cv : Value) (b : Nat → Nat) (an : Nat) : CRd (fillS wr q tv cv b an) B v l := by
  obtain ⟨A, cap, hv, h0, h1, h2⟩ := h
  refine ⟨A, cap, hv, h0, h1, fun hp => ?_⟩
  obtain ⟨g, o, hA, hg, hc⟩ := h2 hp
  have hne : g ≠ q := by
    rintro rfl
    have h3 := hc 0 l[0] (List.getElem?_eq_getElem hp) 0 _ rfl
    rw [Lies.cell hz] at h3
    have h4 := Array.getElem?_eq_some_iff.1 h3
    obtain ⟨h5, h6⟩ := h4
    have h7 : o + 0 * 7 + 0 < 12 := by simpa using h5
    generalize o + 0 * 7 + 0 = k at h3 h7
    have h8 : k = 0 ∨ k = 1 ∨ k = 2 ∨ k = 3 ∨ k = 4 ∨ k = 5 ∨ k = 6 ∨ k = 7 ∨ k = 8 ∨ k = 9 ∨ k = 10 ∨ k = 11 := by omega
    rcases h8 with rfl | rfl | rfl | rfl | rfl | rfl | rfl | rfl | rfl | rfl | rfl | rfl <;> simp [srCs] at h3
  have hsame := fillS_far (wr := wr) hne tv cv b an
  refine ⟨g, o, hA, hg, fun k x hk j u hu => ?_⟩
  rw [← hc k x hk j u hu]
  simp only [World.cell?, hsame]
set_option maxHeartbeats 8000000 in
theorem open_any {tv lv : Value} {ts : List Int} {l : List Ev} {w : World} {N : Int} {r : Nat → Nat} (ht : NRd w w.heap.size tv ts) (hl : ERd w w.heap.size lv l) (hr : ∀ i, r i < 65536) (hrp : searchE (callsOf ts l) = 0 → ∀ i, i < (callsOf ts l).1.length → r i = relP Rl (callsOf ts l).1.length i) :
    Calls Tryd.prog 57 #[tv, lv, relV N r] w (OpenPost Rl w tv (callsOf ts l)) := by
  have hb0 : Below w.heap.size w ((w.alloc (.cells (relCs N r) 46)).alloc (.cells (srCs (.slice none 0 0) (.slice none 0 0) (fun _ => 0) 0) 108)) := ((Below.refl _ _).alloc (Nat.le_refl _) _).alloc (by simp) _
  have hc := scalls_any ((ht.below hb0).mono hb0.size) ((hl.below hb0).mono hb0.size)
  have hr0 : SrB ((w.alloc (.cells (relCs N r) 46)).alloc (.cells (srCs (.slice none 0 0) (.slice none 0 0) (fun _ => 0) 0) 108)) (w.heap.size + 1) (.slice none 0 0) (.slice none 0 0) (fun _ => 0) 0 := by
    have := Lies.new (w.alloc (.cells (relCs N r) 46)) 108 (srCs (.slice none 0 0) (.slice none 0 0) (fun _ => 0) 0)
    rw [World.size_alloc] at this
    exact this
  have ha0 : RelB ((w.alloc (.cells (relCs N r) 46)).alloc (.cells (srCs (.slice none 0 0) (.slice none 0 0) (fun _ => 0) 0) 108)) w.heap.size N r := Lies.alloc (Lies.new _ _ _) _
  have hfew := @search_few (callsOf ts l)
  generalize callsOf ts l = o at hc hrp hfew ⊢
  have HH := Lib.hid (And.intro hb0 (And.intro hr0 ha0))
  have HCL := Lib.hid hc
  have HRE := Lib.hid hr
  obtain ⟨At, capt, rfl, -, -⟩ := ht.is
  obtain ⟨Al, capl, rfl, -, -⟩ := hl.is
  clear hb0 hr0 ha0 hc ht hl hr
  generalize ts.length = tl at HCL ⊢
  generalize l.length = L at HCL ⊢
  go_enter Tryd.func57, Tryd.ntmps57
  go_wp2_with fail
  refine HCL.out.mono ?_
  rintro e w1 ⟨hb1, v, rfl, hok, hbad⟩
  have hb : Below w.heap.size w w1 := HH.out.1.trans (hb1.mono HH.out.1.size)
  have hr1 : SrB w1 (w.heap.size + 1) (.slice none 0 0) (.slice none 0 0) (fun _ => 0) 0 := Lies.below HH.out.2.1 hb1 HH.out.2.1.lt
  have ha1 : RelB w1 w.heap.size N r := Lies.below HH.out.2.2 hb1 HH.out.2.2.lt
  clear HCL HH hb1
  by_cases hE : searchE o = 0
  · have hc := hok hE
    obtain ⟨A, c, rfl, -, -⟩ := hc.is
    have h9 := (hfew hE).2
    have HRP := Lib.hid (hrp hE)
    have HSE := Lib.hid hE
    obtain ⟨cs, m, E⟩ := o
    simp only at hc h9 HRP
    have hO0 : OpR w (.slice At tl capt) (.slice A cs.length c) cs N r w.heap.size (w.heap.size + 1) w1.heap.size (revs cs.length r 0) (pickS (fun i => decide ((cs.getD i default).til ≠ -1)) 0) (w1.alloc (.cells (srCs (.slice At tl capt) (.slice A cs.length c) (fun _ => 0) 0) 108)) :=
      ⟨hb.alloc hb.size _, Lies.alloc hr1 _, Lies.alloc ha1 _, Lies.new _ _ _, hc.below ((Below.refl _ _).alloc (Nat.le_refl _) _), Nat.le_refl _, Nat.lt_succ_self _, hr1.lt⟩
    have HO := Lib.hid hO0
    clear hok hbad hrp hfew hc hb hr1 ha1 hO0
    obtain ⟨n, hn⟩ : ∃ n, n = cs.length := ⟨_, rfl⟩
    have HN := Lib.hid hn
    rw [hE]
    clear hE
    simp only
    rw [← hn] at HO HRP h9 ⊢
    have hn9 : n ≤ 9 := h9
    clear hn h9
    go_wp2_with fail
    have hO := HO.out
    clear HO
    change Code.wp _ _ _ _ (w1.alloc (.cells (srCs (.slice At tl capt) (.slice A n c) (fun _ => 0) 0) 108))
    generalize w1.alloc (.cells (srCs (.slice At tl capt) (.slice A n c) (fun _ => 0) 0) 108) = W at hO ⊢
    generalize w1.heap.size = X at hO ⊢
    generalize hQ : w.heap.size + 1 = Q at hO ⊢
    clear hQ
    go_loopw [29] (fun t wr => ∃ i : Nat, i ≤ n ∧ t = .int .i64 i ∧ OpR w (.slice At tl capt) (.slice A n c) cs N r w.heap.size Q X (revs n r i) (pickS (fun i => decide ((cs.getD i default).til ≠ -1)) i) wr) (fun t _ => n - (intOf t).toNat)
    case atStart => exact ⟨0, by omega, rfl, hO⟩
    case round =>
      clear hO
      obtain ⟨i, hi, rfl, hO⟩ := hrel
      by_cases hin : i < n
      · obtain ⟨x, hx⟩ : ∃ x, cs[i]? = some x := ⟨_, List.getElem?_eq_getElem (by rw [← HN.out]; exact hin)⟩
        have hxd : cs.getD i default = x := by rw [List.getD_eq_getElem?_getD, hx]; rfl
        obtain ⟨g, o, rfl, -, d0, d1, d2, d3, d4, d5, d6⟩ := hO.rc.cl hx
        have hst := pick_succ (fun i => decide ((cs.getD i default).til ≠ -1)) i
        simp only [hxd] at hst
        have HST := Lib.hid hst
        have HO := Lib.hid hO
        obtain ⟨x0, x1, x2, x3, x4, x5, x6⟩ := x
        simp only at HST
        have i1 : (0 : Int) ≤ (i : Int) := by omega
        have i2 : (i : Int) < (n : Int) := by omega
        clear hO hx hxd hst
        go_wp2_with fail
        change Calls _ _ _ (wr.alloc (.cells (clCs ⟨x0, x1, x2, x3, x4, x5, x6⟩).toArray 51)) _
        have hO1 := HO.out.next ((Below.refl _ _).alloc (Nat.le_refl _) (.cells (clCs ⟨x0, x1, x2, x3, x4, x5, x6⟩).toArray 51))
        clear HO d0 d1 d2 d3 d4 d5 d6
        generalize wr.alloc (.cells (clCs ⟨x0, x1, x2, x3, x4, x5, x6⟩).toArray 51) = W3 at hO1 ⊢
        generalize wr.heap.size = P2
        refine (lresp_any ⟨x0, x1, x2, x3, x4, x5, x6⟩ W3).mono ?_
        rintro e w4 ⟨rfl, hb4⟩
        have hO := hO1.next hb4
        clear hO1 hb4
        have ca := hO.own.ans
        have fa := hO.own.free 11
        have hal : pickS (fun i => decide ((cs.getD i default).til ≠ -1)) i < 65536 := pickS_lt16 _ (by omega)
        have HOO := Lib.hid hO
        clear hO
        generalize pickS (fun i => decide ((cs.getD i default).til ≠ -1)) i = z at ca hal HOO HST
        have ho := or_pow z i hal (by omega)
        have hp := pow_u16 i (by omega)
        go_upto_if 35 with fail
        go_cut [29] from 29 to 63 (fun t wx => t = .int .i64 i ∧ OpR w (.slice At tl capt) (.slice (some ⟨g, o, none⟩) n c) cs N r w.heap.size Q X (revs n r i) (pickS (fun i => decide ((cs.getD i default).til ≠ -1)) (i + 1)) wx)
        case first =>
          by_cases t1 : x6 = -1
          · have hz : (x6 != -1) = false := by rw [bne_eq_false_iff_eq]; exact t1
            have hs := HST.out
            rw [if_neg (by simp [t1])] at hs
            have HS2 := Lib.hid hs
            rw [hz]
            clear hs t1 hz
            go_wp2_with fail
            go_meet
            exact ⟨rfl, by rw [HS2.out]; exact HOO.out⟩
          · have hz : (x6 != -1) = true := by rw [bne_iff_ne]; exact t1
            have hs := HST.out
            rw [if_pos (by simp [t1])] at hs
            have HS2 := Lib.hid hs
            rw [hz]
            clear hs t1 hz
            go_wp2_with fail
            go_region
            go_wp2
            go_meet
            exact ⟨rfl, by rw [HS2.out]; exact (HOO.out.setA _).drew⟩
        case rest =>
          obtain ⟨rfl, hO⟩ := hcut
          clear ca fa ho hp HOO hal HST
          generalize hz2 : pickS (fun i => decide ((cs.getD i default).til ≠ -1)) (i + 1) = z2 at hO ⊢
          have HZ2 := Lib.hid hz2
          clear hz2
          go_wp2_with fail
          go_loopw [44] (fun t wr => ∃ j : Nat, j ≤ n ∧ t = .int .i64 j ∧ OpR w (.slice At tl capt) (.slice (some ⟨g, o, none⟩) n c) cs N r w.heap.size Q X (stepR j r i (revs n r i)) z2 wr) (fun t _ => n - (intOf t).toNat)
          case atStart => exact ⟨0, by omega, rfl, by rw [stepR_zero]; exact hO⟩
          case round =>
            clear hO
            obtain ⟨j, hj, rfl, hO⟩ := hrel
            by_cases hjn : j < n
            · have hah := hO.ah
              have ck := hah.row' (k := i) (by omega)
              have cb := hO.own.row (k := j) (by omega)
              have fb := hO.own.free (2 + j)
              rw [stepR_at] at cb
              have hlm : revs n r i j < 65536 := revs_lt n r 16 j i (by omega)
              have ho := or_pow (revs n r i j) i hlm (by omega)
              have hp := pow_u16 i (by omega)
              have j1 : (0 : Int) ≤ (j : Int) := by omega
              have j2 : (j : Int) < 9 := by omega
              have i3 : (i : Int) < 12 := by omega
              have hs := stepR_succ j r i (revs n r i)
              have HO := Lib.hid hO
              cases hb : (r i).testBit j
              · rw [hb] at hs
                have HS := Lib.hid hs
                have Hb := Lib.hid hb
                clear hs hb hO hah
                go_wp2_with fail
                refine (lhas_any (r i) j _ (HRE.out i) (by omega)).mono ?_
                rw [Hb.out]
                rintro e w' ⟨rfl, rfl⟩
                go_wp2_with fail
                go_roundw
                case rel => exact ⟨j + 1, by omega, by go_num, HO.out.congr (fun x hx => by rw [HS.out]; split <;> simp_all [stepR_at])⟩
                case measure => simp [intOf]; omega
              · rw [hb] at hs
                have HS := Lib.hid hs
                have Hb := Lib.hid hb
                clear hs hb hO hah
                go_wp2_with fail
                refine (lhas_any (r i) j _ (HRE.out i) (by omega)).mono ?_
                rw [Hb.out]
                rintro e w' ⟨rfl, rfl⟩
                go_wp2_with fail
                go_region
                go_wp2
                go_roundw
                case rel => exact ⟨j + 1, by omega, by go_num, (OpR.drew (HO.out.setB (k := j) (by omega) _)).congr (fun x hx => by rw [HS.out]; split <;> simp_all)⟩
                case measure => simp [intOf]; omega
            · obtain rfl : n = j := by omega
              have HO := Lib.hid hO
              clear hO
              go_wp2_with fail
              go_roundw
              case rel => exact ⟨i + 1, by omega, by go_num, by rw [HZ2.out]; exact HO.out⟩
              case measure => simp [intOf]; omega
      · obtain rfl : n = i := by omega
        generalize hz1 : pickS (fun i => decide ((cs.getD i default).til ≠ -1)) n = z1 at hO
        generalize hb1 : revs n r n = b1 at hO
        have HZ1 := Lib.hid (And.intro hz1 hb1)
        clear hz1 hb1
        have hq := hO.res.cells
        obtain ⟨q0, q1, q2, q3, q4, q5, q6, q7, q8, q9, q10, q11⟩ := hq
        obtain ⟨p0, p1, p2, p3, p4, p5, p6, p7, p8, p9, p10, p11⟩ := hO.own.cells
        have hf := hO.res.free
        have HO := Lib.hid hO
        clear hO
        go_wp2_with fail
        clear q0 q1 q2 q3 q4 q5 q6 q7 q8 q9 q10 q11 hf p0 p1 p2 p3 p4 p5 p6 p7 p8 p9 p10 p11
        have hz := HO.out.res.fill (.slice At tl capt) (.slice A n c) b1 z1
        have hbz := fillS_below HO.out.below (g := Q) (by have := HO.out.rg; have := HO.out.kq; omega) (.slice At tl capt) (.slice A n c) b1 z1
        have hcz := calls_far HO.out.rc HO.out.res (.slice At tl capt) (.slice A n c) b1 z1
        have hGs : X ≤ (fillS wr Q (.slice At tl capt) (.slice A n c) b1 z1).heap.size := Nat.le_trans (Nat.le_of_lt HO.out.own.lt) (fillS_below (Below.refl 0 wr) (g := Q) (Nat.zero_le _) (.slice At tl capt) (.slice A n c) b1 z1).size
        change bodyPost _ _ _ _ _ (fillS wr Q (.slice At tl capt) (.slice A n c) b1 z1)
        generalize fillS wr Q (.slice At tl capt) (.slice A n c) b1 z1 = wz at hz hbz hcz hGs ⊢
        obtain ⟨q0, q1, q2, q3, q4, q5, q6, q7, q8, q9, q10, q11⟩ := hz.cells
        have e1 : befP Rl cs = b1 := by rw [bef_rev, ← HN.out, ← rev_congr HRP.out, ← HZ1.out.2]; rfl
        have e2 : ansP cs = z1 := by unfold ansP; rw [← HN.out, ← HZ1.out.1]
        exact bodyPost_ret (v := .tuple #[srV (.slice At tl capt) (.slice A n c) b1 z1, .int .i64 0])
          (by simp [results, Tryd.results57, go_sem, q0, q1, q2, q3, q4, q5, q6, q7, q8, q9, q10, q11]) rfl ⟨hbz, .inr ⟨HSE.out, _, by rw [e1, e2], hcz.mono hGs⟩⟩
  · have hv := hbad hE
    subst hv
    have hE' : (searchE o != 0) = true := by rw [bne_iff_ne]; exact hE
    have HE := Lib.hid hE
    obtain ⟨q0, q1, q2, q3, q4, q5, q6, q7, q8, q9, q10, q11⟩ := hr1.cells
    have hf := hr1.free
    have HR := Lib.hid (And.intro hb hr1)
    clear hE hok hbad hrp hfew hb hr1 ha1
    generalize hEE : searchE o = E at hE' HE ⊢
    have HEE := Lib.hid hEE
    clear hEE
    go_wp2_with fail
    clear q0 q1 q2 q3 q4 q5 q6 q7 q8 q9 q10 q11 hf
    have hz := HR.out.2.fill (.slice none 0 0) (.slice none 0 0) (fun _ => 0) 0
    have hbz := fillS_below HR.out.1 (g := w.heap.size + 1) (Nat.le_succ _) (.slice none 0 0) (.slice none 0 0) (fun _ => 0) 0
    change bodyPost _ _ _ _ _ (fillS w1 (w.heap.size + 1) (.slice none 0 0) (.slice none 0 0) (fun _ => 0) 0)
    generalize fillS w1 (w.heap.size + 1) (.slice none 0 0) (.slice none 0 0) (fun _ => 0) 0 = wz at hz hbz ⊢
    obtain ⟨q0, q1, q2, q3, q4, q5, q6, q7, q8, q9, q10, q11⟩ := hz.cells
    exact bodyPost_ret (v := .tuple #[srV (.slice none 0 0) (.slice none 0 0) (fun _ => 0) 0, .int .i64 E])
      (by simp [results, Tryd.results57, go_sem, q0, q1, q2, q3, q4, q5, q6, q7, q8, q9, q10, q11]) rfl ⟨hbz, .inl ⟨by rw [HEE.out]; exact HE.out, by rw [HEE.out]⟩⟩
end Go.Proofs.YtfgangkpebkicaaDoor

/-
  Contract of (*record).start.
-/
namespace Go.Proofs.YtfgangkpebkicaaDoor
open Go.RowKit
set_option maxRecDepth 20000
variable {Rl : Nat → Nat → Bool}
/-- The states of the first k things. -/
def firstS (ts : List Int) (k i : Nat) : List Int := if i < k then beginL (ts.getD i 0) else []
structure StR (w : World) (ts : List Int) (k : Nat) (s : Nat → Value) (wr : World) : Prop where
  below : Below w.heap.size w wr
  res : PtB wr w.heap.size 0 nilS
  own : PtB wr (w.heap.size + 1) 0 s
  st : ∀ i, i < 4 → NAw (fun g => w.heap.size + 1 < g) wr (s i) (firstS ts k i)
theorem StR.next {w wr w' : World} {ts : List Int} {k : Nat} {s : Nat → Value} (h : StR w ts k s wr) (hb : Below wr.heap.size wr w') : StR w ts k s w' :=
  ⟨h.below.trans (hb.mono h.below.size), Lies.below h.res hb h.res.lt, Lies.below h.own hb h.own.lt, fun i hi => (h.st i hi).next hb⟩
theorem StR.put {w wr : World} {ts : List Int} {k : Nat} {s : Nat → Value} (h : StR w ts k s wr) (hk : k < 4) {v : Value} (hv : NAw (fun g => w.heap.size + 1 < g) wr v (beginL (ts.getD k 0))) : StR w ts (k + 1) (fun i => if i = k then v else s i) (wr.setCell ⟨w.heap.size + 1, 1 + k, none⟩ v) := by
  refine ⟨h.below.setCell (p := ⟨w.heap.size + 1, 1 + k, none⟩) (by show w.heap.size ≤ w.heap.size + 1; omega) _, Lies.far h.res (by show w.heap.size ≠ w.heap.size + 1; omega) _, h.own.setS hk v, fun i hi => ?_⟩
  have hne : ∀ g : Nat, w.heap.size + 1 < g → g ≠ w.heap.size + 1 := fun g hg => by omega
  by_cases e : i = k
  · subst e
    simp only [if_true]
    have := hv.setCell ⟨w.heap.size + 1, 1 + i, none⟩ v hne
    unfold firstS
    rw [if_pos (by omega)]
    exact this
  · have := (h.st i hi).setCell ⟨w.heap.size + 1, 1 + k, none⟩ v hne
    simp only [e, if_false]
    have e2 : firstS ts (k + 1) i = firstS ts k i := by
      unfold firstS
      by_cases h1 : i < k
      · rw [if_pos h1, if_pos (by omega)]
      · rw [if_neg h1, if_neg (by omega)]
    rw [e2]
    exact this
set_option maxHeartbeats 4000000 in
theorem lstart_any {w : World} {Q : Nat} {tv cv : Value} {ts : List Int} {cs : List Cl} (hR : RecAt Rl w Q tv cv ts cs) (hts : ts.length ≤ 4) :
    Calls Tryd.prog 59 #[.pointer (some ⟨Q, 0, none⟩)] w fun e w' => ∃ pv, e = .returned pv ∧ PtRd (fun g => w.heap.size + 1 < g) w' pv (startP ts) ∧ Below w.heap.size w w' := by
  obtain ⟨At, capt, rfl, m1, m2⟩ := hR.rt.is
  obtain ⟨tl, hl⟩ : ∃ tl, tl = ts.length := ⟨_, rfl⟩
  rw [← hl] at hR hts m1
  have h1 : StR w ts 0 nilS ((w.alloc (.cells (ptCs 0 nilS) 117)).alloc (.cells (ptCs 0 nilS) 117)) := by
    have h2 := Lies.new (w.alloc (.cells (ptCs 0 nilS) 117)) 117 (ptCs 0 nilS)
    rw [World.size_alloc] at h2
    exact ⟨((Below.refl _ _).alloc (Nat.le_refl _) _).alloc (by simp) _, Lies.alloc (Lies.new _ _ _) _, h2, fun i _ => NAw.nil _ _⟩
  have c0 : ∀ o o', ((w.alloc o).alloc o').cell? ⟨Q, 0, none⟩ = some (.slice At tl capt) := fun o o' => (Below.cell (((Below.refl w.heap.size w).alloc (Nat.le_refl _) o).alloc (by simp) o') (p := ⟨Q, 0, none⟩) hR.lt).trans hR.c0
  have HR := Lib.hid hR
  have HL := Lib.hid hl
  have H1 := Lib.hid h1
  clear hR hl h1
  go_enter Tryd.func59, Tryd.ntmps59
  go_wp2_with fail
  have hS := H1.out
  clear H1 c0
  change Code.wp _ _ _ _ ((w.alloc (.cells (ptCs 0 nilS) 117)).alloc (.cells (ptCs 0 nilS) 117))
  generalize (w.alloc (.cells (ptCs 0 nilS) 117)).alloc (.cells (ptCs 0 nilS) 117) = W at hS ⊢
  go_loopw [11] (fun t wr => ∃ k : Nat, k ≤ tl ∧ t = .int .i64 k ∧ ∃ s, StR w ts k s wr) (fun t _ => tl - (intOf t).toNat)
  case atStart => exact ⟨0, by omega, rfl, nilS, hS⟩
  case round =>
    clear hS
    obtain ⟨k, hk, rfl, s, hS⟩ := hrel
    by_cases hkt : k < tl
    · obtain ⟨x, hx⟩ : ∃ x, ts[k]? = some x := ⟨_, List.getElem?_eq_getElem (by rw [← HL.out]; exact hkt)⟩
      obtain ⟨g, o, rfl, -, d0⟩ := (HR.out.rt.below hS.below).num hx
      have hxd : ts.getD k 0 = x := by rw [List.getD_eq_getElem?_getD, hx]; rfl
      have HXD := Lib.hid hxd
      have i1 : (0 : Int) ≤ (k : Int) := by omega
      have i2 : (k : Int) < (tl : Int) := by omega
      have HS := Lib.hid hS
      clear hS hx hxd
      go_wp2_with fail
      refine (start_any x wr).mono ?_
      rintro e w2 ⟨v, rfl, ho, hb⟩
      obtain ⟨A9, k9, rfl, -⟩ := ho.rd.is
      have hS2 := HS.out.next hb
      have hv : NAw (fun g => w.heap.size + 1 < g) w2 (.slice A9 (beginL x).length k9) (beginL (ts.getD k 0)) := by
        rw [HXD.out]
        exact (NAw.of_own ho).imp (fun g _ hg => by have := HS.out.own.lt; omega)
      have hfr := hS2.own.free (1 + k)
      have hce := hS2.own.row (k := k) (by omega)
      have i3 : (k : Int) < 4 := by omega
      have H2 := Lib.hid (And.intro hS2 hv)
      clear HS hb ho hS2 hv d0
      go_wp2_with fail
      go_roundw
      case rel => exact ⟨k + 1, by omega, by go_num, _, H2.out.1.put (by omega) H2.out.2⟩
      case measure => simp [intOf]; omega
    · obtain rfl : tl = k := by omega
      obtain ⟨q0, q1, q2, q3, q4⟩ := hS.res.cells
      have hf := hS.res.free
      have hst := hS.st
      have hown := PtB.four hS.own
      have hat := fun i hi => four_at s (i := i) hi
      obtain ⟨B0, k0, e0, -⟩ := hst 0 (by omega)
      obtain ⟨B1, k1, e1, -⟩ := hst 1 (by omega)
      obtain ⟨B2, k2, e2, -⟩ := hst 2 (by omega)
      obtain ⟨B3, k3, e3, -⟩ := hst 3 (by omega)
      rw [e0, e1, e2, e3] at hown hat
      generalize (firstS ts tl 0).length = l0 at hown hat
      generalize (firstS ts tl 1).length = l1 at hown hat
      generalize (firstS ts tl 2).length = l2 at hown hat
      generalize (firstS ts tl 3).length = l3 at hown hat
      have p0 : wr.cell? ⟨w.heap.size + 1, 0, none⟩ = some (.int .u16 0) := hown.cells.1
      have p1 : wr.cell? ⟨w.heap.size + 1, 1, none⟩ = some (.slice B0 l0 k0) := hown.cells.2.1
      have p2 : wr.cell? ⟨w.heap.size + 1, 2, none⟩ = some (.slice B1 l1 k1) := hown.cells.2.2.1
      have p3 : wr.cell? ⟨w.heap.size + 1, 3, none⟩ = some (.slice B2 l2 k2) := hown.cells.2.2.2.1
      have p4 : wr.cell? ⟨w.heap.size + 1, 4, none⟩ = some (.slice B3 l3 k3) := hown.cells.2.2.2.2
      have HS := Lib.hid hS
      have HAT := Lib.hid hat
      clear hS hst hown hat e0 e1 e2 e3
      go_wp2_with fail
      clear q0 q1 q2 q3 q4 hf p0 p1 p2 p3 p4
      have hz := HS.out.res.fill 0 (four (.slice B0 l0 k0) (.slice B1 l1 k1) (.slice B2 l2 k2) (.slice B3 l3 k3))
      have hbz := fillP_below HS.out.below (g := w.heap.size) (Nat.le_refl _) 0 (four (.slice B0 l0 k0) (.slice B1 l1 k1) (.slice B2 l2 k2) (.slice B3 l3 k3))
      have hsz : wr.heap.size ≤ (fillP wr w.heap.size 0 (four (.slice B0 l0 k0) (.slice B1 l1 k1) (.slice B2 l2 k2) (.slice B3 l3 k3))).heap.size := (fillP_below (Below.refl 0 wr) (g := w.heap.size) (Nat.zero_le _) 0 (four (.slice B0 l0 k0) (.slice B1 l1 k1) (.slice B2 l2 k2) (.slice B3 l3 k3))).size
      have hfa := fun g (hg : g ≠ w.heap.size) => fillP_far (w := wr) hg 0 (four (.slice B0 l0 k0) (.slice B1 l1 k1) (.slice B2 l2 k2) (.slice B3 l3 k3))
      change bodyPost _ _ _ _ _ (fillP wr w.heap.size 0 (four (.slice B0 l0 k0) (.slice B1 l1 k1) (.slice B2 l2 k2) (.slice B3 l3 k3)))
      generalize fillP wr w.heap.size 0 (four (.slice B0 l0 k0) (.slice B1 l1 k1) (.slice B2 l2 k2) (.slice B3 l3 k3)) = wz at hz hbz hsz hfa ⊢
      have q0 : wz.cell? ⟨w.heap.size, 0, none⟩ = some (.int .u16 0) := hz.cells.1
      have q1 : wz.cell? ⟨w.heap.size, 1, none⟩ = some (.slice B0 l0 k0) := hz.cells.2.1
      have q2 : wz.cell? ⟨w.heap.size, 2, none⟩ = some (.slice B1 l1 k1) := hz.cells.2.2.1
      have q3 : wz.cell? ⟨w.heap.size, 3, none⟩ = some (.slice B2 l2 k2) := hz.cells.2.2.2.1
      have q4 : wz.cell? ⟨w.heap.size, 4, none⟩ = some (.slice B3 l3 k3) := hz.cells.2.2.2.2
      refine bodyPost_ret (v := ptV 0 (four (.slice B0 l0 k0) (.slice B1 l1 k1) (.slice B2 l2 k2) (.slice B3 l3 k3)))
        (by simp [results, Tryd.results59, go_sem, q0, q1, q2, q3, q4, four]) rfl ⟨_, rfl, ⟨_, rfl, fun i hi => ?_⟩, hbz⟩
      rw [HAT.out i hi]
      have h3 := (HS.out.st i hi).keep hsz (fun g hg _ => hfa g (by omega))
      have e5 : (startP ts).st i = firstS ts tl i := by
        show (if i < ts.length then beginL (ts.getD i 0) else []) = _
        unfold firstS
        rw [← HL.out]
      rw [e5]
      exact h3
end Go.Proofs.YtfgangkpebkicaaDoor
