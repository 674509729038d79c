/-
  Joined by a program out of: LinFind, LinRight, LinFound, LinEq, IRd, Ok, LinLives, CloneSt, Orderly.
-/
import Derived.Test.YtfgangkpebkicaaDoorMgAN
import Derived.Test.YtfgangkpebkicaaDoorMgAO
import Derived.Carry
import Derived.Deep.CutRange
import Derived.Laws.StructEq
import Derived.Deep.QuietTactic
import Derived.BigQuiet
import Derived.Test.YtfgangkpebkicaaDoorProg
import Derived.WalkKit
import Derived.Lib.Hide
import Derived.Test.YtfgangkpebkicaaDoorMgAA
import Derived.Test.YtfgangkpebkicaaDoorMgAD
import Derived.Deep.DeepAppendWide
import Derived.Lib.AppendZeros
import Derived.Lib.SliceRun
import Derived.Test.YtfgangkpebkicaaDoorMgAH

/-
  Contract of search.Find.
-/
namespace Go.Proofs.YtfgangkpebkicaaDoor
open Go.RowKit Go.Maps
set_option maxRecDepth 20000
variable {Rl : Nat → Nat → Bool}
theorem step_thing {ts : List Int} {n : Nat} {cs cs' : List Cl} {x : Ev} (h : step ts n cs x = .inr cs') (hc : ∀ c, c ∈ cs → 0 ≤ c.thing ∧ c.thing < ts.length) : ∀ c, c ∈ cs' → 0 ≤ c.thing ∧ c.thing < ts.length := by
  unfold step at h
  split at h
  · cases h
  · rename_i h1
    have hx : 0 ≤ x.thing ∧ x.thing < ts.length := by
      apply Classical.byContradiction
      intro h2
      exact h1 (.inr h2)
    split at h
    · unfold respS at h
      split at h
      · cases h
      · split at h
        · cases h
        · rename_i h2 h3
          injection h with h
          subst h
          intro c hcm
          rcases List.mem_or_eq_of_mem_set hcm with h4 | h4
          · exact hc c h4
          · subst h4
            have h5 : (cs.getD (openOf cs x.who).toNat default).thing = x.thing := by
              apply Classical.byContradiction
              intro h6
              exact h3 (.inl h6)
            show 0 ≤ (cs.getD (openOf cs x.who).toNat default).thing ∧ _
            rw [h5]
            exact hx
    · unfold invS at h
      split at h
      · cases h
      · split at h
        · cases h
        · injection h with h
          subst h
          intro c hcm
          rcases List.mem_append.1 hcm with h4 | h4
          · exact hc c h4
          · rw [List.mem_singleton] at h4
            subst h4
            exact hx
theorem run_thing {ts : List Int} : ∀ (l : List Ev) (n : Nat) (cs : List Cl), (∀ c, c ∈ cs → 0 ≤ c.thing ∧ c.thing < ts.length) → ∀ c, c ∈ (run ts n cs l).1 → 0 ≤ c.thing ∧ c.thing < ts.length
  | [], n, cs, h => by
    rw [run]
    exact h
  | x :: r, n, cs, h => by
    rw [run]
    split
    · intro c hc
      simp at hc
    · rename_i cs' hs
      exact run_thing r (n + 1) cs' (step_thing hs h)
theorem calls_thing {ts : List Int} {l : List Ev} : ∀ c, c ∈ (callsOf ts l).1 → 0 ≤ c.thing ∧ c.thing < ts.length := by
  unfold callsOf
  split
  · intro c hc; simp at hc
  · split
    · intro c hc; simp at hc
    · exact run_thing l 0 [] (fun c hc => by cases hc)
theorem calls_types {ts : List Int} {l : List Ev} (h : (callsOf ts l).2.2 = 0) : ts.length ≤ 4 := by
  unfold callsOf at h
  split at h
  · simp at h
  · rename_i h1
    have h2 : typesB ts = true := by simpa using h1
    unfold typesB at h2
    simp only [Bool.and_eq_true, decide_eq_true_eq] at h2
    exact h2.1.2
theorem left_start (n : Nat) (ts : List Int) : leftN n (startP ts) = n := by
  unfold leftN startP
  simp
theorem start_ok {ts : List Int} (h : ts.length ≤ 4) : PtOk (startP ts) := by
  have hb : ∀ t : Int, (beginL t).length ≤ 50 ∧ ∀ x, x ∈ beginL t → -1000000 ≤ x ∧ x ≤ 1000000 := fun t => by
    unfold beginL
    split
    · exact ⟨by simp, fun x hx => by rw [List.mem_singleton] at hx; subst hx; omega⟩
    · exact ⟨by simp, fun x hx => by cases hx⟩
  refine ⟨by show 0 < 512; decide, fun i hi => ?_, fun i hi => ?_⟩
  · show (if i < ts.length then _ else _ : List Int).length ≤ 50 ∧ ∀ x, x ∈ (if i < ts.length then _ else _ : List Int) → _
    split
    · exact hb _
    · exact ⟨by simp, fun x hx => by cases hx⟩
  · show (if i < ts.length then _ else _ : List Int) = []
    rw [if_neg (by omega)]
/-- The least order of all. -/
def foundO (Rl : Nat → Nat → Bool) (ts : List Int) (cs : List Cl) : Option (List (Nat × Int)) := findO Rl ts cs cs.length (startP ts)
def FindPost (Rl : Nat → Nat → Bool) (w : World) (ts : List Int) (o : List Cl × Nat × Int) (e : Ending) (w' : World) : Prop :=
  Below w.heap.size w w' ∧ ((searchE o ≠ 0 ∧ e = .returned (.tuple #[.slice none 0 0, .bool false, .int .i64 (searchE o)])) ∨
    (searchE o = 0 ∧ ((foundO Rl ts o.1 = none ∧ e = .returned (.tuple #[.slice none 0 0, .bool false, .int .i64 0])) ∨
      ∃ S v, foundO Rl ts o.1 = some S ∧ e = .returned (.tuple #[v, .bool true, .int .i64 0]) ∧ SOwn w' w.heap.size v S)))
theorem SOwn.base {w : World} {B B' : Nat} {v : Value} {l : List (Nat × Int)} (h : SOwn w B v l) (hB : B' ≤ B) : SOwn w B' v l :=
  ⟨h.1, h.2.imp (fun h => h) fun ⟨g, cap, cur, h1, h2, h3⟩ => ⟨g, cap, cur, h1, Nat.le_trans hB h2, h3⟩⟩
set_option maxHeartbeats 8000000 in
theorem findIn_any {tv lv : Value} {ts : List Int} {l : List Ev} {w : World} {N : Int} {r : Nat → Nat} (ht : NRd w w.heap.size tv ts) (hl : ERd w w.heap.size lv l) (hp : Pow10 w.heap.size w) (hr : ∀ i, r i < 65536) (hrp : searchE (callsOf ts l) = 0 → ∀ i, i < (callsOf ts l).1.length → r i = relP Rl (callsOf ts l).1.length i) :
    Calls Tryd.prog 32 #[tv, lv, relV N r] w (FindPost Rl w ts (callsOf ts l)) := by
  have hb0 : Below w.heap.size w (w.alloc (.cells (relCs N r) 46)) := (Below.refl _ _).alloc (Nat.le_refl _) _
  have hop := open_any (N := N) ((ht.below hb0).mono hb0.size) ((hl.below hb0).mono hb0.size) hr hrp
  have hrl : RelB (w.alloc (.cells (relCs N r) 46)) w.heap.size N r := Lies.new _ _ _
  have c0 := hrl.size
  obtain ⟨c1, c2, c3, c4, c5, c6, c7, c8, c9, c10, c11, c12⟩ := hrl.rows
  have HB0 := Lib.hid hb0
  clear hrp hr hb0 hrl
  have hth := @calls_thing ts l
  have hty := @calls_types ts l
  generalize callsOf ts l = o at hop hth hty ⊢
  obtain ⟨At, capt, rfl, -, -⟩ := ht.is
  have HT := Lib.hid (And.intro ht (And.intro hp (And.intro hth hty)))
  have HOP := Lib.hid hop
  obtain ⟨tl, htl⟩ : ∃ tl, tl = ts.length := ⟨_, rfl⟩
  rw [← htl] at HOP HT ⊢
  have HTL := Lib.hid htl
  clear ht hl hp hop hth hty htl
  go_enter Tryd.func32, Tryd.ntmps32
  go_wp2_with fail
  refine HOP.out.mono ?_
  rintro e w1 ⟨hb1', hcs⟩
  have hb1 := HB0.out.trans (hb1'.mono HB0.out.size)
  clear hb1' c0 c1 c2 c3 c4 c5 c6 c7 c8 c9 c10 c11 c12
  rcases hcs with ⟨hE, rfl⟩ | ⟨hE, cv, rfl, hc⟩
  · have hne : (searchE o != 0) = true := by rw [bne_iff_ne]; exact hE
    have HB := Lib.hid (And.intro hb1 hE)
    clear hb1 hE HOP
    generalize hEE : searchE o = E at hne HB ⊢
    have HEE := Lib.hid hEE
    clear hEE
    go_wp2_with fail
    go_ret3
    exact ⟨HB.out.1.alloc HB.out.1.size _, .inl ⟨by rw [HEE.out]; exact HB.out.2, by rw [HEE.out]; rfl⟩⟩
  · obtain ⟨Ac, capc, rfl, -, -⟩ := hc.is
    have HC := Lib.hid (And.intro hb1 (And.intro hE hc))
    clear hb1 hE hc HOP
    have hmm := @run_makeMap Tryd.prog
    have hfew : o.1.length ≤ 9 ∧ o.2.2 = 0 := by
      have h1 := HC.out.2.1
      unfold searchE at h1
      split at h1
      · rename_i h2; exact absurd h1 h2
      · rename_i h2
        split at h1
        · cases h1
        · exact ⟨by omega, by simpa using h2⟩
    have hts : ts.length ≤ 4 := by rw [← HTL.out]; exact HT.out.2.2.2 hfew.2
    have hbW : Below w1.heap.size w1 (((w1.alloc (.cells (srCs (.slice At tl capt) (.slice Ac o.1.length capc) (befP Rl o.1) (ansP o.1)) 108)).alloc (.map #[] 0)).alloc (.cells (quCs (.slice At tl capt) (.slice Ac o.1.length capc) (befP Rl o.1) (ansP o.1) (.slice none 0 0) (w1.heap.size + 1)) 113)) := ((((Below.refl _ _).alloc (Nat.le_refl _) _).alloc (by simp) _).alloc (by simp; omega) _)
    have hszW : (((w1.alloc (.cells (srCs (.slice At tl capt) (.slice Ac o.1.length capc) (befP Rl o.1) (ansP o.1)) 108)).alloc (.map #[] 0)).alloc (.cells (quCs (.slice At tl capt) (.slice Ac o.1.length capc) (befP Rl o.1) (ansP o.1) (.slice none 0 0) (w1.heap.size + 1)) 113)).heap.size = w1.heap.size + 1 + 1 + 1 := by simp only [World.size_alloc]
    have hrt : NRd w1 w1.heap.size (.slice At tl capt) ts := (HT.out.1.below HC.out.1).mono HC.out.1.size
    have hpw : Pow10 w1.heap.size w1 := (HT.out.2.1.on HC.out.1).mono HC.out.1.size
    have hrb : SrB (((w1.alloc (.cells (srCs (.slice At tl capt) (.slice Ac o.1.length capc) (befP Rl o.1) (ansP o.1)) 108)).alloc (.map #[] 0)).alloc (.cells (quCs (.slice At tl capt) (.slice Ac o.1.length capc) (befP Rl o.1) (ansP o.1) (.slice none 0 0) (w1.heap.size + 1)) 113)) w1.heap.size (.slice At tl capt) (.slice Ac o.1.length capc) (befP Rl o.1) (ansP o.1) := Lies.alloc (Lies.alloc (Lies.new _ _ _) _) _
    have hR : RecAt Rl (((w1.alloc (.cells (srCs (.slice At tl capt) (.slice Ac o.1.length capc) (befP Rl o.1) (ansP o.1)) 108)).alloc (.map #[] 0)).alloc (.cells (quCs (.slice At tl capt) (.slice Ac o.1.length capc) (befP Rl o.1) (ansP o.1) (.slice none 0 0) (w1.heap.size + 1)) 113)) w1.heap.size (.slice At tl capt) (.slice Ac o.1.length capc) ts o.1 :=
      ⟨Lies.cell hrb 0, Lies.cell hrb 1, fun j hj => hrb.row hj, hrb.ans, (hrt.below hbW).mono hbW.size, (HC.out.2.2.below hbW).mono hbW.size, Lies.lt hrb⟩
    have hq0 : QSt Rl w1.heap.size (.slice At tl capt) (.slice Ac o.1.length capc) ts o.1 (w1.heap.size + 1 + 1) (w1.heap.size + 1) (.slice none 0 0) [] 0 (fun _ => false) (((w1.alloc (.cells (srCs (.slice At tl capt) (.slice Ac o.1.length capc) (befP Rl o.1) (ansP o.1)) 108)).alloc (.map #[] 0)).alloc (.cells (quCs (.slice At tl capt) (.slice Ac o.1.length capc) (befP Rl o.1) (ansP o.1) (.slice none 0 0) (w1.heap.size + 1)) 113)) := by
      have h2 := Lies.new ((w1.alloc (.cells (srCs (.slice At tl capt) (.slice Ac o.1.length capc) (befP Rl o.1) (ansP o.1)) 108)).alloc (.map #[] 0)) 113 (quCs (.slice At tl capt) (.slice Ac o.1.length capc) (befP Rl o.1) (ansP o.1) (.slice none 0 0) (w1.heap.size + 1))
      rw [World.size_alloc, World.size_alloc] at h2
      have h3 := FMap.made (w1.alloc (.cells (srCs (.slice At tl capt) (.slice Ac o.1.length capc) (befP Rl o.1) (ansP o.1)) 108))
      rw [World.size_alloc] at h3
      exact ⟨h2, World.ownsRow_nil _ _ _ _, h3.keep (Below.heap_alloc _ _ _ h3.lt), hrt.below hbW, HC.out.2.2.below hbW, hpw.on hbW, by omega, by omega, by omega, (by intro h; cases h), (by intro h; cases h)⟩
    have HR := Lib.hid (And.intro hR (And.intro hq0 (And.intro hbW hszW)))
    have HF := Lib.hid (And.intro hfew.1 hts)
    clear hfew hts hbW hszW hrt hpw hrb hR hq0
    go_wp2_with fail
    clear hmm
    change Calls _ _ _ (((w1.alloc (.cells (srCs (.slice At tl capt) (.slice Ac o.1.length capc) (befP Rl o.1) (ansP o.1)) 108)).alloc (.map #[] 0)).alloc (.cells (quCs (.slice At tl capt) (.slice Ac o.1.length capc) (befP Rl o.1) (ansP o.1) (.slice none 0 0) (w1.heap.size + 1)) 113)) _
    generalize (((w1.alloc (.cells (srCs (.slice At tl capt) (.slice Ac o.1.length capc) (befP Rl o.1) (ansP o.1)) 108)).alloc (.map #[] 0)).alloc (.cells (quCs (.slice At tl capt) (.slice Ac o.1.length capc) (befP Rl o.1) (ansP o.1) (.slice none 0 0) (w1.heap.size + 1)) 113)) = W at HR ⊢
    refine (lstart_any HR.out.1 HF.out.2).mono ?_
    rintro e w2 ⟨pv, rfl, ⟨s, rfl, hs⟩, hb2⟩
    have HQ := Lib.hid (HR.out.2.1.next hb2)
    have HS : Hid (∀ i, i < 4 → NAw (Aw (w1.heap.size + 1 + 1) (w1.heap.size + 1) (.slice none 0 0)) w2 (s i) ((startP ts).st i)) := Lib.hid fun i hi => (hs i hi).imp (fun g _ hg => by have := HR.out.2.2.2; exact ⟨by omega, by omega, (by intro h; cases h)⟩)
    have HB2 := Lib.hid (HR.out.2.2.1.trans (hb2.mono HR.out.2.2.1.size))
    clear hs hb2
    go_wp2_with fail
    refine (ext_any (B0 := w1.heap.size) (Rl := Rl) (tv := .slice At tl capt) (ts := ts) (cs := o.1) (Q := w1.heap.size + 1 + 1) (M := w1.heap.size + 1) Ac capc HF.out.2 HF.out.1 (by rw [← HTL.out]; exact HT.out.2.2.1) o.1.length (startP ts) w2 (.slice none 0 0) [] 0 (fun _ => false) s (left_start _ _) (start_ok HF.out.2) HQ.out (fun bs h => by cases h) (by have := HF.out.1; simp; omega) (by
      have h1 : 10 ^ (o.1.length + 1) ≤ 10 ^ 10 := Nat.pow_le_pow_right (by decide) (by have := HF.out.1; omega)
      have h2 : (10 : Nat) ^ 10 = 10000000000 := by decide
      omega) HS.out).mono ?_
    rintro e w3 ⟨v', N', F', rfl, hk, hq3, -, -⟩
    have hfo : findO Rl ts o.1 o.1.length (startP ts) = foundO Rl ts o.1 := rfl
    rw [hfo] at hq3 ⊢
    have hB3 : Below w.heap.size w w3 := HC.out.1.trans ((HB2.out.trans (hk.below (B := w1.heap.size) (by have := HB2.out.size; omega) (by omega) (by omega) (fun g h => by cases h))).mono HC.out.1.size)
    have c12 := hq3.steps
    have HZ := Lib.hid (And.intro hB3 (And.intro hq3.own HC.out.1.size))
    clear hk hq3 hB3 HQ HS HB2 hfo
    generalize hoo : foundO Rl ts o.1 = oo at HZ ⊢
    have HOO := Lib.hid hoo
    clear hoo
    cases oo with
    | none =>
      go_wp2_with fail
      go_ret3
      exact ⟨HZ.out.1, .inr ⟨HC.out.2.1, .inl ⟨HOO.out, rfl⟩⟩⟩
    | some S =>
      go_wp2_with fail
      go_ret3
      exact ⟨HZ.out.1, .inr ⟨HC.out.2.1, .inr ⟨S, v', HOO.out, rfl, SOwn.base (by simpa using HZ.out.2.1) HZ.out.2.2⟩⟩⟩
set_option maxHeartbeats 4000000 in
theorem find_any {tv lv : Value} {ts : List Int} {l : List Ev} {w : World} (ht : NRd w w.heap.size tv ts) (hl : ERd w w.heap.size lv l) (hp : Pow10 w.heap.size w) :
    Calls Tryd.prog 16 #[tv, lv] w (FindPost (aheadB (callsOf ts l).1) w ts (callsOf ts l)) := by
  have HTM := Lib.hid (realTime_any ht hl)
  have HT := Lib.hid (And.intro ht (And.intro hl hp))
  obtain ⟨At, capt, rfl, -, -⟩ := ht.is
  obtain ⟨Al, capl, rfl, -, -⟩ := hl.is
  clear ht hl hp
  obtain ⟨tl, htl⟩ : ∃ tl, tl = ts.length := ⟨_, rfl⟩
  obtain ⟨L, hL⟩ : ∃ L, L = l.length := ⟨_, rfl⟩
  rw [← htl, ← hL] at HTM HT
  rw [← htl, ← hL]
  clear htl hL
  go_enter Tryd.func16, Tryd.ntmps16
  go_wp2_with fail
  refine HTM.out.mono ?_
  rintro e w1 ⟨hb1, N, r, rfl, hr, hrr⟩
  have hal : Below w1.heap.size w1 (w1.alloc (.cells (relCs N r) 46)) := (Below.refl _ _).alloc (Nat.le_refl _) _
  have hbW : Below w.heap.size w (w1.alloc (.cells (relCs N r) 46)) := hb1.trans (hal.mono hb1.size)
  have hrl : RelB (w1.alloc (.cells (relCs N r) 46)) w1.heap.size N r := Lies.new _ _ _
  have HB := Lib.hid hbW
  by_cases hE : searchE (callsOf ts l) = 0
  · have c0 := hrl.size
    obtain ⟨c1, c2, c3, c4, c5, c6, c7, c8, c9, c10, c11, c12⟩ := hrl.rows
    have hF := findIn_any (Rl := aheadB (callsOf ts l).1) (N := N) (r := r) ((HT.out.1.below hbW).mono hbW.size) ((HT.out.2.1.below hbW).mono hbW.size) ((HT.out.2.2.on hbW).mono hbW.size) hr (fun h i _ => by rw [hrr h])
    have HF := Lib.hid hF
    have HE := Lib.hid hE
    rw [hE]
    clear hb1 hr hrr hal hbW hrl hE hF HTM
    go_wp2_with fail
    refine HF.out.mono ?_
    rintro e w2 ⟨hb2, hcs⟩
    have H2 := Lib.hid (HB.out.trans (hb2.mono HB.out.size))
    have HS := Lib.hid HB.out.size
    clear hb2 c0 c1 c2 c3 c4 c5 c6 c7 c8 c9 c10 c11 c12
    rcases hcs with ⟨h1, rfl⟩ | ⟨h1, ⟨h2, rfl⟩ | ⟨S, v, h2, rfl, h3⟩⟩
    · exact absurd HE.out h1
    · have HX := Lib.hid (And.intro h1 h2)
      clear h1 h2
      go_wp2_with fail
      go_ret3
      exact ⟨H2.out, .inr ⟨HX.out.1, .inl ⟨HX.out.2, rfl⟩⟩⟩
    · have HX := Lib.hid (And.intro h1 (And.intro h2 h3))
      clear h1 h2 h3
      go_wp2_with fail
      go_ret3
      exact ⟨H2.out, .inr ⟨HX.out.1, .inr ⟨S, v, HX.out.2.1, rfl, SOwn.base HX.out.2.2 HS.out⟩⟩⟩
  · have hz : (searchE (callsOf ts l) != 0) = true := by rw [bne_iff_ne]; exact hE
    have HE := Lib.hid hE
    clear hb1 hr hrr hal hbW hrl hE HTM
    generalize hEE : searchE (callsOf ts l) = E at hz HE ⊢
    have HEE := Lib.hid hEE
    clear hEE
    go_wp2_with fail
    go_ret3
    exact ⟨HB.out, .inl ⟨by rw [HEE.out]; exact HE.out, by rw [HEE.out]; rfl⟩⟩
end Go.Proofs.YtfgangkpebkicaaDoor

/-
  Contract of search.Right.
-/
namespace Go.Proofs.YtfgangkpebkicaaDoor
open Go.RowKit Go.Maps
set_option maxRecDepth 20000
variable {Rl : Nat → Nat → Bool}
/-- Steps as they are handed in. -/
abbrev spCs (x : Int × Int) : List Value := [.int .i64 x.1, .int .i64 x.2]
abbrev SRd (w : World) (B : Nat) (v : Value) (l : List (Int × Int)) : Prop := LRd 2 spCs w B v l
/-- Is it right from a point on? -/
def rightO (Rl : Nat → Nat → Bool) (ts : List Int) (cs : List Cl) : Pt → List (Int × Int) → Bool
  | p, [] => fullB cs p
  | p, x :: r => if nextB Rl ts cs p x.1 = true ∧ (thingO ts cs p x.1.toNat).2.1 = x.2 then rightO Rl ts cs (nextP ts cs p x.1.toNat) r else false
structure RtR (w0 : World) (P : Nat) (p : Pt) (s : Nat → Value) (X : World) : Prop where
  below : Below w0.heap.size w0 X
  pb : PtB X P p.done s
  st : ∀ i, i < 4 → NAw (fun g => g ≠ P) X (s i) (p.st i)
  bp : w0.heap.size ≤ P
theorem RtR.next {w0 X X' : World} {P : Nat} {p : Pt} {s : Nat → Value} (h : RtR w0 P p s X) (hb : Below X.heap.size X X') : RtR w0 P p s X' :=
  ⟨h.below.trans (hb.mono h.below.size), Lies.below h.pb hb (Lies.lt h.pb), fun i hi => (h.st i hi).next hb, h.bp⟩
end Go.Proofs.YtfgangkpebkicaaDoor

/-
  Plain: what is found is right; where any order is right one is found, and it is no greater.
-/
namespace Go.Proofs.YtfgangkpebkicaaDoor
open Go.RowKit Go.Maps
set_option maxRecDepth 20000
variable {Rl : Nat → Nat → Bool}
/-- Steps found, as they are handed in. -/
def asSteps (S : List (Nat × Int)) : List (Int × Int) := S.map fun x => ((x.1 : Int), x.2)
/-- The order of lists by their calls: the one that ends is the lesser. -/
def lexL : List (Int × Int) → List (Int × Int) → Prop
  | [], _ => True
  | _ :: _, [] => False
  | x :: a, y :: b => x.1 < y.1 ∨ x.1 = y.1 ∧ lexL a b
section
variable {ts : List Int} {cs : List Cl}
theorem next_may {p : Pt} {k : Nat} (h : k < cs.length) : nextB Rl ts cs p (k : Int) = mayB Rl ts cs p k := by
  unfold nextB
  rw [decide_eq_true ⟨by omega, by omega⟩]
  simp
theorem try_some {go : Pt → Option (List (Nat × Int))} {p : Pt} : ∀ m k S, tryO Rl go ts cs p m k = some S → ∃ j l, k ≤ j ∧ j < k + m ∧ mayB Rl ts cs p j = true ∧ go (nextP ts cs p j) = some l ∧ S = (j, (thingO ts cs p j).2.1) :: l
  | 0, k, S, h => by rw [tryO] at h; cases h
  | m + 1, k, S, h => by
    rw [tryO] at h
    split at h
    · rename_i hm
      split at h
      · rename_i l hl
        injection h with h
        exact ⟨k, l, Nat.le_refl _, by omega, hm, hl, h.symm⟩
      · obtain ⟨j, l, h1, h2, h3⟩ := try_some m (k + 1) S h
        exact ⟨j, l, by omega, by omega, h3⟩
    · obtain ⟨j, l, h1, h2, h3⟩ := try_some m (k + 1) S h
      exact ⟨j, l, by omega, by omega, h3⟩
theorem try_first {go : Pt → Option (List (Nat × Int))} {p : Pt} {k : Nat} {S : List (Nat × Int)} (hm : mayB Rl ts cs p k = true) (hg : go (nextP ts cs p k) = some S) : ∀ m k0, k0 ≤ k → k < k0 + m → ∃ j l, tryO Rl go ts cs p m k0 = some ((j, (thingO ts cs p j).2.1) :: l) ∧ (j < k ∨ j = k ∧ l = S)
  | 0, k0, h1, h2 => by omega
  | m + 1, k0, h1, h2 => by
    rw [tryO]
    by_cases e : k0 = k
    · subst e
      rw [if_pos hm, hg]
      exact ⟨k0, S, rfl, .inr ⟨rfl, rfl⟩⟩
    · split
      · split
        · rename_i l hl
          exact ⟨k0, l, rfl, .inl (by omega)⟩
        · exact try_first hm hg m (k0 + 1) (by omega) (by omega)
      · exact try_first hm hg m (k0 + 1) (by omega) (by omega)
/-- What is found is right. -/
theorem find_right : ∀ f p S, findO Rl ts cs f p = some S → rightO Rl ts cs p (asSteps S) = true
  | 0, p, S, h => by
    rw [findO] at h
    split at h
    · rename_i hf
      injection h with h
      subst h
      show rightO Rl ts cs p [] = true
      rw [rightO]; exact hf
    · cases h
  | f + 1, p, S, h => by
    rw [findO] at h
    split at h
    · rename_i hf
      injection h with h
      subst h
      show rightO Rl ts cs p [] = true
      rw [rightO]; exact hf
    · obtain ⟨j, l, _, h2, h3, h4, rfl⟩ := try_some _ _ _ h
      have ih := find_right f _ _ h4
      show rightO Rl ts cs p (((j : Int), _) :: asSteps l) = true
      rw [rightO, if_pos ⟨by rw [next_may (by omega)]; exact h3, by rw [Int.toNat_natCast]⟩, Int.toNat_natCast]
      exact ih
/-- Where an order is right one is found, and it is no greater. -/
theorem right_find : ∀ (ws : List (Int × Int)) (p : Pt) (f : Nat), rightO Rl ts cs p ws = true → leftN cs.length p ≤ f → ∃ S, findO Rl ts cs f p = some S ∧ lexL (asSteps S) ws
  | [], p, f, h, _ => by
    rw [rightO] at h
    exact ⟨[], find_full h f, trivial⟩
  | x :: r, p, f, h, hf => by
    by_cases hfu : fullB cs p = true
    · exact ⟨[], find_full hfu f, trivial⟩
    · rw [rightO] at h
      split at h
      · rename_i hx
        obtain ⟨hx1, hx2⟩ := hx
        have hn := hx1
        unfold nextB at hn
        rw [Bool.and_eq_true, decide_eq_true_iff] at hn
        obtain ⟨⟨h0, h1⟩, hm⟩ := hn
        obtain ⟨k, hk⟩ : ∃ k : Nat, x.1 = (k : Int) := ⟨x.1.toNat, by omega⟩
        rw [hk, Int.toNat_natCast] at hm hx2 h
        have hkn : k < cs.length := by omega
        have hl := left_next (ts := ts) (cs := cs) (p := p) hkn (may_done hm)
        obtain ⟨f', rfl⟩ : ∃ f', f = f' + 1 := ⟨f - 1, by omega⟩
        obtain ⟨S, hS, hlex⟩ := right_find r _ f' h (by omega)
        obtain ⟨j, l, h2, h3⟩ := try_first (go := findO Rl ts cs f') hm hS cs.length 0 (by omega) (by omega)
        refine ⟨_, by rw [findO, if_neg hfu]; exact h2, ?_⟩
        show ((j : Int) < x.1 ∨ (j : Int) = x.1 ∧ lexL (asSteps l) r)
        rcases h3 with h3 | ⟨rfl, rfl⟩
        · exact .inl (by omega)
        · exact .inr ⟨hk.symm, hlex⟩
      · cases h
/-- One is found just if one is right. -/
theorem found_iff {ws : List (Int × Int)} (h : rightO Rl ts cs (startP ts) ws = true) : ∃ S, foundO Rl ts cs = some S ∧ lexL (asSteps S) ws :=
  right_find ws (startP ts) cs.length h (by rw [left_start]; exact Nat.le_refl _)
theorem found_right {S : List (Nat × Int)} (h : foundO Rl ts cs = some S) : rightO Rl ts cs (startP ts) (asSteps S) = true := find_right _ _ _ h
end
end Go.Proofs.YtfgangkpebkicaaDoor

/-
  slices.Equal of two lists of steps.
-/
namespace Go.Proofs.YtfgangkpebkicaaDoor
open Go.RowKit
set_option maxRecDepth 20000
theorem LRd.sp {w : World} {B n cap : Nat} {A : Option Addr} {l : List (Int × Int)} (h : SRd w B (.slice A n cap) l) {k : Nat} {x : Int × Int} (hk : l[k]? = some x) : ∃ g o, A = some ⟨g, o, none⟩ ∧ g < B ∧ w.cell? ⟨g, o + k * 2, none⟩ = some (.int .i64 x.1) ∧ w.cell? ⟨g, o + k * 2 + 1, none⟩ = some (.int .i64 x.2) := by
  obtain ⟨g, o, h1, h2, h3⟩ := h.at_ hk
  exact ⟨g, o, h1, h2, by have := h3 0 _ rfl; simpa using this, h3 1 _ rfl⟩
end Go.Proofs.YtfgangkpebkicaaDoor

/-
  Slices that read as a list of integers.
-/
namespace Go.Proofs.YtfgangkpebkicaaDoor
open Go.RowKit
set_option maxRecDepth 20000
/-- The value v is a slice that reads as the integers xs, in a block below B. -/
def IRd (w : World) (B : Nat) (v : Value) (xs : List Int) : Prop :=
  ∃ A cap, v = .slice A xs.length cap ∧ (0 < xs.length → ∃ g, A = some ⟨g, 0, none⟩ ∧ g < B ∧ ∀ j, j < xs.length → w.cell? ⟨g, j, none⟩ = some (.int .i64 (xs.getD j 0)))
theorem IRd.below {w w' : World} {B : Nat} {v : Value} {xs : List Int} (h : IRd w B v xs) (hb : Below B w w') : IRd w' B v xs := by
  obtain ⟨A, cap, hv, h2⟩ := h
  refine ⟨A, cap, hv, fun h0 => ?_⟩
  obtain ⟨g, hA, hg, hc⟩ := h2 h0
  exact ⟨g, hA, hg, fun j hj => (hb.cell (p := ⟨g, j, none⟩) hg).trans (hc j hj)⟩
theorem IRd.mono {w : World} {B B' : Nat} {v : Value} {xs : List Int} (h : IRd w B v xs) (hB : B ≤ B') : IRd w B' v xs := by
  obtain ⟨A, cap, hv, h2⟩ := h
  refine ⟨A, cap, hv, fun h0 => ?_⟩
  obtain ⟨g, hA, hg, hc⟩ := h2 h0
  exact ⟨g, hA, by omega, hc⟩
end Go.Proofs.YtfgangkpebkicaaDoor

/-
  Contract of alibkeep.ok.
-/
namespace Go.Proofs.YtfgangkpebkicaaDoor
open Go.RowKit
set_option maxRecDepth 20000
theorem all_zero {xs : List Int} (h : ∀ j, j < xs.length → xs.getD j 0 = 0) : ∀ x ∈ xs, x = 0 := by
  intro x hx
  obtain ⟨j, hj, rfl⟩ := List.getElem_of_mem hx
  have := h j hj
  rwa [List.getD_eq_getElem?_getD, List.getElem?_eq_getElem hj] at this
theorem not_all_zero {xs : List Int} {k : Nat} (hk : k < xs.length) (h : xs.getD k 0 ≠ 0) : ¬ ∀ x ∈ xs, x = 0 := fun ha => by
  rw [List.getD_eq_getElem?_getD, List.getElem?_eq_getElem hk] at h
  exact h (ha _ (List.getElem_mem hk))
theorem ok_any {B : Nat} {v : Value} {xs : List Int} {w : World} (h : IRd w B v xs) (hn : xs.length ≤ 1000000) :
    Calls Tryd.prog 34 #[v] w fun e w' => e = .returned (.bool (decide (∀ x ∈ xs, x = 0))) ∧ w = w' := by
  obtain ⟨A, c, rfl, k⟩ := h
  have HK := Lib.hid k
  clear k
  go_enter Tryd.func34, Tryd.ntmps34
  go_wp2_with fail
  go_loopw [7] (fun i wr => ∃ k : Nat, k ≤ xs.length ∧ i = .int .i64 k ∧ (∀ j, j < k → xs.getD j 0 = 0) ∧ w = wr) (fun i _ => xs.length - (intOf i).toNat)
  case atStart => exact ⟨0, by omega, rfl, fun j hj => by omega, rfl⟩
  case round =>
    obtain ⟨k, hk, rfl, ha, rfl⟩ := hrel
    have HA := Lib.hid ha
    clear ha
    by_cases hkn : k < xs.length
    · obtain ⟨g, rfl, hg, hc⟩ := HK.out (by omega)
      have d1 : w.cell? ⟨g, k, none⟩ = some (.int .i64 (xs.getD k 0)) := hc k hkn
      clear hc
      have i1 : (0 : Int) ≤ (k : Int) := by omega
      have i2 : (k : Int) < (xs.length : Int) := by omega
      generalize hxk : xs.getD k 0 = x at d1
      have HXK := Lib.hid hxk
      clear hxk
      by_cases hx : x = 0
      · subst hx
        go_wp2_with fail
        go_roundw
        case rel => exact ⟨k + 1, by omega, by go_num, fun j hj => by
          rcases Nat.lt_or_ge j k with h | h
          · exact HA.out j h
          · obtain rfl : j = k := by omega
            exact HXK.out, by trivial⟩
        case measure => simp [intOf]; omega
      · have hz : (x != 0) = true := by rw [bne_iff_ne]; exact hx
        have HX := Lib.hid hx
        clear hx
        go_wp2_with fail
        go_ret
        exact ⟨congrArg (fun b => Ending.returned (.bool b)) (decide_eq_false (not_all_zero hkn (by rw [HXK.out]; exact HX.out))).symm, rfl⟩
    · have hkn' : k = xs.length := by omega
      subst hkn'
      go_wp2_with fail
      go_ret
      exact ⟨congrArg (fun b => Ending.returned (.bool b)) (decide_eq_true (all_zero HA.out)).symm, rfl⟩
/-- A slice that was just written out. -/
theorem IRd.fresh (w : World) (t : TypeId) (xs : List Int) (n : Nat) (hn : n = xs.length) (cs : Array Value) (hcs : cs = (xs.map (Value.int .i64)).toArray) :
    IRd (w.alloc (.cells cs t)) (w.heap.size + 1) (.slice (some ⟨w.heap.size, 0, none⟩) n n) xs := by
  subst hn
  refine ⟨_, _, rfl, fun _ => ⟨_, rfl, by omega, fun j hj => ?_⟩⟩
  rw [cell_of_row _ _ j cs t (0, 0) (heap_alloc_new w _), hcs]
  simp [hj]
theorem ok_zero {B : Nat} {v : Value} {xs : List Int} {w : World} (h : IRd w B v xs) (hz : ∀ x ∈ xs, x = 0) (hn : xs.length ≤ 1000000) :
    Calls Tryd.prog 34 #[v] w fun e w' => e = .returned (.bool true) ∧ w = w' := by
  have := ok_any h hn
  rw [decide_eq_true hz] at this
  exact this
theorem ok_not {B : Nat} {v : Value} {xs : List Int} {w : World} (h : IRd w B v xs) {x : Int} (hx : x ∈ xs) (hz : x ≠ 0) (hn : xs.length ≤ 1000000) :
    Calls Tryd.prog 34 #[v] w fun e w' => e = .returned (.bool false) ∧ w = w' := by
  have := ok_any h hn
  rw [decide_eq_false (fun k => hz (k x hx))] at this
  exact this
end Go.Proofs.YtfgangkpebkicaaDoor

/-
  alibkeep.searchLives answers true.
-/
namespace Go.Proofs.YtfgangkpebkicaaDoor
open Go.RowKit Go.Maps
set_option maxRecDepth 20000
theorem SOwn.sp {w : World} {B : Nat} {v : Value} {S : List (Nat × Int)} (h : SOwn w B v S) : SRd w w.heap.size v (asSteps S) := by
  have h1 : (asSteps S).length = S.length := by unfold asSteps; exact List.length_map _
  have h2 : (asSteps S).flatMap spCs = S.flatMap stCs := by unfold asSteps; rw [List.flatMap_map]
  refine LRd.of_own (base := B) (t := 38) (fun _ => rfl) ?_
  rw [h1, h2]
  exact h
end Go.Proofs.YtfgangkpebkicaaDoor

/-
  append of steps: any slice of such behind a row of one's own; slices.Clone over such.
-/
namespace Go.Proofs.YtfgangkpebkicaaDoor
open Go.RowKit
set_option maxRecDepth 20000
/-- A slice of the call's own (in blocks from B on) that holds these. -/
def TOwn (w : World) (B : Nat) (v : Value) (l : List (Int × Int)) : Prop := w.ownsRow B 38 2 v l.length (l.flatMap spCs)
theorem TOwn.rd {w : World} {B : Nat} {v : Value} {l : List (Int × Int)} (h : TOwn w B v l) : SRd w w.heap.size v l := LRd.of_own (fun _ => rfl) h
theorem TOwn.nil (w : World) (B : Nat) : TOwn w B (.slice none 0 0) [] := World.ownsRow_nil _ _ _ _
theorem TOwn.below {w w' : World} {B : Nat} {v : Value} {l : List (Int × Int)} (h : TOwn w B v l) (hb : Below w.heap.size w w') : TOwn w' B v l := by
  refine ⟨h.1, h.2.elim (fun h => .inl h) fun ⟨g, cap, cur, h1, h2, h3, h4, h5, h6, h7⟩ => .inr ⟨g, cap, cur, h1, h2, ?_, h4, h5, h6, h7⟩⟩
  rw [hb.block g (Array.getElem?_eq_some_iff.1 h3).1]
  exact h3
theorem TOwn.alloc {w : World} {B : Nat} {v : Value} {l : List (Int × Int)} (h : TOwn w B v l) (o : Obj) : TOwn (w.alloc o) B v l := h.below ((Below.refl _ _).alloc (Nat.le_refl _) o)
theorem info_sp : (Tryd.prog.info? 38).map (fun i => (i.zero, i.size, i.bytes)) = some (some (.agg #[.int .i64 0, .int .i64 0]), 2, 16) := by kernel_rfl
theorem run_app_sps {W : World} {base n cap : Nat} {v : Value} {A : Option Addr} {l ys : List (Int × Int)} {B : Nat} (ty : TypeId) (hown : TOwn W base v l) (hr : SRd W B (.slice A n cap) ys) (hlen : ((l.length + ys.length) + (l.length + ys.length) / 4 + 192) * 16 ≤ 281474976710656) (hbase : base ≤ W.heap.size) (hA : A ≠ none) :
    ∃ v' w', (Builtin.append_ #[34, 34] ty #[v, .slice A n cap]).run Tryd.prog W = .ok v' w' ∧ TOwn w' base v' (l ++ ys) ∧ Below base W w' := by
  obtain ⟨i0, hi, hz0, hz1, hz2⟩ := info_of info_sp
  have hl := World.ownsRow.lt hown
  obtain ⟨A', cap', he, m1, m2, hc⟩ := hr
  injection he with e1 e2 e3
  subst e1 e2 e3
  cases A with
  | none => exact absurd rfl hA
  | some a =>
    have hlf : (ys.flatMap spCs).length = ys.length * 2 := flat_len (f := spCs) (s := 2) (fun _ => rfl) ys
    obtain ⟨v', w', hr, h2, h3, _⟩ := run_append_own_wide (P := Tryd.prog) W base 34 ty 38 i0 (.agg #[.int .i64 0, .int .i64 0]) 2 16 Tryd.underlying34 hi hz0 hz1 hz2 rfl (by decide) v l.length (l.flatMap spCs) hown
      a ys.length cap (ys.flatMap spCs) hlf (fun j u hu => by
        have hj := (List.getElem?_eq_some_iff.1 hu).1
        rw [hlf] at hj
        obtain ⟨g, o, ha, _, hcell⟩ := hc (by omega)
        injection ha with ha
        subst ha
        have hx := List.getElem?_eq_getElem (show j / 2 < ys.length by omega)
        have hm : j % 2 < (spCs ys[j / 2]).length := by show j % 2 < 2; omega
        have hf := flat_at (l := ys) (f := spCs) (s := 2) (fun _ => rfl) hx (List.getElem?_eq_getElem hm)
        have e : j / 2 * 2 + j % 2 = j := by omega
        rw [e, hu] at hf
        have := hcell (j / 2) _ hx (j % 2) _ ((List.getElem?_eq_getElem hm).trans hf.symm)
        rw [Addr.add_lit]
        rw [Nat.add_assoc, e] at this
        exact this) (fun u hu => by
        rw [List.mem_flatMap] at hu
        obtain ⟨x, _, hx⟩ := hu
        simp only [List.mem_cons, List.not_mem_nil, or_false] at hx
        rcases hx with rfl | rfl <;> rfl) (by unfold maxLen; omega) hlen hbase
    refine ⟨v', w', hr, ?_, (Below.refl base W).grown h3 hbase (fun k hk => (hl k hk).1)⟩
    unfold TOwn
    rw [List.length_append, List.flatMap_append]
    exact h2
end Go.Proofs.YtfgangkpebkicaaDoor

/-
  Plain mathematics: the calls of a history: each ends behind its begin; one's own stand one ahead of the next.
-/
namespace Go.Proofs.YtfgangkpebkicaaDoor
set_option maxRecDepth 20000
/-- Calls of a history: each ends behind its begin; one's own stand one ahead of the next. -/
structure Orderly (n : Nat) (cs : List Cl) : Prop where
  tidy : Tidy n cs
  ends : ∀ c ∈ cs, c.til = -1 ∨ c.frm < c.til
  own : ∀ (i j : Nat) (c d : Cl), i < j → cs[i]? = some c → cs[j]? = some d → c.who = d.who → c.til ≠ -1 ∧ c.til < d.frm
theorem step_orderly {ts : List Int} {n : Nat} {cs cs' : List Cl} {x : Ev} (h : Orderly n cs) (hs : step ts n cs x = .inr cs') : Orderly (n + 1) cs' := by
  refine ⟨step_tidy h.tidy hs, ?_, ?_⟩
  · unfold step respS invS at hs
    repeat' split at hs
    all_goals (try cases hs)
    · obtain ⟨e, e1, _, _, e4⟩ := openOf_at (cs := cs) (who := x.who) (by omega)
      have hg : cs.getD (openOf cs x.who).toNat default = e := by rw [List.getD_eq_getElem?_getD, e1]; rfl
      intro c hc
      rcases List.mem_or_eq_of_mem_set hc with hc | rfl
      · exact h.ends c hc
      · rw [hg]
        right
        show e.frm < (n : Int)
        exact (h.tidy e (List.mem_of_getElem? e1)).2.1
    · intro c hc
      rcases List.mem_append.1 hc with hc | hc
      · exact h.ends c hc
      · rw [List.mem_singleton] at hc
        subst hc
        exact .inl rfl
  · unfold step respS invS at hs
    repeat' split at hs
    all_goals (try cases hs)
    · obtain ⟨e, e1, _, e3, e4⟩ := openOf_at (cs := cs) (who := x.who) (by omega)
      have hg : cs.getD (openOf cs x.who).toNat default = e := by rw [List.getD_eq_getElem?_getD, e1]; rfl
      rw [hg]
      intro i j c d hij hc hd hw
      rw [List.getElem?_set] at hc hd
      split at hc
      · rename_i hi
        subst hi
        injection hc with hc
        subst hc
        rw [if_neg (by omega)] at hd
        exact absurd e3 (h.own _ j e d hij e1 hd hw).1
      · split at hd
        · rename_i hj
          subst hj
          injection hd with hd
          subst hd
          exact h.own i _ c e hij hc e1 hw
        · exact h.own i j c d hij hc hd hw
    · intro i j c d hij hc hd hw
      have hjl := (List.getElem?_eq_some_iff.1 hd).1
      rw [List.length_append] at hjl
      simp only [List.length_cons, List.length_nil] at hjl
      rw [List.getElem?_append, if_pos (by omega)] at hc
      rw [List.getElem?_append] at hd
      split at hd
      · exact h.own i j c d hij hc hd hw
      · have : j - cs.length = 0 := by omega
        rw [this] at hd
        simp at hd
        subst hd
        have h1 := openOf_none (cs := cs) (who := x.who) (by omega) hc hw
        exact ⟨h1, (h.tidy c (List.mem_of_getElem? hc)).1⟩
theorem run_orderly {ts : List Int} : ∀ (l : List Ev) (n : Nat) (cs : List Cl), Orderly n cs → (run ts n cs l).2.2 = 0 → Orderly (n + l.length) (run ts n cs l).1
  | [], n, cs, h, _ => by simpa [run] using h
  | x :: r, n, cs, h, h0 => by
    rw [run] at h0 ⊢
    cases hs : step ts n cs x with
    | inl e => rw [hs] at h0; exact absurd h0 (step_err hs)
    | inr cs' =>
      rw [hs] at h0
      simp only at h0 ⊢
      have := run_orderly r (n + 1) cs' (step_orderly h hs) h0
      rwa [show n + 1 + r.length = n + (x :: r).length by simp only [List.length_cons]; omega] at this
theorem calls_orderly {ts : List Int} {l : List Ev} (h : (callsOf ts l).2.2 = 0) : Orderly l.length (callsOf ts l).1 ∧ l.length ≤ 200 := by
  unfold callsOf at h ⊢
  cases hb : typesB ts
  · rw [hb, if_pos rfl] at h; cases h
  · rw [hb, if_neg (by decide)] at h
    rw [if_neg (by decide)]
    split at h
    · cases h
    · rename_i hl
      rw [if_neg hl]
      have := run_orderly (ts := ts) l 0 [] ⟨fun c hc => by simp at hc, fun c hc => by simp at hc, fun i j c d _ hc => by simp at hc⟩ h
      rw [Nat.zero_add] at this
      exact ⟨this, by omega⟩
end Go.Proofs.YtfgangkpebkicaaDoor
