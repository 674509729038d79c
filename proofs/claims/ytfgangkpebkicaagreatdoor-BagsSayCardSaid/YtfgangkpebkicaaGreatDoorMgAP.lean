/-
  Joined by a program out of: LinFind, LinRight, LinFound, FrontPure, Orderly.
-/
import Derived.Test.YtfgangkpebkicaaGreatDoorMgAN
import Derived.Test.YtfgangkpebkicaaGreatDoorMgAO
import Derived.Carry
import Derived.Deep.CutRange
import Derived.Test.YtfgangkpebkicaaGreatDoorMgAA

/-
  Contract of search.Find.
-/
namespace Go.Proofs.YtfgangkpebkicaaGreatDoor
open Go.RowKit Go.Maps
set_option maxRecDepth 20000
variable {Rl : Nat → Nat → Bool}
theorem step_thing {ts : List Int} {n : Nat} {cs cs' : List Cl} {x : Ev} (h : step ts n cs x = .inr cs') (hc : ∀ c, c ∈ cs → 0 ≤ c.thing ∧ c.thing < ts.length) : ∀ c, c ∈ cs' → 0 ≤ c.thing ∧ c.thing < ts.length := by
  unfold step at h
  split at h
  · cases h
  · rename_i h1
    have hx : 0 ≤ x.thing ∧ x.thing < ts.length := by
      apply Classical.byContradiction
      intro h2
      exact h1 (.inr h2)
    split at h
    · unfold respS at h
      split at h
      · cases h
      · split at h
        · cases h
        · rename_i h2 h3
          injection h with h
          subst h
          intro c hcm
          rcases List.mem_or_eq_of_mem_set hcm with h4 | h4
          · exact hc c h4
          · subst h4
            have h5 : (cs.getD (openOf cs x.who).toNat default).thing = x.thing := by
              apply Classical.byContradiction
              intro h6
              exact h3 (.inl h6)
            show 0 ≤ (cs.getD (openOf cs x.who).toNat default).thing ∧ _
            rw [h5]
            exact hx
    · unfold invS at h
      split at h
      · cases h
      · split at h
        · cases h
        · injection h with h
          subst h
          intro c hcm
          rcases List.mem_append.1 hcm with h4 | h4
          · exact hc c h4
          · rw [List.mem_singleton] at h4
            subst h4
            exact hx
theorem run_thing {ts : List Int} : ∀ (l : List Ev) (n : Nat) (cs : List Cl), (∀ c, c ∈ cs → 0 ≤ c.thing ∧ c.thing < ts.length) → ∀ c, c ∈ (run ts n cs l).1 → 0 ≤ c.thing ∧ c.thing < ts.length
  | [], n, cs, h => by
    rw [run]
    exact h
  | x :: r, n, cs, h => by
    rw [run]
    split
    · intro c hc
      simp at hc
    · rename_i cs' hs
      exact run_thing r (n + 1) cs' (step_thing hs h)
theorem calls_thing {ts : List Int} {l : List Ev} : ∀ c, c ∈ (callsOf ts l).1 → 0 ≤ c.thing ∧ c.thing < ts.length := by
  unfold callsOf
  split
  · intro c hc; simp at hc
  · split
    · intro c hc; simp at hc
    · exact run_thing l 0 [] (fun c hc => by cases hc)
theorem calls_types {ts : List Int} {l : List Ev} (h : (callsOf ts l).2.2 = 0) : ts.length ≤ 4 := by
  unfold callsOf at h
  split at h
  · simp at h
  · rename_i h1
    have h2 : typesB ts = true := by simpa using h1
    unfold typesB at h2
    simp only [Bool.and_eq_true, decide_eq_true_eq] at h2
    exact h2.1.2
theorem left_start (n : Nat) (ts : List Int) : leftN n (startP ts) = n := by
  unfold leftN startP
  simp
theorem start_ok {ts : List Int} (h : ts.length ≤ 4) : PtOk (startP ts) := by
  have hb : ∀ t : Int, (beginL t).length ≤ 50 ∧ ∀ x, x ∈ beginL t → -1000000 ≤ x ∧ x ≤ 1000000 := fun t => by
    unfold beginL
    split
    · exact ⟨by simp, fun x hx => by rw [List.mem_singleton] at hx; subst hx; omega⟩
    · exact ⟨by simp, fun x hx => by cases hx⟩
  refine ⟨by show 0 < 512; decide, fun i hi => ?_, fun i hi => ?_⟩
  · show (if i < ts.length then _ else _ : List Int).length ≤ 50 ∧ ∀ x, x ∈ (if i < ts.length then _ else _ : List Int) → _
    split
    · exact hb _
    · exact ⟨by simp, fun x hx => by cases hx⟩
  · show (if i < ts.length then _ else _ : List Int) = []
    rw [if_neg (by omega)]
/-- The least order of all. -/
def foundO (Rl : Nat → Nat → Bool) (ts : List Int) (cs : List Cl) : Option (List (Nat × Int)) := findO Rl ts cs cs.length (startP ts)
def FindPost (Rl : Nat → Nat → Bool) (w : World) (ts : List Int) (o : List Cl × Nat × Int) (e : Ending) (w' : World) : Prop :=
  Below w.heap.size w w' ∧ ((searchE o ≠ 0 ∧ e = .returned (.tuple #[.slice none 0 0, .bool false, .int .i64 (searchE o)])) ∨
    (searchE o = 0 ∧ ((foundO Rl ts o.1 = none ∧ e = .returned (.tuple #[.slice none 0 0, .bool false, .int .i64 0])) ∨
      ∃ S v, foundO Rl ts o.1 = some S ∧ e = .returned (.tuple #[v, .bool true, .int .i64 0]) ∧ SOwn w' w.heap.size v S)))
theorem SOwn.base {w : World} {B B' : Nat} {v : Value} {l : List (Nat × Int)} (h : SOwn w B v l) (hB : B' ≤ B) : SOwn w B' v l :=
  ⟨h.1, h.2.imp (fun h => h) fun ⟨g, cap, cur, h1, h2, h3⟩ => ⟨g, cap, cur, h1, Nat.le_trans hB h2, h3⟩⟩
set_option maxHeartbeats 8000000 in
theorem findIn_any {tv lv : Value} {ts : List Int} {l : List Ev} {w : World} {N : Int} {r : Nat → Nat} (ht : NRd w w.heap.size tv ts) (hl : ERd w w.heap.size lv l) (hp : Pow10 w.heap.size w) (hr : ∀ i, r i < 65536) (hrp : searchE (callsOf ts l) = 0 → ∀ i, i < (callsOf ts l).1.length → r i = relP Rl (callsOf ts l).1.length i) :
    Calls Tryz.prog 46 #[tv, lv, relV N r] w (FindPost Rl w ts (callsOf ts l)) := by
  have hb0 : Below w.heap.size w (w.alloc (.cells (relCs N r) 43)) := (Below.refl _ _).alloc (Nat.le_refl _) _
  have hop := open_any (N := N) ((ht.below hb0).mono hb0.size) ((hl.below hb0).mono hb0.size) hr hrp
  have hrl : RelB (w.alloc (.cells (relCs N r) 43)) w.heap.size N r := Lies.new _ _ _
  have c0 := hrl.size
  obtain ⟨c1, c2, c3, c4, c5, c6, c7, c8, c9, c10, c11, c12⟩ := hrl.rows
  have HB0 := Lib.hid hb0
  clear hrp hr hb0 hrl
  have hth := @calls_thing ts l
  have hty := @calls_types ts l
  generalize callsOf ts l = o at hop hth hty ⊢
  obtain ⟨At, capt, rfl, -, -⟩ := ht.is
  have HT := Lib.hid (And.intro ht (And.intro hp (And.intro hth hty)))
  have HOP := Lib.hid hop
  obtain ⟨tl, htl⟩ : ∃ tl, tl = ts.length := ⟨_, rfl⟩
  rw [← htl] at HOP HT ⊢
  have HTL := Lib.hid htl
  clear ht hl hp hop hth hty htl
  go_enter Tryz.func46, Tryz.ntmps46
  go_wp2_with fail
  refine HOP.out.mono ?_
  rintro e w1 ⟨hb1', hcs⟩
  have hb1 := HB0.out.trans (hb1'.mono HB0.out.size)
  clear hb1' c0 c1 c2 c3 c4 c5 c6 c7 c8 c9 c10 c11 c12
  rcases hcs with ⟨hE, rfl⟩ | ⟨hE, cv, rfl, hc⟩
  · have hne : (searchE o != 0) = true := by rw [bne_iff_ne]; exact hE
    have HB := Lib.hid (And.intro hb1 hE)
    clear hb1 hE HOP
    generalize hEE : searchE o = E at hne HB ⊢
    have HEE := Lib.hid hEE
    clear hEE
    go_wp2_with fail
    go_ret3
    exact ⟨HB.out.1.alloc HB.out.1.size _, .inl ⟨by rw [HEE.out]; exact HB.out.2, by rw [HEE.out]; rfl⟩⟩
  · obtain ⟨Ac, capc, rfl, -, -⟩ := hc.is
    have HC := Lib.hid (And.intro hb1 (And.intro hE hc))
    clear hb1 hE hc HOP
    have hmm := @run_makeMap Tryz.prog
    have hfew : o.1.length ≤ 9 ∧ o.2.2 = 0 := by
      have h1 := HC.out.2.1
      unfold searchE at h1
      split at h1
      · rename_i h2; exact absurd h1 h2
      · rename_i h2
        split at h1
        · cases h1
        · exact ⟨by omega, by simpa using h2⟩
    have hts : ts.length ≤ 4 := by rw [← HTL.out]; exact HT.out.2.2.2 hfew.2
    have hbW : Below w1.heap.size w1 (((w1.alloc (.cells (srCs (.slice At tl capt) (.slice Ac o.1.length capc) (befP Rl o.1) (ansP o.1)) 109)).alloc (.map #[] 0)).alloc (.cells (quCs (.slice At tl capt) (.slice Ac o.1.length capc) (befP Rl o.1) (ansP o.1) (.slice none 0 0) (w1.heap.size + 1)) 114)) := ((((Below.refl _ _).alloc (Nat.le_refl _) _).alloc (by simp) _).alloc (by simp; omega) _)
    have hszW : (((w1.alloc (.cells (srCs (.slice At tl capt) (.slice Ac o.1.length capc) (befP Rl o.1) (ansP o.1)) 109)).alloc (.map #[] 0)).alloc (.cells (quCs (.slice At tl capt) (.slice Ac o.1.length capc) (befP Rl o.1) (ansP o.1) (.slice none 0 0) (w1.heap.size + 1)) 114)).heap.size = w1.heap.size + 1 + 1 + 1 := by simp only [World.size_alloc]
    have hrt : NRd w1 w1.heap.size (.slice At tl capt) ts := (HT.out.1.below HC.out.1).mono HC.out.1.size
    have hpw : Pow10 w1.heap.size w1 := (HT.out.2.1.on HC.out.1).mono HC.out.1.size
    have hrb : SrB (((w1.alloc (.cells (srCs (.slice At tl capt) (.slice Ac o.1.length capc) (befP Rl o.1) (ansP o.1)) 109)).alloc (.map #[] 0)).alloc (.cells (quCs (.slice At tl capt) (.slice Ac o.1.length capc) (befP Rl o.1) (ansP o.1) (.slice none 0 0) (w1.heap.size + 1)) 114)) w1.heap.size (.slice At tl capt) (.slice Ac o.1.length capc) (befP Rl o.1) (ansP o.1) := Lies.alloc (Lies.alloc (Lies.new _ _ _) _) _
    have hR : RecAt Rl (((w1.alloc (.cells (srCs (.slice At tl capt) (.slice Ac o.1.length capc) (befP Rl o.1) (ansP o.1)) 109)).alloc (.map #[] 0)).alloc (.cells (quCs (.slice At tl capt) (.slice Ac o.1.length capc) (befP Rl o.1) (ansP o.1) (.slice none 0 0) (w1.heap.size + 1)) 114)) w1.heap.size (.slice At tl capt) (.slice Ac o.1.length capc) ts o.1 :=
      ⟨Lies.cell hrb 0, Lies.cell hrb 1, fun j hj => hrb.row hj, hrb.ans, (hrt.below hbW).mono hbW.size, (HC.out.2.2.below hbW).mono hbW.size, Lies.lt hrb⟩
    have hq0 : QSt Rl w1.heap.size (.slice At tl capt) (.slice Ac o.1.length capc) ts o.1 (w1.heap.size + 1 + 1) (w1.heap.size + 1) (.slice none 0 0) [] 0 (fun _ => false) (((w1.alloc (.cells (srCs (.slice At tl capt) (.slice Ac o.1.length capc) (befP Rl o.1) (ansP o.1)) 109)).alloc (.map #[] 0)).alloc (.cells (quCs (.slice At tl capt) (.slice Ac o.1.length capc) (befP Rl o.1) (ansP o.1) (.slice none 0 0) (w1.heap.size + 1)) 114)) := by
      have h2 := Lies.new ((w1.alloc (.cells (srCs (.slice At tl capt) (.slice Ac o.1.length capc) (befP Rl o.1) (ansP o.1)) 109)).alloc (.map #[] 0)) 114 (quCs (.slice At tl capt) (.slice Ac o.1.length capc) (befP Rl o.1) (ansP o.1) (.slice none 0 0) (w1.heap.size + 1))
      rw [World.size_alloc, World.size_alloc] at h2
      have h3 := FMap.made (w1.alloc (.cells (srCs (.slice At tl capt) (.slice Ac o.1.length capc) (befP Rl o.1) (ansP o.1)) 109))
      rw [World.size_alloc] at h3
      exact ⟨h2, World.ownsRow_nil _ _ _ _, h3.keep (Below.heap_alloc _ _ _ h3.lt), hrt.below hbW, HC.out.2.2.below hbW, hpw.on hbW, by omega, by omega, by omega, (by intro h; cases h), (by intro h; cases h)⟩
    have HR := Lib.hid (And.intro hR (And.intro hq0 (And.intro hbW hszW)))
    have HF := Lib.hid (And.intro hfew.1 hts)
    clear hfew hts hbW hszW hrt hpw hrb hR hq0
    go_wp2_with fail
    clear hmm
    change Calls _ _ _ (((w1.alloc (.cells (srCs (.slice At tl capt) (.slice Ac o.1.length capc) (befP Rl o.1) (ansP o.1)) 109)).alloc (.map #[] 0)).alloc (.cells (quCs (.slice At tl capt) (.slice Ac o.1.length capc) (befP Rl o.1) (ansP o.1) (.slice none 0 0) (w1.heap.size + 1)) 114)) _
    generalize (((w1.alloc (.cells (srCs (.slice At tl capt) (.slice Ac o.1.length capc) (befP Rl o.1) (ansP o.1)) 109)).alloc (.map #[] 0)).alloc (.cells (quCs (.slice At tl capt) (.slice Ac o.1.length capc) (befP Rl o.1) (ansP o.1) (.slice none 0 0) (w1.heap.size + 1)) 114)) = W at HR ⊢
    refine (lstart_any HR.out.1 HF.out.2).mono ?_
    rintro e w2 ⟨pv, rfl, ⟨s, rfl, hs⟩, hb2⟩
    have HQ := Lib.hid (HR.out.2.1.next hb2)
    have HS : Hid (∀ i, i < 4 → NAw (Aw (w1.heap.size + 1 + 1) (w1.heap.size + 1) (.slice none 0 0)) w2 (s i) ((startP ts).st i)) := Lib.hid fun i hi => (hs i hi).imp (fun g _ hg => by have := HR.out.2.2.2; exact ⟨by omega, by omega, (by intro h; cases h)⟩)
    have HB2 := Lib.hid (HR.out.2.2.1.trans (hb2.mono HR.out.2.2.1.size))
    clear hs hb2
    go_wp2_with fail
    refine (ext_any (B0 := w1.heap.size) (Rl := Rl) (tv := .slice At tl capt) (ts := ts) (cs := o.1) (Q := w1.heap.size + 1 + 1) (M := w1.heap.size + 1) Ac capc HF.out.2 HF.out.1 (by rw [← HTL.out]; exact HT.out.2.2.1) o.1.length (startP ts) w2 (.slice none 0 0) [] 0 (fun _ => false) s (left_start _ _) (start_ok HF.out.2) HQ.out (fun bs h => by cases h) (by have := HF.out.1; simp; omega) (by
      have h1 : 10 ^ (o.1.length + 1) ≤ 10 ^ 10 := Nat.pow_le_pow_right (by decide) (by have := HF.out.1; omega)
      have h2 : (10 : Nat) ^ 10 = 10000000000 := by decide
      omega) HS.out).mono ?_
    rintro e w3 ⟨v', N', F', rfl, hk, hq3, -, -⟩
    have hfo : findO Rl ts o.1 o.1.length (startP ts) = foundO Rl ts o.1 := rfl
    rw [hfo] at hq3 ⊢
    have hB3 : Below w.heap.size w w3 := HC.out.1.trans ((HB2.out.trans (hk.below (B := w1.heap.size) (by have := HB2.out.size; omega) (by omega) (by omega) (fun g h => by cases h))).mono HC.out.1.size)
    have c12 := hq3.steps
    have HZ := Lib.hid (And.intro hB3 (And.intro hq3.own HC.out.1.size))
    clear hk hq3 hB3 HQ HS HB2 hfo
    generalize hoo : foundO Rl ts o.1 = oo at HZ ⊢
    have HOO := Lib.hid hoo
    clear hoo
    cases oo with
    | none =>
      go_wp2_with fail
      go_ret3
      exact ⟨HZ.out.1, .inr ⟨HC.out.2.1, .inl ⟨HOO.out, rfl⟩⟩⟩
    | some S =>
      go_wp2_with fail
      go_ret3
      exact ⟨HZ.out.1, .inr ⟨HC.out.2.1, .inr ⟨S, v', HOO.out, rfl, SOwn.base (by simpa using HZ.out.2.1) HZ.out.2.2⟩⟩⟩
set_option maxHeartbeats 4000000 in
theorem find_any {tv lv : Value} {ts : List Int} {l : List Ev} {w : World} (ht : NRd w w.heap.size tv ts) (hl : ERd w w.heap.size lv l) (hp : Pow10 w.heap.size w) :
    Calls Tryz.prog 38 #[tv, lv] w (FindPost (aheadB (callsOf ts l).1) w ts (callsOf ts l)) := by
  have HTM := Lib.hid (realTime_any ht hl)
  have HT := Lib.hid (And.intro ht (And.intro hl hp))
  obtain ⟨At, capt, rfl, -, -⟩ := ht.is
  obtain ⟨Al, capl, rfl, -, -⟩ := hl.is
  clear ht hl hp
  obtain ⟨tl, htl⟩ : ∃ tl, tl = ts.length := ⟨_, rfl⟩
  obtain ⟨L, hL⟩ : ∃ L, L = l.length := ⟨_, rfl⟩
  rw [← htl, ← hL] at HTM HT
  rw [← htl, ← hL]
  clear htl hL
  go_enter Tryz.func38, Tryz.ntmps38
  go_wp2_with fail
  refine HTM.out.mono ?_
  rintro e w1 ⟨hb1, N, r, rfl, hr, hrr⟩
  have hal : Below w1.heap.size w1 (w1.alloc (.cells (relCs N r) 43)) := (Below.refl _ _).alloc (Nat.le_refl _) _
  have hbW : Below w.heap.size w (w1.alloc (.cells (relCs N r) 43)) := hb1.trans (hal.mono hb1.size)
  have hrl : RelB (w1.alloc (.cells (relCs N r) 43)) w1.heap.size N r := Lies.new _ _ _
  have HB := Lib.hid hbW
  by_cases hE : searchE (callsOf ts l) = 0
  · have c0 := hrl.size
    obtain ⟨c1, c2, c3, c4, c5, c6, c7, c8, c9, c10, c11, c12⟩ := hrl.rows
    have hF := findIn_any (Rl := aheadB (callsOf ts l).1) (N := N) (r := r) ((HT.out.1.below hbW).mono hbW.size) ((HT.out.2.1.below hbW).mono hbW.size) ((HT.out.2.2.on hbW).mono hbW.size) hr (fun h i _ => by rw [hrr h])
    have HF := Lib.hid hF
    have HE := Lib.hid hE
    rw [hE]
    clear hb1 hr hrr hal hbW hrl hE hF HTM
    go_wp2_with fail
    refine HF.out.mono ?_
    rintro e w2 ⟨hb2, hcs⟩
    have H2 := Lib.hid (HB.out.trans (hb2.mono HB.out.size))
    have HS := Lib.hid HB.out.size
    clear hb2 c0 c1 c2 c3 c4 c5 c6 c7 c8 c9 c10 c11 c12
    rcases hcs with ⟨h1, rfl⟩ | ⟨h1, ⟨h2, rfl⟩ | ⟨S, v, h2, rfl, h3⟩⟩
    · exact absurd HE.out h1
    · have HX := Lib.hid (And.intro h1 h2)
      clear h1 h2
      go_wp2_with fail
      go_ret3
      exact ⟨H2.out, .inr ⟨HX.out.1, .inl ⟨HX.out.2, rfl⟩⟩⟩
    · have HX := Lib.hid (And.intro h1 (And.intro h2 h3))
      clear h1 h2 h3
      go_wp2_with fail
      go_ret3
      exact ⟨H2.out, .inr ⟨HX.out.1, .inr ⟨S, v, HX.out.2.1, rfl, SOwn.base HX.out.2.2 HS.out⟩⟩⟩
  · have hz : (searchE (callsOf ts l) != 0) = true := by rw [bne_iff_ne]; exact hE
    have HE := Lib.hid hE
    clear hb1 hr hrr hal hbW hrl hE HTM
    generalize hEE : searchE (callsOf ts l) = E at hz HE ⊢
    have HEE := Lib.hid hEE
    clear hEE
    go_wp2_with fail
    go_ret3
    exact ⟨HB.out, .inl ⟨by rw [HEE.out]; exact HE.out, by rw [HEE.out]; rfl⟩⟩
end Go.Proofs.YtfgangkpebkicaaGreatDoor

/-
  Contract of search.Right.
-/
namespace Go.Proofs.YtfgangkpebkicaaGreatDoor
open Go.RowKit Go.Maps
set_option maxRecDepth 20000
variable {Rl : Nat → Nat → Bool}
/-- Steps as they are handed in. -/
abbrev spCs (x : Int × Int) : List Value := [.int .i64 x.1, .int .i64 x.2]
abbrev SRd (w : World) (B : Nat) (v : Value) (l : List (Int × Int)) : Prop := LRd 2 spCs w B v l
/-- Is it right from a point on? -/
def rightO (Rl : Nat → Nat → Bool) (ts : List Int) (cs : List Cl) : Pt → List (Int × Int) → Bool
  | p, [] => fullB cs p
  | p, x :: r => if nextB Rl ts cs p x.1 = true ∧ (thingO ts cs p x.1.toNat).2.1 = x.2 then rightO Rl ts cs (nextP ts cs p x.1.toNat) r else false
structure RtR (w0 : World) (P : Nat) (p : Pt) (s : Nat → Value) (X : World) : Prop where
  below : Below w0.heap.size w0 X
  pb : PtB X P p.done s
  st : ∀ i, i < 4 → NAw (fun g => g ≠ P) X (s i) (p.st i)
  bp : w0.heap.size ≤ P
theorem RtR.next {w0 X X' : World} {P : Nat} {p : Pt} {s : Nat → Value} (h : RtR w0 P p s X) (hb : Below X.heap.size X X') : RtR w0 P p s X' :=
  ⟨h.below.trans (hb.mono h.below.size), Lies.below h.pb hb (Lies.lt h.pb), fun i hi => (h.st i hi).next hb, h.bp⟩
end Go.Proofs.YtfgangkpebkicaaGreatDoor

/-
  Plain: what is found is right; where any order is right one is found, and it is no greater.
-/
namespace Go.Proofs.YtfgangkpebkicaaGreatDoor
open Go.RowKit Go.Maps
set_option maxRecDepth 20000
variable {Rl : Nat → Nat → Bool}
/-- Steps found, as they are handed in. -/
def asSteps (S : List (Nat × Int)) : List (Int × Int) := S.map fun x => ((x.1 : Int), x.2)
/-- The order of lists by their calls: the one that ends is the lesser. -/
def lexL : List (Int × Int) → List (Int × Int) → Prop
  | [], _ => True
  | _ :: _, [] => False
  | x :: a, y :: b => x.1 < y.1 ∨ x.1 = y.1 ∧ lexL a b
section
variable {ts : List Int} {cs : List Cl}
theorem next_may {p : Pt} {k : Nat} (h : k < cs.length) : nextB Rl ts cs p (k : Int) = mayB Rl ts cs p k := by
  unfold nextB
  rw [decide_eq_true ⟨by omega, by omega⟩]
  simp
theorem try_some {go : Pt → Option (List (Nat × Int))} {p : Pt} : ∀ m k S, tryO Rl go ts cs p m k = some S → ∃ j l, k ≤ j ∧ j < k + m ∧ mayB Rl ts cs p j = true ∧ go (nextP ts cs p j) = some l ∧ S = (j, (thingO ts cs p j).2.1) :: l
  | 0, k, S, h => by rw [tryO] at h; cases h
  | m + 1, k, S, h => by
    rw [tryO] at h
    split at h
    · rename_i hm
      split at h
      · rename_i l hl
        injection h with h
        exact ⟨k, l, Nat.le_refl _, by omega, hm, hl, h.symm⟩
      · obtain ⟨j, l, h1, h2, h3⟩ := try_some m (k + 1) S h
        exact ⟨j, l, by omega, by omega, h3⟩
    · obtain ⟨j, l, h1, h2, h3⟩ := try_some m (k + 1) S h
      exact ⟨j, l, by omega, by omega, h3⟩
theorem try_first {go : Pt → Option (List (Nat × Int))} {p : Pt} {k : Nat} {S : List (Nat × Int)} (hm : mayB Rl ts cs p k = true) (hg : go (nextP ts cs p k) = some S) : ∀ m k0, k0 ≤ k → k < k0 + m → ∃ j l, tryO Rl go ts cs p m k0 = some ((j, (thingO ts cs p j).2.1) :: l) ∧ (j < k ∨ j = k ∧ l = S)
  | 0, k0, h1, h2 => by omega
  | m + 1, k0, h1, h2 => by
    rw [tryO]
    by_cases e : k0 = k
    · subst e
      rw [if_pos hm, hg]
      exact ⟨k0, S, rfl, .inr ⟨rfl, rfl⟩⟩
    · split
      · split
        · rename_i l hl
          exact ⟨k0, l, rfl, .inl (by omega)⟩
        · exact try_first hm hg m (k0 + 1) (by omega) (by omega)
      · exact try_first hm hg m (k0 + 1) (by omega) (by omega)
/-- What is found is right. -/
theorem find_right : ∀ f p S, findO Rl ts cs f p = some S → rightO Rl ts cs p (asSteps S) = true
  | 0, p, S, h => by
    rw [findO] at h
    split at h
    · rename_i hf
      injection h with h
      subst h
      show rightO Rl ts cs p [] = true
      rw [rightO]; exact hf
    · cases h
  | f + 1, p, S, h => by
    rw [findO] at h
    split at h
    · rename_i hf
      injection h with h
      subst h
      show rightO Rl ts cs p [] = true
      rw [rightO]; exact hf
    · obtain ⟨j, l, _, h2, h3, h4, rfl⟩ := try_some _ _ _ h
      have ih := find_right f _ _ h4
      show rightO Rl ts cs p (((j : Int), _) :: asSteps l) = true
      rw [rightO, if_pos ⟨by rw [next_may (by omega)]; exact h3, by rw [Int.toNat_natCast]⟩, Int.toNat_natCast]
      exact ih
/-- Where an order is right one is found, and it is no greater. -/
theorem right_find : ∀ (ws : List (Int × Int)) (p : Pt) (f : Nat), rightO Rl ts cs p ws = true → leftN cs.length p ≤ f → ∃ S, findO Rl ts cs f p = some S ∧ lexL (asSteps S) ws
  | [], p, f, h, _ => by
    rw [rightO] at h
    exact ⟨[], find_full h f, trivial⟩
  | x :: r, p, f, h, hf => by
    by_cases hfu : fullB cs p = true
    · exact ⟨[], find_full hfu f, trivial⟩
    · rw [rightO] at h
      split at h
      · rename_i hx
        obtain ⟨hx1, hx2⟩ := hx
        have hn := hx1
        unfold nextB at hn
        rw [Bool.and_eq_true, decide_eq_true_iff] at hn
        obtain ⟨⟨h0, h1⟩, hm⟩ := hn
        obtain ⟨k, hk⟩ : ∃ k : Nat, x.1 = (k : Int) := ⟨x.1.toNat, by omega⟩
        rw [hk, Int.toNat_natCast] at hm hx2 h
        have hkn : k < cs.length := by omega
        have hl := left_next (ts := ts) (cs := cs) (p := p) hkn (may_done hm)
        obtain ⟨f', rfl⟩ : ∃ f', f = f' + 1 := ⟨f - 1, by omega⟩
        obtain ⟨S, hS, hlex⟩ := right_find r _ f' h (by omega)
        obtain ⟨j, l, h2, h3⟩ := try_first (go := findO Rl ts cs f') hm hS cs.length 0 (by omega) (by omega)
        refine ⟨_, by rw [findO, if_neg hfu]; exact h2, ?_⟩
        show ((j : Int) < x.1 ∨ (j : Int) = x.1 ∧ lexL (asSteps l) r)
        rcases h3 with h3 | ⟨rfl, rfl⟩
        · exact .inl (by omega)
        · exact .inr ⟨hk.symm, hlex⟩
      · cases h
/-- One is found just if one is right. -/
theorem found_iff {ws : List (Int × Int)} (h : rightO Rl ts cs (startP ts) ws = true) : ∃ S, foundO Rl ts cs = some S ∧ lexL (asSteps S) ws :=
  right_find ws (startP ts) cs.length h (by rw [left_start]; exact Nat.le_refl _)
theorem found_right {S : List (Nat × Int)} (h : foundO Rl ts cs = some S) : rightO Rl ts cs (startP ts) (asSteps S) = true := find_right _ _ _ h
end
end Go.Proofs.YtfgangkpebkicaaGreatDoor

/-
  Plain mathematics for the law HistoryFront: a begin of a history.
-/
namespace Go.Proofs.YtfgangkpebkicaaGreatDoor
set_option maxRecDepth 20000
/-- Each call begins and is answered ahead of n; what is not answered has no result. -/
def Tidy (n : Nat) (cs : List Cl) : Prop := ∀ c ∈ cs, c.til < n ∧ c.frm < n ∧ 0 ≤ c.frm ∧ (c.til = -1 → c.res = 0)
theorem step_tidy {ts : List Int} {n : Nat} {cs cs' : List Cl} {x : Ev} (h : Tidy n cs) (hs : step ts n cs x = .inr cs') : Tidy (n + 1) cs' := by
  unfold step respS invS at hs
  repeat' split at hs
  all_goals (try cases hs)
  · rename_i h1 h2 h3 h4
    intro c hc
    rcases List.mem_or_eq_of_mem_set hc with hc | rfl
    · obtain ⟨a, b, d, e⟩ := h c hc
      exact ⟨by omega, by omega, d, e⟩
    · obtain ⟨d, e1, _, _, e4⟩ := openOf_at (cs := cs) (who := x.who) (by omega)
      have : cs.getD (openOf cs x.who).toNat default = d := by rw [List.getD_eq_getElem?_getD, e1]; rfl
      simp only [this]
      obtain ⟨a, b, c', e⟩ := h d (List.mem_of_getElem? e1)
      exact ⟨by omega, by omega, c', by omega⟩
  · intro c hc
    rcases List.mem_append.1 hc with hc | hc
    · obtain ⟨a, b, d, e⟩ := h c hc
      exact ⟨by omega, by omega, d, e⟩
    · rw [List.mem_singleton] at hc
      subst hc
      simp only
      exact ⟨by omega, by omega, by omega, by simp⟩
/-- What was not answered ahead of m is not answered. -/
def before_ (m : Nat) (y : Cl) : Cl := if (m : Int) ≤ y.til then { y with res := 0, til := -1 } else y
/-- The calls c go on from the calls d as they stood at m. -/
structure Grow (m : Nat) (d c : List Cl) : Prop where
  len : d.length ≤ c.length
  same : ∀ (i : Nat) (x y : Cl), d[i]? = some x → c[i]? = some y → x = before_ m y
  new : ∀ (i : Nat) (y : Cl), d.length ≤ i → c[i]? = some y → (m : Int) ≤ y.frm
theorem Grow.refl {m : Nat} {d : List Cl} (h : Tidy m d) : Grow m d d := by
  refine ⟨Nat.le_refl _, fun i x y h1 h2 => ?_, fun i y h1 h2 => ?_⟩
  · rw [h1] at h2
    injection h2 with h2
    subst h2
    have := (h x (List.mem_of_getElem? h1)).1
    unfold before_
    rw [if_neg (by omega)]
  · have := (List.getElem?_eq_some_iff.1 h2).1
    omega
theorem Grow.step {ts : List Int} {m n : Nat} {d c c' : List Cl} {x : Ev} (h : Grow m d c) (hm : m ≤ n) (ht : Tidy n c) (hs : step ts n c x = .inr c') : Grow m d c' := by
  unfold Go.Proofs.YtfgangkpebkicaaGreatDoor.step respS invS at hs
  repeat' split at hs
  all_goals (try cases hs)
  · obtain ⟨e, e1, _, e3, e4⟩ := openOf_at (cs := c) (who := x.who) (by omega)
    have hg : c.getD (openOf c x.who).toNat default = e := by rw [List.getD_eq_getElem?_getD, e1]; rfl
    rw [hg]
    refine ⟨by rw [List.length_set]; exact h.len, fun i a b h1 h2 => ?_, fun i b h1 h2 => ?_⟩
    · rw [List.getElem?_set] at h2
      split at h2
      · rename_i hi
        subst hi
        injection h2 with h2
        subst h2
        have h3 := h.same _ _ _ h1 e1
        unfold before_ at h3 ⊢
        rw [if_neg (by omega)] at h3
        rw [if_pos (by show (m : Int) ≤ (n : Int); omega)]
        have h4 := (ht e (List.mem_of_getElem? e1)).2.2.2 e3
        subst h3
        exact Cl.same rfl rfl rfl rfl h4 rfl e3
      · exact h.same i a b h1 h2
    · rw [List.getElem?_set] at h2
      split at h2
      · rename_i hi
        subst hi
        injection h2 with h2
        subst h2
        exact h.new _ e h1 e1
      · exact h.new i b h1 h2
  · refine ⟨by rw [List.length_append]; have := h.len; omega, fun i a b h1 h2 => ?_, fun i b h1 h2 => ?_⟩
    · have hi := (List.getElem?_eq_some_iff.1 h1).1
      have := h.len
      rw [List.getElem?_append, if_pos (by omega)] at h2
      exact h.same i a b h1 h2
    · rw [List.getElem?_append] at h2
      split at h2
      · exact h.new i b h1 h2
      · have hi := (List.getElem?_eq_some_iff.1 h2).1
        simp at hi
        rw [hi] at h2
        simp at h2
        subst h2
        show (m : Int) ≤ (n : Int)
        omega
theorem Grow.run {ts : List Int} {m : Nat} {d : List Cl} : ∀ (l : List Ev) (n : Nat) (c : List Cl), Grow m d c → m ≤ n → Tidy n c → (run ts n c l).2.2 = 0 → Grow m d (run ts n c l).1
  | [], _, _, h, _, _, _ => h
  | x :: r, n, c, h, hm, ht, h0 => by
    rw [Go.Proofs.YtfgangkpebkicaaGreatDoor.run] at h0 ⊢
    cases hs : Go.Proofs.YtfgangkpebkicaaGreatDoor.step ts n c x with
    | inl e => rw [hs] at h0; exact absurd h0 (step_err hs)
    | inr c' =>
      rw [hs] at h0
      simp only at h0 ⊢
      exact Grow.run r (n + 1) c' (h.step hm ht hs) (by omega) (step_tidy ht hs) h0
end Go.Proofs.YtfgangkpebkicaaGreatDoor

/-
  Plain mathematics: the calls of a history: each ends behind its begin; one's own stand one ahead of the next.
-/
namespace Go.Proofs.YtfgangkpebkicaaGreatDoor
set_option maxRecDepth 20000
/-- Calls of a history: each ends behind its begin; one's own stand one ahead of the next. -/
structure Orderly (n : Nat) (cs : List Cl) : Prop where
  tidy : Tidy n cs
  ends : ∀ c ∈ cs, c.til = -1 ∨ c.frm < c.til
  own : ∀ (i j : Nat) (c d : Cl), i < j → cs[i]? = some c → cs[j]? = some d → c.who = d.who → c.til ≠ -1 ∧ c.til < d.frm
theorem step_orderly {ts : List Int} {n : Nat} {cs cs' : List Cl} {x : Ev} (h : Orderly n cs) (hs : step ts n cs x = .inr cs') : Orderly (n + 1) cs' := by
  refine ⟨step_tidy h.tidy hs, ?_, ?_⟩
  · unfold step respS invS at hs
    repeat' split at hs
    all_goals (try cases hs)
    · obtain ⟨e, e1, _, _, e4⟩ := openOf_at (cs := cs) (who := x.who) (by omega)
      have hg : cs.getD (openOf cs x.who).toNat default = e := by rw [List.getD_eq_getElem?_getD, e1]; rfl
      intro c hc
      rcases List.mem_or_eq_of_mem_set hc with hc | rfl
      · exact h.ends c hc
      · rw [hg]
        right
        show e.frm < (n : Int)
        exact (h.tidy e (List.mem_of_getElem? e1)).2.1
    · intro c hc
      rcases List.mem_append.1 hc with hc | hc
      · exact h.ends c hc
      · rw [List.mem_singleton] at hc
        subst hc
        exact .inl rfl
  · unfold step respS invS at hs
    repeat' split at hs
    all_goals (try cases hs)
    · obtain ⟨e, e1, _, e3, e4⟩ := openOf_at (cs := cs) (who := x.who) (by omega)
      have hg : cs.getD (openOf cs x.who).toNat default = e := by rw [List.getD_eq_getElem?_getD, e1]; rfl
      rw [hg]
      intro i j c d hij hc hd hw
      rw [List.getElem?_set] at hc hd
      split at hc
      · rename_i hi
        subst hi
        injection hc with hc
        subst hc
        rw [if_neg (by omega)] at hd
        exact absurd e3 (h.own _ j e d hij e1 hd hw).1
      · split at hd
        · rename_i hj
          subst hj
          injection hd with hd
          subst hd
          exact h.own i _ c e hij hc e1 hw
        · exact h.own i j c d hij hc hd hw
    · intro i j c d hij hc hd hw
      have hjl := (List.getElem?_eq_some_iff.1 hd).1
      rw [List.length_append] at hjl
      simp only [List.length_cons, List.length_nil] at hjl
      rw [List.getElem?_append, if_pos (by omega)] at hc
      rw [List.getElem?_append] at hd
      split at hd
      · exact h.own i j c d hij hc hd hw
      · have : j - cs.length = 0 := by omega
        rw [this] at hd
        simp at hd
        subst hd
        have h1 := openOf_none (cs := cs) (who := x.who) (by omega) hc hw
        exact ⟨h1, (h.tidy c (List.mem_of_getElem? hc)).1⟩
theorem run_orderly {ts : List Int} : ∀ (l : List Ev) (n : Nat) (cs : List Cl), Orderly n cs → (run ts n cs l).2.2 = 0 → Orderly (n + l.length) (run ts n cs l).1
  | [], n, cs, h, _ => by simpa [run] using h
  | x :: r, n, cs, h, h0 => by
    rw [run] at h0 ⊢
    cases hs : step ts n cs x with
    | inl e => rw [hs] at h0; exact absurd h0 (step_err hs)
    | inr cs' =>
      rw [hs] at h0
      simp only at h0 ⊢
      have := run_orderly r (n + 1) cs' (step_orderly h hs) h0
      rwa [show n + 1 + r.length = n + (x :: r).length by simp only [List.length_cons]; omega] at this
theorem calls_orderly {ts : List Int} {l : List Ev} (h : (callsOf ts l).2.2 = 0) : Orderly l.length (callsOf ts l).1 ∧ l.length ≤ 200 := by
  unfold callsOf at h ⊢
  cases hb : typesB ts
  · rw [hb, if_pos rfl] at h; cases h
  · rw [hb, if_neg (by decide)] at h
    rw [if_neg (by decide)]
    split at h
    · cases h
    · rename_i hl
      rw [if_neg hl]
      have := run_orderly (ts := ts) l 0 [] ⟨fun c hc => by simp at hc, fun c hc => by simp at hc, fun i j c d _ hc => by simp at hc⟩ h
      rw [Nat.zero_add] at this
      exact ⟨this, by omega⟩
end Go.Proofs.YtfgangkpebkicaaGreatDoor
