/-
  Joined by a program out of: LinFind.
-/
import Derived.Test.YtfpnklcjkjfniaaDoorMgAQ
import Derived.Test.YtfpnklcjkjfniaaDoorMgAR
import Derived.Carry

/-
  Contract of search.Find.
-/
namespace Go.Proofs.YtfpnklcjkjfniaaDoor
open Go.RowKit Go.Maps
set_option maxRecDepth 20000

theorem step_thing {ts : List Int} {n : Nat} {cs cs' : List Cl} {x : Ev} (h : step ts n cs x = .inr cs') (hc : ∀ c, c ∈ cs → 0 ≤ c.thing ∧ c.thing < ts.length) : ∀ c, c ∈ cs' → 0 ≤ c.thing ∧ c.thing < ts.length := by
  unfold step at h
  split at h
  · cases h
  · rename_i h1
    have hx : 0 ≤ x.thing ∧ x.thing < ts.length := by
      apply Classical.byContradiction
      intro h2
      exact h1 (.inr h2)
    split at h
    · unfold respS at h
      split at h
      · cases h
      · split at h
        · cases h
        · rename_i h2 h3
          injection h with h
          subst h
          intro c hcm
          rcases List.mem_or_eq_of_mem_set hcm with h4 | h4
          · exact hc c h4
          · subst h4
            have h5 : (cs.getD (openOf cs x.who).toNat default).thing = x.thing := by
              apply Classical.byContradiction
              intro h6
              exact h3 (.inl h6)
            show 0 ≤ (cs.getD (openOf cs x.who).toNat default).thing ∧ _
            rw [h5]
            exact hx
    · unfold invS at h
      split at h
      · cases h
      · split at h
        · cases h
        · injection h with h
          subst h
          intro c hcm
          rcases List.mem_append.1 hcm with h4 | h4
          · exact hc c h4
          · rw [List.mem_singleton] at h4
            subst h4
            exact hx
theorem run_thing {ts : List Int} : ∀ (l : List Ev) (n : Nat) (cs : List Cl), (∀ c, c ∈ cs → 0 ≤ c.thing ∧ c.thing < ts.length) → ∀ c, c ∈ (run ts n cs l).1 → 0 ≤ c.thing ∧ c.thing < ts.length
  | [], n, cs, h => by
    rw [run]
    exact h
  | x :: r, n, cs, h => by
    rw [run]
    split
    · intro c hc
      simp at hc
    · rename_i cs' hs
      exact run_thing r (n + 1) cs' (step_thing hs h)
theorem calls_thing {ts : List Int} {l : List Ev} : ∀ c, c ∈ (callsOf ts l).1 → 0 ≤ c.thing ∧ c.thing < ts.length := by
  unfold callsOf
  split
  · intro c hc; simp at hc
  · split
    · intro c hc; simp at hc
    · exact run_thing l 0 [] (fun c hc => by cases hc)
theorem calls_types {ts : List Int} {l : List Ev} (h : (callsOf ts l).2.2 = 0) : ts.length ≤ 4 := by
  unfold callsOf at h
  split at h
  · simp at h
  · rename_i h1
    have h2 : typesB ts = true := by simpa using h1
    unfold typesB at h2
    simp only [Bool.and_eq_true, decide_eq_true_eq] at h2
    exact h2.1.2
theorem left_start (n : Nat) (ts : List Int) : leftN n (startP ts) = n := by
  unfold leftN startP
  simp
theorem start_ok {ts : List Int} (h : ts.length ≤ 4) : PtOk (startP ts) := by
  have hb : ∀ t : Int, (beginL t).length ≤ 50 ∧ ∀ x, x ∈ beginL t → -1000000 ≤ x ∧ x ≤ 1000000 := fun t => by
    unfold beginL
    split
    · exact ⟨by simp, fun x hx => by rw [List.mem_singleton] at hx; subst hx; omega⟩
    · exact ⟨by simp, fun x hx => by cases hx⟩
  refine ⟨by show 0 < 512; decide, fun i hi => ?_, fun i hi => ?_⟩
  · show (if i < ts.length then _ else _ : List Int).length ≤ 50 ∧ ∀ x, x ∈ (if i < ts.length then _ else _ : List Int) → _
    split
    · exact hb _
    · exact ⟨by simp, fun x hx => by cases hx⟩
  · show (if i < ts.length then _ else _ : List Int) = []
    rw [if_neg (by omega)]
/-- The least order of all. -/
def foundO (ts : List Int) (cs : List Cl) : Option (List (Nat × Int)) := findO ts cs cs.length (startP ts)
def FindPost (w : World) (ts : List Int) (o : List Cl × Nat × Int) (e : Ending) (w' : World) : Prop :=
  Below w.heap.size w w' ∧ ((searchE o ≠ 0 ∧ e = .returned (.tuple #[.slice none 0 0, .bool false, .int .i64 (searchE o)])) ∨
    (searchE o = 0 ∧ ((foundO ts o.1 = none ∧ e = .returned (.tuple #[.slice none 0 0, .bool false, .int .i64 0])) ∨
      ∃ S v, foundO ts o.1 = some S ∧ e = .returned (.tuple #[v, .bool true, .int .i64 0]) ∧ SOwn w' w.heap.size v S)))

theorem SOwn.base {w : World} {B B' : Nat} {v : Value} {l : List (Nat × Int)} (h : SOwn w B v l) (hB : B' ≤ B) : SOwn w B' v l :=
  ⟨h.1, h.2.imp (fun h => h) fun ⟨g, cap, cur, h1, h2, h3⟩ => ⟨g, cap, cur, h1, Nat.le_trans hB h2, h3⟩⟩

set_option maxHeartbeats 8000000 in
theorem find_any {tv lv : Value} {ts : List Int} {l : List Ev} {w : World} (ht : NRd w w.heap.size tv ts) (hl : ERd w w.heap.size lv l) (hp : Pow10 w.heap.size w) :
    Calls Tryd.prog 15 #[tv, lv] w (FindPost w ts (callsOf ts l)) := by
  have hop := open_any ht hl
  have hth := @calls_thing ts l
  have hty := @calls_types ts l
  generalize callsOf ts l = o at hop hth hty ⊢
  obtain ⟨At, capt, rfl, -, -⟩ := ht.is
  have HT := Lib.hid (And.intro ht (And.intro hp (And.intro hth hty)))
  have HOP := Lib.hid hop
  obtain ⟨tl, htl⟩ : ∃ tl, tl = ts.length := ⟨_, rfl⟩
  rw [← htl] at HOP HT ⊢
  have HTL := Lib.hid htl
  clear ht hl hp hop hth hty htl
  go_enter Tryd.func15, Tryd.ntmps15
  go_wp2_with fail
  refine HOP.out.mono ?_
  rintro e w1 ⟨hb1, ⟨hE, rfl⟩ | ⟨hE, cv, rfl, hc⟩⟩
  · have hne : (searchE o != 0) = true := by rw [bne_iff_ne]; exact hE
    have HB := Lib.hid (And.intro hb1 hE)
    clear hb1 hE HOP
    generalize hEE : searchE o = E at hne HB ⊢
    have HEE := Lib.hid hEE
    clear hEE
    go_wp2_with fail
    go_ret3
    exact ⟨HB.out.1.alloc HB.out.1.size _, .inl ⟨by rw [HEE.out]; exact HB.out.2, by rw [HEE.out]; rfl⟩⟩
  · obtain ⟨Ac, capc, rfl, -, -⟩ := hc.is
    have HC := Lib.hid (And.intro hb1 (And.intro hE hc))
    clear hb1 hE hc HOP
    have hmm := @run_makeMap Tryd.prog
    have hfew : o.1.length ≤ 9 ∧ o.2.2 = 0 := by
      have h1 := HC.out.2.1
      unfold searchE at h1
      split at h1
      · rename_i h2; exact absurd h1 h2
      · rename_i h2
        split at h1
        · cases h1
        · exact ⟨by omega, by simpa using h2⟩
    have hts : ts.length ≤ 4 := by rw [← HTL.out]; exact HT.out.2.2.2 hfew.2
    have hbW : Below w1.heap.size w1 (((w1.alloc (.cells (srCs (.slice At tl capt) (.slice Ac o.1.length capc) (befP o.1) (ansP o.1)) 79)).alloc (.map #[] 0)).alloc (.cells (quCs (.slice At tl capt) (.slice Ac o.1.length capc) (befP o.1) (ansP o.1) (.slice none 0 0) (w1.heap.size + 1)) 91)) := ((((Below.refl _ _).alloc (Nat.le_refl _) _).alloc (by simp) _).alloc (by simp; omega) _)
    have hszW : (((w1.alloc (.cells (srCs (.slice At tl capt) (.slice Ac o.1.length capc) (befP o.1) (ansP o.1)) 79)).alloc (.map #[] 0)).alloc (.cells (quCs (.slice At tl capt) (.slice Ac o.1.length capc) (befP o.1) (ansP o.1) (.slice none 0 0) (w1.heap.size + 1)) 91)).heap.size = w1.heap.size + 1 + 1 + 1 := by simp only [World.size_alloc]
    have hrt : NRd w1 w1.heap.size (.slice At tl capt) ts := (HT.out.1.below HC.out.1).mono HC.out.1.size
    have hpw : Pow10 w1.heap.size w1 := (HT.out.2.1.on HC.out.1).mono HC.out.1.size
    have hrb : SrB (((w1.alloc (.cells (srCs (.slice At tl capt) (.slice Ac o.1.length capc) (befP o.1) (ansP o.1)) 79)).alloc (.map #[] 0)).alloc (.cells (quCs (.slice At tl capt) (.slice Ac o.1.length capc) (befP o.1) (ansP o.1) (.slice none 0 0) (w1.heap.size + 1)) 91)) w1.heap.size (.slice At tl capt) (.slice Ac o.1.length capc) (befP o.1) (ansP o.1) := Lies.alloc (Lies.alloc (Lies.new _ _ _) _) _
    have hR : RecAt (((w1.alloc (.cells (srCs (.slice At tl capt) (.slice Ac o.1.length capc) (befP o.1) (ansP o.1)) 79)).alloc (.map #[] 0)).alloc (.cells (quCs (.slice At tl capt) (.slice Ac o.1.length capc) (befP o.1) (ansP o.1) (.slice none 0 0) (w1.heap.size + 1)) 91)) w1.heap.size (.slice At tl capt) (.slice Ac o.1.length capc) ts o.1 :=
      ⟨Lies.cell hrb 0, Lies.cell hrb 1, fun j hj => hrb.row hj, hrb.ans, (hrt.below hbW).mono hbW.size, (HC.out.2.2.below hbW).mono hbW.size, Lies.lt hrb⟩
    have hq0 : QSt w1.heap.size (.slice At tl capt) (.slice Ac o.1.length capc) ts o.1 (w1.heap.size + 1 + 1) (w1.heap.size + 1) (.slice none 0 0) [] 0 (fun _ => false) (((w1.alloc (.cells (srCs (.slice At tl capt) (.slice Ac o.1.length capc) (befP o.1) (ansP o.1)) 79)).alloc (.map #[] 0)).alloc (.cells (quCs (.slice At tl capt) (.slice Ac o.1.length capc) (befP o.1) (ansP o.1) (.slice none 0 0) (w1.heap.size + 1)) 91)) := by
      have h2 := Lies.new ((w1.alloc (.cells (srCs (.slice At tl capt) (.slice Ac o.1.length capc) (befP o.1) (ansP o.1)) 79)).alloc (.map #[] 0)) 91 (quCs (.slice At tl capt) (.slice Ac o.1.length capc) (befP o.1) (ansP o.1) (.slice none 0 0) (w1.heap.size + 1))
      rw [World.size_alloc, World.size_alloc] at h2
      have h3 := FMap.made (w1.alloc (.cells (srCs (.slice At tl capt) (.slice Ac o.1.length capc) (befP o.1) (ansP o.1)) 79))
      rw [World.size_alloc] at h3
      exact ⟨h2, World.ownsRow_nil _ _ _ _, h3.keep (Below.heap_alloc _ _ _ h3.lt), hrt.below hbW, HC.out.2.2.below hbW, hpw.on hbW, by omega, by omega, by omega, (by intro h; cases h), (by intro h; cases h)⟩
    have HR := Lib.hid (And.intro hR (And.intro hq0 (And.intro hbW hszW)))
    have HF := Lib.hid (And.intro hfew.1 hts)
    clear hfew hts hbW hszW hrt hpw hrb hR hq0
    go_wp2_with fail
    clear hmm
    change Calls _ _ _ (((w1.alloc (.cells (srCs (.slice At tl capt) (.slice Ac o.1.length capc) (befP o.1) (ansP o.1)) 79)).alloc (.map #[] 0)).alloc (.cells (quCs (.slice At tl capt) (.slice Ac o.1.length capc) (befP o.1) (ansP o.1) (.slice none 0 0) (w1.heap.size + 1)) 91)) _
    generalize (((w1.alloc (.cells (srCs (.slice At tl capt) (.slice Ac o.1.length capc) (befP o.1) (ansP o.1)) 79)).alloc (.map #[] 0)).alloc (.cells (quCs (.slice At tl capt) (.slice Ac o.1.length capc) (befP o.1) (ansP o.1) (.slice none 0 0) (w1.heap.size + 1)) 91)) = W at HR ⊢
    refine (lstart_any HR.out.1 HF.out.2).mono ?_
    rintro e w2 ⟨pv, rfl, ⟨s, rfl, hs⟩, hb2⟩
    have HQ := Lib.hid (HR.out.2.1.next hb2)
    have HS : Hid (∀ i, i < 4 → NAw (Aw (w1.heap.size + 1 + 1) (w1.heap.size + 1) (.slice none 0 0)) w2 (s i) ((startP ts).st i)) := Lib.hid fun i hi => (hs i hi).imp (fun g _ hg => by have := HR.out.2.2.2; exact ⟨by omega, by omega, (by intro h; cases h)⟩)
    have HB2 := Lib.hid (HR.out.2.2.1.trans (hb2.mono HR.out.2.2.1.size))
    clear hs hb2
    go_wp2_with fail
    refine (ext_any (B0 := w1.heap.size) (tv := .slice At tl capt) (ts := ts) (cs := o.1) (Q := w1.heap.size + 1 + 1) (M := w1.heap.size + 1) Ac capc HF.out.2 HF.out.1 (by rw [← HTL.out]; exact HT.out.2.2.1) o.1.length (startP ts) w2 (.slice none 0 0) [] 0 (fun _ => false) s (left_start _ _) (start_ok HF.out.2) HQ.out (fun bs h => by cases h) (by have := HF.out.1; simp; omega) (by
      have h1 : 10 ^ (o.1.length + 1) ≤ 10 ^ 10 := Nat.pow_le_pow_right (by decide) (by have := HF.out.1; omega)
      have h2 : (10 : Nat) ^ 10 = 10000000000 := by decide
      omega) HS.out).mono ?_
    rintro e w3 ⟨v', N', F', rfl, hk, hq3, -, -⟩
    have hfo : findO ts o.1 o.1.length (startP ts) = foundO ts o.1 := rfl
    rw [hfo] at hq3 ⊢
    have hB3 : Below w.heap.size w w3 := HC.out.1.trans ((HB2.out.trans (hk.below (B := w1.heap.size) (by have := HB2.out.size; omega) (by omega) (by omega) (fun g h => by cases h))).mono HC.out.1.size)
    have c12 := hq3.steps
    have HZ := Lib.hid (And.intro hB3 (And.intro hq3.own HC.out.1.size))
    clear hk hq3 hB3 HQ HS HB2 hfo
    generalize hoo : foundO ts o.1 = oo at HZ ⊢
    have HOO := Lib.hid hoo
    clear hoo
    cases oo with
    | none =>
      go_wp2_with fail
      go_ret3
      exact ⟨HZ.out.1, .inr ⟨HC.out.2.1, .inl ⟨HOO.out, rfl⟩⟩⟩
    | some S =>
      go_wp2_with fail
      go_ret3
      exact ⟨HZ.out.1, .inr ⟨HC.out.2.1, .inr ⟨S, v', HOO.out, rfl, SOwn.base (by simpa using HZ.out.2.1) HZ.out.2.2⟩⟩⟩
end Go.Proofs.YtfpnklcjkjfniaaDoor
