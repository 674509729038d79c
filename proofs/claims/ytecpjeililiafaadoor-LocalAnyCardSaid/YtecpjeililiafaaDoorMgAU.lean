/-
  Joined by a program out of: LinStart, LinFind.
-/
import Derived.Test.YtecpjeililiafaaDoorMgAN
import Derived.Test.YtecpjeililiafaaDoorMgAS
import Derived.Test.YtecpjeililiafaaDoorMgAT
import Derived.Carry

/-
  Contract of (*record).start.
-/
namespace Go.Proofs.YtecpjeililiafaaDoor
open Go.RowKit
set_option maxRecDepth 20000
variable {Rl : Nat → Nat → Bool}

/-- The states of the first k things. -/
def firstS (ts : List Int) (k i : Nat) : List Int := if i < k then beginL (ts.getD i 0) else []
structure StR (w : World) (ts : List Int) (k : Nat) (s : Nat → Value) (wr : World) : Prop where
  below : Below w.heap.size w wr
  res : PtB wr w.heap.size 0 nilS
  own : PtB wr (w.heap.size + 1) 0 s
  st : ∀ i, i < 4 → NAw (fun g => w.heap.size + 1 < g) wr (s i) (firstS ts k i)
theorem StR.next {w wr w' : World} {ts : List Int} {k : Nat} {s : Nat → Value} (h : StR w ts k s wr) (hb : Below wr.heap.size wr w') : StR w ts k s w' :=
  ⟨h.below.trans (hb.mono h.below.size), Lies.below h.res hb h.res.lt, Lies.below h.own hb h.own.lt, fun i hi => (h.st i hi).next hb⟩
theorem StR.put {w wr : World} {ts : List Int} {k : Nat} {s : Nat → Value} (h : StR w ts k s wr) (hk : k < 4) {v : Value} (hv : NAw (fun g => w.heap.size + 1 < g) wr v (beginL (ts.getD k 0))) : StR w ts (k + 1) (fun i => if i = k then v else s i) (wr.setCell ⟨w.heap.size + 1, 1 + k, none⟩ v) := by
  refine ⟨h.below.setCell (p := ⟨w.heap.size + 1, 1 + k, none⟩) (by show w.heap.size ≤ w.heap.size + 1; omega) _, Lies.far h.res (by show w.heap.size ≠ w.heap.size + 1; omega) _, h.own.setS hk v, fun i hi => ?_⟩
  have hne : ∀ g : Nat, w.heap.size + 1 < g → g ≠ w.heap.size + 1 := fun g hg => by omega
  by_cases e : i = k
  · subst e
    simp only [if_true]
    have := hv.setCell ⟨w.heap.size + 1, 1 + i, none⟩ v hne
    unfold firstS
    rw [if_pos (by omega)]
    exact this
  · have := (h.st i hi).setCell ⟨w.heap.size + 1, 1 + k, none⟩ v hne
    simp only [e, if_false]
    have e2 : firstS ts (k + 1) i = firstS ts k i := by
      unfold firstS
      by_cases h1 : i < k
      · rw [if_pos h1, if_pos (by omega)]
      · rw [if_neg h1, if_neg (by omega)]
    rw [e2]
    exact this

set_option maxHeartbeats 4000000 in
theorem lstart_any {w : World} {Q : Nat} {tv cv : Value} {ts : List Int} {cs : List Cl} (hR : RecAt Rl w Q tv cv ts cs) (hts : ts.length ≤ 4) :
    Calls Tryd.prog 90 #[.pointer (some ⟨Q, 0, none⟩)] w fun e w' => ∃ pv, e = .returned pv ∧ PtRd (fun g => w.heap.size + 1 < g) w' pv (startP ts) ∧ Below w.heap.size w w' := by
  obtain ⟨At, capt, rfl, m1, m2⟩ := hR.rt.is
  obtain ⟨tl, hl⟩ : ∃ tl, tl = ts.length := ⟨_, rfl⟩
  rw [← hl] at hR hts m1
  have h1 : StR w ts 0 nilS ((w.alloc (.cells (ptCs 0 nilS) 124)).alloc (.cells (ptCs 0 nilS) 124)) := by
    have h2 := Lies.new (w.alloc (.cells (ptCs 0 nilS) 124)) 124 (ptCs 0 nilS)
    rw [World.size_alloc] at h2
    exact ⟨((Below.refl _ _).alloc (Nat.le_refl _) _).alloc (by simp) _, Lies.alloc (Lies.new _ _ _) _, h2, fun i _ => NAw.nil _ _⟩
  have c0 : ∀ o o', ((w.alloc o).alloc o').cell? ⟨Q, 0, none⟩ = some (.slice At tl capt) := fun o o' => (Below.cell (((Below.refl w.heap.size w).alloc (Nat.le_refl _) o).alloc (by simp) o') (p := ⟨Q, 0, none⟩) hR.lt).trans hR.c0
  have HR := Lib.hid hR
  have HL := Lib.hid hl
  have H1 := Lib.hid h1
  clear hR hl h1
  go_enter Tryd.func90, Tryd.ntmps90
  go_wp2_with fail
  have hS := H1.out
  clear H1 c0
  change Code.wp _ _ _ _ ((w.alloc (.cells (ptCs 0 nilS) 124)).alloc (.cells (ptCs 0 nilS) 124))
  generalize (w.alloc (.cells (ptCs 0 nilS) 124)).alloc (.cells (ptCs 0 nilS) 124) = W at hS ⊢
  go_loopw [11] (fun t wr => ∃ k : Nat, k ≤ tl ∧ t = .int .i64 k ∧ ∃ s, StR w ts k s wr) (fun t _ => tl - (intOf t).toNat)
  case atStart => exact ⟨0, by omega, rfl, nilS, hS⟩
  case round =>
    clear hS
    obtain ⟨k, hk, rfl, s, hS⟩ := hrel
    by_cases hkt : k < tl
    · obtain ⟨x, hx⟩ : ∃ x, ts[k]? = some x := ⟨_, List.getElem?_eq_getElem (by rw [← HL.out]; exact hkt)⟩
      obtain ⟨g, o, rfl, -, d0⟩ := (HR.out.rt.below hS.below).num hx
      have hxd : ts.getD k 0 = x := by rw [List.getD_eq_getElem?_getD, hx]; rfl
      have HXD := Lib.hid hxd
      have i1 : (0 : Int) ≤ (k : Int) := by omega
      have i2 : (k : Int) < (tl : Int) := by omega
      have HS := Lib.hid hS
      clear hS hx hxd
      go_wp2_with fail
      refine (start_any x wr).mono ?_
      rintro e w2 ⟨v, rfl, ho, hb⟩
      obtain ⟨A9, k9, rfl, -⟩ := ho.rd.is
      have hS2 := HS.out.next hb
      have hv : NAw (fun g => w.heap.size + 1 < g) w2 (.slice A9 (beginL x).length k9) (beginL (ts.getD k 0)) := by
        rw [HXD.out]
        exact (NAw.of_own ho).imp (fun g _ hg => by have := HS.out.own.lt; omega)
      have hfr := hS2.own.free (1 + k)
      have hce := hS2.own.row (k := k) (by omega)
      have i3 : (k : Int) < 4 := by omega
      have H2 := Lib.hid (And.intro hS2 hv)
      clear HS hb ho hS2 hv d0
      go_wp2_with fail
      go_roundw
      case rel => exact ⟨k + 1, by omega, by go_num, _, H2.out.1.put (by omega) H2.out.2⟩
      case measure => simp [intOf]; omega
    · obtain rfl : tl = k := by omega
      obtain ⟨q0, q1, q2, q3, q4⟩ := hS.res.cells
      have hf := hS.res.free
      have hst := hS.st
      have hown := PtB.four hS.own
      have hat := fun i hi => four_at s (i := i) hi
      obtain ⟨B0, k0, e0, -⟩ := hst 0 (by omega)
      obtain ⟨B1, k1, e1, -⟩ := hst 1 (by omega)
      obtain ⟨B2, k2, e2, -⟩ := hst 2 (by omega)
      obtain ⟨B3, k3, e3, -⟩ := hst 3 (by omega)
      rw [e0, e1, e2, e3] at hown hat
      generalize (firstS ts tl 0).length = l0 at hown hat
      generalize (firstS ts tl 1).length = l1 at hown hat
      generalize (firstS ts tl 2).length = l2 at hown hat
      generalize (firstS ts tl 3).length = l3 at hown hat
      have p0 : wr.cell? ⟨w.heap.size + 1, 0, none⟩ = some (.int .u16 0) := hown.cells.1
      have p1 : wr.cell? ⟨w.heap.size + 1, 1, none⟩ = some (.slice B0 l0 k0) := hown.cells.2.1
      have p2 : wr.cell? ⟨w.heap.size + 1, 2, none⟩ = some (.slice B1 l1 k1) := hown.cells.2.2.1
      have p3 : wr.cell? ⟨w.heap.size + 1, 3, none⟩ = some (.slice B2 l2 k2) := hown.cells.2.2.2.1
      have p4 : wr.cell? ⟨w.heap.size + 1, 4, none⟩ = some (.slice B3 l3 k3) := hown.cells.2.2.2.2
      have HS := Lib.hid hS
      have HAT := Lib.hid hat
      clear hS hst hown hat e0 e1 e2 e3
      go_wp2_with fail
      clear q0 q1 q2 q3 q4 hf p0 p1 p2 p3 p4
      have hz := HS.out.res.fill 0 (four (.slice B0 l0 k0) (.slice B1 l1 k1) (.slice B2 l2 k2) (.slice B3 l3 k3))
      have hbz := fillP_below HS.out.below (g := w.heap.size) (Nat.le_refl _) 0 (four (.slice B0 l0 k0) (.slice B1 l1 k1) (.slice B2 l2 k2) (.slice B3 l3 k3))
      have hsz : wr.heap.size ≤ (fillP wr w.heap.size 0 (four (.slice B0 l0 k0) (.slice B1 l1 k1) (.slice B2 l2 k2) (.slice B3 l3 k3))).heap.size := (fillP_below (Below.refl 0 wr) (g := w.heap.size) (Nat.zero_le _) 0 (four (.slice B0 l0 k0) (.slice B1 l1 k1) (.slice B2 l2 k2) (.slice B3 l3 k3))).size
      have hfa := fun g (hg : g ≠ w.heap.size) => fillP_far (w := wr) hg 0 (four (.slice B0 l0 k0) (.slice B1 l1 k1) (.slice B2 l2 k2) (.slice B3 l3 k3))
      change bodyPost _ _ _ _ _ (fillP wr w.heap.size 0 (four (.slice B0 l0 k0) (.slice B1 l1 k1) (.slice B2 l2 k2) (.slice B3 l3 k3)))
      generalize fillP wr w.heap.size 0 (four (.slice B0 l0 k0) (.slice B1 l1 k1) (.slice B2 l2 k2) (.slice B3 l3 k3)) = wz at hz hbz hsz hfa ⊢
      have q0 : wz.cell? ⟨w.heap.size, 0, none⟩ = some (.int .u16 0) := hz.cells.1
      have q1 : wz.cell? ⟨w.heap.size, 1, none⟩ = some (.slice B0 l0 k0) := hz.cells.2.1
      have q2 : wz.cell? ⟨w.heap.size, 2, none⟩ = some (.slice B1 l1 k1) := hz.cells.2.2.1
      have q3 : wz.cell? ⟨w.heap.size, 3, none⟩ = some (.slice B2 l2 k2) := hz.cells.2.2.2.1
      have q4 : wz.cell? ⟨w.heap.size, 4, none⟩ = some (.slice B3 l3 k3) := hz.cells.2.2.2.2
      refine bodyPost_ret (v := ptV 0 (four (.slice B0 l0 k0) (.slice B1 l1 k1) (.slice B2 l2 k2) (.slice B3 l3 k3)))
        (by simp [results, Tryd.results90, go_sem, q0, q1, q2, q3, q4, four]) rfl ⟨_, rfl, ⟨_, rfl, fun i hi => ?_⟩, hbz⟩
      rw [HAT.out i hi]
      have h3 := (HS.out.st i hi).keep hsz (fun g hg _ => hfa g (by omega))
      have e5 : (startP ts).st i = firstS ts tl i := by
        show (if i < ts.length then beginL (ts.getD i 0) else []) = _
        unfold firstS
        rw [← HL.out]
      rw [e5]
      exact h3
end Go.Proofs.YtecpjeililiafaaDoor

/-
  Contract of search.Find.
-/
namespace Go.Proofs.YtecpjeililiafaaDoor
open Go.RowKit Go.Maps
set_option maxRecDepth 20000
variable {Rl : Nat → Nat → Bool}

theorem step_thing {ts : List Int} {n : Nat} {cs cs' : List Cl} {x : Ev} (h : step ts n cs x = .inr cs') (hc : ∀ c, c ∈ cs → 0 ≤ c.thing ∧ c.thing < ts.length) : ∀ c, c ∈ cs' → 0 ≤ c.thing ∧ c.thing < ts.length := by
  unfold step at h
  split at h
  · cases h
  · rename_i h1
    have hx : 0 ≤ x.thing ∧ x.thing < ts.length := by
      apply Classical.byContradiction
      intro h2
      exact h1 (.inr h2)
    split at h
    · unfold respS at h
      split at h
      · cases h
      · split at h
        · cases h
        · rename_i h2 h3
          injection h with h
          subst h
          intro c hcm
          rcases List.mem_or_eq_of_mem_set hcm with h4 | h4
          · exact hc c h4
          · subst h4
            have h5 : (cs.getD (openOf cs x.who).toNat default).thing = x.thing := by
              apply Classical.byContradiction
              intro h6
              exact h3 (.inl h6)
            show 0 ≤ (cs.getD (openOf cs x.who).toNat default).thing ∧ _
            rw [h5]
            exact hx
    · unfold invS at h
      split at h
      · cases h
      · split at h
        · cases h
        · injection h with h
          subst h
          intro c hcm
          rcases List.mem_append.1 hcm with h4 | h4
          · exact hc c h4
          · rw [List.mem_singleton] at h4
            subst h4
            exact hx
theorem run_thing {ts : List Int} : ∀ (l : List Ev) (n : Nat) (cs : List Cl), (∀ c, c ∈ cs → 0 ≤ c.thing ∧ c.thing < ts.length) → ∀ c, c ∈ (run ts n cs l).1 → 0 ≤ c.thing ∧ c.thing < ts.length
  | [], n, cs, h => by
    rw [run]
    exact h
  | x :: r, n, cs, h => by
    rw [run]
    split
    · intro c hc
      simp at hc
    · rename_i cs' hs
      exact run_thing r (n + 1) cs' (step_thing hs h)
theorem calls_thing {ts : List Int} {l : List Ev} : ∀ c, c ∈ (callsOf ts l).1 → 0 ≤ c.thing ∧ c.thing < ts.length := by
  unfold callsOf
  split
  · intro c hc; simp at hc
  · split
    · intro c hc; simp at hc
    · exact run_thing l 0 [] (fun c hc => by cases hc)
theorem calls_types {ts : List Int} {l : List Ev} (h : (callsOf ts l).2.2 = 0) : ts.length ≤ 4 := by
  unfold callsOf at h
  split at h
  · simp at h
  · rename_i h1
    have h2 : typesB ts = true := by simpa using h1
    unfold typesB at h2
    simp only [Bool.and_eq_true, decide_eq_true_eq] at h2
    exact h2.1.2
theorem left_start (n : Nat) (ts : List Int) : leftN n (startP ts) = n := by
  unfold leftN startP
  simp
theorem start_ok {ts : List Int} (h : ts.length ≤ 4) : PtOk (startP ts) := by
  have hb : ∀ t : Int, (beginL t).length ≤ 50 ∧ ∀ x, x ∈ beginL t → -1000000 ≤ x ∧ x ≤ 1000000 := fun t => by
    unfold beginL
    split
    · exact ⟨by simp, fun x hx => by rw [List.mem_singleton] at hx; subst hx; omega⟩
    · exact ⟨by simp, fun x hx => by cases hx⟩
  refine ⟨by show 0 < 512; decide, fun i hi => ?_, fun i hi => ?_⟩
  · show (if i < ts.length then _ else _ : List Int).length ≤ 50 ∧ ∀ x, x ∈ (if i < ts.length then _ else _ : List Int) → _
    split
    · exact hb _
    · exact ⟨by simp, fun x hx => by cases hx⟩
  · show (if i < ts.length then _ else _ : List Int) = []
    rw [if_neg (by omega)]
/-- The least order of all. -/
def foundO (Rl : Nat → Nat → Bool) (ts : List Int) (cs : List Cl) : Option (List (Nat × Int)) := findO Rl ts cs cs.length (startP ts)
def FindPost (Rl : Nat → Nat → Bool) (w : World) (ts : List Int) (o : List Cl × Nat × Int) (e : Ending) (w' : World) : Prop :=
  Below w.heap.size w w' ∧ ((searchE o ≠ 0 ∧ e = .returned (.tuple #[.slice none 0 0, .bool false, .int .i64 (searchE o)])) ∨
    (searchE o = 0 ∧ ((foundO Rl ts o.1 = none ∧ e = .returned (.tuple #[.slice none 0 0, .bool false, .int .i64 0])) ∨
      ∃ S v, foundO Rl ts o.1 = some S ∧ e = .returned (.tuple #[v, .bool true, .int .i64 0]) ∧ SOwn w' w.heap.size v S)))

theorem SOwn.base {w : World} {B B' : Nat} {v : Value} {l : List (Nat × Int)} (h : SOwn w B v l) (hB : B' ≤ B) : SOwn w B' v l :=
  ⟨h.1, h.2.imp (fun h => h) fun ⟨g, cap, cur, h1, h2, h3⟩ => ⟨g, cap, cur, h1, Nat.le_trans hB h2, h3⟩⟩

set_option maxHeartbeats 8000000 in
theorem findIn_any {tv lv : Value} {ts : List Int} {l : List Ev} {w : World} {N : Int} {r : Nat → Nat} (ht : NRd w w.heap.size tv ts) (hl : ERd w w.heap.size lv l) (hp : Pow10 w.heap.size w) (hr : ∀ i, r i < 65536) (hrp : searchE (callsOf ts l) = 0 → ∀ i, i < (callsOf ts l).1.length → r i = relP Rl (callsOf ts l).1.length i) :
    Calls Tryd.prog 62 #[tv, lv, relV N r] w (FindPost Rl w ts (callsOf ts l)) := by
  have hb0 : Below w.heap.size w (w.alloc (.cells (relCs N r) 36)) := (Below.refl _ _).alloc (Nat.le_refl _) _
  have hop := open_any (N := N) ((ht.below hb0).mono hb0.size) ((hl.below hb0).mono hb0.size) hr hrp
  have hrl : RelB (w.alloc (.cells (relCs N r) 36)) w.heap.size N r := Lies.new _ _ _
  have c0 := hrl.size
  obtain ⟨c1, c2, c3, c4, c5, c6, c7, c8, c9, c10, c11, c12⟩ := hrl.rows
  have HB0 := Lib.hid hb0
  clear hrp hr hb0 hrl
  have hth := @calls_thing ts l
  have hty := @calls_types ts l
  generalize callsOf ts l = o at hop hth hty ⊢
  obtain ⟨At, capt, rfl, -, -⟩ := ht.is
  have HT := Lib.hid (And.intro ht (And.intro hp (And.intro hth hty)))
  have HOP := Lib.hid hop
  obtain ⟨tl, htl⟩ : ∃ tl, tl = ts.length := ⟨_, rfl⟩
  rw [← htl] at HOP HT ⊢
  have HTL := Lib.hid htl
  clear ht hl hp hop hth hty htl
  go_enter Tryd.func62, Tryd.ntmps62
  go_wp2_with fail
  refine HOP.out.mono ?_
  rintro e w1 ⟨hb1', hcs⟩
  have hb1 := HB0.out.trans (hb1'.mono HB0.out.size)
  clear hb1' c0 c1 c2 c3 c4 c5 c6 c7 c8 c9 c10 c11 c12
  rcases hcs with ⟨hE, rfl⟩ | ⟨hE, cv, rfl, hc⟩
  · have hne : (searchE o != 0) = true := by rw [bne_iff_ne]; exact hE
    have HB := Lib.hid (And.intro hb1 hE)
    clear hb1 hE HOP
    generalize hEE : searchE o = E at hne HB ⊢
    have HEE := Lib.hid hEE
    clear hEE
    go_wp2_with fail
    go_ret3
    exact ⟨HB.out.1.alloc HB.out.1.size _, .inl ⟨by rw [HEE.out]; exact HB.out.2, by rw [HEE.out]; rfl⟩⟩
  · obtain ⟨Ac, capc, rfl, -, -⟩ := hc.is
    have HC := Lib.hid (And.intro hb1 (And.intro hE hc))
    clear hb1 hE hc HOP
    have hmm := @run_makeMap Tryd.prog
    have hfew : o.1.length ≤ 9 ∧ o.2.2 = 0 := by
      have h1 := HC.out.2.1
      unfold searchE at h1
      split at h1
      · rename_i h2; exact absurd h1 h2
      · rename_i h2
        split at h1
        · cases h1
        · exact ⟨by omega, by simpa using h2⟩
    have hts : ts.length ≤ 4 := by rw [← HTL.out]; exact HT.out.2.2.2 hfew.2
    have hbW : Below w1.heap.size w1 (((w1.alloc (.cells (srCs (.slice At tl capt) (.slice Ac o.1.length capc) (befP Rl o.1) (ansP o.1)) 119)).alloc (.map #[] 0)).alloc (.cells (quCs (.slice At tl capt) (.slice Ac o.1.length capc) (befP Rl o.1) (ansP o.1) (.slice none 0 0) (w1.heap.size + 1)) 131)) := ((((Below.refl _ _).alloc (Nat.le_refl _) _).alloc (by simp) _).alloc (by simp; omega) _)
    have hszW : (((w1.alloc (.cells (srCs (.slice At tl capt) (.slice Ac o.1.length capc) (befP Rl o.1) (ansP o.1)) 119)).alloc (.map #[] 0)).alloc (.cells (quCs (.slice At tl capt) (.slice Ac o.1.length capc) (befP Rl o.1) (ansP o.1) (.slice none 0 0) (w1.heap.size + 1)) 131)).heap.size = w1.heap.size + 1 + 1 + 1 := by simp only [World.size_alloc]
    have hrt : NRd w1 w1.heap.size (.slice At tl capt) ts := (HT.out.1.below HC.out.1).mono HC.out.1.size
    have hpw : Pow10 w1.heap.size w1 := (HT.out.2.1.on HC.out.1).mono HC.out.1.size
    have hrb : SrB (((w1.alloc (.cells (srCs (.slice At tl capt) (.slice Ac o.1.length capc) (befP Rl o.1) (ansP o.1)) 119)).alloc (.map #[] 0)).alloc (.cells (quCs (.slice At tl capt) (.slice Ac o.1.length capc) (befP Rl o.1) (ansP o.1) (.slice none 0 0) (w1.heap.size + 1)) 131)) w1.heap.size (.slice At tl capt) (.slice Ac o.1.length capc) (befP Rl o.1) (ansP o.1) := Lies.alloc (Lies.alloc (Lies.new _ _ _) _) _
    have hR : RecAt Rl (((w1.alloc (.cells (srCs (.slice At tl capt) (.slice Ac o.1.length capc) (befP Rl o.1) (ansP o.1)) 119)).alloc (.map #[] 0)).alloc (.cells (quCs (.slice At tl capt) (.slice Ac o.1.length capc) (befP Rl o.1) (ansP o.1) (.slice none 0 0) (w1.heap.size + 1)) 131)) w1.heap.size (.slice At tl capt) (.slice Ac o.1.length capc) ts o.1 :=
      ⟨Lies.cell hrb 0, Lies.cell hrb 1, fun j hj => hrb.row hj, hrb.ans, (hrt.below hbW).mono hbW.size, (HC.out.2.2.below hbW).mono hbW.size, Lies.lt hrb⟩
    have hq0 : QSt Rl w1.heap.size (.slice At tl capt) (.slice Ac o.1.length capc) ts o.1 (w1.heap.size + 1 + 1) (w1.heap.size + 1) (.slice none 0 0) [] 0 (fun _ => false) (((w1.alloc (.cells (srCs (.slice At tl capt) (.slice Ac o.1.length capc) (befP Rl o.1) (ansP o.1)) 119)).alloc (.map #[] 0)).alloc (.cells (quCs (.slice At tl capt) (.slice Ac o.1.length capc) (befP Rl o.1) (ansP o.1) (.slice none 0 0) (w1.heap.size + 1)) 131)) := by
      have h2 := Lies.new ((w1.alloc (.cells (srCs (.slice At tl capt) (.slice Ac o.1.length capc) (befP Rl o.1) (ansP o.1)) 119)).alloc (.map #[] 0)) 131 (quCs (.slice At tl capt) (.slice Ac o.1.length capc) (befP Rl o.1) (ansP o.1) (.slice none 0 0) (w1.heap.size + 1))
      rw [World.size_alloc, World.size_alloc] at h2
      have h3 := FMap.made (w1.alloc (.cells (srCs (.slice At tl capt) (.slice Ac o.1.length capc) (befP Rl o.1) (ansP o.1)) 119))
      rw [World.size_alloc] at h3
      exact ⟨h2, World.ownsRow_nil _ _ _ _, h3.keep (Below.heap_alloc _ _ _ h3.lt), hrt.below hbW, HC.out.2.2.below hbW, hpw.on hbW, by omega, by omega, by omega, (by intro h; cases h), (by intro h; cases h)⟩
    have HR := Lib.hid (And.intro hR (And.intro hq0 (And.intro hbW hszW)))
    have HF := Lib.hid (And.intro hfew.1 hts)
    clear hfew hts hbW hszW hrt hpw hrb hR hq0
    go_wp2_with fail
    clear hmm
    change Calls _ _ _ (((w1.alloc (.cells (srCs (.slice At tl capt) (.slice Ac o.1.length capc) (befP Rl o.1) (ansP o.1)) 119)).alloc (.map #[] 0)).alloc (.cells (quCs (.slice At tl capt) (.slice Ac o.1.length capc) (befP Rl o.1) (ansP o.1) (.slice none 0 0) (w1.heap.size + 1)) 131)) _
    generalize (((w1.alloc (.cells (srCs (.slice At tl capt) (.slice Ac o.1.length capc) (befP Rl o.1) (ansP o.1)) 119)).alloc (.map #[] 0)).alloc (.cells (quCs (.slice At tl capt) (.slice Ac o.1.length capc) (befP Rl o.1) (ansP o.1) (.slice none 0 0) (w1.heap.size + 1)) 131)) = W at HR ⊢
    refine (lstart_any HR.out.1 HF.out.2).mono ?_
    rintro e w2 ⟨pv, rfl, ⟨s, rfl, hs⟩, hb2⟩
    have HQ := Lib.hid (HR.out.2.1.next hb2)
    have HS : Hid (∀ i, i < 4 → NAw (Aw (w1.heap.size + 1 + 1) (w1.heap.size + 1) (.slice none 0 0)) w2 (s i) ((startP ts).st i)) := Lib.hid fun i hi => (hs i hi).imp (fun g _ hg => by have := HR.out.2.2.2; exact ⟨by omega, by omega, (by intro h; cases h)⟩)
    have HB2 := Lib.hid (HR.out.2.2.1.trans (hb2.mono HR.out.2.2.1.size))
    clear hs hb2
    go_wp2_with fail
    refine (ext_any (B0 := w1.heap.size) (Rl := Rl) (tv := .slice At tl capt) (ts := ts) (cs := o.1) (Q := w1.heap.size + 1 + 1) (M := w1.heap.size + 1) Ac capc HF.out.2 HF.out.1 (by rw [← HTL.out]; exact HT.out.2.2.1) o.1.length (startP ts) w2 (.slice none 0 0) [] 0 (fun _ => false) s (left_start _ _) (start_ok HF.out.2) HQ.out (fun bs h => by cases h) (by have := HF.out.1; simp; omega) (by
      have h1 : 10 ^ (o.1.length + 1) ≤ 10 ^ 10 := Nat.pow_le_pow_right (by decide) (by have := HF.out.1; omega)
      have h2 : (10 : Nat) ^ 10 = 10000000000 := by decide
      omega) HS.out).mono ?_
    rintro e w3 ⟨v', N', F', rfl, hk, hq3, -, -⟩
    have hfo : findO Rl ts o.1 o.1.length (startP ts) = foundO Rl ts o.1 := rfl
    rw [hfo] at hq3 ⊢
    have hB3 : Below w.heap.size w w3 := HC.out.1.trans ((HB2.out.trans (hk.below (B := w1.heap.size) (by have := HB2.out.size; omega) (by omega) (by omega) (fun g h => by cases h))).mono HC.out.1.size)
    have c12 := hq3.steps
    have HZ := Lib.hid (And.intro hB3 (And.intro hq3.own HC.out.1.size))
    clear hk hq3 hB3 HQ HS HB2 hfo
    generalize hoo : foundO Rl ts o.1 = oo at HZ ⊢
    have HOO := Lib.hid hoo
    clear hoo
    cases oo with
    | none =>
      go_wp2_with fail
      go_ret3
      exact ⟨HZ.out.1, .inr ⟨HC.out.2.1, .inl ⟨HOO.out, rfl⟩⟩⟩
    | some S =>
      go_wp2_with fail
      go_ret3
      exact ⟨HZ.out.1, .inr ⟨HC.out.2.1, .inr ⟨S, v', HOO.out, rfl, SOwn.base (by simpa using HZ.out.2.1) HZ.out.2.2⟩⟩⟩


set_option maxHeartbeats 4000000 in
theorem find_any {tv lv : Value} {ts : List Int} {l : List Ev} {w : World} (ht : NRd w w.heap.size tv ts) (hl : ERd w w.heap.size lv l) (hp : Pow10 w.heap.size w) :
    Calls Tryd.prog 22 #[tv, lv] w (FindPost (aheadB (callsOf ts l).1) w ts (callsOf ts l)) := by
  have HTM := Lib.hid (realTime_any ht hl)
  have HT := Lib.hid (And.intro ht (And.intro hl hp))
  obtain ⟨At, capt, rfl, -, -⟩ := ht.is
  obtain ⟨Al, capl, rfl, -, -⟩ := hl.is
  clear ht hl hp
  obtain ⟨tl, htl⟩ : ∃ tl, tl = ts.length := ⟨_, rfl⟩
  obtain ⟨L, hL⟩ : ∃ L, L = l.length := ⟨_, rfl⟩
  rw [← htl, ← hL] at HTM HT
  rw [← htl, ← hL]
  clear htl hL
  go_enter Tryd.func22, Tryd.ntmps22
  go_wp2_with fail
  refine HTM.out.mono ?_
  rintro e w1 ⟨hb1, N, r, rfl, hr, hrr⟩
  have hal : Below w1.heap.size w1 (w1.alloc (.cells (relCs N r) 36)) := (Below.refl _ _).alloc (Nat.le_refl _) _
  have hbW : Below w.heap.size w (w1.alloc (.cells (relCs N r) 36)) := hb1.trans (hal.mono hb1.size)
  have hrl : RelB (w1.alloc (.cells (relCs N r) 36)) w1.heap.size N r := Lies.new _ _ _
  have HB := Lib.hid hbW
  by_cases hE : searchE (callsOf ts l) = 0
  · have c0 := hrl.size
    obtain ⟨c1, c2, c3, c4, c5, c6, c7, c8, c9, c10, c11, c12⟩ := hrl.rows
    have hF := findIn_any (Rl := aheadB (callsOf ts l).1) (N := N) (r := r) ((HT.out.1.below hbW).mono hbW.size) ((HT.out.2.1.below hbW).mono hbW.size) ((HT.out.2.2.on hbW).mono hbW.size) hr (fun h i _ => by rw [hrr h])
    have HF := Lib.hid hF
    have HE := Lib.hid hE
    rw [hE]
    clear hb1 hr hrr hal hbW hrl hE hF HTM
    go_wp2_with fail
    refine HF.out.mono ?_
    rintro e w2 ⟨hb2, hcs⟩
    have H2 := Lib.hid (HB.out.trans (hb2.mono HB.out.size))
    have HS := Lib.hid HB.out.size
    clear hb2 c0 c1 c2 c3 c4 c5 c6 c7 c8 c9 c10 c11 c12
    rcases hcs with ⟨h1, rfl⟩ | ⟨h1, ⟨h2, rfl⟩ | ⟨S, v, h2, rfl, h3⟩⟩
    · exact absurd HE.out h1
    · have HX := Lib.hid (And.intro h1 h2)
      clear h1 h2
      go_wp2_with fail
      go_ret3
      exact ⟨H2.out, .inr ⟨HX.out.1, .inl ⟨HX.out.2, rfl⟩⟩⟩
    · have HX := Lib.hid (And.intro h1 (And.intro h2 h3))
      clear h1 h2 h3
      go_wp2_with fail
      go_ret3
      exact ⟨H2.out, .inr ⟨HX.out.1, .inr ⟨S, v, HX.out.2.1, rfl, SOwn.base HX.out.2.2 HS.out⟩⟩⟩
  · have hz : (searchE (callsOf ts l) != 0) = true := by rw [bne_iff_ne]; exact hE
    have HE := Lib.hid hE
    clear hb1 hr hrr hal hbW hrl hE HTM
    generalize hEE : searchE (callsOf ts l) = E at hz HE ⊢
    have HEE := Lib.hid hEE
    clear hEE
    go_wp2_with fail
    go_ret3
    exact ⟨HB.out, .inl ⟨by rw [HEE.out]; exact HE.out, by rw [HEE.out]; rfl⟩⟩
end Go.Proofs.YtecpjeililiafaaDoor
