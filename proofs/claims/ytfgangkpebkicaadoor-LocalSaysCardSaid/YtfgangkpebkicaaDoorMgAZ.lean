/-
  Joined by a program out of: LoPure, LinIdx, LoIdx, LoBase.
-/
import Derived.Test.YtfgangkpebkicaaDoorMgAV
import Derived.Test.YtfgangkpebkicaaDoorMgAP
import Derived.Test.YtfgangkpebkicaaDoorMgAY

/-
  Plain: what the reference's LeastOrder finds: the least order from a point on, whatever must stand ahead.
-/
namespace Go.Proofs.YtfgangkpebkicaaDoor
open Go.RowKit
set_option maxRecDepth 20000
variable {Rl : Nat → Nat → Bool}
/-- May call k come next, where b k must be done ahead of it? -/
def mayG (b : Nat → Nat) (ts : List Int) (cs : List Cl) (p : Pt) (k : Nat) : Bool :=
  !p.done.testBit k && (b k &&& (65535 - p.done) == 0) && ((thingO ts cs p k).2.2 == 0) && ((cs.getD k default).til == -1 || (thingO ts cs p k).2.1 == (cs.getD k default).res)
def tryG (b : Nat → Nat) (go : Pt → Option (List (Nat × Int))) (ts : List Int) (cs : List Cl) (p : Pt) : Nat → Nat → Option (List (Nat × Int))
  | 0, _ => none
  | m + 1, k => if mayG b ts cs p k = true then (match go (nextP ts cs p k) with
    | some l => some ((k, (thingO ts cs p k).2.1) :: l)
    | none => tryG b go ts cs p m (k + 1)) else tryG b go ts cs p m (k + 1)
def findG (b : Nat → Nat) (ts : List Int) (cs : List Cl) : Nat → Pt → Option (List (Nat × Int))
  | 0, p => if fullB cs p = true then some [] else none
  | f + 1, p => if fullB cs p = true then some [] else tryG b (findG b ts cs f) ts cs p cs.length 0
/-- Steps that may be, one behind the other, and where they have led to. -/
structure Legal (ts : List Int) (cs : List Cl) (r : Nat → Nat) (ws : List (Int × Int)) (p : Pt) : Prop where
  rng : ∀ x ∈ ws, 0 ≤ x.1 ∧ x.1 < cs.length
  once : (ws.map (·.1)).Nodup
  res : ∀ x ∈ ws, (atC cs x).til ≠ -1 → (atC cs x).res = x.2
  ord : ∀ i j, i < cs.length → j < cs.length → (r i).testBit j = true → ∀ a y b, ws = a ++ y :: b → y.1 = (j : Int) → (i : Int) ∈ a.map (·.1)
  goes : ∀ t, t < ts.length → goesB (ts.getD t 0) (beginL (ts.getD t 0)) (ownD cs t ws) = true
  small : p.done < 65536
  done : ∀ i, i < cs.length → (p.done.testBit i = true ↔ (i : Int) ∈ ws.map (·.1))
  st : ∀ t, t < ts.length → p.st t = stateFrom (ts.getD t 0) (beginL (ts.getD t 0)) (ownD cs t ws)
section
variable {ts : List Int} {cs : List Cl} {r : Nat → Nat} {ws : List (Int × Int)} {p : Pt}
theorem Legal.start : Legal ts cs r [] (startP ts) := by
  refine ⟨fun x hx => by simp at hx, by simp, fun x hx => by simp at hx, fun i j _ _ _ a y b e => by simp at e, fun t _ => rfl, by show 0 < 65536; decide, fun i _ => ?_, fun t ht => ?_⟩
  · rw [show (startP ts).done = 0 from rfl, Nat.zero_testBit]
    simp
  · unfold startP
    simp only
    rw [if_pos ht]
    rfl
/-- It is right just if nothing has to follow. -/
theorem Legal.right (h : Legal ts cs r ws p) (hn : cs.length ≤ 16) : RiteP ts cs (fun i j => (r i).testBit j) ws ↔ fullB cs p = true := by
  rw [full_iff h.small hn]
  constructor
  · intro hr i hi ht
    exact (h.done i hi).2 (hr.all i hi ht)
  · intro hf
    exact ⟨h.rng, h.once, h.res, fun i hi ht => (h.done i hi).1 (hf i hi ht), h.ord, h.goes⟩
theorem mayG_iff {b : Nat → Nat} {k : Nat} (hd : p.done < 65536) (hn : cs.length ≤ 16) (hb : ∀ i, i < cs.length → ((b k).testBit i = (r i).testBit k)) (hb2 : ∀ i, cs.length ≤ i → (b k).testBit i = false) : mayG b ts cs p k = true ↔
    p.done.testBit k = false ∧ (thingO ts cs p k).2.2 = 0 ∧ ((cs.getD k default).til = -1 ∨ (thingO ts cs p k).2.1 = (cs.getD k default).res) ∧ ∀ i, i < cs.length → (r i).testBit k = true → p.done.testBit i = true := by
  unfold mayG
  simp only [Bool.and_eq_true, Bool.not_eq_true', beq_iff_eq, Bool.or_eq_true]
  have h1 : b k &&& (65535 - p.done) = 0 ↔ ∀ i, i < cs.length → (r i).testBit k = true → p.done.testBit i = true := by
    constructor
    · intro h i hi ha
      have h1 : (b k &&& (65535 - p.done)).testBit i = false := by rw [h]; exact Nat.zero_testBit i
      rw [Nat.testBit_and, inv_bit hd (by omega), hb i hi, ha] at h1
      simpa using h1
    · intro h
      apply Nat.eq_of_testBit_eq
      intro j
      rw [Nat.testBit_and, Nat.zero_testBit]
      by_cases hj : j < cs.length
      · rw [inv_bit hd (by omega), hb j hj]
        cases ha : (r j).testBit k
        · simp
        · rw [h j hj ha]; simp
      · rw [hb2 j (by omega)]; simp
  rw [h1]
  constructor
  · rintro ⟨⟨⟨a, b⟩, c⟩, d⟩; exact ⟨a, c, d, b⟩
  · rintro ⟨a, c, d, b⟩; exact ⟨⟨⟨a, b⟩, c⟩, d⟩
/-- The state of call k's thing. -/
theorem Legal.thing (h : Legal ts cs r ws p) {k : Nat} (ht : (cs.getD k default).thing.toNat < ts.length) : thingO ts cs p k = stepO (ts.getD (cs.getD k default).thing.toNat 0) (stateFrom (ts.getD (cs.getD k default).thing.toNat 0) (beginL (ts.getD (cs.getD k default).thing.toNat 0)) (ownD cs (cs.getD k default).thing.toNat ws)) (cs.getD k default).kind (cs.getD k default).arg := by
  unfold thingO
  rw [h.st _ ht]
theorem stateFrom_snoc (typ : Int) (s : List Int) (l : List Dd) (d : Dd) : stateFrom typ s (l ++ [d]) = (stepO typ (stateFrom typ s l) d.kind d.arg).1 := by
  unfold stateFrom
  rw [List.foldl_append]
  rfl
/-- The states on the way may be. -/
theorem goes_valid {typ : Int} : ∀ (l : List Dd) (s : List Int), stateE typ s = 0 → goesB typ s l = true → stateE typ (stateFrom typ s l) = 0
  | [], s, h, _ => h
  | d :: r, s, h, hg => by
    rw [goes_cons] at hg
    exact goes_valid r _ (stepO_ok hg.1).1 hg.2.2
theorem goes_prefix {typ : Int} {s : List Int} {a b : List Dd} (h : goesB typ s (a ++ b) = true) : goesB typ s a = true := ((goes_append a b s).1 h).1
/-- One more call. -/
theorem Legal.next (h : Legal ts cs r ws p) {k : Nat} (hk : k < cs.length) (hn : cs.length ≤ 16) (hirr : (r k).testBit k = false) (hth : 0 ≤ (cs.getD k default).thing ∧ (cs.getD k default).thing < ts.length)
    (h1 : p.done.testBit k = false) (h2 : (thingO ts cs p k).2.2 = 0) (h3 : (cs.getD k default).til = -1 ∨ (thingO ts cs p k).2.1 = (cs.getD k default).res) (h4 : ∀ i, i < cs.length → (r i).testBit k = true → p.done.testBit i = true) :
    Legal ts cs r (ws ++ [((k : Int), (thingO ts cs p k).2.1)]) (nextP ts cs p k) := by
  have hnm : (k : Int) ∉ ws.map (·.1) := fun hm => by rw [(h.done k hk).2 hm] at h1; cases h1
  have hat : ∀ v : Int, atC cs ((k : Int), v) = cs.getD k default := fun v => by unfold atC; rw [Int.toNat_natCast]
  have hown : ∀ t v, ownD cs t (ws ++ [((k : Int), v)]) = if (cs.getD k default).thing.toNat = t then ownD cs t ws ++ [⟨(cs.getD k default).kind, (cs.getD k default).arg, v⟩] else ownD cs t ws := fun t v => by
    rw [ownD_append, ownD_cons, hat]
    split
    · unfold ddC; rw [hat]; rfl
    · rw [show ownD cs t [] = [] from rfl, List.append_nil]
  have hto := h.thing (k := k) (by omega)
  refine ⟨fun x hx => ?_, ?_, fun x hx ht => ?_, fun i j hi hj hb a y b e ey => ?_, fun t ht => ?_, ?_, fun i hi => ?_, fun t ht => ?_⟩
  · rcases List.mem_append.1 hx with hx | hx
    · exact h.rng x hx
    · rw [List.mem_singleton] at hx; subst hx
      exact ⟨by show (0 : Int) ≤ (k : Nat); omega, by show ((k : Nat) : Int) < _; omega⟩
  · rw [List.map_append, List.nodup_append]
    refine ⟨h.once, by simp, fun u hu v hv e => ?_⟩
    simp at hv
    subst hv
    subst e
    exact hnm hu
  · rcases List.mem_append.1 hx with hx | hx
    · exact h.res x hx ht
    · rw [List.mem_singleton] at hx; subst hx
      rw [hat] at ht ⊢
      rcases h3 with h3 | h3
      · exact absurd h3 ht
      · exact h3.symm
  · rcases List.eq_nil_or_concat b with rfl | ⟨b2, z, rfl⟩
    · have e2 := List.append_inj' e rfl
      have e3 : y = ((k : Int), (thingO ts cs p k).2.1) := by have := e2.2; injection this with h9 _; exact h9.symm
      rw [e3] at ey
      have : j = k := by have : (k : Int) = (j : Int) := ey; omega
      subst this
      rw [← e2.1]
      exact (h.done i hi).1 (h4 i hi hb)
    · rw [List.concat_eq_append] at e
      have e3 : ws ++ [((k : Int), (thingO ts cs p k).2.1)] = (a ++ y :: b2) ++ [z] := by rw [e]; simp
      have e2 := List.append_inj' e3 rfl
      exact h.ord i j hi hj hb a y b2 e2.1 ey
  · rw [hown]
    split
    · rename_i e
      subst e
      rw [goes_append, goes_cons]
      exact ⟨h.goes _ ht, by rw [← hto]; exact h2, by rw [← hto], rfl⟩
    · exact h.goes t ht
  · exact next_lt h.small (by omega)
  · rw [next_bit, List.map_append, List.mem_append, h.done i hi]
    simp only [List.map_cons, List.map_nil, List.mem_singleton]
    constructor
    · rintro (h5 | h5)
      · exact .inl h5
      · exact .inr (by omega)
    · rintro (h5 | h5)
      · exact .inl h5
      · exact .inr (by omega)
  · rw [hown]
    show (if t = (cs.getD k default).thing.toNat then (thingO ts cs p k).1 else p.st t) = _
    by_cases e : (cs.getD k default).thing.toNat = t
    · rw [if_pos e, if_pos e.symm, stateFrom_snoc, hto, e]
    · rw [if_neg e, if_neg (fun h5 => e h5.symm), h.st t ht]
end
end Go.Proofs.YtfgangkpebkicaaDoor

/-
  slices.IndexFunc and ContainsFunc over steps, by the call that a step names.
-/
namespace Go.Proofs.YtfgangkpebkicaaDoor
open Go.RowKit
set_option maxRecDepth 20000
/-- Where call k stands first, or -1. -/
def FirstAt (k : Int) (xs : List (Int × Int)) (r : Int) : Prop := (r = -1 ∧ ∀ x ∈ xs, x.1 ≠ k) ∨ ∃ (i : Nat) (x : Int × Int), r = (i : Int) ∧ xs[i]? = some x ∧ x.1 = k
end Go.Proofs.YtfgangkpebkicaaDoor

/-
  slices.ContainsFunc over steps, by the call that a step names: the reference's closures.
-/
namespace Go.Proofs.YtfgangkpebkicaaDoor
open Go.RowKit
set_option maxRecDepth 20000
theorem lcl1_any (x0 x1 : Int) {P : Nat} {k : Int} {W : World} (hP : W.cell? ⟨P, 0, none⟩ = some (.int .i64 k)) :
    Calls Tryd.prog 44 #[.agg #[.int .i64 x0, .int .i64 x1], .pointer (some ⟨P, 0, none⟩)] W fun e w' => e = .returned (.bool (x0 == k)) ∧ Below W.heap.size W w' := by
  have c0 : ∀ o, (W.alloc o).cell? ⟨P, 0, none⟩ = some (.int .i64 k) := fun o => Lib.cell?_alloc_some _ hP
  go_enter Tryd.func44, Tryd.ntmps44
  go_wp2_with fail
  go_ret
  exact ⟨rfl, (Below.refl _ _).alloc (Nat.le_refl _) _⟩
theorem lcl2_any (x0 x1 : Int) {P : Nat} {k : Int} {W : World} (hP : W.cell? ⟨P, 0, none⟩ = some (.int .i64 k)) :
    Calls Tryd.prog 47 #[.agg #[.int .i64 x0, .int .i64 x1], .pointer (some ⟨P, 0, none⟩)] W fun e w' => e = .returned (.bool (x0 == k)) ∧ Below W.heap.size W w' := by
  have c0 : ∀ o, (W.alloc o).cell? ⟨P, 0, none⟩ = some (.int .i64 k) := fun o => Lib.cell?_alloc_some _ hP
  go_enter Tryd.func47, Tryd.ntmps47
  go_wp2_with fail
  go_ret
  exact ⟨rfl, (Below.refl _ _).alloc (Nat.le_refl _) _⟩
set_option maxHeartbeats 1000000 in
theorem lidx1_any {P : Nat} {k : Int} {v : Value} {xs : List (Int × Int)} {w : World} (h : SRd w w.heap.size v xs) (hP : w.cell? ⟨P, 0, none⟩ = some (.int .i64 k)) (hPl : P < w.heap.size) :
    Calls Tryd.prog 65 #[v, .func (.func 44) #[] #[.pointer (some ⟨P, 0, none⟩)]] w fun e w' => ∃ r : Int, e = .returned (.int .i64 r) ∧ FirstAt k xs r ∧ Below w.heap.size w w' := by
  obtain ⟨A, cap, rfl, m1, m2⟩ := h.is
  unfold maxLen at m2
  obtain ⟨L, hL⟩ : ∃ L, L = xs.length := ⟨_, rfl⟩
  have HC := Lib.hid (And.intro h (And.intro hP hPl))
  have HLL := Lib.hid hL
  have m3 : (L : Int) ≤ 9223372036854775807 := by rw [← hL] at m1; omega
  rw [← hL] at m1 ⊢
  clear h hL hP hPl m2
  go_enter Tryd.func65, Tryd.ntmps65
  go_wp2_with fail
  go_loopw [8] (fun i wr => ∃ j : Nat, j ≤ L ∧ i = .int .i64 j ∧ (∀ (m : Nat) (y : Int × Int), m < j → xs[m]? = some y → y.1 ≠ k) ∧ Below w.heap.size w wr) (fun i _ => L - (intOf i).toNat)
  case atStart => exact ⟨0, by omega, rfl, fun j y hj => by omega, Below.refl _ _⟩
  case round =>
    obtain ⟨j, hj, rfl, ha, hb⟩ := hrel
    have HA := Lib.hid (And.intro ha hb)
    by_cases hjn : j < L
    · obtain ⟨y, hy⟩ : ∃ y, xs[j]? = some y := ⟨_, List.getElem?_eq_getElem (by rw [← HLL.out]; exact hjn)⟩
      have hr := HC.out.1.below hb
      rw [← HLL.out] at hr
      obtain ⟨g, o, rfl, hg, d0, d1⟩ := hr.sp hy
      obtain ⟨y0, y1⟩ := y
      simp only at d0 d1
      have i1 : (0 : Int) ≤ (j : Int) := by omega
      have i2 : (j : Int) < (L : Int) := by omega
      have HY := Lib.hid hy
      have HK := Lib.hid (lcl1_any y0 y1 ((hb.cell (p := ⟨P, 0, none⟩) HC.out.2.2).trans HC.out.2.1))
      clear hy hr ha hb
      by_cases hyk : y0 = k
      · have e1 : (y0 == k) = true := by rw [beq_iff_eq]; exact hyk
        rw [e1] at HK
        have HX := Lib.hid hyk
        clear hyk e1
        go_wp2_with fail
        refine HK.out.mono ?_
        rintro e w' ⟨rfl, hb2⟩
        have HB2 := Lib.hid (HA.out.2.trans (hb2.mono HA.out.2.size))
        clear hb2
        go_wp2_with fail
        go_ret
        exact ⟨j, rfl, .inr ⟨j, _, rfl, HY.out, HX.out⟩, HB2.out⟩
      · have e1 : (y0 == k) = false := by rw [beq_eq_false_iff_ne]; exact hyk
        rw [e1] at HK
        have HX := Lib.hid hyk
        clear hyk e1
        go_wp2_with fail
        refine HK.out.mono ?_
        rintro e w' ⟨rfl, hb2⟩
        have HB2 := Lib.hid (HA.out.2.trans (hb2.mono HA.out.2.size))
        clear hb2
        go_wp2_with fail
        go_roundw
        case rel => exact ⟨j + 1, by omega, by go_num, fun m z hm hz => by
          rcases Nat.lt_or_ge m j with h | h
          · exact HA.out.1 m z h hz
          · obtain rfl : m = j := by omega
            rw [HY.out] at hz
            injection hz with hz
            subst hz
            exact HX.out, HB2.out⟩
        case measure => simp [intOf]; omega
    · obtain rfl : j = L := by omega
      clear ha hb
      go_wp2_with fail
      go_ret
      refine ⟨-1, rfl, .inl ⟨rfl, fun x hx => ?_⟩, HA.out.2⟩
      obtain ⟨i, hi, rfl⟩ := List.getElem_of_mem hx
      exact HA.out.1 i _ (by rw [HLL.out]; exact hi) (List.getElem?_eq_getElem hi)
set_option maxHeartbeats 1000000 in
theorem lidx2_any {P : Nat} {k : Int} {v : Value} {xs : List (Int × Int)} {w : World} (h : SRd w w.heap.size v xs) (hP : w.cell? ⟨P, 0, none⟩ = some (.int .i64 k)) (hPl : P < w.heap.size) :
    Calls Tryd.prog 65 #[v, .func (.func 47) #[] #[.pointer (some ⟨P, 0, none⟩)]] w fun e w' => ∃ r : Int, e = .returned (.int .i64 r) ∧ FirstAt k xs r ∧ Below w.heap.size w w' := by
  obtain ⟨A, cap, rfl, m1, m2⟩ := h.is
  unfold maxLen at m2
  obtain ⟨L, hL⟩ : ∃ L, L = xs.length := ⟨_, rfl⟩
  have HC := Lib.hid (And.intro h (And.intro hP hPl))
  have HLL := Lib.hid hL
  have m3 : (L : Int) ≤ 9223372036854775807 := by rw [← hL] at m1; omega
  rw [← hL] at m1 ⊢
  clear h hL hP hPl m2
  go_enter Tryd.func65, Tryd.ntmps65
  go_wp2_with fail
  go_loopw [8] (fun i wr => ∃ j : Nat, j ≤ L ∧ i = .int .i64 j ∧ (∀ (m : Nat) (y : Int × Int), m < j → xs[m]? = some y → y.1 ≠ k) ∧ Below w.heap.size w wr) (fun i _ => L - (intOf i).toNat)
  case atStart => exact ⟨0, by omega, rfl, fun j y hj => by omega, Below.refl _ _⟩
  case round =>
    obtain ⟨j, hj, rfl, ha, hb⟩ := hrel
    have HA := Lib.hid (And.intro ha hb)
    by_cases hjn : j < L
    · obtain ⟨y, hy⟩ : ∃ y, xs[j]? = some y := ⟨_, List.getElem?_eq_getElem (by rw [← HLL.out]; exact hjn)⟩
      have hr := HC.out.1.below hb
      rw [← HLL.out] at hr
      obtain ⟨g, o, rfl, hg, d0, d1⟩ := hr.sp hy
      obtain ⟨y0, y1⟩ := y
      simp only at d0 d1
      have i1 : (0 : Int) ≤ (j : Int) := by omega
      have i2 : (j : Int) < (L : Int) := by omega
      have HY := Lib.hid hy
      have HK := Lib.hid (lcl2_any y0 y1 ((hb.cell (p := ⟨P, 0, none⟩) HC.out.2.2).trans HC.out.2.1))
      clear hy hr ha hb
      by_cases hyk : y0 = k
      · have e1 : (y0 == k) = true := by rw [beq_iff_eq]; exact hyk
        rw [e1] at HK
        have HX := Lib.hid hyk
        clear hyk e1
        go_wp2_with fail
        refine HK.out.mono ?_
        rintro e w' ⟨rfl, hb2⟩
        have HB2 := Lib.hid (HA.out.2.trans (hb2.mono HA.out.2.size))
        clear hb2
        go_wp2_with fail
        go_ret
        exact ⟨j, rfl, .inr ⟨j, _, rfl, HY.out, HX.out⟩, HB2.out⟩
      · have e1 : (y0 == k) = false := by rw [beq_eq_false_iff_ne]; exact hyk
        rw [e1] at HK
        have HX := Lib.hid hyk
        clear hyk e1
        go_wp2_with fail
        refine HK.out.mono ?_
        rintro e w' ⟨rfl, hb2⟩
        have HB2 := Lib.hid (HA.out.2.trans (hb2.mono HA.out.2.size))
        clear hb2
        go_wp2_with fail
        go_roundw
        case rel => exact ⟨j + 1, by omega, by go_num, fun m z hm hz => by
          rcases Nat.lt_or_ge m j with h | h
          · exact HA.out.1 m z h hz
          · obtain rfl : m = j := by omega
            rw [HY.out] at hz
            injection hz with hz
            subst hz
            exact HX.out, HB2.out⟩
        case measure => simp [intOf]; omega
    · obtain rfl : j = L := by omega
      clear ha hb
      go_wp2_with fail
      go_ret
      refine ⟨-1, rfl, .inl ⟨rfl, fun x hx => ?_⟩, HA.out.2⟩
      obtain ⟨i, hi, rfl⟩ := List.getElem_of_mem hx
      exact HA.out.1 i _ (by rw [HLL.out]; exact hi) (List.getElem?_eq_getElem hi)
theorem lcont1_any {P : Nat} {k : Int} {v : Value} {xs : List (Int × Int)} {w : World} (h : SRd w w.heap.size v xs) (hP : w.cell? ⟨P, 0, none⟩ = some (.int .i64 k)) (hPl : P < w.heap.size) :
    Calls Tryd.prog 43 #[v, .func (.func 44) #[] #[.pointer (some ⟨P, 0, none⟩)]] w fun e w' => e = .returned (.bool (decide ((k : Int) ∈ xs.map (·.1)))) ∧ Below w.heap.size w w' := by
  have HI := Lib.hid (lidx1_any h hP hPl)
  obtain ⟨A, cap, rfl, m1, m2⟩ := h.is
  clear h hP hPl
  obtain ⟨L, hL⟩ : ∃ L, L = xs.length := ⟨_, rfl⟩
  rw [← hL] at HI m1 ⊢
  clear hL
  obtain ⟨b, hb⟩ : ∃ b, b = decide ((k : Int) ∈ xs.map (·.1)) := ⟨_, rfl⟩
  rw [← hb]
  have HB := Lib.hid hb
  clear hb
  go_enter Tryd.func43, Tryd.ntmps43
  go_wp2_with fail
  refine HI.out.mono ?_
  rintro e w1 ⟨r, rfl, hr, hb1⟩
  have HR := Lib.hid (And.intro hr hb1)
  rcases hr with ⟨rfl, hr⟩ | ⟨i, x, rfl, h1, h2⟩
  · have HB9 := Lib.hid hr
    clear hr hb1
    go_wp2_with fail
    go_ret
    refine ⟨ret_bool ?_, HR.out.2⟩
    rw [HB.out, decide_eq_false (fun hm => by
      obtain ⟨x, hx, e⟩ := List.mem_map.1 hm
      exact HB9.out x hx e)]
  · have HB9 := Lib.hid (And.intro h1 h2)
    have hi : (0 : Int) ≤ (i : Int) := by omega
    clear h1 h2 hb1
    go_wp2_with fail
    go_ret
    refine ⟨ret_bool ?_, HR.out.2⟩
    rw [HB.out, decide_eq_true (List.mem_map.2 ⟨x, List.mem_of_getElem? HB9.out.1, HB9.out.2⟩)]
theorem lcont2_any {P : Nat} {k : Int} {v : Value} {xs : List (Int × Int)} {w : World} (h : SRd w w.heap.size v xs) (hP : w.cell? ⟨P, 0, none⟩ = some (.int .i64 k)) (hPl : P < w.heap.size) :
    Calls Tryd.prog 43 #[v, .func (.func 47) #[] #[.pointer (some ⟨P, 0, none⟩)]] w fun e w' => e = .returned (.bool (decide ((k : Int) ∈ xs.map (·.1)))) ∧ Below w.heap.size w w' := by
  have HI := Lib.hid (lidx2_any h hP hPl)
  obtain ⟨A, cap, rfl, m1, m2⟩ := h.is
  clear h hP hPl
  obtain ⟨L, hL⟩ : ∃ L, L = xs.length := ⟨_, rfl⟩
  rw [← hL] at HI m1 ⊢
  clear hL
  obtain ⟨b, hb⟩ : ∃ b, b = decide ((k : Int) ∈ xs.map (·.1)) := ⟨_, rfl⟩
  rw [← hb]
  have HB := Lib.hid hb
  clear hb
  go_enter Tryd.func43, Tryd.ntmps43
  go_wp2_with fail
  refine HI.out.mono ?_
  rintro e w1 ⟨r, rfl, hr, hb1⟩
  have HR := Lib.hid (And.intro hr hb1)
  rcases hr with ⟨rfl, hr⟩ | ⟨i, x, rfl, h1, h2⟩
  · have HB9 := Lib.hid hr
    clear hr hb1
    go_wp2_with fail
    go_ret
    refine ⟨ret_bool ?_, HR.out.2⟩
    rw [HB.out, decide_eq_false (fun hm => by
      obtain ⟨x, hx, e⟩ := List.mem_map.1 hm
      exact HB9.out x hx e)]
  · have HB9 := Lib.hid (And.intro h1 h2)
    have hi : (0 : Int) ≤ (i : Int) := by omega
    clear h1 h2 hb1
    go_wp2_with fail
    go_ret
    refine ⟨ret_bool ?_, HR.out.2⟩
    rw [HB.out, decide_eq_true (List.mem_map.2 ⟨x, List.mem_of_getElem? HB9.out.1, HB9.out.2⟩)]
end Go.Proofs.YtfgangkpebkicaaDoor

/-
  What the reference's LeastOrder leaves as it was; what it tries, plainly.
-/
namespace Go.Proofs.YtfgangkpebkicaaDoor
open Go.RowKit
set_option maxRecDepth 20000
structure LoR (w : World) (n : Nat) (r : Nat → Nat) (X : World) : Prop where
  below : Below w.heap.size w X
  rel : RelB X w.heap.size n r
theorem LoR.next {w : World} {n : Nat} {r : Nat → Nat} {X X' : World} (h : LoR w n r X) (hb : Below X.heap.size X X') : LoR w n r X' :=
  ⟨h.below.trans (hb.mono h.below.size), Lies.below h.rel hb (Lies.lt h.rel)⟩
/-- A call and its number in their boxes. -/
structure LoK (w : World) (n : Nat) (r : Nat → Nat) (P k : Nat) (y0 y1 y2 y3 y4 y5 y6 : Int) (X : World) : Prop where
  lo : LoR w n r X
  bk : Lies X P 3 #[.int .i64 (k : Int)]
  bc : Lies X (P + 1) 51 #[.int .i64 y0, .int .i64 y1, .int .i64 y2, .int .i64 y3, .int .i64 y4, .int .i64 y5, .int .i64 y6]
theorem LoK.next {w : World} {n : Nat} {r : Nat → Nat} {P k : Nat} {y0 y1 y2 y3 y4 y5 y6 : Int} {X X' : World} (h : LoK w n r P k y0 y1 y2 y3 y4 y5 y6 X) (hb : Below X.heap.size X X') : LoK w n r P k y0 y1 y2 y3 y4 y5 y6 X' :=
  ⟨h.lo.next hb, Lies.below h.bk hb (Lies.lt h.bk), Lies.below h.bc hb (Lies.lt h.bc)⟩
theorem LoK.cells {w : World} {n : Nat} {r : Nat → Nat} {P k : Nat} {y0 y1 y2 y3 y4 y5 y6 : Int} {X : World} (h : LoK w n r P k y0 y1 y2 y3 y4 y5 y6 X) : X.cell? ⟨P, 0, none⟩ = some (.int .i64 (k : Int)) ∧ X.cell? ⟨P + 1, 1, none⟩ = some (.int .i64 y1) ∧ X.cell? ⟨P + 1, 2, none⟩ = some (.int .i64 y2) ∧ X.cell? ⟨P + 1, 3, none⟩ = some (.int .i64 y3) ∧ X.cell? ⟨P + 1, 4, none⟩ = some (.int .i64 y4) ∧ X.cell? ⟨P + 1, 6, none⟩ = some (.int .i64 y6) :=
  ⟨Lies.cell h.bk 0, Lies.cell h.bc 1, Lies.cell h.bc 2, Lies.cell h.bc 3, Lies.cell h.bc 4, Lies.cell h.bc 6⟩
/-- What LeastOrder answers. -/
def LoPost (w : World) (o : Option (List (Nat × Int))) (ws : List (Int × Int)) (e : Ending) (w' : World) : Prop :=
  Below w.heap.size w w' ∧ ((o = none ∧ e = .returned (.slice none 0 0)) ∨ ∃ S a N c, o = some S ∧ e = .returned (.slice (some a) N c) ∧ SRd w' w'.heap.size (.slice (some a) N c) (ws ++ asSteps S))
/-- All that stand ahead of k among the first m are done. -/
def allB (r : Nat → Nat) (ws : List (Int × Int)) (k m : Nat) : Bool := decide (∀ i, i < m → (r i).testBit k = true → (i : Int) ∈ ws.map (·.1))
theorem allB_zero (r : Nat → Nat) (ws : List (Int × Int)) (k : Nat) : allB r ws k 0 = true := decide_eq_true fun i hi => by omega
theorem allB_yes {r : Nat → Nat} {ws : List (Int × Int)} {k m : Nat} (h : (r m).testBit k = true → (m : Int) ∈ ws.map (·.1)) : allB r ws k (m + 1) = allB r ws k m := by
  unfold allB
  rw [Bool.eq_iff_iff, decide_eq_true_iff, decide_eq_true_iff]
  constructor
  · intro h1 i hi; exact h1 i (by omega)
  · intro h1 i hi hb
    by_cases e : i = m
    · subst e; exact h hb
    · exact h1 i (by omega) hb
theorem allB_no {r : Nat → Nat} {ws : List (Int × Int)} {k m : Nat} (h1 : (r m).testBit k = true) (h2 : ¬ (m : Int) ∈ ws.map (·.1)) : allB r ws k (m + 1) = false := by
  unfold allB
  rw [decide_eq_false_iff_not]
  intro h; exact h2 (h m (by omega) h1)
theorem tryG_no {b : Nat → Nat} {go : Pt → Option (List (Nat × Int))} {ts : List Int} {cs : List Cl} {p : Pt} {n k : Nat} (hk : k < n) (h : mayG b ts cs p k = false) : tryG b go ts cs p (n - k) k = tryG b go ts cs p (n - (k + 1)) (k + 1) := by
  obtain ⟨m, hm⟩ : ∃ m, n - k = m + 1 := ⟨n - k - 1, by omega⟩
  rw [hm, tryG, h, if_neg (by decide), show n - (k + 1) = m by omega]
theorem tryG_yes {b : Nat → Nat} {go : Pt → Option (List (Nat × Int))} {ts : List Int} {cs : List Cl} {p : Pt} {n k : Nat} (hk : k < n) (h : mayG b ts cs p k = true) : tryG b go ts cs p (n - k) k = match go (nextP ts cs p k) with
    | some l => some ((k, (thingO ts cs p k).2.1) :: l)
    | none => tryG b go ts cs p (n - (k + 1)) (k + 1) := by
  obtain ⟨m, hm⟩ : ∃ m, n - k = m + 1 := ⟨n - k - 1, by omega⟩
  rw [hm, tryG, h, if_pos rfl, show n - (k + 1) = m by omega]
  all_goals (cases go (nextP ts cs p k) <;> rfl)
theorem asSteps_cons (k : Nat) (v : Int) (S : List (Nat × Int)) : asSteps ((k, v) :: S) = ((k : Int), v) :: asSteps S := rfl
/-- Whether k may come next, as the reference looks at it. -/
theorem may_ref {b : Nat → Nat} {ts : List Int} {cs : List Cl} {r : Nat → Nat} {ws : List (Int × Int)} {p : Pt} (h : Legal ts cs r ws p) (hn : cs.length ≤ 16) {k : Nat} (hk : k < cs.length) (hb : ∀ i, i < cs.length → ((b k).testBit i = (r i).testBit k)) (hb2 : ∀ i, cs.length ≤ i → (b k).testBit i = false) (hnm : ¬ (k : Int) ∈ ws.map (·.1)) :
    mayG b ts cs p k = (((thingO ts cs p k).2.2 == 0 && ((cs.getD k default).til == -1 || (thingO ts cs p k).2.1 == (cs.getD k default).res)) && allB r ws k cs.length) := by
  rw [Bool.eq_iff_iff, mayG_iff h.small hn hb hb2]
  unfold allB
  simp only [Bool.and_eq_true, beq_iff_eq, Bool.or_eq_true, decide_eq_true_eq]
  constructor
  · rintro ⟨_, h2, h3, h4⟩
    exact ⟨⟨h2, h3⟩, fun i hi hr => (h.done i hi).1 (h4 i hi hr)⟩
  · rintro ⟨⟨h2, h3⟩, h4⟩
    refine ⟨?_, h2, h3, fun i hi hr => (h.done i hi).2 (h4 i hi hr)⟩
    cases hd : p.done.testBit k
    · rfl
    · exact absurd ((h.done k hk).1 hd) hnm
theorem may_in {b : Nat → Nat} {ts : List Int} {cs : List Cl} {r : Nat → Nat} {ws : List (Int × Int)} {p : Pt} (h : Legal ts cs r ws p) {k : Nat} (hk : k < cs.length) (hm : (k : Int) ∈ ws.map (·.1)) : mayG b ts cs p k = false := by
  unfold mayG
  rw [(h.done k hk).2 hm]
  rfl
/-- Behind what writes into newer blocks alone. -/
theorem LoK.next_own {w : World} {n : Nat} {r : Nat → Nat} {P k : Nat} {y0 y1 y2 y3 y4 y5 y6 : Int} {X X' : World} (h : LoK w n r P k y0 y1 y2 y3 y4 y5 y6 X) {B : Nat} (hb : Below B X X') (h1 : P + 1 < B ∧ w.heap.size < B) : LoK w n r P k y0 y1 y2 y3 y4 y5 y6 X' :=
  ⟨⟨h.lo.below.trans (hb.mono (by omega)), Lies.below h.lo.rel hb h1.2⟩, Lies.below h.bk hb (by omega), Lies.below h.bc hb h1.1⟩
theorem srd_lies {w : World} {g : Nat} {k v : Int} (h : Lies w g 38 #[.int .i64 k, .int .i64 v]) : SRd w (g + 1) (.slice (some ⟨g, 0, none⟩) 1 1) [(k, v)] := by
  refine ⟨_, _, rfl, Nat.le_refl _, by unfold maxLen; omega, fun _ => ⟨g, 0, rfl, by omega, fun i x hi j u hu => ?_⟩⟩
  have h0 : i = 0 := by have := (List.getElem?_eq_some_iff.1 hi).1; simp at this; omega
  subst h0
  simp at hi
  subst hi
  rw [Lies.cell h]
  simpa using hu
theorem Lies.grownS {W w' : World} {g : Nat} {t : TypeId} {cs : Array Value} {row : Option Nat} (h : Lies W g t cs) (hg : W.grownBy w' row) (hne : some g ≠ row) : Lies w' g t cs := h.keep (hg.block g h.lt hne)
theorem own_block_lo {w : World} {B : Nat} {v : Value} {l : List (Int × Int)} (h : TOwn w B v l) (hl : l ≠ []) : ∃ g cap, v = .slice (some ⟨g, 0, none⟩) l.length cap ∧ B ≤ g ∧ g < w.heap.size := by
  rcases h.2 with ⟨_, h0⟩ | ⟨g, cap, cur, rfl, hB, hg, _⟩
  · exact absurd (List.length_eq_zero_iff.1 h0) hl
  · exact ⟨g, cap, rfl, hB, (Array.getElem?_eq_some_iff.1 hg).1⟩
/-- The relation in its box, a number in its. -/
def LoS (Q P n : Nat) (r : Nat → Nat) (k : Nat) (W : World) : Prop := RelB W Q n r ∧ W.cell? ⟨P, 0, none⟩ = some (.int .i64 (k : Int))
theorem st_nil_ne (w : World) : (binOp .neq 34 (.slice none 0 0) (.slice none 0 0)).run Tryd.prog w = .ok (.bool false) w := by kernel_rfl
theorem st_some_ne (a : Addr) (m c : Nat) (w : World) : (binOp .neq 34 (.slice (some a) m c) (.slice none 0 0)).run Tryd.prog w = .ok (.bool true) w := by kernel_rfl
theorem own_empty (W : World) : TOwn (W.alloc (.cells #[] 38)) W.heap.size (.slice (some ⟨W.heap.size, 0, none⟩) 0 0) [] := ⟨rfl, .inr ⟨W.heap.size, 0, #[], rfl, Nat.le_refl _, heap_alloc_new W _, Nat.le_refl _, by unfold maxLen; omega, rfl, rfl⟩⟩
theorem rite_small {cs : List Cl} {ts : List Int} {r : Nat → Nat} {ws : List (Int × Int)} {p : Pt} (h : Legal ts cs r ws p) : ws.length ≤ cs.length := by
  have := nodup_lt cs.length h.once (fun k hk => by
    obtain ⟨x, hx, rfl⟩ := List.mem_map.1 hk
    exact h.rng x hx)
  rwa [List.length_map] at this
theorem run_app_spsG {W : World} {base n cap : Nat} {v : Value} {A : Option Addr} {l ys : List (Int × Int)} {B : Nat} (ty : TypeId) (hown : TOwn W base v l) (hr : SRd W B (.slice A n cap) ys) (hlen : ((l.length + ys.length) + (l.length + ys.length) / 4 + 192) * 16 ≤ 281474976710656) (hbase : base ≤ W.heap.size) (hA : A ≠ none) :
    ∃ v' w', (Builtin.append_ #[34, 34] ty #[v, .slice A n cap]).run Tryd.prog W = .ok v' w' ∧ TOwn w' base v' (l ++ ys) ∧ Below base W w' ∧ W.grownBy w' v.ownBlock := by
  obtain ⟨i0, hi, hz0, hz1, hz2⟩ := info_of info_sp
  have hl := World.ownsRow.lt hown
  obtain ⟨A', cap', he, m1, m2, hc⟩ := hr
  injection he with e1 e2 e3
  subst e1 e2 e3
  cases A with
  | none => exact absurd rfl hA
  | some a =>
    have hlf : (ys.flatMap spCs).length = ys.length * 2 := flat_len (f := spCs) (s := 2) (fun _ => rfl) ys
    obtain ⟨v', w', hr, h2, h3, _⟩ := run_append_own_wide (P := Tryd.prog) W base 34 ty 38 i0 (.agg #[.int .i64 0, .int .i64 0]) 2 16 Tryd.underlying34 hi hz0 hz1 hz2 rfl (by decide) v l.length (l.flatMap spCs) hown
      a ys.length cap (ys.flatMap spCs) hlf (fun j u hu => by
        have hj := (List.getElem?_eq_some_iff.1 hu).1
        rw [hlf] at hj
        obtain ⟨g, o, ha, _, hcell⟩ := hc (by omega)
        injection ha with ha
        subst ha
        have hx := List.getElem?_eq_getElem (show j / 2 < ys.length by omega)
        have hm : j % 2 < (spCs ys[j / 2]).length := by show j % 2 < 2; omega
        have hf := flat_at (l := ys) (f := spCs) (s := 2) (fun _ => rfl) hx (List.getElem?_eq_getElem hm)
        have e : j / 2 * 2 + j % 2 = j := by omega
        rw [e, hu] at hf
        have := hcell (j / 2) _ hx (j % 2) _ ((List.getElem?_eq_getElem hm).trans hf.symm)
        rw [Addr.add_lit]
        rw [Nat.add_assoc, e] at this
        exact this) (fun u hu => by
        rw [List.mem_flatMap] at hu
        obtain ⟨x, _, hx⟩ := hu
        simp only [List.mem_cons, List.not_mem_nil, or_false] at hx
        rcases hx with rfl | rfl <;> rfl) (by unfold maxLen; omega) hlen hbase
    refine ⟨v', w', hr, ?_, (Below.refl base W).grown h3 hbase (fun k hk => (hl k hk).1), h3⟩
    unfold TOwn
    rw [List.length_append, List.flatMap_append]
    exact h2
end Go.Proofs.YtfgangkpebkicaaDoor
