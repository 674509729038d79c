/-
  Joined by a program out of: LoPure, LoIdx.
-/
import Derived.Test.YtecpjeililiafaaDoorMgBC
import Derived.Test.YtecpjeililiafaaDoorMgBB

/-
  Plain: what the reference's LeastOrder finds: the least order from a point on, whatever must stand ahead.
-/
namespace Go.Proofs.YtecpjeililiafaaDoor
open Go.RowKit
set_option maxRecDepth 20000
variable {Rl : Nat → Nat → Bool}

/-- May call k come next, where b k must be done ahead of it? -/
def mayG (b : Nat → Nat) (ts : List Int) (cs : List Cl) (p : Pt) (k : Nat) : Bool :=
  !p.done.testBit k && (b k &&& (65535 - p.done) == 0) && ((thingO ts cs p k).2.2 == 0) && ((cs.getD k default).til == -1 || (thingO ts cs p k).2.1 == (cs.getD k default).res)
def tryG (b : Nat → Nat) (go : Pt → Option (List (Nat × Int))) (ts : List Int) (cs : List Cl) (p : Pt) : Nat → Nat → Option (List (Nat × Int))
  | 0, _ => none
  | m + 1, k => if mayG b ts cs p k = true then (match go (nextP ts cs p k) with
    | some l => some ((k, (thingO ts cs p k).2.1) :: l)
    | none => tryG b go ts cs p m (k + 1)) else tryG b go ts cs p m (k + 1)
def findG (b : Nat → Nat) (ts : List Int) (cs : List Cl) : Nat → Pt → Option (List (Nat × Int))
  | 0, p => if fullB cs p = true then some [] else none
  | f + 1, p => if fullB cs p = true then some [] else tryG b (findG b ts cs f) ts cs p cs.length 0
theorem try_G {go go' : Pt → Option (List (Nat × Int))} {ts : List Int} {cs : List Cl} {p : Pt} (h : ∀ r, go r = go' r) : ∀ m k, tryO Rl go ts cs p m k = tryG (befP Rl cs) go' ts cs p m k
  | 0, k => rfl
  | m + 1, k => by
    rw [tryO, tryG, try_G h m (k + 1), h]
    rfl
theorem find_G {ts : List Int} {cs : List Cl} : ∀ f p, findO Rl ts cs f p = findG (befP Rl cs) ts cs f p
  | 0, p => rfl
  | f + 1, p => by
    rw [findO, findG, try_G (fun r => find_G f r)]
/-- Steps that may be, one behind the other, and where they have led to. -/
structure Legal (ts : List Int) (cs : List Cl) (r : Nat → Nat) (ws : List (Int × Int)) (p : Pt) : Prop where
  rng : ∀ x ∈ ws, 0 ≤ x.1 ∧ x.1 < cs.length
  once : (ws.map (·.1)).Nodup
  res : ∀ x ∈ ws, (atC cs x).til ≠ -1 → (atC cs x).res = x.2
  ord : ∀ i j, i < cs.length → j < cs.length → (r i).testBit j = true → ∀ a y b, ws = a ++ y :: b → y.1 = (j : Int) → (i : Int) ∈ a.map (·.1)
  goes : ∀ t, t < ts.length → goesB (ts.getD t 0) (beginL (ts.getD t 0)) (ownD cs t ws) = true
  small : p.done < 65536
  done : ∀ i, i < cs.length → (p.done.testBit i = true ↔ (i : Int) ∈ ws.map (·.1))
  st : ∀ t, t < ts.length → p.st t = stateFrom (ts.getD t 0) (beginL (ts.getD t 0)) (ownD cs t ws)
section
variable {ts : List Int} {cs : List Cl} {r : Nat → Nat} {ws : List (Int × Int)} {p : Pt}
theorem Legal.start : Legal ts cs r [] (startP ts) := by
  refine ⟨fun x hx => by simp at hx, by simp, fun x hx => by simp at hx, fun i j _ _ _ a y b e => by simp at e, fun t _ => rfl, by show 0 < 65536; decide, fun i _ => ?_, fun t ht => ?_⟩
  · rw [show (startP ts).done = 0 from rfl, Nat.zero_testBit]
    simp
  · unfold startP
    simp only
    rw [if_pos ht]
    rfl
/-- It is right just if nothing has to follow. -/
theorem Legal.right (h : Legal ts cs r ws p) (hn : cs.length ≤ 16) : RiteP ts cs (fun i j => (r i).testBit j) ws ↔ fullB cs p = true := by
  rw [full_iff h.small hn]
  constructor
  · intro hr i hi ht
    exact (h.done i hi).2 (hr.all i hi ht)
  · intro hf
    exact ⟨h.rng, h.once, h.res, fun i hi ht => (h.done i hi).1 (hf i hi ht), h.ord, h.goes⟩
theorem mayG_iff {b : Nat → Nat} {k : Nat} (hd : p.done < 65536) (hn : cs.length ≤ 16) (hb : ∀ i, i < cs.length → ((b k).testBit i = (r i).testBit k)) (hb2 : ∀ i, cs.length ≤ i → (b k).testBit i = false) : mayG b ts cs p k = true ↔
    p.done.testBit k = false ∧ (thingO ts cs p k).2.2 = 0 ∧ ((cs.getD k default).til = -1 ∨ (thingO ts cs p k).2.1 = (cs.getD k default).res) ∧ ∀ i, i < cs.length → (r i).testBit k = true → p.done.testBit i = true := by
  unfold mayG
  simp only [Bool.and_eq_true, Bool.not_eq_true', beq_iff_eq, Bool.or_eq_true]
  have h1 : b k &&& (65535 - p.done) = 0 ↔ ∀ i, i < cs.length → (r i).testBit k = true → p.done.testBit i = true := by
    constructor
    · intro h i hi ha
      have h1 : (b k &&& (65535 - p.done)).testBit i = false := by rw [h]; exact Nat.zero_testBit i
      rw [Nat.testBit_and, inv_bit hd (by omega), hb i hi, ha] at h1
      simpa using h1
    · intro h
      apply Nat.eq_of_testBit_eq
      intro j
      rw [Nat.testBit_and, Nat.zero_testBit]
      by_cases hj : j < cs.length
      · rw [inv_bit hd (by omega), hb j hj]
        cases ha : (r j).testBit k
        · simp
        · rw [h j hj ha]; simp
      · rw [hb2 j (by omega)]; simp
  rw [h1]
  constructor
  · rintro ⟨⟨⟨a, b⟩, c⟩, d⟩; exact ⟨a, c, d, b⟩
  · rintro ⟨a, c, d, b⟩; exact ⟨⟨⟨a, b⟩, c⟩, d⟩
/-- The state of call k's thing. -/
theorem Legal.thing (h : Legal ts cs r ws p) {k : Nat} (ht : (cs.getD k default).thing.toNat < ts.length) : thingO ts cs p k = stepO (ts.getD (cs.getD k default).thing.toNat 0) (stateFrom (ts.getD (cs.getD k default).thing.toNat 0) (beginL (ts.getD (cs.getD k default).thing.toNat 0)) (ownD cs (cs.getD k default).thing.toNat ws)) (cs.getD k default).kind (cs.getD k default).arg := by
  unfold thingO
  rw [h.st _ ht]
theorem stateFrom_snoc (typ : Int) (s : List Int) (l : List Dd) (d : Dd) : stateFrom typ s (l ++ [d]) = (stepO typ (stateFrom typ s l) d.kind d.arg).1 := by
  unfold stateFrom
  rw [List.foldl_append]
  rfl
/-- The states on the way may be. -/
theorem goes_valid {typ : Int} : ∀ (l : List Dd) (s : List Int), stateE typ s = 0 → goesB typ s l = true → stateE typ (stateFrom typ s l) = 0
  | [], s, h, _ => h
  | d :: r, s, h, hg => by
    rw [goes_cons] at hg
    exact goes_valid r _ (stepO_ok hg.1).1 hg.2.2
theorem goes_prefix {typ : Int} {s : List Int} {a b : List Dd} (h : goesB typ s (a ++ b) = true) : goesB typ s a = true := ((goes_append a b s).1 h).1
/-- One more call. -/
theorem Legal.next (h : Legal ts cs r ws p) {k : Nat} (hk : k < cs.length) (hn : cs.length ≤ 16) (hirr : (r k).testBit k = false) (hth : 0 ≤ (cs.getD k default).thing ∧ (cs.getD k default).thing < ts.length)
    (h1 : p.done.testBit k = false) (h2 : (thingO ts cs p k).2.2 = 0) (h3 : (cs.getD k default).til = -1 ∨ (thingO ts cs p k).2.1 = (cs.getD k default).res) (h4 : ∀ i, i < cs.length → (r i).testBit k = true → p.done.testBit i = true) :
    Legal ts cs r (ws ++ [((k : Int), (thingO ts cs p k).2.1)]) (nextP ts cs p k) := by
  have hnm : (k : Int) ∉ ws.map (·.1) := fun hm => by rw [(h.done k hk).2 hm] at h1; cases h1
  have hat : ∀ v : Int, atC cs ((k : Int), v) = cs.getD k default := fun v => by unfold atC; rw [Int.toNat_natCast]
  have hown : ∀ t v, ownD cs t (ws ++ [((k : Int), v)]) = if (cs.getD k default).thing.toNat = t then ownD cs t ws ++ [⟨(cs.getD k default).kind, (cs.getD k default).arg, v⟩] else ownD cs t ws := fun t v => by
    rw [ownD_append, ownD_cons, hat]
    split
    · unfold ddC; rw [hat]; rfl
    · rw [show ownD cs t [] = [] from rfl, List.append_nil]
  have hto := h.thing (k := k) (by omega)
  refine ⟨fun x hx => ?_, ?_, fun x hx ht => ?_, fun i j hi hj hb a y b e ey => ?_, fun t ht => ?_, ?_, fun i hi => ?_, fun t ht => ?_⟩
  · rcases List.mem_append.1 hx with hx | hx
    · exact h.rng x hx
    · rw [List.mem_singleton] at hx; subst hx
      exact ⟨by show (0 : Int) ≤ (k : Nat); omega, by show ((k : Nat) : Int) < _; omega⟩
  · rw [List.map_append, List.nodup_append]
    refine ⟨h.once, by simp, fun u hu v hv e => ?_⟩
    simp at hv
    subst hv
    subst e
    exact hnm hu
  · rcases List.mem_append.1 hx with hx | hx
    · exact h.res x hx ht
    · rw [List.mem_singleton] at hx; subst hx
      rw [hat] at ht ⊢
      rcases h3 with h3 | h3
      · exact absurd h3 ht
      · exact h3.symm
  · rcases List.eq_nil_or_concat b with rfl | ⟨b2, z, rfl⟩
    · have e2 := List.append_inj' e rfl
      have e3 : y = ((k : Int), (thingO ts cs p k).2.1) := by have := e2.2; injection this with h9 _; exact h9.symm
      rw [e3] at ey
      have : j = k := by have : (k : Int) = (j : Int) := ey; omega
      subst this
      rw [← e2.1]
      exact (h.done i hi).1 (h4 i hi hb)
    · rw [List.concat_eq_append] at e
      have e3 : ws ++ [((k : Int), (thingO ts cs p k).2.1)] = (a ++ y :: b2) ++ [z] := by rw [e]; simp
      have e2 := List.append_inj' e3 rfl
      exact h.ord i j hi hj hb a y b2 e2.1 ey
  · rw [hown]
    split
    · rename_i e
      subst e
      rw [goes_append, goes_cons]
      exact ⟨h.goes _ ht, by rw [← hto]; exact h2, by rw [← hto], rfl⟩
    · exact h.goes t ht
  · exact next_lt h.small (by omega)
  · rw [next_bit, List.map_append, List.mem_append, h.done i hi]
    simp only [List.map_cons, List.map_nil, List.mem_singleton]
    constructor
    · rintro (h5 | h5)
      · exact .inl h5
      · exact .inr (by omega)
    · rintro (h5 | h5)
      · exact .inl h5
      · exact .inr (by omega)
  · rw [hown]
    show (if t = (cs.getD k default).thing.toNat then (thingO ts cs p k).1 else p.st t) = _
    by_cases e : (cs.getD k default).thing.toNat = t
    · rw [if_pos e, if_pos e.symm, stateFrom_snoc, hto, e]
    · rw [if_neg e, if_neg (fun h5 => e h5.symm), h.st t ht]
end
end Go.Proofs.YtecpjeililiafaaDoor

/-
  slices.ContainsFunc over steps, by the call that a step names: the reference's closures.
-/
namespace Go.Proofs.YtecpjeililiafaaDoor
open Go.RowKit
set_option maxRecDepth 20000

theorem lcl1_any (x0 x1 : Int) {P : Nat} {k : Int} {W : World} (hP : W.cell? ⟨P, 0, none⟩ = some (.int .i64 k)) :
    Calls Tryd.prog 66 #[.agg #[.int .i64 x0, .int .i64 x1], .pointer (some ⟨P, 0, none⟩)] W fun e w' => e = .returned (.bool (x0 == k)) ∧ Below W.heap.size W w' := by
  have c0 : ∀ o, (W.alloc o).cell? ⟨P, 0, none⟩ = some (.int .i64 k) := fun o => Lib.cell?_alloc_some _ hP
  go_enter Tryd.func66, Tryd.ntmps66
  go_wp2_with fail
  go_ret
  exact ⟨rfl, (Below.refl _ _).alloc (Nat.le_refl _) _⟩
theorem lcl2_any (x0 x1 : Int) {P : Nat} {k : Int} {W : World} (hP : W.cell? ⟨P, 0, none⟩ = some (.int .i64 k)) :
    Calls Tryd.prog 69 #[.agg #[.int .i64 x0, .int .i64 x1], .pointer (some ⟨P, 0, none⟩)] W fun e w' => e = .returned (.bool (x0 == k)) ∧ Below W.heap.size W w' := by
  have c0 : ∀ o, (W.alloc o).cell? ⟨P, 0, none⟩ = some (.int .i64 k) := fun o => Lib.cell?_alloc_some _ hP
  go_enter Tryd.func69, Tryd.ntmps69
  go_wp2_with fail
  go_ret
  exact ⟨rfl, (Below.refl _ _).alloc (Nat.le_refl _) _⟩
set_option maxHeartbeats 1000000 in
theorem lidx1_any {P : Nat} {k : Int} {v : Value} {xs : List (Int × Int)} {w : World} (h : SRd w w.heap.size v xs) (hP : w.cell? ⟨P, 0, none⟩ = some (.int .i64 k)) (hPl : P < w.heap.size) :
    Calls Tryd.prog 51 #[v, .func (.func 66) #[] #[.pointer (some ⟨P, 0, none⟩)]] w fun e w' => ∃ r : Int, e = .returned (.int .i64 r) ∧ FirstAt k xs r ∧ Below w.heap.size w w' := by
  obtain ⟨A, cap, rfl, m1, m2⟩ := h.is
  unfold maxLen at m2
  obtain ⟨L, hL⟩ : ∃ L, L = xs.length := ⟨_, rfl⟩
  have HC := Lib.hid (And.intro h (And.intro hP hPl))
  have HLL := Lib.hid hL
  have m3 : (L : Int) ≤ 9223372036854775807 := by rw [← hL] at m1; omega
  rw [← hL] at m1 ⊢
  clear h hL hP hPl m2
  go_enter Tryd.func51, Tryd.ntmps51
  go_wp2_with fail
  go_loopw [8] (fun i wr => ∃ j : Nat, j ≤ L ∧ i = .int .i64 j ∧ (∀ (m : Nat) (y : Int × Int), m < j → xs[m]? = some y → y.1 ≠ k) ∧ Below w.heap.size w wr) (fun i _ => L - (intOf i).toNat)
  case atStart => exact ⟨0, by omega, rfl, fun j y hj => by omega, Below.refl _ _⟩
  case round =>
    obtain ⟨j, hj, rfl, ha, hb⟩ := hrel
    have HA := Lib.hid (And.intro ha hb)
    by_cases hjn : j < L
    · obtain ⟨y, hy⟩ : ∃ y, xs[j]? = some y := ⟨_, List.getElem?_eq_getElem (by rw [← HLL.out]; exact hjn)⟩
      have hr := HC.out.1.below hb
      rw [← HLL.out] at hr
      obtain ⟨g, o, rfl, hg, d0, d1⟩ := hr.sp hy
      obtain ⟨y0, y1⟩ := y
      simp only at d0 d1
      have i1 : (0 : Int) ≤ (j : Int) := by omega
      have i2 : (j : Int) < (L : Int) := by omega
      have HY := Lib.hid hy
      have HK := Lib.hid (lcl1_any y0 y1 ((hb.cell (p := ⟨P, 0, none⟩) HC.out.2.2).trans HC.out.2.1))
      clear hy hr ha hb
      by_cases hyk : y0 = k
      · have e1 : (y0 == k) = true := by rw [beq_iff_eq]; exact hyk
        rw [e1] at HK
        have HX := Lib.hid hyk
        clear hyk e1
        go_wp2_with fail
        refine HK.out.mono ?_
        rintro e w' ⟨rfl, hb2⟩
        have HB2 := Lib.hid (HA.out.2.trans (hb2.mono HA.out.2.size))
        clear hb2
        go_wp2_with fail
        go_ret
        exact ⟨j, rfl, .inr ⟨j, _, rfl, HY.out, HX.out⟩, HB2.out⟩
      · have e1 : (y0 == k) = false := by rw [beq_eq_false_iff_ne]; exact hyk
        rw [e1] at HK
        have HX := Lib.hid hyk
        clear hyk e1
        go_wp2_with fail
        refine HK.out.mono ?_
        rintro e w' ⟨rfl, hb2⟩
        have HB2 := Lib.hid (HA.out.2.trans (hb2.mono HA.out.2.size))
        clear hb2
        go_wp2_with fail
        go_roundw
        case rel => exact ⟨j + 1, by omega, by go_num, fun m z hm hz => by
          rcases Nat.lt_or_ge m j with h | h
          · exact HA.out.1 m z h hz
          · obtain rfl : m = j := by omega
            rw [HY.out] at hz
            injection hz with hz
            subst hz
            exact HX.out, HB2.out⟩
        case measure => simp [intOf]; omega
    · obtain rfl : j = L := by omega
      clear ha hb
      go_wp2_with fail
      go_ret
      refine ⟨-1, rfl, .inl ⟨rfl, fun x hx => ?_⟩, HA.out.2⟩
      obtain ⟨i, hi, rfl⟩ := List.getElem_of_mem hx
      exact HA.out.1 i _ (by rw [HLL.out]; exact hi) (List.getElem?_eq_getElem hi)
set_option maxHeartbeats 1000000 in
theorem lidx2_any {P : Nat} {k : Int} {v : Value} {xs : List (Int × Int)} {w : World} (h : SRd w w.heap.size v xs) (hP : w.cell? ⟨P, 0, none⟩ = some (.int .i64 k)) (hPl : P < w.heap.size) :
    Calls Tryd.prog 51 #[v, .func (.func 69) #[] #[.pointer (some ⟨P, 0, none⟩)]] w fun e w' => ∃ r : Int, e = .returned (.int .i64 r) ∧ FirstAt k xs r ∧ Below w.heap.size w w' := by
  obtain ⟨A, cap, rfl, m1, m2⟩ := h.is
  unfold maxLen at m2
  obtain ⟨L, hL⟩ : ∃ L, L = xs.length := ⟨_, rfl⟩
  have HC := Lib.hid (And.intro h (And.intro hP hPl))
  have HLL := Lib.hid hL
  have m3 : (L : Int) ≤ 9223372036854775807 := by rw [← hL] at m1; omega
  rw [← hL] at m1 ⊢
  clear h hL hP hPl m2
  go_enter Tryd.func51, Tryd.ntmps51
  go_wp2_with fail
  go_loopw [8] (fun i wr => ∃ j : Nat, j ≤ L ∧ i = .int .i64 j ∧ (∀ (m : Nat) (y : Int × Int), m < j → xs[m]? = some y → y.1 ≠ k) ∧ Below w.heap.size w wr) (fun i _ => L - (intOf i).toNat)
  case atStart => exact ⟨0, by omega, rfl, fun j y hj => by omega, Below.refl _ _⟩
  case round =>
    obtain ⟨j, hj, rfl, ha, hb⟩ := hrel
    have HA := Lib.hid (And.intro ha hb)
    by_cases hjn : j < L
    · obtain ⟨y, hy⟩ : ∃ y, xs[j]? = some y := ⟨_, List.getElem?_eq_getElem (by rw [← HLL.out]; exact hjn)⟩
      have hr := HC.out.1.below hb
      rw [← HLL.out] at hr
      obtain ⟨g, o, rfl, hg, d0, d1⟩ := hr.sp hy
      obtain ⟨y0, y1⟩ := y
      simp only at d0 d1
      have i1 : (0 : Int) ≤ (j : Int) := by omega
      have i2 : (j : Int) < (L : Int) := by omega
      have HY := Lib.hid hy
      have HK := Lib.hid (lcl2_any y0 y1 ((hb.cell (p := ⟨P, 0, none⟩) HC.out.2.2).trans HC.out.2.1))
      clear hy hr ha hb
      by_cases hyk : y0 = k
      · have e1 : (y0 == k) = true := by rw [beq_iff_eq]; exact hyk
        rw [e1] at HK
        have HX := Lib.hid hyk
        clear hyk e1
        go_wp2_with fail
        refine HK.out.mono ?_
        rintro e w' ⟨rfl, hb2⟩
        have HB2 := Lib.hid (HA.out.2.trans (hb2.mono HA.out.2.size))
        clear hb2
        go_wp2_with fail
        go_ret
        exact ⟨j, rfl, .inr ⟨j, _, rfl, HY.out, HX.out⟩, HB2.out⟩
      · have e1 : (y0 == k) = false := by rw [beq_eq_false_iff_ne]; exact hyk
        rw [e1] at HK
        have HX := Lib.hid hyk
        clear hyk e1
        go_wp2_with fail
        refine HK.out.mono ?_
        rintro e w' ⟨rfl, hb2⟩
        have HB2 := Lib.hid (HA.out.2.trans (hb2.mono HA.out.2.size))
        clear hb2
        go_wp2_with fail
        go_roundw
        case rel => exact ⟨j + 1, by omega, by go_num, fun m z hm hz => by
          rcases Nat.lt_or_ge m j with h | h
          · exact HA.out.1 m z h hz
          · obtain rfl : m = j := by omega
            rw [HY.out] at hz
            injection hz with hz
            subst hz
            exact HX.out, HB2.out⟩
        case measure => simp [intOf]; omega
    · obtain rfl : j = L := by omega
      clear ha hb
      go_wp2_with fail
      go_ret
      refine ⟨-1, rfl, .inl ⟨rfl, fun x hx => ?_⟩, HA.out.2⟩
      obtain ⟨i, hi, rfl⟩ := List.getElem_of_mem hx
      exact HA.out.1 i _ (by rw [HLL.out]; exact hi) (List.getElem?_eq_getElem hi)
theorem lcont1_any {P : Nat} {k : Int} {v : Value} {xs : List (Int × Int)} {w : World} (h : SRd w w.heap.size v xs) (hP : w.cell? ⟨P, 0, none⟩ = some (.int .i64 k)) (hPl : P < w.heap.size) :
    Calls Tryd.prog 48 #[v, .func (.func 66) #[] #[.pointer (some ⟨P, 0, none⟩)]] w fun e w' => e = .returned (.bool (decide ((k : Int) ∈ xs.map (·.1)))) ∧ Below w.heap.size w w' := by
  have HI := Lib.hid (lidx1_any h hP hPl)
  obtain ⟨A, cap, rfl, m1, m2⟩ := h.is
  clear h hP hPl
  obtain ⟨L, hL⟩ : ∃ L, L = xs.length := ⟨_, rfl⟩
  rw [← hL] at HI m1 ⊢
  clear hL
  obtain ⟨b, hb⟩ : ∃ b, b = decide ((k : Int) ∈ xs.map (·.1)) := ⟨_, rfl⟩
  rw [← hb]
  have HB := Lib.hid hb
  clear hb
  go_enter Tryd.func48, Tryd.ntmps48
  go_wp2_with fail
  refine HI.out.mono ?_
  rintro e w1 ⟨r, rfl, hr, hb1⟩
  have HR := Lib.hid (And.intro hr hb1)
  rcases hr with ⟨rfl, hr⟩ | ⟨i, x, rfl, h1, h2⟩
  · have HB9 := Lib.hid hr
    clear hr hb1
    go_wp2_with fail
    go_ret
    refine ⟨ret_bool ?_, HR.out.2⟩
    rw [HB.out, decide_eq_false (fun hm => by
      obtain ⟨x, hx, e⟩ := List.mem_map.1 hm
      exact HB9.out x hx e)]
  · have HB9 := Lib.hid (And.intro h1 h2)
    have hi : (0 : Int) ≤ (i : Int) := by omega
    clear h1 h2 hb1
    go_wp2_with fail
    go_ret
    refine ⟨ret_bool ?_, HR.out.2⟩
    rw [HB.out, decide_eq_true (List.mem_map.2 ⟨x, List.mem_of_getElem? HB9.out.1, HB9.out.2⟩)]
theorem lcont2_any {P : Nat} {k : Int} {v : Value} {xs : List (Int × Int)} {w : World} (h : SRd w w.heap.size v xs) (hP : w.cell? ⟨P, 0, none⟩ = some (.int .i64 k)) (hPl : P < w.heap.size) :
    Calls Tryd.prog 48 #[v, .func (.func 69) #[] #[.pointer (some ⟨P, 0, none⟩)]] w fun e w' => e = .returned (.bool (decide ((k : Int) ∈ xs.map (·.1)))) ∧ Below w.heap.size w w' := by
  have HI := Lib.hid (lidx2_any h hP hPl)
  obtain ⟨A, cap, rfl, m1, m2⟩ := h.is
  clear h hP hPl
  obtain ⟨L, hL⟩ : ∃ L, L = xs.length := ⟨_, rfl⟩
  rw [← hL] at HI m1 ⊢
  clear hL
  obtain ⟨b, hb⟩ : ∃ b, b = decide ((k : Int) ∈ xs.map (·.1)) := ⟨_, rfl⟩
  rw [← hb]
  have HB := Lib.hid hb
  clear hb
  go_enter Tryd.func48, Tryd.ntmps48
  go_wp2_with fail
  refine HI.out.mono ?_
  rintro e w1 ⟨r, rfl, hr, hb1⟩
  have HR := Lib.hid (And.intro hr hb1)
  rcases hr with ⟨rfl, hr⟩ | ⟨i, x, rfl, h1, h2⟩
  · have HB9 := Lib.hid hr
    clear hr hb1
    go_wp2_with fail
    go_ret
    refine ⟨ret_bool ?_, HR.out.2⟩
    rw [HB.out, decide_eq_false (fun hm => by
      obtain ⟨x, hx, e⟩ := List.mem_map.1 hm
      exact HB9.out x hx e)]
  · have HB9 := Lib.hid (And.intro h1 h2)
    have hi : (0 : Int) ≤ (i : Int) := by omega
    clear h1 h2 hb1
    go_wp2_with fail
    go_ret
    refine ⟨ret_bool ?_, HR.out.2⟩
    rw [HB.out, decide_eq_true (List.mem_map.2 ⟨x, List.mem_of_getElem? HB9.out.1, HB9.out.2⟩)]
end Go.Proofs.YtecpjeililiafaaDoor
