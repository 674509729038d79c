/-
  Joined by a program out of: LOrders.
-/
import Derived.Test.YtfgangkpebkicaaDoorMgAR
import Derived.Test.YtfgangkpebkicaaDoorMgAS

/-
  Contract of local.Orders.
-/
namespace Go.Proofs.YtfgangkpebkicaaDoor
open Go.RowKit Go.Maps
set_option maxRecDepth 20000
abbrev valCs (N : Nat) (F : Nat → Value) : Array Value := ((List.range N).map F).toArray
def VTab (w : World) (g N : Nat) (F : Nat → Value) : Prop := Lies w g 34 (valCs N F)
theorem valCs_get (N : Nat) (F : Nat → Value) (i : Nat) (h : i < N) : (valCs N F)[i]? = some (F i) := by simp [valCs, h]
theorem valCs_set (N : Nat) (F : Nat → Value) (i : Nat) (x : Value) : (valCs N F).setIfInBounds i x = valCs N (fun j => if j = i then x else F j) := by
  unfold valCs
  apply Array.ext_getElem?
  intro j
  by_cases hj : j < N
  · by_cases e : i = j
    · subst e; simp [hj]
    · rw [Array.getElem?_setIfInBounds, if_neg e]
      simp [hj, Ne.symm e]
  · simp [hj]
theorem VTab.cell {w : World} {g N : Nat} {F : Nat → Value} (h : VTab w g N F) {i : Nat} (hi : i < N) : w.cell? ⟨g, i, none⟩ = some (F i) := by
  rw [Lies.cell h, valCs_get N F i hi]
theorem VTab.set_ {w : World} {g N : Nat} {F : Nat → Value} (h : VTab w g N F) (i : Nat) (x : Value) : VTab (w.setCell ⟨g, i, none⟩ x) g N (fun j => if j = i then x else F j) :=
  Lies.cast (Lies.set_ h i x) (valCs_set N F i x)
theorem info_rows : (Tryd.prog.info? 34).map (fun i => (i.zero, i.size, i.bytes)) = some (some (.slice none 0 0), 1, 24) := by kernel_rfl
theorem made_rows (N : Nat) (l : Int) (hl : l = N) (hN : N ≤ 65536) (w : World) :
    (Instr.makeSlice 28 (.int .i64 l) (.int .i64 l)).run Tryd.prog w = .ok (.slice (some ⟨w.heap.size, 0, none⟩) N N) (w.alloc (.cells (valCs N fun _ => .slice none 0 0) 34)) := by
  obtain ⟨i0, hi, hz0, hz1, hz2⟩ := info_parts info_rows
  subst hl
  rw [run_make w 28 34 i0 (.slice none 0 0) Tryd.underlying28 hi hz0 .i64 .i64 N N (by omega) (by omega) (by rw [hz2]; omega) (by omega), hz1]
  simp only [Int.toNat_natCast, Nat.mul_one]
  congr 3
  apply Array.ext
  · simp [valCs, madeCells]
  · intro j h1 h2
    simp [valCs, madeCells, Value.cells, Nat.mod_one]
def mixO (f : Int × Int → Int × Int) (S : List (Int × Int)) (i : Nat) : List (Int × Int) := (List.range S.length).map fun j => if j < i then f (S.getD j default) else S.getD j default
theorem mixO_len (f : Int × Int → Int × Int) (S : List (Int × Int)) (i : Nat) : (mixO f S i).length = S.length := by simp [mixO]
theorem mixO_zero (f : Int × Int → Int × Int) (S : List (Int × Int)) : mixO f S 0 = S := by
  conv => rhs; rw [range_self S]
  unfold mixO
  simp
theorem mixO_all (f : Int × Int → Int × Int) (S : List (Int × Int)) : mixO f S S.length = S.map f := by
  conv => rhs; rw [range_self S]
  unfold mixO
  rw [List.map_map]
  apply List.map_congr_left
  intro j hj
  rw [if_pos (List.mem_range.1 hj)]
  rfl
theorem mixO_at {f : Int × Int → Int × Int} {S : List (Int × Int)} {i : Nat} {x : Int × Int} (hx : S[i]? = some x) : (mixO f S i).getD i default = x := by
  have hi := (List.getElem?_eq_some_iff.1 hx).1
  unfold mixO
  rw [List.getD_eq_getElem?_getD, List.getElem?_map, List.getElem?_range hi]
  simp only [Option.map_some, Nat.lt_irrefl, if_false, Option.getD_some]
  rw [List.getD_eq_getElem?_getD, hx]
  rfl
theorem mixO_set {f : Int × Int → Int × Int} {S : List (Int × Int)} {i : Nat} {x : Int × Int} (hx : S[i]? = some x) : (mixO f S i).set i (f x) = mixO f S (i + 1) := by
  have hi := (List.getElem?_eq_some_iff.1 hx).1
  apply List.ext_getElem?
  intro j
  rw [List.getElem?_set]
  by_cases e : i = j
  · subst e
    rw [if_pos rfl, mixO_len, if_pos hi]
    unfold mixO
    rw [List.getElem?_map, List.getElem?_range hi]
    simp only [Option.map_some, Nat.lt_succ_self, if_true]
    rw [List.getD_eq_getElem?_getD, hx]
    rfl
  · rw [if_neg e]
    unfold mixO
    rw [List.getElem?_map, List.getElem?_map]
    by_cases hj : j < S.length
    · rw [List.getElem?_range hj]
      simp only [Option.map_some]
      by_cases h1 : j < i
      · rw [if_pos h1, if_pos (by omega)]
      · rw [if_neg h1, if_neg (by omega)]
    · rw [List.getElem?_eq_none (by simpa using hj)]
      rfl
theorem flat_putS : ∀ (l : List (Int × Int)) (q : Nat) (y : Int), q < l.length → (l.flatMap spCs).set (q * 2) (.int .i64 y) = (l.set q (y, (l.getD q default).2)).flatMap spCs
  | [], q, y, h => by simp at h
  | a :: r, 0, y, _ => rfl
  | a :: r, q + 1, y, h => by
    have ih := flat_putS r q y (by simpa using h)
    rw [List.flatMap_cons, List.set_cons_succ, List.flatMap_cons, List.getD_cons_succ, ← ih]
    show (Value.int .i64 a.1 :: Value.int .i64 a.2 :: r.flatMap spCs).set ((q + 1) * 2) _ = _
    rw [show (q + 1) * 2 = q * 2 + 1 + 1 by omega, List.set_cons_succ, List.set_cons_succ]
    rfl
theorem TOwn.put {w : World} {B g n cap q : Nat} {l : List (Int × Int)} (h : TOwn w B (.slice (some ⟨g, 0, none⟩) n cap) l) (hn : n = l.length) (hq : q < l.length) (y : Int) :
    TOwn (w.setCell ⟨g, q * 2, none⟩ (.int .i64 y)) B (.slice (some ⟨g, 0, none⟩) n cap) (l.set q (y, (l.getD q default).2)) := by
  subst hn
  unfold TOwn
  rw [List.length_set, ← flat_putS l q y hq]
  exact own_set h _ _
theorem TOwn.far {w : World} {P : Nat} {v u : Value} {l : List (Int × Int)} {j : Nat} (h : TOwn w (P + 1) v l) : TOwn (w.setCell ⟨P, j, none⟩ u) (P + 1) v l :=
  ⟨h.1, h.2.imp id fun ⟨g, cap, cur, h1, h2, h3, h4⟩ => ⟨g, cap, cur, h1, h2, Lies.far h3 (by show g ≠ P; omega) _, h4⟩⟩
theorem tOwn_frozen {w : World} {B g n cap : Nat} {l : List (Int × Int)} (h : TOwn w B (.slice (some ⟨g, 0, none⟩) n cap) l) (j : Nat) : w.frozen? ⟨g, j, none⟩ = false := by
  rcases h.2 with ⟨h', _⟩ | ⟨g', cap', cur, h', hB, hg, _⟩
  · simp at h'
  · simp only [Value.slice.injEq, Option.some.injEq, Addr.mk.injEq, and_true] at h'
    obtain ⟨rfl, -⟩ := h'
    exact Lies.frozen hg j
theorem map_int (zs : List Int) : zs.map (Value.int .i64) = zs.flatMap intCs := by
  induction zs with
  | nil => rfl
  | cons a r ih => rw [List.map_cons, List.flatMap_cons, ← ih]; rfl
/-- The number that a thing's call has among all. -/
def renK (ts : List Int) (l : List Ev) (t : Nat) (x : Int × Int) : Int × Int := ((idxK (callsOf ts l).1 (t : Int) (callsOf ts l).1.length).getD x.1.toNat 0, x.2)
/-- The least order of a thing, with the whole's numbers. -/
def ordL (ts : List Int) (l : List Ev) (t : Nat) : List (Int × Int) := (foundL ts (callsOf ts (partL l (t : Int)))).map (renK ts l t)
def LOrdPost (w : World) (ts : List Int) (l : List Ev) (n : Nat) (X : Int) (e : Ending) (w' : World) : Prop :=
  Below w.heap.size w w' ∧ ((X ≠ 0 ∧ e = .returned (.tuple #[.slice none 0 0, .int .i64 X])) ∨ (X = 0 ∧ (∃ t, t < n ∧ pB ts l t = false) ∧ e = .returned (.tuple #[.slice none 0 0, .int .i64 4])) ∨
    (X = 0 ∧ (∀ t, t < n → pB ts l t = true) ∧ ∃ g F, e = .returned (.tuple #[.slice (some ⟨g, 0, none⟩) n n, .int .i64 0]) ∧ w.heap.size ≤ g ∧ VTab w' g n F ∧ ∀ t, t < n → TOwn w' w.heap.size (F t) (ordL ts l t)))
theorem found_rng {ts : List Int} {l : List Ev} (h0 : openE ts l = 0) (t : Nat) : ∀ x ∈ foundL ts (callsOf ts (partL l (t : Int))), 0 ≤ x.1 ∧ x.1 < ((idxK (callsOf ts l).1 (t : Int) (callsOf ts l).1.length).length : Nat) := fun x hx => by
  cases hb : foundB ts (callsOf ts (partL l (t : Int)))
  · rw [foundL_none hb] at hx
    cases hx
  · have h1 := (foundL_rite hb).rng x hx
    have h2 := (calls_part (openE_zero h0).1 (t : Int)).1
    rw [h2] at h1
    unfold prt at h1
    rw [List.length_map] at h1
    rw [idxK_len]
    exact h1
set_option maxHeartbeats 8000000 in
theorem lorders_any {tv lv : Value} {ts : List Int} {l : List Ev} {w : World} (ht : NRd w w.heap.size tv ts) (hl : ERd w w.heap.size lv l) (hp : Pow10 w.heap.size w) :
    Calls Tryd.prog 7 #[tv, lv] w (LOrdPost w ts l ts.length (openE ts l)) := by
  have HO := Lib.hid (lopen_any ht hl)
  obtain ⟨At, capt, rfl, m1, m2⟩ := ht.is
  obtain ⟨Al, capl, rfl, -, -⟩ := hl.is
  unfold maxLen at m2
  have HT := Lib.hid (And.intro ht (And.intro hl hp))
  obtain ⟨tl, htl⟩ : ∃ tl, tl = ts.length := ⟨_, rfl⟩
  obtain ⟨L, hL⟩ : ∃ L, L = l.length := ⟨_, rfl⟩
  rw [← htl, ← hL] at HO HT
  rw [← htl] at m1
  rw [← htl, ← hL]
  have HLL := Lib.hid htl
  clear ht hl hp htl hL
  obtain ⟨E, hEE⟩ : ∃ E, E = openE ts l := ⟨_, rfl⟩
  rw [← hEE] at HO ⊢
  have HEE := Lib.hid hEE
  clear hEE
  go_enter Tryd.func7, Tryd.ntmps7
  go_wp2_with fail
  refine HO.out.mono ?_
  rintro e w1 ⟨hb1, v, rfl, hok, hbad⟩
  have H1 := Lib.hid hb1
  by_cases hE : E = 0
  · subst hE
    have hcr := hok rfl
    obtain ⟨A, c, rfl, -, hc9⟩ := hcr.is
    unfold maxLen at hc9
    have h0 := openE_zero HEE.out.symm
    have htl4 : tl ≤ 4 := by
      have h1 := (calls_zero h0.1).1
      unfold typesB at h1
      rw [Bool.and_eq_true, decide_eq_true_iff] at h1
      rw [HLL.out]
      exact h1.1.2
    have HG := Lib.hid (lgroup_any hcr (by omega) (fun c hc => by have := calls_thing c hc; have := HLL.out; omega))
    obtain ⟨n, hn⟩ : ∃ n, n = (callsOf ts l).1.length := ⟨_, rfl⟩
    rw [← hn] at HG ⊢
    have H0 := Lib.hid (And.intro h0.1 (And.intro htl4 (And.intro hn h0.2.1)))
    clear hok hbad hcr hb1 h0 HO hn
    go_wp2_with fail
    refine HG.out.mono ?_
    rintro e w2 ⟨rfl, hb2, D, hD, hO⟩
    have hlt1 : w1.heap.size < w2.heap.size := by
      obtain ⟨es, clock, h1, _⟩ := hO
      exact (Array.getElem?_eq_some_iff.1 h1).1
    have H2 := Lib.hid (H1.out.trans (hb2.mono H1.out.size))
    have HD := Lib.hid hD
    have HGR : Hid (∀ W, Below w2.heap.size w2 W → W.ownsGroups (H := Unit) Tryd.prog 3 (w1.heap.size + 1) 3 .i64 w1.heap.size n D) := Lib.hid fun W hb => hO.kept (row := none) ⟨hb.os, hb.tape, hb.output, hb.size, fun i hi _ => hb.block i hi⟩ (by simp) (fun _ _ _ _ _ => by rename_i y _; cases y.val.ownBlock <;> simp)
    have hmk := made_rows tl tl rfl (by omega) w2
    clear hb2 hD hO HG
    go_wp2_with fail
    clear hmk
    obtain ⟨b, hb⟩ : ∃ b, b = w1.heap.size := ⟨_, rfl⟩
    rw [← hb] at HGR ⊢
    have hst : Below w2.heap.size w2 (w2.alloc (.cells (valCs tl fun _ => .slice none 0 0) 34)) := (Below.refl _ _).alloc (Nat.le_refl _) _
    have hvt : VTab (w2.alloc (.cells (valCs tl fun _ => .slice none 0 0) 34)) w2.heap.size tl (fun _ => .slice none 0 0) := Lies.new _ _ _
    obtain ⟨G, hG⟩ : ∃ G, G = w2.heap.size := ⟨_, rfl⟩
    rw [← hG] at hvt hst HGR ⊢
    have HGE := Lib.hid hG
    have HS := Lib.hid (And.intro hst hvt)
    clear hst hvt hG hlt1 hb
    generalize w2.alloc (.cells (valCs tl fun _ => .slice none 0 0) 34) = W at HS ⊢
    go_loopw [31] (fun t wr => ∃ (k : Nat) (F : Nat → Value), k ≤ tl ∧ t = .int .i64 k ∧ Below G w2 wr ∧ VTab wr G tl F ∧ ∀ j, j < k → pB ts l j = true ∧ TOwn wr (G + 1) (F j) (ordL ts l j)) (fun t _ => tl - (intOf t).toNat)
    case atStart => exact ⟨0, _, Nat.zero_le _, rfl, HS.out.1, HS.out.2, fun j hj => by omega⟩
    case round =>
      obtain ⟨k, F, hk, rfl, hbr, hvt, hrows⟩ := hrel
      have hwr : Below w.heap.size w wr := H2.out.trans (hbr.mono (by rw [HGE.out]; exact H2.out.size))
      by_cases hlt : k < tl
      · have i2 : (k : Int) < (tl : Int) := by omega
        have HW := Lib.hid (And.intro hwr (And.intro hbr (And.intro hvt hrows)))
        have HL := lleast_any ((HT.out.1.below hwr).mono hwr.size) ((HT.out.2.1.below hwr).mono hwr.size) ((HT.out.2.2.on hwr).mono hwr.size) H0.out.1 (q := (k : Int)) ⟨by omega, by rw [← HLL.out]; omega⟩
        rw [openE_part HEE.out.symm] at HL
        have HL := Lib.hid HL
        clear hwr hbr hvt hrows
        go_wp2_with fail
        refine HL.out.mono ?_
        rintro e w4 ⟨hb4, u, B, rfl, hB1, hB2, ho4⟩
        have hpk : foundB ts (callsOf ts (partL l (k : Int))) = pB ts l k := rfl
        rw [hpk]
        cases hpb : pB ts l k
        · have HZ := Lib.hid (And.intro (HW.out.1.trans (hb4.mono HW.out.1.size)) (show ∃ t, t < tl ∧ pB ts l t = false from ⟨k, hlt, hpb⟩))
          obtain ⟨Au, cu, rfl, -, -⟩ := ho4.rd.is
          generalize (foundL ts (callsOf ts (partL l (k : Int)))).length = mu
          clear hb4 hB1 hB2 ho4 hpk hpb HL
          go_wp2_with fail
          go_ret2
          exact ⟨HZ.out.1, .inr (.inl ⟨rfl, HZ.out.2, rfl⟩)⟩
        · obtain ⟨f, hf⟩ : ∃ f, f = renK ts l k := ⟨_, rfl⟩
          have hrng := found_rng HEE.out.symm k
          have hol : ordL ts l k = (foundL ts (callsOf ts (partL l (k : Int)))).map f := by unfold ordL; rw [hf]
          generalize hSS : foundL ts (callsOf ts (partL l (k : Int))) = S at ho4 hrng hol ⊢
          obtain ⟨m, hm⟩ : ∃ m, m = S.length := ⟨_, rfl⟩
          have hsh : (S = [] ∧ u = .slice none 0 0) ∨ ∃ g4 cap4, u = .slice (some ⟨g4, 0, none⟩) m cap4 ∧ B ≤ g4 := by
            rcases ho4.2 with ⟨h1, h2⟩ | ⟨g4, cap4, cur, h1, h2, _⟩
            · exact .inl ⟨List.length_eq_zero_iff.1 h2, h1⟩
            · exact .inr ⟨g4, cap4, by rw [h1, hm], h2⟩
          obtain ⟨Au, cu, rfl, -, hcu⟩ := ho4.rd.is
          unfold maxLen at hcu
          rw [← hm] at ho4 hsh ⊢
          have hm8 : m ≤ 9223372036854775807 := by
            rcases hsh with ⟨h1, _⟩ | ⟨g4, cap4, h1, _⟩
            · rw [h1] at hm; simp at hm; omega
            · have := ho4.rd.is
              obtain ⟨_, _, _, h2, h3⟩ := this
              unfold maxLen at h3
              omega
          rw [← mixO_zero f S] at ho4
          obtain ⟨wk, hwk⟩ : ∃ wk, wk = wr := ⟨_, rfl⟩
          rw [← hwk] at hb4 hB1 HW
          have HM := Lib.hid (And.intro hf (And.intro hm (And.intro hrng (And.intro hol (And.intro hpb hwk)))))
          have H4 := Lib.hid (And.intro hb4 (And.intro hB1 ho4))
          have HSH := Lib.hid hsh
          clear hb4 hB1 hB2 ho4 hpk HL hf hm hrng hol hsh hpb hcu hSS hwk
          go_wp2_with fail
          go_loopw [49] (fun t wr => ∃ i : Nat, i ≤ m ∧ t = .int .i64 i ∧ Below wk.heap.size wk wr ∧ TOwn wr B (.slice Au m cu) (mixO f S i)) (fun t _ => m - (intOf t).toNat)
          case atStart => exact ⟨0, Nat.zero_le _, rfl, H4.out.1, H4.out.2.2⟩
          case round =>
            obtain ⟨i, hi, rfl, hb5, ho5⟩ := hrel
            by_cases him : i < m
            · obtain ⟨x, hx⟩ : ∃ x, S[i]? = some x := ⟨_, List.getElem?_eq_getElem (by rw [← HM.out.2.1]; exact him)⟩
              have hxr := HM.out.2.2.1 x (List.mem_of_getElem? hx)
              obtain ⟨g4, cap4, hu, hgB⟩ : ∃ g4 cap4, (Value.slice Au m cu) = .slice (some ⟨g4, 0, none⟩) m cap4 ∧ B ≤ g4 := by
                rcases HSH.out with ⟨h1, _⟩ | h
                · rw [h1] at hx; cases hx
                · exact h
              injection hu with hu1 hu2 hu3
              subst hu1
              subst hu3
              have hmx : (mixO f S i)[i]? = some x := by
                have h1 := mixO_at (f := f) hx
                rw [List.getD_eq_getElem?_getD] at h1
                cases h2 : (mixO f S i)[i]? with
                | none =>
                  have := List.getElem?_eq_none_iff.1 h2
                  rw [mixO_len, ← HM.out.2.1] at this
                  omega
                | some z => rw [h2] at h1; rw [← h1]; rfl
              have ho5d : TOwn wr.drew B (.slice (some ⟨g4, 0, none⟩) m cu) (mixO f S i) := ho5
              have hb5d : Below wk.heap.size wk wr.drew := hb5.drew
              have hfz : ∀ j, wr.drew.frozen? ⟨g4, j, none⟩ = false := fun j => tOwn_frozen ho5d j
              obtain ⟨g', o', e1, _, r0, -⟩ := ho5d.rd.sp hmx
              injection e1 with e1
              injection e1 with e2 e3
              subst e2
              subst e3
              rw [Nat.zero_add] at r0
              obtain ⟨x1, x2⟩ := x
              simp only at hxr r0
              obtain ⟨q, rfl⟩ : ∃ q : Nat, x1 = (q : Int) := ⟨x1.toNat, by omega⟩
              have hgo := HGR.out wr.drew (HW.out.2.1.trans (hb5d.mono (by have := HW.out.2.1.size; have := HGE.out; omega)))
              obtain ⟨rv, zs, hlk, hat, hoi, hzl, -, -⟩ := grp_at hgo (by have := H0.out.2.2.2; have := H0.out.2.2.1; unfold maxLen; omega) (th := (k : Int)) (by
                simp [keyOf, Tryd.underlying3, mapKey]
                exact WalkArith.wf_i64 (by omega))
              have hzs := HD.out.at_ hat hoi
              have hN : NRd wr.drew wr.drew.heap.size rv zs := LRd.of_own (t := 3) (base := b + 1) (fun _ => rfl) (by
                have h1 := hoi.1
                rwa [map_int] at h1)
              obtain ⟨Ar, cr, rfl, -, -⟩ := hN.is
              obtain ⟨zl, hzl2⟩ : ∃ zl, zl = zs.length := ⟨_, rfl⟩
              have hqz : q < zs.length := by rw [hzs]; have := hxr.2; have h3 := H0.out.2.2.1; rw [h3]; omega
              obtain ⟨y, hy⟩ : ∃ y, zs[q]? = some y := ⟨_, List.getElem?_eq_getElem hqz⟩
              obtain ⟨gr, orr, rfl, -, r1⟩ := hN.num hy
              have hfx : f ((q : Int), x2) = (y, x2) := by
                rw [HM.out.1]
                unfold renK
                rw [Int.toNat_natCast, ← H0.out.2.2.1, ← hzs, List.getD_eq_getElem?_getD, hy]
                rfl
              rw [← hzl2] at hlk
              have q0 : (0 : Int) ≤ (q : Int) := by omega
              have q1 : (q : Int) < (zl : Int) := by omega
              have i0 : (0 : Int) ≤ (i : Int) := by omega
              have i1 : (i : Int) < (m : Int) := by omega
              have HI4 := Lib.hid (And.intro hb5d (And.intro ho5d (Nat.le_trans H4.out.2.1 hgB)))
              have HM9 := Lib.hid (And.intro him (And.intro hx (And.intro trivial hfx)))
              have fz := hfz
              clear hb5 ho5 hb5d ho5d hfz hx hmx hxr hgo hat hoi hzl hzs hN hzl2 hqz hy hfx hgB him
              go_wp2_with fail
              refine wp_region_held_drew (S := fun _ => True) (by kernel_rfl) trivial (fun hHeld => ?_)
              change wpAnyH _ _ _ _ _ 15 _ _ _
              clear hHeld
              generalize hWD : wr.drew = WD at hlk r0 r1 fz HI4 ⊢
              clear hWD
              refine takeAt 0 52 (oi := _) (v := ?_) rfl rfl (by kernel_rfl) (by kernel_rfl) (by kernel_rfl) (fun _ _ _ h => h) (by rfl) ?_ trivial ?_
              rotate_left
              · (intro w hSw; go_simp; try with_reducible rfl)
              simp only [Act.put, List.setIfInBounds_toArray, List.set_cons_zero, List.set_cons_succ]
              refine takeAt 1 53 (oi := _) (v := ?_) rfl rfl (by kernel_rfl) (by kernel_rfl) (by kernel_rfl) (fun _ _ _ h => h) (by rfl) ?_ trivial ?_
              rotate_left
              · (intro w hSw; go_simp; try with_reducible rfl)
              simp only [Act.put, List.setIfInBounds_toArray, List.set_cons_zero, List.set_cons_succ]
              refine takeAt 2 54 (oi := _) (v := ?_) rfl rfl (by kernel_rfl) (by kernel_rfl) (by kernel_rfl) (fun _ _ _ h => h) (by rfl) ?_ trivial ?_
              rotate_left
              · (intro w hSw; go_simp; try with_reducible rfl)
              simp only [Act.put, List.setIfInBounds_toArray, List.set_cons_zero, List.set_cons_succ]
              refine takeAt 3 55 (oi := _) (v := ?_) rfl rfl (by kernel_rfl) (by kernel_rfl) (by kernel_rfl) (fun _ _ _ h => h) (by rfl) ?_ trivial ?_
              rotate_left
              · (intro w hSw; go_simp; try with_reducible rfl)
              simp only [Act.put, List.setIfInBounds_toArray, List.set_cons_zero, List.set_cons_succ]
              refine takeAt 5 57 (oi := _) (v := ?_) rfl rfl (by kernel_rfl) (by kernel_rfl) (by kernel_rfl) (fun _ _ _ h => h) (by rfl) ?_ trivial ?_
              rotate_left
              · (intro w hSw; go_simp; try with_reducible rfl)
              simp only [Act.put, List.setIfInBounds_toArray, List.set_cons_zero, List.set_cons_succ]
              refine takeAt 6 58 (oi := _) (v := ?_) rfl rfl (by kernel_rfl) (by kernel_rfl) (by kernel_rfl) (fun _ _ _ h => h) (by rfl) ?_ trivial ?_
              rotate_left
              · (intro w hSw; go_simp; try with_reducible rfl)
              simp only [Act.put, List.setIfInBounds_toArray, List.set_cons_zero, List.set_cons_succ]
              refine takeAt 7 59 (oi := _) (v := ?_) rfl rfl (by kernel_rfl) (by kernel_rfl) (by kernel_rfl) (fun _ _ _ h => h) (by rfl) ?_ trivial ?_
              rotate_left
              · (intro w hSw; go_simp; try with_reducible rfl)
              simp only [Act.put, List.setIfInBounds_toArray, List.set_cons_zero, List.set_cons_succ]
              refine takeAt 8 60 (oi := _) (v := ?_) rfl rfl (by kernel_rfl) (by kernel_rfl) (by kernel_rfl) (fun _ _ _ h => h) (by rfl) ?_ trivial ?_
              rotate_left
              · (intro w hSw; go_simp; try with_reducible rfl)
              simp only [Act.put, List.setIfInBounds_toArray, List.set_cons_zero, List.set_cons_succ]
              refine wpAnyH_ready (rs := [4, 9]) (by kernel_rfl) (by simp) ?_
              refine AllReadyH.cons (o := _) rfl (fun K hK => ?_) (AllReadyH.cons (o := _) rfl (fun K hK => ?_) AllReadyH.nil)
              · go_simp
                refine hK.out _ _ trivial (fun _ => ?_)
                clear hK K
                refine wpAnyH_ready (rs := [9]) (by kernel_rfl) (by simp) ?_
                refine AllReadyH.cons (o := _) rfl (fun K hK => ?_) AllReadyH.nil
                go_simp
                refine hK.out _ _ trivial (fun _ => ?_)
                clear hK K
                refine takeAt 10 62 (oi := _) (v := ?_) rfl rfl (by kernel_rfl) (by kernel_rfl) (by kernel_rfl) (fun _ _ _ h => h) (by rfl) ?_ trivial ?_
                rotate_left
                · (intro w hSw; go_simp; try with_reducible rfl)
                simp only [Act.put, List.setIfInBounds_toArray, List.set_cons_zero, List.set_cons_succ]
                refine wpAnyH_ready (rs := [11]) (by kernel_rfl) (by simp) ?_
                refine AllReadyH.cons (o := _) rfl (fun K hK => ?_) AllReadyH.nil
                go_simp
                refine hK.out _ _ trivial (fun _ => ?_)
                clear hK K
                refine takeAt 12 64 (oi := _) (v := ?_) rfl rfl (by kernel_rfl) (by kernel_rfl) (by kernel_rfl) (fun _ _ _ h => h) (by rfl) ?_ trivial ?_
                rotate_left
                · (intro w hSw; go_simp; try with_reducible rfl)
                simp only [Act.put, List.setIfInBounds_toArray, List.set_cons_zero, List.set_cons_succ]
                refine takeAt 13 65 (oi := _) (v := ?_) rfl rfl (by kernel_rfl) (by kernel_rfl) (by kernel_rfl) (fun _ _ _ h => h) (by rfl) ?_ trivial ?_
                rotate_left
                · (intro w hSw; go_simp; try with_reducible rfl)
                simp only [Act.put, List.setIfInBounds_toArray, List.set_cons_zero, List.set_cons_succ]
                refine wpAnyH_ready (rs := [14]) (by kernel_rfl) (by simp) ?_
                refine AllReadyH.cons (o := _) rfl (fun K hK => ?_) AllReadyH.nil
                go_simp
                refine hK.out _ _ trivial (fun _ => ?_)
                clear hK K
                refine wpAnyH_done (by kernel_rfl) ?_ _
                clear hlk r0 r1 fz
                have hw5 : Below wk.heap.size wk (WD.setCell ⟨g4, i * 2, none⟩ (.int .i64 y)) := HI4.out.1.setCell (p := ⟨g4, i * 2, none⟩) HI4.out.2.2 _
                have ho5 : TOwn (WD.setCell ⟨g4, i * 2, none⟩ (.int .i64 y)) B (.slice (some ⟨g4, 0, none⟩) m cu) (mixO f S (i + 1)) := by
                  have h9 := TOwn.put HI4.out.2.1 (by rw [mixO_len]; exact HM.out.2.1) (q := i) (by rw [mixO_len, ← HM.out.2.1]; exact HM9.out.1) y
                  rw [mixO_at HM9.out.2.1] at h9
                  dsimp only at h9
                  rw [← HM9.out.2.2.2, mixO_set HM9.out.2.1] at h9
                  exact h9
                have HI5 := Lib.hid (And.intro hw5 ho5)
                clear hw5 ho5
                generalize WD.setCell ⟨g4, i * 2, none⟩ (.int .i64 y) = W5 at HI5 ⊢
                go_wp2_with fail
                go_roundw
                case rel => exact ⟨i + 1, by have := HM9.out.1; omega, by go_num, HI5.out.1, HI5.out.2⟩
                case measure => simp [intOf]; have := HM9.out.1; omega
              · go_simp
                refine hK.out _ _ trivial (fun _ => ?_)
                clear hK K
                refine wpAnyH_ready (rs := [4]) (by kernel_rfl) (by simp) ?_
                refine AllReadyH.cons (o := _) rfl (fun K hK => ?_) AllReadyH.nil
                go_simp
                refine hK.out _ _ trivial (fun _ => ?_)
                clear hK K
                refine takeAt 10 62 (oi := _) (v := ?_) rfl rfl (by kernel_rfl) (by kernel_rfl) (by kernel_rfl) (fun _ _ _ h => h) (by rfl) ?_ trivial ?_
                rotate_left
                · (intro w hSw; go_simp; try with_reducible rfl)
                simp only [Act.put, List.setIfInBounds_toArray, List.set_cons_zero, List.set_cons_succ]
                refine wpAnyH_ready (rs := [11]) (by kernel_rfl) (by simp) ?_
                refine AllReadyH.cons (o := _) rfl (fun K hK => ?_) AllReadyH.nil
                go_simp
                refine hK.out _ _ trivial (fun _ => ?_)
                clear hK K
                refine takeAt 12 64 (oi := _) (v := ?_) rfl rfl (by kernel_rfl) (by kernel_rfl) (by kernel_rfl) (fun _ _ _ h => h) (by rfl) ?_ trivial ?_
                rotate_left
                · (intro w hSw; go_simp; try with_reducible rfl)
                simp only [Act.put, List.setIfInBounds_toArray, List.set_cons_zero, List.set_cons_succ]
                refine takeAt 13 65 (oi := _) (v := ?_) rfl rfl (by kernel_rfl) (by kernel_rfl) (by kernel_rfl) (fun _ _ _ h => h) (by rfl) ?_ trivial ?_
                rotate_left
                · (intro w hSw; go_simp; try with_reducible rfl)
                simp only [Act.put, List.setIfInBounds_toArray, List.set_cons_zero, List.set_cons_succ]
                refine wpAnyH_ready (rs := [14]) (by kernel_rfl) (by simp) ?_
                refine AllReadyH.cons (o := _) rfl (fun K hK => ?_) AllReadyH.nil
                go_simp
                refine hK.out _ _ trivial (fun _ => ?_)
                clear hK K
                refine wpAnyH_done (by kernel_rfl) ?_ _
                clear hlk r0 r1 fz
                have hw5 : Below wk.heap.size wk (WD.setCell ⟨g4, i * 2, none⟩ (.int .i64 y)) := HI4.out.1.setCell (p := ⟨g4, i * 2, none⟩) HI4.out.2.2 _
                have ho5 : TOwn (WD.setCell ⟨g4, i * 2, none⟩ (.int .i64 y)) B (.slice (some ⟨g4, 0, none⟩) m cu) (mixO f S (i + 1)) := by
                  have h9 := TOwn.put HI4.out.2.1 (by rw [mixO_len]; exact HM.out.2.1) (q := i) (by rw [mixO_len, ← HM.out.2.1]; exact HM9.out.1) y
                  rw [mixO_at HM9.out.2.1] at h9
                  dsimp only at h9
                  rw [← HM9.out.2.2.2, mixO_set HM9.out.2.1] at h9
                  exact h9
                have HI5 := Lib.hid (And.intro hw5 ho5)
                clear hw5 ho5
                generalize WD.setCell ⟨g4, i * 2, none⟩ (.int .i64 y) = W5 at HI5 ⊢
                go_wp2_with fail
                go_roundw
                case rel => exact ⟨i + 1, by have := HM9.out.1; omega, by go_num, HI5.out.1, HI5.out.2⟩
                case measure => simp [intOf]; have := HM9.out.1; omega
            · obtain rfl : i = m := by omega
              rw [HM.out.2.1, mixO_all, ← HM.out.2.2.2.1] at ho5
              rw [← HM.out.2.1] at ho5
              have hvt5 : VTab wr G tl F := Lies.below HW.out.2.2.1 hb5 (Lies.lt HW.out.2.2.1)
              have hcell := hvt5.cell hlt
              have hfz := Lies.frozen hvt5 k
              have hlG : G < wk.heap.size := Lies.lt HW.out.2.2.1
              have HZ := Lib.hid (And.intro hb5 (And.intro ho5 (And.intro hvt5 hlG)))
              clear hb5 ho5 hvt5 hlG
              go_wp2_with fail
              go_roundw
              case rel =>
                refine ⟨k + 1, (fun j => if j = k then .slice Au i cu else F j), by omega, by go_num, ?_, HZ.out.2.2.1.set_ k _, fun j hj => ?_⟩
                · exact (HW.out.2.1.trans (HZ.out.1.mono (by have := HZ.out.2.2.2; omega))).setCell (p := ⟨G, k, none⟩) (Nat.le_refl _) _
                · by_cases e : j = k
                  · subst e
                    dsimp only
                    rw [if_pos rfl]
                    exact ⟨HM.out.2.2.2.2.1, (HZ.out.2.1.lower (by have := HZ.out.2.2.2; have := H4.out.2.1; omega)).far⟩
                  · dsimp only
                    rw [if_neg e]
                    obtain ⟨k1, k2⟩ := HW.out.2.2.2 j (by omega)
                    exact ⟨k1, (k2.below HZ.out.1).far⟩
              case measure => simp [intOf]; omega
      · obtain rfl : k = tl := by omega
        have HZ := Lib.hid (And.intro hwr (And.intro hvt hrows))
        have HGW := Lib.hid (show w.heap.size ≤ G by rw [HGE.out]; exact H2.out.size)
        clear hwr hbr hvt hrows
        go_wp2_with fail
        go_ret2
        exact ⟨HZ.out.1, .inr (.inr ⟨rfl, fun t ht => (HZ.out.2.2 t ht).1, G, F, rfl, HGW.out, HZ.out.2.1, fun t ht => (HZ.out.2.2 t ht).2.lower (by have := HGW.out; omega)⟩)⟩
  · have hz : (E != 0) = true := by rw [bne_iff_ne]; exact hE
    have hv := hbad hE
    subst hv
    have HE := Lib.hid hE
    clear hE hok hbad hb1 HO
    go_wp2_with fail
    go_ret2
    exact ⟨H1.out, .inl ⟨HE.out, rfl⟩⟩
end Go.Proofs.YtfgangkpebkicaaDoor
