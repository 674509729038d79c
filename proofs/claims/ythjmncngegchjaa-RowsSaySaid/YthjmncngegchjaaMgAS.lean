/-
  Joined by a program out of: HistArg, End, SubCalls.
-/
import Derived.Test.YthjmncngegchjaaMgAE
import Derived.Test.YthjmncngegchjaaRows
import Derived.Carry
import Derived.Deep.Slices
import Derived.OpenShut
import Derived.ProofKit
import Derived.Below
import Derived.Test.YthjmncngegchjaaMgAB

/-
  Slices of numbers, of events, of calls as arguments of a law.
-/
namespace Go.Proofs.Ythjmncngegchjaa
open Go.RowKit Go.ChangeShapes Go.WideShapes Go.ChangeAt
set_option maxRecDepth 20000
theorem laidOutIt : laidOutB Try.prog = true := by kernel_rfl
theorem evShape : ∃ f0 f1 f2 f3, Try.prog.underlying 52 = some (.struct #[f0, f1, f2, f3]) ∧ (f0.type = 3 ∧ f0.offset = 0) ∧ (f1.type = 3 ∧ f1.offset = 1) ∧ (f2.type = 3 ∧ f2.offset = 2) ∧ (f3.type = 3 ∧ f3.offset = 3) :=
  ⟨_, _, _, _, Try.underlying52, ⟨rfl, rfl⟩, ⟨rfl, rfl⟩, ⟨rfl, rfl⟩, rfl, rfl⟩
theorem evSize : Try.prog.cellsOf 52 = 4 := by kernel_rfl
theorem clSize : Try.prog.cellsOf 49 = 7 := by kernel_rfl
theorem intSize : Try.prog.cellsOf 3 = 1 := by kernel_rfl
theorem cell_in {w : World} {p : Addr} {v : Value} (h : w.cell? p = some v) : p.block < w.heap.size := World.block_lt_of_cell? w p h
theorem plus_plain (g o j : Nat) : (⟨g, o, none⟩ : Addr).add j = ⟨g, o + j, none⟩ := WideShapes.add_plain g o j
section
variable {H : Type} {enc : TypeId × Value → H} {α : Type} {s : Nat} {f : α → List Value}
/-- A slice whose elements read each as one of α reads as a list of these. -/
theorem open_list {t e : TypeId} (ht : Try.prog.underlying t = some (.slice e)) (hs : Try.prog.cellsOf e = s) (hs0 : 0 < s) (hf : ∀ x, (f x).length = s) {w : World} {r : Reach} {b0 : Nat} {v : Value} {d : DataW H} {p : List MemPlace}
    (key : ∀ (fuel : Nat) (cs : List Value) (x : DataW H × List MemPlace), DataW.trod enc Try.prog w 0 (fun _ => true) true fuel e cs = some x → ∃ y : α, cs = f y)
    (hv : Value.okWide Try.prog w r b0 t v) (h : DataW.Trod enc Try.prog w 0 (fun _ => true) true t v d p) : ∃ l : List α, LRd s f w w.heap.size v l := by
  obtain ⟨A, len, cap, rfl⟩ := okWide_slice ht hv
  obtain ⟨fuel, hfu⟩ := h
  rcases Deep.open_slice ht hfu with ⟨hc, _⟩ | ⟨a, len', cap', m, n, D, Pl, hc, _, hl, hm, hmm, _, hi⟩
  · simp only [Value.cells, List.cons.injEq, Value.slice.injEq, and_true] at hc
    obtain ⟨rfl, rfl, rfl⟩ := hc
    exact ⟨[], LRd.nil _ _⟩
  · simp only [Value.cells, List.cons.injEq, Value.slice.injEq, and_true] at hc
    obtain ⟨rfl, rfl, rfl⟩ := hc
    rw [hs] at hi
    have hlm : len ≤ m := by rw [hmm]; split <;> omega
    have each : ∀ i, i < len → ∃ y : α, ∀ j u, (f y)[j]? = some u → w.cell? (a.add (i * s + j)) = some u := by
      intro i hil
      obtain ⟨cs, hcs, htr⟩ := hi i (by omega)
      obtain ⟨_, hlen, hcell⟩ := World.cells?_some hcs
      obtain ⟨y, rfl⟩ := key _ _ _ htr
      refine ⟨y, fun j u hu => ?_⟩
      have hj : j < s := by rw [← hf y]; exact (List.getElem?_eq_some_iff.1 hu).1
      have := hcell j hj
      rw [Deep.add_add] at this
      rw [this, hu]
    have pick : ∃ l : List α, l.length = len ∧ ∀ k x, l[k]? = some x → ∀ j u, (f x)[j]? = some u → w.cell? (a.add (k * s + j)) = some u := by
      have all : ∀ q, q ≤ len → ∃ l : List α, l.length = q ∧ ∀ k x, l[k]? = some x → ∀ j u, (f x)[j]? = some u → w.cell? (a.add (k * s + j)) = some u := by
        intro q
        induction q with
        | zero => intro _; exact ⟨[], rfl, fun k x h => by simp at h⟩
        | succ q ih =>
          intro hq
          obtain ⟨l, hl1, hl2⟩ := ih (by omega)
          obtain ⟨y, hy⟩ := each q (by omega)
          refine ⟨l ++ [y], by simp [hl1], fun k x hk => ?_⟩
          rw [List.getElem?_append] at hk
          split at hk
          · exact hl2 k x hk
          · have hkq : k = q := by
              have := (List.getElem?_eq_some_iff.1 hk).1
              simp at this
              omega
            subst hkq
            rw [hl1, Nat.sub_self] at hk
            injection hk with hk
            subst hk
            exact hy
      exact all len (Nat.le_refl _)
    obtain ⟨l, hl1, hl2⟩ := pick
    subst hl1
    refine ⟨l, some a, cap, rfl, hl, hm, fun h0 => ?_⟩
    obtain ⟨g, o, spot⟩ := a
    have h00 : ∃ u, (f l[0])[0]? = some u := ⟨_, List.getElem?_eq_getElem (by rw [hf]; exact hs0)⟩
    obtain ⟨u, hu⟩ := h00
    have h1 := hl2 0 l[0] (List.getElem?_eq_getElem h0) 0 u hu
    have hspot : spot = none := by simpa [Addr.add] using World.cell?_spot h1
    subst hspot
    have hg := cell_in h1
    rw [plus_plain] at hg
    refine ⟨g, o, rfl, hg, fun k x hk j u hu => ?_⟩
    have := hl2 k x hk j u hu
    rwa [plus_plain, ← Nat.add_assoc] at this
theorem open_nums {w : World} {r : Reach} {b0 : Nat} {v : Value} {d : DataW H} {p : List MemPlace} (hv : Value.okWide Try.prog w r b0 43 v) (h : DataW.Trod enc Try.prog w 0 (fun _ => true) true 43 v d p) : ∃ l, NRd w w.heap.size v l :=
  open_list Try.underlying43 intSize (by decide) (fun _ => rfl) (fun fuel cs x h => by
    obtain ⟨n, h1, _, _⟩ := DataW.trod_int Try.underlying3 h
    exact ⟨n, h1⟩) hv h
theorem open_evs {w : World} {r : Reach} {b0 : Nat} {v : Value} {d : DataW H} {p : List MemPlace} (hv : Value.okWide Try.prog w r b0 22 v) (h : DataW.Trod enc Try.prog w 0 (fun _ => true) true 22 v d p) : ∃ l, ERd w w.heap.size v l :=
  open_list Try.underlying22 evSize (by decide) (fun _ => rfl) (fun fuel cs x h => by
    obtain ⟨f0, f1, f2, f3, hs, ⟨t0, o0⟩, ⟨t1, o1⟩, ⟨t2, o2⟩, t3, o3⟩ := evShape
    obtain ⟨xs, n, _, _, hlen, hxl, hg⟩ := DataW.trod_struct hs h
    rw [evSize] at hlen
    have hxl' : xs.length = 4 := hxl
    have g0 := hg 0 f0 rfl
    have g1 := hg 1 f1 rfl
    have g2 := hg 2 f2 rfl
    have g3 := hg 3 f3 rfl
    rw [t0, o0, intSize, List.getElem?_eq_getElem (by omega)] at g0
    rw [t1, o1, intSize, List.getElem?_eq_getElem (by omega)] at g1
    rw [t2, o2, intSize, List.getElem?_eq_getElem (by omega)] at g2
    rw [t3, o3, intSize, List.getElem?_eq_getElem (by omega)] at g3
    obtain ⟨n0, e0, _, _⟩ := DataW.trod_int Try.underlying3 g0
    obtain ⟨n1, e1, _, _⟩ := DataW.trod_int Try.underlying3 g1
    obtain ⟨n2, e2, _, _⟩ := DataW.trod_int Try.underlying3 g2
    obtain ⟨n3, e3, _, _⟩ := DataW.trod_int Try.underlying3 g3
    match cs, hlen, e0, e1, e2, e3 with
    | [c0, c1, c2, c3], _, e0, e1, e2, e3 =>
      simp at e0 e1 e2 e3
      subst e0 e1 e2 e3
      exact ⟨⟨n0, n1, n2, n3⟩, rfl⟩) hv h
end
end Go.Proofs.Ythjmncngegchjaa

/-
  The last step of a row: a walk that leaves all old memory as it was ('Below') pays what the row asks.
-/
namespace Go.Proofs.Ythjmncngegchjaa
open Go.ChangeShapes Go.WideShapes Go.ChangeAt Go.RowKit
set_option maxRecDepth 20000
section
variable {H : Type} {enc : TypeId × Value → H} {P : Program} {f : Func} {s : ChangeSpec} {ap fr ho ag : Bool} {W W' : World} {args : Array Value} {v : Value} {ds gs : List (DataW H)} {met pa pv : List MemPlace}
/-- What was met in reading the arguments is old, so it is as it was. -/
theorem end_of_below (hW : DataW.Whole enc P f.params.toList s.vars ap W args.toList ds gs met) (hb : Below W.heap.size W W') (hmet : met = pa ++ pv)
    (hr : ∀ (b : Nat) (sp : Nat → Bool) (hd : Bool), DataW.TrodAll enc P W' b sp hd f.resultTypes.toList (v.resultList f.resultTypes.size) (s.fn H (ds ++ gs)).results [])
    (ha : ∀ sp : Nat → Bool, (∀ p ∈ met, sp p.block = true) → DataW.TrodAll enc P W' 0 sp true f.params.toList args.toList (s.fn H (ds ++ gs)).args pa)
    (hv : ∀ sp : Nat → Bool, (∀ p ∈ met, sp p.block = true) → DataW.TrodVars enc P W' sp s.vars (s.fn H (ds ++ gs)).vars pv)
    (hok : ∀ (j : Nat) (t : TypeId) (r : Value), f.resultTypes[j]? = some t → (v.resultList f.resultTypes.size)[j]? = some r → Value.okWide P W' .any 0 t r) :
    s.post enc P f ap fr ho ag W args v W' := by
  subst hmet
  have old : ∀ {p : MemPlace}, p ∈ pa ++ pv → p.block < W.heap.size := fun hp => hW.lt _ hp
  have mark : ∀ p ∈ pa ++ pv, decide (p.block < W.heap.size) = true := fun p hp => decide_eq_true (old hp)
  have always : ∀ p ∈ pa ++ pv, (fun _ : Nat => true) p.block = true := fun _ _ => rfl
  have same : ([] ++ pa) ++ pv = pa ++ pv := by rw [List.nil_append]
  have keep : W.keptBut W' (fun p => p ∈ pa ++ pv ∧ (p ∈ pa ++ pv)) := World.keptBut_mono (fun p hp => ⟨hp, hp⟩) (hb.frame (· ∈ pa ++ pv))
  have frz : ∀ b off, MemPlace.cell b off ∈ ([] ++ pa) ++ pv → W'.frozen? ⟨b, off, none⟩ = W.frozen? ⟨b, off, none⟩ := fun b off hp => hb.frozen (p := ⟨b, off, none⟩) (old (p := .cell b off) (same ▸ hp))
  have whole := hW
  obtain ⟨_, _, _, _, _, hz, hn⟩ := hW
  refine ⟨ds, gs, pa ++ pv, [], pa, pv, whole, hr _ _ _, ha _ mark, hv _ mark, World.keptBut_mono (fun p hp => ⟨hp.1, Or.inr (List.mem_append.1 hp.2)⟩) keep, fun _ => ⟨hok, _, _, ([] ++ pa) ++ pv, ⟨[] ++ pa, pv, trodAll_append (ha _ always) (hr _ _ _), hv _ always, rfl, ?_, ?_⟩, ?_⟩⟩
  · exact fun b off hp => (frz b off hp).trans (hz b off (same ▸ hp))
  · exact fun h => same ▸ hn h
  · exact fun p hp _ => by simpa using hp
end
end Go.Proofs.Ythjmncngegchjaa

/-
  Plain: a part of a history, some of its calls whole, tells these calls, their times counted anew.
-/
namespace Go.Proofs.Ythjmncngegchjaa
open Go.RowKit
set_option maxRecDepth 20000

/-- The events whose numbers are kept, from number n on. -/
def subL (k : Int → Bool) : Nat → List Ev → List Ev
  | _, [] => []
  | n, x :: l => if k n = true then x :: subL k (n + 1) l else subL k (n + 1) l
/-- A call, its times counted anew. -/
def rtC (r : Int → Int) (c : Cl) : Cl := { c with frm := r c.frm, til := if c.til = -1 then -1 else r c.til }
/-- The calls that are kept. -/
def sbt (k : Int → Bool) (r : Int → Int) (cs : List Cl) : List Cl := (cs.filter fun c => k c.frm).map (rtC r)
theorem sbt_append (k : Int → Bool) (r : Int → Int) (a b : List Cl) : sbt k r (a ++ b) = sbt k r a ++ sbt k r b := by
  unfold sbt
  rw [List.filter_append, List.map_append]
theorem sbt_yes {k : Int → Bool} {r : Int → Int} {c : Cl} (h : k c.frm = true) (l : List Cl) : sbt k r (c :: l) = rtC r c :: sbt k r l := by
  unfold sbt
  rw [List.filter_cons, if_pos h, List.map_cons]
theorem sbt_no {k : Int → Bool} {r : Int → Int} {c : Cl} (h : k c.frm = false) (l : List Cl) : sbt k r (c :: l) = sbt k r l := by
  unfold sbt
  rw [List.filter_cons, if_neg (by rw [h]; decide)]
theorem sbt_mem {k : Int → Bool} {r : Int → Int} {cs : List Cl} {d : Cl} : d ∈ sbt k r cs ↔ ∃ c ∈ cs, k c.frm = true ∧ rtC r c = d := by
  unfold sbt
  rw [List.mem_map]
  constructor
  · rintro ⟨c, h, e⟩
    rw [List.mem_filter] at h
    exact ⟨c, h.1, h.2, e⟩
  · rintro ⟨c, h1, h2, e⟩
    exact ⟨c, by rw [List.mem_filter]; exact ⟨h1, h2⟩, e⟩
theorem rtC_til {r : Int → Int} (hr : ∀ z, 0 ≤ r z) (c : Cl) : (rtC r c).til = -1 ↔ c.til = -1 := by
  unfold rtC
  simp only
  by_cases h : c.til = -1
  · rw [if_pos h]; exact ⟨fun _ => h, fun _ => rfl⟩
  · rw [if_neg h]
    have := hr c.til
    exact ⟨fun h2 => by omega, fun h2 => absurd h2 h⟩
theorem oneOpen_pair {cs : List Cl} : OneOpen cs ↔ cs.Pairwise fun c d => ¬ (c.who = d.who ∧ c.til = -1 ∧ d.til = -1) := by
  rw [List.pairwise_iff_getElem]
  constructor
  · intro h i j hi hj hij hh
    have := h i j _ _ (List.getElem?_eq_getElem hi) (List.getElem?_eq_getElem hj) hh.1 hh.2.1 hh.2.2
    omega
  · intro h i j c d hc hd hw h1 h2
    obtain ⟨hi, rfl⟩ := List.getElem?_eq_some_iff.1 hc
    obtain ⟨hj, rfl⟩ := List.getElem?_eq_some_iff.1 hd
    rcases Nat.lt_trichotomy i j with hlt | heq | hgt
    · exact absurd ⟨hw, h1, h2⟩ (h i j hi hj hlt)
    · exact heq
    · exact absurd ⟨hw.symm, h2, h1⟩ (h j i hj hi hgt)
theorem OneOpen.sbt {k : Int → Bool} {r : Int → Int} (hr : ∀ z, 0 ≤ r z) {cs : List Cl} (h : OneOpen cs) : OneOpen (sbt k r cs) := by
  rw [oneOpen_pair] at h ⊢
  unfold Proofs.Ythjmncngegchjaa.sbt
  rw [List.pairwise_map]
  refine (h.filter _).imp fun {c d} hcd hh => hcd ⟨hh.1, (rtC_til hr c).1 hh.2.1, (rtC_til hr d).1 hh.2.2⟩
/-- One more event, seen by what is kept. -/
theorem step_sbt {ts : List Int} {n m : Nat} {cs cs' : List Cl} {x : Ev} {k : Int → Bool} {r : Int → Int} (hr : ∀ z, 0 ≤ r z) (h1 : OneOpen cs) (hs : step ts n cs x = .inr cs')
    (hk : ∀ c ∈ cs', c.til = (n : Int) → k c.frm = k n) :
    (k n = true → r n = m → step ts m (sbt k r cs) x = .inr (sbt k r cs')) ∧ (k n = false → sbt k r cs' = sbt k r cs) := by
  unfold step at hs ⊢
  split at hs
  · cases hs
  rename_i hx
  rw [if_neg hx]
  split at hs
  · rename_i hk0
    rw [if_pos hk0]
    unfold respS at hs ⊢
    split at hs
    · cases hs
    rename_i ho
    split at hs
    · cases hs
    rename_i hg
    obtain ⟨c, e1, e2, e3, e4⟩ := openOf_at (cs := cs) (who := x.who) (by omega)
    generalize (openOf cs x.who).toNat = i at *
    have hgd : cs.getD i default = c := by rw [List.getD_eq_getElem?_getD, e1]; rfl
    rw [hgd] at hs hg
    injection hs with hs
    have hth : c.thing = x.thing := Classical.byContradiction fun h => hg (.inl h)
    have hgi : ¬ givesB c.kind x.val = false := fun h => hg (.inr h)
    have hsp : cs = cs.take i ++ c :: cs.drop (i + 1) := by
      have h2 : cs.drop i = c :: cs.drop (i + 1) := by rw [List.drop_eq_getElem_cons e4, (List.getElem?_eq_some_iff.1 e1).2]
      rw [← h2, List.take_append_drop]
    have hset : cs' = cs.take i ++ { c with res := x.val, til := (n : Int) } :: cs.drop (i + 1) := by
      rw [← hs, List.set_eq_take_append_cons_drop, if_pos e4]
    have hkc : k c.frm = k n := hk { c with res := x.val, til := (n : Int) } (by rw [hset]; simp) rfl
    constructor
    · intro hq hrn
      rw [hq] at hkc
      have hp1 : sbt k r cs = sbt k r (cs.take i) ++ rtC r c :: sbt k r (cs.drop (i + 1)) := by
        conv => lhs; rw [hsp]
        rw [sbt_append, sbt_yes hkc]
      have hp2 : sbt k r cs' = sbt k r (cs.take i) ++ rtC r { c with res := x.val, til := (n : Int) } :: sbt k r (cs.drop (i + 1)) := by
        rw [hset, sbt_append, sbt_yes (by show k c.frm = true; exact hkc)]
      have hat : (sbt k r cs)[(sbt k r (cs.take i)).length]? = some (rtC r c) := by rw [hp1]; simp
      have hoo := openOf_eq (OneOpen.sbt (k := k) hr h1) hat (who := x.who) e2 ((rtC_til hr c).2 e3)
      rw [hoo, if_neg (by omega), Int.toNat_natCast, List.getD_eq_getElem?_getD, hat]
      simp only [Option.getD_some]
      rw [if_neg (by
        rintro (h | h)
        · exact h (by show c.thing = x.thing; exact hth)
        · exact hgi h)]
      rw [hp2, hp1]
      congr 1
      rw [List.set_append, if_neg (Nat.lt_irrefl _), Nat.sub_self, List.set_cons_zero]
      congr 2
      unfold rtC
      simp only
      rw [if_neg (by omega : ¬ (n : Int) = -1), hrn]
    · intro hq
      rw [hq] at hkc
      rw [hset]
      conv => rhs; rw [hsp]
      rw [sbt_append, sbt_append, sbt_no (by show k c.frm = false; exact hkc), sbt_no hkc]
  · rename_i hk0
    rw [if_neg hk0]
    unfold invS at hs ⊢
    split at hs
    · cases hs
    rename_i hf
    rw [if_neg hf]
    split at hs
    · cases hs
    rename_i ho
    injection hs with hs
    constructor
    · intro hq hrn
      rw [if_neg (fun h0 => by
        obtain ⟨d, d1, d2, d3, _⟩ := openOf_at h0
        obtain ⟨c, c1, c2, c3⟩ := sbt_mem.1 (List.mem_of_getElem? d1)
        obtain ⟨j, c4⟩ := List.getElem?_of_mem c1
        exact openOf_none (by omega : openOf cs x.who < 0) c4 (by rw [← d2, ← c3]; rfl) ((rtC_til hr c).1 (by rw [c3]; exact d3)))]
      rw [← hs, sbt_append, sbt_yes (by exact hq)]
      unfold rtC sbt
      simp only [if_true, List.filter_nil, List.map_nil]
      rw [hrn]
    · intro hq
      rw [← hs, sbt_append, sbt_no (by exact hq)]
      exact List.append_nil _
/-- What was answered stays. -/
theorem step_closed {ts : List Int} {n : Nat} {cs cs' : List Cl} {x : Ev} (hs : step ts n cs x = .inr cs') {c : Cl} (hc : c ∈ cs) (ht : c.til ≠ -1) : c ∈ cs' := by
  unfold step respS invS at hs
  repeat' split at hs
  all_goals (try cases hs)
  · obtain ⟨e, e1, e2, e3, e4⟩ := openOf_at (cs := cs) (who := x.who) (by omega)
    obtain ⟨i, hi⟩ := List.getElem?_of_mem hc
    have hne : (openOf cs x.who).toNat ≠ i := fun h => by
      rw [h, hi] at e1
      injection e1 with e1
      subst e1
      exact ht e3
    refine List.mem_of_getElem? (i := i) ?_
    rw [List.getElem?_set_ne hne]
    exact hi
  · exact List.mem_append_left _ hc
theorem run_closed {ts : List Int} : ∀ (l : List Ev) (n : Nat) (cs : List Cl), (run ts n cs l).2.2 = 0 → ∀ c ∈ cs, c.til ≠ -1 → c ∈ (run ts n cs l).1
  | [], _, _, _, c, hc, _ => hc
  | x :: l, n, cs, h0, c, hc, ht => by
    rw [run] at h0 ⊢
    cases hs : step ts n cs x with
    | inl e => rw [hs] at h0; exact absurd h0 (step_err hs)
    | inr cs' =>
      rw [hs] at h0
      exact run_closed l (n + 1) cs' h0 c (step_closed hs hc ht) ht
/-- All events, seen by what is kept. -/
theorem run_sbt {ts : List Int} {k : Int → Bool} {r : Int → Int} (hr : ∀ z, 0 ≤ r z) : ∀ (l : List Ev) (n m : Nat) (cs : List Cl), OneOpen cs → (∀ j, j ≤ l.length → r ((n + j : Nat) : Int) = ((m + (subL k n (l.take j)).length : Nat) : Int)) →
    (run ts n cs l).2.2 = 0 → (∀ c ∈ (run ts n cs l).1, c.til ≠ -1 → k c.til = k c.frm) → run ts m (sbt k r cs) (subL k n l) = (sbt k r (run ts n cs l).1, 0, 0)
  | [], n, m, cs, _, _, _, _ => rfl
  | x :: l, n, m, cs, h1, hj, h0, hfin => by
    have hn := hj 0 (Nat.zero_le _)
    rw [List.take_zero] at hn
    have hn2 : r (n : Int) = (m : Int) := by simpa [subL] using hn
    rw [run] at h0 hfin ⊢
    rcases step_K (ts := ts) (n := n) (x := x) h1 with ⟨e, he, _⟩ | ⟨cs', he, h2, _⟩
    · rw [he] at h0
      exact absurd h0 (step_err he)
    · rw [he] at h0 hfin
      simp only [he]
      simp only at h0 hfin
      obtain ⟨s1, s2⟩ := step_sbt (m := m) (k := k) hr h1 he (fun c hc ht => by
        have h3 := hfin c (run_closed l (n + 1) cs' h0 c hc (by omega)) (by omega)
        rw [ht] at h3
        exact h3.symm)
      rw [subL]
      cases hq : k n
      · rw [if_neg (by decide), ← s2 hq]
        refine run_sbt hr l (n + 1) m cs' h2 (fun j hj2 => ?_) h0 hfin
        have := hj (j + 1) (by simp; omega)
        rw [List.take_succ_cons, subL, if_neg (by rw [hq]; decide)] at this
        rw [show n + 1 + j = n + (j + 1) by omega, this]
      · rw [if_pos rfl, run, s1 hq hn2]
        simp only
        refine run_sbt hr l (n + 1) (m + 1) cs' h2 (fun j hj2 => ?_) h0 hfin
        have := hj (j + 1) (by simp; omega)
        rw [List.take_succ_cons, subL, if_pos hq, List.length_cons] at this
        rw [show n + 1 + j = n + (j + 1) by omega, this]
        omega
/-- How many that are kept come before time z. -/
def rkS (k : Int → Bool) (l : List Ev) (z : Int) : Int := (subL k 0 (l.take z.toNat)).length
theorem subL_append (k : Int → Bool) : ∀ (a b : List Ev) (n : Nat), subL k n (a ++ b) = subL k n a ++ subL k (n + a.length) b
  | [], b, n => by simp [subL]
  | x :: a, b, n => by
    rw [List.cons_append, subL, subL, subL_append k a b (n + 1), List.length_cons, show n + 1 + a.length = n + (a.length + 1) by omega]
    split <;> rfl
theorem rkS_ge (k : Int → Bool) (l : List Ev) (z : Int) : 0 ≤ rkS k l z := by unfold rkS; omega
theorem rkS_up (k : Int → Bool) (l : List Ev) {y z : Int} (h : y ≤ z) : rkS k l y ≤ rkS k l z := by
  unfold rkS
  have e : l.take z.toNat = l.take y.toNat ++ (l.take z.toNat).drop y.toNat := by
    have h1 : l.take y.toNat = (l.take z.toNat).take y.toNat := by rw [List.take_take]; congr 1; omega
    rw [h1, List.take_append_drop]
  rw [e, subL_append, List.length_append]
  omega
theorem rkS_lt (k : Int → Bool) (l : List Ev) {y z : Int} (h0 : 0 ≤ y) (h : y < z) (hk : k y = true) (hl : y < l.length) : rkS k l y < rkS k l z := by
  have h1 : rkS k l (y + 1) = rkS k l y + 1 := by
    unfold rkS
    have hy : y.toNat < l.length := by omega
    rw [show (y + 1).toNat = y.toNat + 1 by omega, List.take_add_one, List.getElem?_eq_getElem hy, Option.toList_some, subL_append, List.length_append, List.length_take, Nat.min_eq_left (by omega), Nat.zero_add, subL, if_pos (by rw [show ((y.toNat : Nat) : Int) = y by omega]; exact hk)]
    simp [subL]
  have := rkS_up k l (y := y + 1) (z := z) (by omega)
  omega
/-- **Some calls of a history, whole, and no others: a history of these.** -/
theorem sub_calls {ts : List Int} {l : List Ev} (h : (callsOf ts l).2.2 = 0) {k : Int → Bool} (hk : ∀ c ∈ (callsOf ts l).1, c.til ≠ -1 → k c.til = k c.frm) : callsOf ts (subL k 0 l) = (sbt k (rkS k l) (callsOf ts l).1, 0, 0) := by
  obtain ⟨t1, t2, e1⟩ := calls_zero h
  rw [e1] at h hk
  have hsl : ∀ (l : List Ev) (n : Nat), (subL k n l).length ≤ l.length := by
    intro l
    induction l with
    | nil => intro n; simp [subL]
    | cons x l ih =>
      intro n
      rw [subL]
      have := ih (n + 1)
      split <;> simp <;> omega
  have e2 : callsOf ts (subL k 0 l) = run ts 0 [] (subL k 0 l) := by
    unfold callsOf
    rw [t1, if_neg (by decide), if_neg (by have := hsl l 0; omega)]
  rw [e2, e1]
  exact run_sbt (rkS_ge k l) l 0 0 [] OneOpen.nil (fun j hj => by unfold rkS; rw [Int.toNat_natCast, Nat.zero_add, Nat.zero_add]) h hk
end Go.Proofs.Ythjmncngegchjaa
