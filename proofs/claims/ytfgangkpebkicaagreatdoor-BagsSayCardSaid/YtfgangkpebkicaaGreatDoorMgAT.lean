/-
  Joined by a program out of: BagGoes, BagPure.
-/
import Derived.Test.YtfgangkpebkicaaGreatDoorMgAM
import Derived.Test.YtfgangkpebkicaaGreatDoorMgAQ
import Derived.Test.YtfgangkpebkicaaGreatDoorMgAR
import Derived.Test.YtfgangkpebkicaaGreatDoorMgAS

/-
  Plain: a set goes well just if it goes well number by number; what the numbers are is no matter.
-/
namespace Go.Proofs.YtfgangkpebkicaaGreatDoor
open Go.RowKit
set_option maxRecDepth 20000
/-- What is asked of one number: is it there? -/
def one1 (b : Bool) (k : Int) : Bool × Int := if k = 7 then (true, if b = true then 0 else 1) else if k = 8 then (false, if b = true then 1 else 0) else (b, if b = true then 1 else 0)
def goes1 : Bool → List Dd → Bool
  | _, [] => true
  | b, d :: r => (one1 b d.kind).2 == d.res && goes1 (one1 b d.kind).1 r
/-- What may be asked of a set. -/
def AskS (d : Dd) : Prop := (d.kind = 7 ∨ d.kind = 8 ∨ d.kind = 9) ∧ 1 ≤ d.arg ∧ d.arg ≤ 1000
theorem step4 {s : List Int} {k a : Int} (h : stateE 4 s = 0) (hk : k = 7 ∨ k = 8 ∨ k = 9) (ha : 1 ≤ a ∧ a ≤ 1000) (hn : s.length < 50) :
    (stepO 4 s k a).2.2 = 0 ∧ (stepO 4 s k a).2.1 = (one1 (decide (a ∈ s)) k).2 ∧ ∀ v, decide (v ∈ (stepO 4 s k a).1) = if v = a then (one1 (decide (a ∈ s)) k).1 else decide (v ∈ s) := by
  have hsort := ((valid_row (typ := 4) (by decide)).1 (stateE_ok.1 h).2.2).2 rfl
  have hf : (fitsB 4 k && takesB k a) = true := by
    rcases hk with rfl | rfl | rfl
    · exact Bool.and_eq_true_iff.2 ⟨by decide, btw_iff.2 ha⟩
    · exact Bool.and_eq_true_iff.2 ⟨by decide, btw_iff.2 ha⟩
    · exact Bool.and_eq_true_iff.2 ⟨by decide, btw_iff.2 ha⟩
  have he : stepO 4 s k a = stepped s k a := by
    unfold stepO
    rw [if_neg (by rw [h]; decide), if_neg (by rw [hf]; decide)]
  rw [he]
  have h50 : ¬ s.length = 50 := by omega
  rcases hk with rfl | rfl | rfl
  · have e7 : stepped s 7 a = if a ∈ s then (s, 0, 0) else if s.length = 50 then ([], 0, 2) else (insAt s (lessN s a) a, 1, 0) := rfl
    rw [e7]
    by_cases hm : a ∈ s
    · rw [if_pos hm, decide_eq_true hm]
      refine ⟨rfl, rfl, fun v => ?_⟩
      by_cases hv : v = a
      · subst hv; rw [if_pos rfl]; exact decide_eq_true hm
      · rw [if_neg hv]
    · rw [if_neg hm, if_neg h50, decide_eq_false hm]
      refine ⟨rfl, rfl, fun v => ?_⟩
      by_cases hv : v = a
      · subst hv; rw [if_pos rfl]; exact decide_eq_true (insAt_mem.2 (.inl rfl))
      · rw [if_neg hv]
        exact decide_eq_decide.2 ⟨fun h => (insAt_mem.1 h).resolve_left hv, fun h => insAt_mem.2 (.inr h)⟩
  · have e8 : stepped s 8 a = if a ∈ s then (delAt s (lessN s a), 1, 0) else (s, 0, 0) := rfl
    rw [e8]
    by_cases hm : a ∈ s
    · rw [if_pos hm, decide_eq_true hm]
      refine ⟨rfl, rfl, fun v => ?_⟩
      by_cases hv : v = a
      · subst hv; rw [if_pos rfl]; exact decide_eq_false (fun h => ((del_mem hsort hm).1 h).1 rfl)
      · rw [if_neg hv]
        exact decide_eq_decide.2 ⟨fun h => ((del_mem hsort hm).1 h).2, fun h => (del_mem hsort hm).2 ⟨hv, h⟩⟩
    · rw [if_neg hm, decide_eq_false hm]
      refine ⟨rfl, rfl, fun v => ?_⟩
      by_cases hv : v = a
      · subst hv; rw [if_pos rfl]; exact decide_eq_false hm
      · rw [if_neg hv]
  · have e9 : stepped s 9 a = (s, if a ∈ s then 1 else 0, 0) := rfl
    rw [e9]
    refine ⟨rfl, ?_, fun v => ?_⟩
    · by_cases hm : a ∈ s
      · rw [decide_eq_true hm]; exact if_pos hm
      · rw [decide_eq_false hm]; exact if_neg hm
    · by_cases hv : v = a
      · subst hv; rw [if_pos rfl]; rfl
      · rw [if_neg hv]
/-- A set goes well just if it does number by number. -/
theorem set_goes : ∀ (ds : List Dd) (s : List Int), stateE 4 s = 0 → s.length + ds.length ≤ 50 → (∀ d ∈ ds, AskS d) → (goesB 4 s ds = true ↔ ∀ v : Int, goes1 (decide (v ∈ s)) (ds.filter fun d => d.arg == v) = true)
  | [], s, _, _, _ => ⟨fun _ _ => rfl, fun _ => rfl⟩
  | d :: r, s, h, hn, ha => by
    obtain ⟨hk, h2⟩ := ha d List.mem_cons_self
    rw [List.length_cons] at hn
    obtain ⟨e1, e2, e3⟩ := step4 h hk h2 (by omega)
    obtain ⟨o1, o2, _, _⟩ := stepO_ok e1
    have ih := set_goes r _ o1 (by omega) (fun x hx => ha x (List.mem_cons_of_mem _ hx))
    rw [goes_cons, ih, e2]
    constructor
    · rintro ⟨_, h3, h4⟩ v
      have h5 := h4 v
      rw [e3 v] at h5
      rw [List.filter_cons]
      by_cases hv : d.arg = v
      · subst hv
        rw [if_pos rfl] at h5
        rw [if_pos (by rw [beq_iff_eq]), goes1, Bool.and_eq_true, beq_iff_eq]
        exact ⟨h3, h5⟩
      · rw [if_neg (fun e => hv e.symm)] at h5
        rw [if_neg (by rw [beq_iff_eq]; exact hv)]
        exact h5
    · intro h4
      have h5 := h4 d.arg
      rw [List.filter_cons, if_pos (by rw [beq_iff_eq]), goes1, Bool.and_eq_true, beq_iff_eq] at h5
      refine ⟨e1, h5.1, fun v => ?_⟩
      rw [e3 v]
      by_cases hv : v = d.arg
      · subst hv
        rw [if_pos rfl]
        exact h5.2
      · rw [if_neg hv]
        have h6 := h4 v
        rw [List.filter_cons, if_neg (by rw [beq_iff_eq]; exact fun e => hv e.symm)] at h6
        exact h6
def SetOk (cs : List Cl) : Prop := ∀ c ∈ cs, (c.kind = 7 ∨ c.kind = 8 ∨ c.kind = 9) ∧ 1 ≤ c.arg ∧ c.arg ≤ 1000 ∧ c.thing = 0
theorem atC_mem {cs : List Cl} {x : Int × Int} (h : 0 ≤ x.1 ∧ x.1 < cs.length) : atC cs x ∈ cs := by
  unfold atC
  rw [List.getD_eq_getElem?_getD, List.getElem?_eq_getElem (by omega : x.1.toNat < cs.length)]
  exact List.getElem_mem _
theorem ddC_ask {cs : List Cl} (hs : SetOk cs) {ws : List (Int × Int)} (hr : ∀ x ∈ ws, 0 ≤ x.1 ∧ x.1 < cs.length) : ∀ d ∈ ws.map (ddC cs), AskS d := fun d hd => by
  obtain ⟨x, hx, rfl⟩ := List.mem_map.1 hd
  have := hs _ (atC_mem (hr x hx))
  exact ⟨this.1, this.2.1, this.2.2.1⟩
theorem once_len {cs : List Cl} {ws : List (Int × Int)} (hr : ∀ x ∈ ws, 0 ≤ x.1 ∧ x.1 < cs.length) (ho : (ws.map (·.1)).Nodup) : ws.length ≤ cs.length := by
  have := nodup_lt cs.length ho (fun k hk => by
    obtain ⟨x, hx, rfl⟩ := List.mem_map.1 hk
    exact hr x hx)
  rwa [List.length_map] at this
theorem goes1_nil (b : Bool) : goes1 b [] = true := rfl
/-- Number by number. -/
def Goes1 (cs : List Cl) (ws : List (Int × Int)) : Prop := ∀ v : Int, goes1 false ((ws.map (ddC cs)).filter fun d => d.arg == v) = true
theorem ownD_all {cs : List Cl} {ws : List (Int × Int)} (h : ∀ x ∈ ws, (atC cs x).thing = 0) : ownD cs 0 ws = ws.map (ddC cs) := by
  unfold ownD
  rw [List.filter_eq_self.2 (fun x hx => by rw [beq_iff_eq, h x hx]; rfl)]
theorem goes_set {cs : List Cl} (hs : SetOk cs) (hn : cs.length ≤ 50) {ws : List (Int × Int)} (hr : ∀ x ∈ ws, 0 ≤ x.1 ∧ x.1 < cs.length) (ho : (ws.map (·.1)).Nodup) :
    (∀ t, t < [(4 : Int)].length → goesB ([(4 : Int)].getD t 0) (beginL ([(4 : Int)].getD t 0)) (ownD cs t ws) = true) ↔ Goes1 cs ws := by
  have hl := once_len hr ho
  have h0 := ownD_all (cs := cs) (ws := ws) (fun x hx => (hs _ (atC_mem (hr x hx))).2.2.2)
  have hg := set_goes (ws.map (ddC cs)) [] (by decide) (by rw [List.length_map]; simp; omega) (ddC_ask hs hr)
  have hd : ∀ v : Int, decide (v ∈ ([] : List Int)) = false := fun v => decide_eq_false (by simp)
  simp only [hd] at hg
  constructor
  · intro h
    have := h 0 (by decide)
    rw [h0] at this
    exact hg.1 this
  · intro h t ht
    have : t = 0 := by simp at ht; exact ht
    subst this
    rw [h0]
    exact hg.2 h
/-- A set's right order, number by number. -/
theorem rite_set {cs : List Cl} (hs : SetOk cs) (hn : cs.length ≤ 50) {ws : List (Int × Int)} : Rite [4] cs ws ↔ (∀ x ∈ ws, 0 ≤ x.1 ∧ x.1 < cs.length) ∧ (ws.map (·.1)).Nodup ∧ (∀ x ∈ ws, (atC cs x).til ≠ -1 → (atC cs x).res = x.2) ∧ (∀ i, i < cs.length → (cs.getD i default).til ≠ -1 → (i : Int) ∈ ws.map (·.1)) ∧
    (∀ i j, i < cs.length → j < cs.length → aheadB cs i j = true → ∀ a y b, ws = a ++ y :: b → y.1 = (j : Int) → (i : Int) ∈ a.map (·.1)) ∧ Goes1 cs ws :=
  ⟨fun h => ⟨h.rng, h.once, h.res, h.all, h.ord, (goes_set hs hn h.rng h.once).1 h.goes⟩, fun ⟨h1, h2, h3, h4, h5, h6⟩ => ⟨h1, h2, h3, h4, h5, (goes_set hs hn h1 h2).2 h6⟩⟩
/-- With other numbers, unlike ones unlike. -/
def argC (f : Int → Int) (c : Cl) : Cl := { c with arg := f c.arg }
theorem getD_map {cs : List Cl} {g : Cl → Cl} {i : Nat} (h : i < cs.length) : (cs.map g).getD i default = g (cs.getD i default) := by
  rw [List.getD_eq_getElem?_getD, List.getElem?_map, List.getElem?_eq_getElem h, List.getD_eq_getElem?_getD, List.getElem?_eq_getElem h]
  rfl
theorem goes1_args : ∀ (ds ds' : List Dd) (b : Bool), ds.map (fun d => (d.kind, d.res)) = ds'.map (fun d => (d.kind, d.res)) → goes1 b ds = goes1 b ds'
  | [], ds', b, h => by
    cases ds' with
    | nil => rfl
    | cons d r => cases h
  | d :: r, ds', b, h => by
    cases ds' with
    | nil => cases h
    | cons d' r' =>
      rw [List.map_cons, List.map_cons] at h
      injection h with h1 h2
      injection h1 with h3 h4
      rw [goes1, goes1, h3, h4, goes1_args r r' _ h2]
theorem goes_argC {f : Int → Int} (hf : ∀ x y, f x = f y → x = y) {cs : List Cl} {ws : List (Int × Int)} (hr : ∀ x ∈ ws, 0 ≤ x.1 ∧ x.1 < cs.length) : Goes1 (cs.map (argC f)) ws ↔ Goes1 cs ws := by
  have hd : ws.map (ddC (cs.map (argC f))) = (ws.map (ddC cs)).map fun d => { d with arg := f d.arg } := by
    rw [List.map_map]
    refine List.map_congr_left fun x hx => ?_
    have := hr x hx
    unfold ddC atC
    rw [getD_map (by omega)]
    rfl
  have hy : ∀ v, goes1 false ((ws.map (ddC (cs.map (argC f)))).filter fun d => d.arg == f v) = goes1 false ((ws.map (ddC cs)).filter fun d => d.arg == v) := fun v => by
    refine goes1_args _ _ _ ?_
    rw [hd, List.filter_map, List.map_map]
    have : (fun d : Dd => d.arg == f v) ∘ (fun d : Dd => { d with arg := f d.arg }) = fun d : Dd => d.arg == v := by
      funext d
      show (f d.arg == f v) = (d.arg == v)
      by_cases e : d.arg = v
      · rw [e, beq_self_eq_true, beq_self_eq_true]
      · rw [beq_eq_false_iff_ne.2 e, beq_eq_false_iff_ne.2 (fun h => e (hf _ _ h))]
    rw [this]
    rfl
  constructor
  · intro h v
    rw [← hy v]
    exact h (f v)
  · intro h v
    by_cases hv : ∃ u, f u = v
    · obtain ⟨u, rfl⟩ := hv
      rw [hy u]
      exact h u
    · rw [List.filter_eq_nil_iff.2]
      · exact goes1_nil _
      · intro d hd2
        rw [hd] at hd2
        obtain ⟨e, _, rfl⟩ := List.mem_map.1 hd2
        rw [beq_iff_eq]
        exact fun e2 => hv ⟨_, e2⟩
/-- With other numbers it is right just if it was. -/
theorem rite_argC {f : Int → Int} (hf : ∀ x y, f x = f y → x = y) {cs : List Cl} (hs : SetOk cs) (hs2 : SetOk (cs.map (argC f))) (hn : cs.length ≤ 50) {ws : List (Int × Int)} : Rite [4] (cs.map (argC f)) ws ↔ Rite [4] cs ws := by
  rw [rite_set hs hn, rite_set hs2 (by rw [List.length_map]; exact hn), List.length_map]
  have hah : ∀ i j, i < cs.length → j < cs.length → aheadB (cs.map (argC f)) i j = aheadB cs i j := fun i j hi hj => by
    unfold aheadB
    rw [getD_map hi, getD_map hj]
    rfl
  constructor
  · rintro ⟨h1, h2, h3, h4, h5, h6⟩
    refine ⟨h1, h2, fun x hx => ?_, fun i hi => ?_, fun i j hi hj ha => h5 i j hi hj (by rw [hah i j hi hj]; exact ha), (goes_argC hf h1).1 h6⟩
    · have := h3 x hx
      have hx2 := h1 x hx
      unfold atC at this ⊢
      rw [getD_map (by omega)] at this
      exact this
    · have := h4 i hi
      rw [getD_map hi] at this
      exact this
  · rintro ⟨h1, h2, h3, h4, h5, h6⟩
    refine ⟨h1, h2, fun x hx => ?_, fun i hi => ?_, fun i j hi hj ha => h5 i j hi hj (by rw [hah i j hi hj] at ha; exact ha), (goes_argC hf h1).2 h6⟩
    · have := h3 x hx
      have hx2 := h1 x hx
      unfold atC at this ⊢
      rw [getD_map (by omega)]
      exact this
    · rw [getD_map hi]
      exact h4 i hi
end Go.Proofs.YtfgangkpebkicaaGreatDoor

/-
  Plain: a history of a set has a right order just if that of each number has one (Herlihy, Wing).
-/
namespace Go.Proofs.YtfgangkpebkicaaGreatDoor
open Go.RowKit
set_option maxRecDepth 20000
/-- The calls of number v. -/
def ownV (cs : List Cl) (v : Int) : List Cl := cs.filter fun c => c.arg == v
theorem ownV_mem {cs : List Cl} {v : Int} {c : Cl} : c ∈ ownV cs v ↔ c ∈ cs ∧ c.arg = v := by
  unfold ownV
  rw [List.mem_filter, beq_iff_eq]
/-- A number as a thing of its own. -/
def asT (c : Cl) : Cl := { c with thing := c.arg }
def manyS : List Int := List.replicate 1001 4
theorem manyS_at {t : Nat} (ht : t < 1001) : manyS.getD t 0 = 4 := by
  unfold manyS
  rw [List.getD_eq_getElem?_getD, List.getElem?_replicate, if_pos ht]
  rfl
theorem manyS_len : manyS.length = 1001 := List.length_replicate
theorem filter_one {α : Type} {p q : α → Bool} (h : ∀ x, q x = true → p x = true) : ∀ l : List α, (l.filter p).filter q = l.filter q := fun l => by
  rw [List.filter_filter]
  refine List.filter_congr fun x _ => ?_
  cases hq : q x
  · rfl
  · rw [h x hq]; rfl
/-- Each number a thing of its own: right just if it was. -/
theorem rite_things {cs : List Cl} (hs : SetOk cs) (hn : cs.length ≤ 50) {ws : List (Int × Int)} : Rite manyS (cs.map asT) ws ↔ Rite [4] cs ws := by
  have hat : ∀ x : Int × Int, 0 ≤ x.1 ∧ x.1 < cs.length → atC (cs.map asT) x = asT (atC cs x) := fun x hx => by
    unfold atC
    exact getD_map (by omega)
  have hah : ∀ i j, i < cs.length → j < cs.length → aheadB (cs.map asT) i j = aheadB cs i j := fun i j hi hj => by
    unfold aheadB
    rw [getD_map hi, getD_map hj]
    rfl
  have hgo : (∀ x ∈ ws, 0 ≤ x.1 ∧ x.1 < cs.length) → (ws.map (·.1)).Nodup → ((∀ t, t < manyS.length → goesB (manyS.getD t 0) (beginL (manyS.getD t 0)) (ownD (cs.map asT) t ws) = true) ↔ Goes1 cs ws) := fun hr ho => by
    have hl := once_len hr ho
    have hask := ddC_ask hs hr
    have hown : ∀ t, ownD (cs.map asT) t ws = (ws.map (ddC cs)).filter fun d => d.arg.toNat == t := fun t => by
      unfold ownD
      rw [List.filter_map]
      have e1 : ws.filter (fun x => (atC (cs.map asT) x).thing.toNat == t) = ws.filter ((fun d : Dd => d.arg.toNat == t) ∘ ddC cs) := List.filter_congr fun x hx => by
        rw [hat x (hr x hx)]
        rfl
      rw [e1]
      refine List.map_congr_left fun x hx => ?_
      unfold ddC
      rw [hat x (hr x (List.mem_filter.1 hx).1)]
      rfl
    have hone : ∀ t, t < 1001 → (goesB 4 (beginL 4) (ownD (cs.map asT) t ws) = true ↔ ∀ v : Int, goes1 false (((ws.map (ddC cs)).filter fun d => d.arg.toNat == t).filter fun d => d.arg == v) = true) := fun t ht => by
      rw [hown t]
      have hg := set_goes ((ws.map (ddC cs)).filter fun d => d.arg.toNat == t) [] (by decide) (by
        have := List.length_filter_le (fun d : Dd => d.arg.toNat == t) (ws.map (ddC cs))
        rw [List.length_map] at this
        simp only [List.length_nil]
        omega) (fun d hd => hask d (List.mem_filter.1 hd).1)
      simp only [show ∀ v : Int, decide (v ∈ ([] : List Int)) = false from fun v => decide_eq_false (by simp)] at hg
      exact hg
    constructor
    · intro h v
      by_cases hv : ∃ d ∈ ws.map (ddC cs), d.arg = v
      · obtain ⟨d, hd, rfl⟩ := hv
        have h2 := (hask d hd).2
        have h3 := h d.arg.toNat (by rw [manyS_len]; omega)
        rw [manyS_at (by omega), hone _ (by omega)] at h3
        have h4 := h3 d.arg
        rwa [filter_one (fun x hx => by rw [beq_iff_eq] at hx ⊢; rw [hx])] at h4
      · rw [List.filter_eq_nil_iff.2 (fun d hd => by rw [beq_iff_eq]; exact fun e => hv ⟨d, hd, e⟩)]
        exact goes1_nil _
    · intro h t ht
      rw [manyS_len] at ht
      rw [manyS_at ht, hone t ht]
      intro v
      by_cases hv : v.toNat = t
      · rw [filter_one (fun x hx => by rw [beq_iff_eq] at hx ⊢; rw [hx]; exact hv)]
        exact h v
      · rw [List.filter_eq_nil_iff.2 (fun d hd => by
          rw [List.mem_filter, beq_iff_eq] at hd
          rw [beq_iff_eq]
          exact fun e => hv (by rw [← e]; exact hd.2))]
        exact goes1_nil _
  rw [rite_set hs hn]
  constructor
  · intro h
    have hr : ∀ x ∈ ws, 0 ≤ x.1 ∧ x.1 < cs.length := fun x hx => by have := h.rng x hx; rwa [List.length_map] at this
    refine ⟨hr, h.once, fun x hx => ?_, fun i hi => ?_, fun i j hi hj ha => h.ord i j (by rw [List.length_map]; exact hi) (by rw [List.length_map]; exact hj) (by rw [hah i j hi hj]; exact ha), (hgo hr h.once).1 h.goes⟩
    · have := h.res x hx
      rw [hat x (hr x hx)] at this
      exact this
    · have := h.all i (by rw [List.length_map]; exact hi)
      rw [getD_map hi] at this
      exact this
  · rintro ⟨h1, h2, h3, h4, h5, h6⟩
    refine ⟨fun x hx => by rw [List.length_map]; exact h1 x hx, h2, fun x hx => ?_, fun i hi => ?_, fun i j hi hj ha => ?_, (hgo h1 h2).2 h6⟩
    · rw [hat x (h1 x hx)]
      exact h3 x hx
    · rw [List.length_map] at hi
      rw [getD_map hi]
      exact h4 i hi
    · rw [List.length_map] at hi hj
      rw [hah i j hi hj] at ha
      exact h5 i j hi hj ha
/-- What calls of a history are, as far as it matters here. -/
structure BagH (cs : List Cl) : Prop where
  set : SetOk cs
  ends : ∀ c ∈ cs, c.til = -1 ∨ c.frm < c.til
  frm : ∀ c ∈ cs, 0 ≤ c.frm
theorem BagH.own {cs : List Cl} (h : BagH cs) (v : Int) : BagH (ownV cs v) :=
  ⟨fun c hc => h.set c (ownV_mem.1 hc).1, fun c hc => h.ends c (ownV_mem.1 hc).1, fun c hc => h.frm c (ownV_mem.1 hc).1⟩
def noneg (z : Int) : Int := if z < 0 then 0 else z
theorem retC_same {c : Cl} (h1 : c.til = -1 ∨ c.frm < c.til) (h2 : 0 ≤ c.frm) : retC noneg c = c := by
  unfold retC noneg
  rw [if_neg (by omega)]
  rcases h1 with h1 | h1
  · rw [if_pos h1, ← h1]
  · rw [if_neg (by omega), if_neg (by omega)]
/-- HERLIHY, WING: of a set there is a right order just if there is one of each number. -/
theorem bag_iff {cs : List Cl} (h : BagH cs) (hn : cs.length ≤ 50) : (∃ ws, Rite [4] cs ws) ↔ ∀ v, ∃ ws, Rite [4] (ownV cs v) ws := by
  have hmem : ∀ c ∈ cs.map asT, ∃ d ∈ cs, asT d = c := fun c hc => List.mem_map.1 hc
  have hth : ∀ c ∈ cs.map asT, 0 ≤ c.thing ∧ c.thing < manyS.length := fun c hc => by
    obtain ⟨d, hd, rfl⟩ := hmem c hc
    have := h.set d hd
    rw [manyS_len]
    show 0 ≤ d.arg ∧ d.arg < ((1001 : Nat) : Int)
    omega
  have hen : ∀ c ∈ cs.map asT, c.til = -1 ∨ c.frm < c.til := fun c hc => by obtain ⟨d, hd, rfl⟩ := hmem c hc; exact h.ends d hd
  have hfr : ∀ c ∈ cs.map asT, 0 ≤ c.frm := fun c hc => by obtain ⟨d, hd, rfl⟩ := hmem c hc; exact h.frm d hd
  have hpr : ∀ v, prt noneg v (cs.map asT) = (ownV cs v).map asT := fun v => by
    unfold prt ownV
    rw [List.filter_map, List.map_map]
    refine List.map_congr_left fun c hc => ?_
    have hc2 := (List.mem_filter.1 hc).1
    exact retC_same (c := asT c) (h.ends c hc2) (h.frm c hc2)
  have hlen : ∀ v, (ownV cs v).length ≤ 50 := fun v => Nat.le_trans (List.length_filter_le _ _) hn
  have hsome : ∀ v : Int, (∀ c ∈ cs, c.arg ≠ v) → ∃ ws, Rite [4] (ownV cs v) ws := fun v hv => by
    have e : ownV cs v = [] := List.filter_eq_nil_iff.2 fun c hc => by rw [beq_iff_eq]; exact hv c hc
    rw [e]
    exact ⟨[], ⟨fun x hx => absurd hx List.not_mem_nil, List.nodup_nil, fun x hx => absurd hx List.not_mem_nil, fun i hi => absurd hi (Nat.not_lt_zero _), fun i j hi => absurd hi (Nat.not_lt_zero _), fun t ht => by
      have : t = 0 := by simp at ht; exact ht
      subst this
      rfl⟩⟩
  have key : ∀ t : Nat, t < 1001 → ((∃ w, RiteT manyS (cs.map asT) t w) ↔ ∃ ws, Rite [4] (ownV cs (t : Int)) ws) := fun t ht => by
    have hup : ∀ y z : Int, y ≤ z → noneg y ≤ noneg z := fun y z hyz => by unfold noneg; repeat' split
                                                                           all_goals omega
    have hge : ∀ z, 0 ≤ noneg z := fun z => by unfold noneg; split <;> omega
    have htl : ∀ c ∈ cs.map asT, c.thing = (t : Int) → c.til ≠ -1 → noneg (c.til + 1) = noneg c.til + 1 := fun c hc _ hct => by
      have h1 := hen c hc
      have h2 := hfr c hc
      unfold noneg
      rw [if_neg (by omega), if_neg (by omega)]
    constructor
    · rintro ⟨w, hw⟩
      obtain ⟨ws, h1, rfl⟩ := upS_onto noneg (fun c hc => (hth c hc).1) rfl hw.rng hw.own
      have h2 := (rite_part_iff hup hge htl hth rfl (by rw [manyS_len]; exact ht) h1).2 hw
      rw [hpr] at h2
      exact ⟨ws, (rite_things (h.own t).set (hlen t)).1 h2⟩
    · rintro ⟨ws, hw⟩
      have h2 := (rite_things (h.own t).set (hlen t)).2 hw
      rw [← hpr] at h2
      exact ⟨_, (rite_part_iff hup hge htl hth rfl (by rw [manyS_len]; exact ht) h2.rng).1 h2⟩
  have h0 : (∃ ws, Rite [4] cs ws) ↔ ∃ ws, Rite manyS (cs.map asT) ws := ⟨fun ⟨ws, hw⟩ => ⟨ws, (rite_things h.set hn).2 hw⟩, fun ⟨ws, hw⟩ => ⟨ws, (rite_things h.set hn).1 hw⟩⟩
  rw [h0, local_iff hth hen hfr, manyS_len]
  constructor
  · intro k v
    by_cases hv : ∃ c ∈ cs, c.arg = v
    · obtain ⟨c, hc, rfl⟩ := hv
      have h1 := h.set c hc
      have h2 := (key c.arg.toNat (by omega)).1 (k c.arg.toNat (by omega))
      rwa [Int.toNat_of_nonneg (by omega)] at h2
    · exact hsome v fun c hc e => hv ⟨c, hc, e⟩
  · intro k t ht
    exact (key t ht).2 (k t)
/-- With times counted anew. -/
theorem rite_rtC {ts : List Int} {cs : List Cl} {r : Int → Int} (hr : ∀ z, 0 ≤ r z) (ha : ∀ c ∈ cs, ∀ d ∈ cs, c.til ≠ -1 → (r c.til < r d.frm ↔ c.til < d.frm)) {ws : List (Int × Int)} : Rite ts (cs.map (rtC r)) ws ↔ Rite ts cs ws := by
  have hat : ∀ x : Int × Int, 0 ≤ x.1 ∧ x.1 < cs.length → atC (cs.map (rtC r)) x = rtC r (atC cs x) := fun x hx => by
    unfold atC
    exact getD_map (by omega)
  have hm : ∀ i, i < cs.length → cs.getD i default ∈ cs := fun i hi => by rw [List.getD_eq_getElem?_getD, List.getElem?_eq_getElem hi]; exact List.getElem_mem _
  have hah : ∀ i j, i < cs.length → j < cs.length → aheadB (cs.map (rtC r)) i j = aheadB cs i j := fun i j hi hj => by
    unfold aheadB
    rw [getD_map hi, getD_map hj]
    refine decide_eq_decide.2 ?_
    have h1 := rtC_til hr (cs.getD i default)
    constructor
    · rintro ⟨h2, h3⟩
      have h4 : (cs.getD i default).til ≠ -1 := fun e => h2 (h1.2 e)
      have h5 := (ha _ (hm i hi) _ (hm j hj) h4)
      unfold rtC at h3
      simp only at h3
      rw [if_neg h4] at h3
      exact ⟨h4, h5.1 h3⟩
    · rintro ⟨h4, h3⟩
      refine ⟨fun e => h4 (h1.1 e), ?_⟩
      have h5 := (ha _ (hm i hi) _ (hm j hj) h4)
      unfold rtC
      simp only
      rw [if_neg h4]
      exact h5.2 h3
  have hown : (∀ x ∈ ws, 0 ≤ x.1 ∧ x.1 < cs.length) → ∀ t, ownD (cs.map (rtC r)) t ws = ownD cs t ws := fun hr2 t => by
    unfold ownD
    have e1 : ws.filter (fun x => (atC (cs.map (rtC r)) x).thing.toNat == t) = ws.filter (fun x => (atC cs x).thing.toNat == t) := List.filter_congr fun x hx => by
      rw [hat x (hr2 x hx)]
      rfl
    rw [e1]
    refine List.map_congr_left fun x hx => ?_
    unfold ddC
    rw [hat x (hr2 x (List.mem_filter.1 hx).1)]
    rfl
  constructor
  · intro h
    have h1 : ∀ x ∈ ws, 0 ≤ x.1 ∧ x.1 < cs.length := fun x hx => by have := h.rng x hx; rwa [List.length_map] at this
    refine ⟨h1, h.once, fun x hx ht => ?_, fun i hi ht => ?_, fun i j hi hj h2 => h.ord i j (by rw [List.length_map]; exact hi) (by rw [List.length_map]; exact hj) (by rw [hah i j hi hj]; exact h2), fun t ht => by rw [← hown h1 t]; exact h.goes t ht⟩
    · have := h.res x hx
      rw [hat x (h1 x hx)] at this
      exact this fun e => ht ((rtC_til hr _).1 e)
    · have := h.all i (by rw [List.length_map]; exact hi)
      rw [getD_map hi] at this
      exact this fun e => ht ((rtC_til hr _).1 e)
  · intro h
    refine ⟨fun x hx => by rw [List.length_map]; exact h.rng x hx, h.once, fun x hx ht => ?_, fun i hi ht => ?_, fun i j hi hj h2 => ?_, fun t ht => by rw [hown h.rng t]; exact h.goes t ht⟩
    · rw [hat x (h.rng x hx)] at ht ⊢
      exact h.res x hx fun e => ht ((rtC_til hr _).2 e)
    · rw [List.length_map] at hi
      rw [getD_map hi] at ht
      exact h.all i hi fun e => ht ((rtC_til hr _).2 e)
    · rw [List.length_map] at hi hj
      rw [hah i j hi hj] at h2
      exact h.ord i j hi hj h2
/-- Is it an event of a call of number v? -/
def bagK (cs : List Cl) (v : Int) (z : Int) : Bool := cs.any fun x => x.arg == v && (x.frm == z || (x.til != -1 && x.til == z))
theorem bagK_iff {cs : List Cl} {v z : Int} : bagK cs v z = true ↔ ∃ x ∈ cs, x.arg = v ∧ (x.frm = z ∨ (x.til ≠ -1 ∧ x.til = z)) := by
  unfold bagK
  rw [List.any_eq_true]
  simp only [Bool.and_eq_true, Bool.or_eq_true, beq_iff_eq, bne_iff_ne]
/-- The events of the calls of number v. -/
def bagL (l : List Ev) (v : Int) : List Ev := subL (bagK (callsOf [4] l).1 v) 0 l
section
variable {l : List Ev}
theorem bag_one (h : (callsOf [4] l).2.2 = 0) {c d : Cl} (hc : c ∈ (callsOf [4] l).1) (hd : d ∈ (callsOf [4] l).1) : (c.frm = d.frm → c = d) ∧ (c.til ≠ -1 → c.til = d.til → c = d) ∧ c.til ≠ d.frm := by
  have hu := calls_unlike h
  obtain ⟨i, hi⟩ := List.getElem?_of_mem hc
  obtain ⟨j, hj⟩ := List.getElem?_of_mem hd
  have h1 := hu i j c d hi hj
  refine ⟨fun e => ?_, fun e1 e2 => ?_, calls_apart h c hc d hd⟩
  · have := h1.1 e
    subst this
    rw [hi] at hj
    injection hj
  · have := h1.2 e1 e2
    subst this
    rw [hi] at hj
    injection hj
theorem bagK_frm (h : (callsOf [4] l).2.2 = 0) (v : Int) {c : Cl} (hc : c ∈ (callsOf [4] l).1) : bagK (callsOf [4] l).1 v c.frm = (c.arg == v) := by
  rw [Bool.eq_iff_iff, bagK_iff, beq_iff_eq]
  constructor
  · rintro ⟨x, hx, h1, h2 | ⟨_, h2⟩⟩
    · rw [← (bag_one h hx hc).1 h2]; exact h1
    · exact absurd h2 (bag_one h hx hc).2.2
  · intro e
    exact ⟨c, hc, e, .inl rfl⟩
theorem bagK_til (h : (callsOf [4] l).2.2 = 0) (v : Int) {c : Cl} (hc : c ∈ (callsOf [4] l).1) (ht : c.til ≠ -1) : bagK (callsOf [4] l).1 v c.til = (c.arg == v) := by
  rw [Bool.eq_iff_iff, bagK_iff, beq_iff_eq]
  constructor
  · rintro ⟨x, hx, h1, h2 | ⟨h3, h2⟩⟩
    · exact absurd h2.symm (bag_one h hc hx).2.2
    · rw [← (bag_one h hx hc).2.1 h3 h2]; exact h1
  · intro e
    exact ⟨c, hc, e, .inr ⟨ht, rfl⟩⟩
/-- How its events are counted anew. -/
def bagR (l : List Ev) (v : Int) : Int → Int := rkS (bagK (callsOf [4] l).1 v) l
theorem bag_calls (h : (callsOf [4] l).2.2 = 0) (v : Int) : callsOf [4] (bagL l v) = ((ownV (callsOf [4] l).1 v).map (rtC (bagR l v)), 0, 0) := by
  have h1 := sub_calls h (k := bagK (callsOf [4] l).1 v) (fun c hc ht => by rw [bagK_til h v hc ht, bagK_frm h v hc])
  show callsOf [4] (subL (bagK (callsOf [4] l).1 v) 0 l) = _
  rw [h1]
  unfold sbt ownV bagR
  rw [List.filter_congr fun c hc => bagK_frm h v hc]
theorem calls_bagH (h : (callsOf [4] l).2.2 = 0) : BagH (callsOf [4] l).1 := by
  have ho := (calls_orderly h).1
  refine ⟨fun c hc => ?_, ho.ends, fun c hc => (ho.tidy c hc).2.2.1⟩
  have hk := calls_callOk h c hc
  have h1 := hk.thing
  simp at h1
  have h0 : c.thing = 0 := by omega
  have hf := hk.fits
  have ht := hk.takes
  rw [h0] at hf
  have e4 : (4 : Int) = kindType c.kind := (of_decide_eq_true hf).2
  have hkind : c.kind = 7 ∨ c.kind = 8 ∨ c.kind = 9 := by
    unfold kindType at e4
    apply Classical.byContradiction
    intro hn
    repeat' split at e4
    all_goals omega
  unfold takesB at ht
  rw [if_pos (by omega)] at ht
  have := btw_iff.1 ht
  exact ⟨hkind, this.1, this.2, h0⟩
theorem bagR_ge (l : List Ev) (v z : Int) : 0 ≤ bagR l v z := rkS_ge _ _ _
theorem bagR_lt (h : (callsOf [4] l).2.2 = 0) (v : Int) : ∀ c ∈ ownV (callsOf [4] l).1 v, ∀ d ∈ ownV (callsOf [4] l).1 v, c.til ≠ -1 → (bagR l v c.til < bagR l v d.frm ↔ c.til < d.frm) := fun c hc d hd ht => by
  obtain ⟨hc1, hc2⟩ := ownV_mem.1 hc
  have ho := (calls_orderly h).1
  have h1 := ho.tidy c hc1
  have h2 := ho.ends c hc1
  have hk : bagK (callsOf [4] l).1 v c.til = true := by rw [bagK_til h v hc1 ht, beq_iff_eq]; exact hc2
  constructor
  · intro h3
    apply Classical.byContradiction
    intro h4
    have := rkS_up (bagK (callsOf [4] l).1 v) l (y := d.frm) (z := c.til) (by omega)
    unfold bagR at h3
    omega
  · intro h3
    exact rkS_lt (bagK (callsOf [4] l).1 v) l (by omega) h3 hk (by omega)
/-- A right order of the part is one of the calls of that number, with times as they are. -/
theorem bag_part (h : (callsOf [4] l).2.2 = 0) (v : Int) {ws : List (Int × Int)} : Rite [4] (callsOf [4] (bagL l v)).1 ws ↔ Rite [4] (ownV (callsOf [4] l).1 v) ws := by
  rw [bag_calls h v]
  exact rite_rtC (bagR_ge l v) (bagR_lt h v)
end
end Go.Proofs.YtfgangkpebkicaaGreatDoor
