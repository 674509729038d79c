/-
  Joined by a program out of: BagPure, BagSayP.
-/
import Derived.Test.YtfgangkpebkicaaDoorMgAS
import Derived.Test.YtfgangkpebkicaaDoorMgAT

/-
  Plain: a history of a set has a right order just if that of each number has one (Herlihy, Wing).
-/
namespace Go.Proofs.YtfgangkpebkicaaDoor
open Go.RowKit
set_option maxRecDepth 20000
/-- The calls of number v. -/
def ownV (cs : List Cl) (v : Int) : List Cl := cs.filter fun c => c.arg == v
theorem ownV_mem {cs : List Cl} {v : Int} {c : Cl} : c ∈ ownV cs v ↔ c ∈ cs ∧ c.arg = v := by
  unfold ownV
  rw [List.mem_filter, beq_iff_eq]
/-- A number as a thing of its own. -/
def asT (c : Cl) : Cl := { c with thing := c.arg }
def manyS : List Int := List.replicate 1001 4
theorem manyS_at {t : Nat} (ht : t < 1001) : manyS.getD t 0 = 4 := by
  unfold manyS
  rw [List.getD_eq_getElem?_getD, List.getElem?_replicate, if_pos ht]
  rfl
theorem manyS_len : manyS.length = 1001 := List.length_replicate
theorem filter_one {α : Type} {p q : α → Bool} (h : ∀ x, q x = true → p x = true) : ∀ l : List α, (l.filter p).filter q = l.filter q := fun l => by
  rw [List.filter_filter]
  refine List.filter_congr fun x _ => ?_
  cases hq : q x
  · rfl
  · rw [h x hq]; rfl
/-- Each number a thing of its own: right just if it was. -/
theorem rite_things {cs : List Cl} (hs : SetOk cs) (hn : cs.length ≤ 50) {ws : List (Int × Int)} : Rite manyS (cs.map asT) ws ↔ Rite [4] cs ws := by
  have hat : ∀ x : Int × Int, 0 ≤ x.1 ∧ x.1 < cs.length → atC (cs.map asT) x = asT (atC cs x) := fun x hx => by
    unfold atC
    exact getD_map (by omega)
  have hah : ∀ i j, i < cs.length → j < cs.length → aheadB (cs.map asT) i j = aheadB cs i j := fun i j hi hj => by
    unfold aheadB
    rw [getD_map hi, getD_map hj]
    rfl
  have hgo : (∀ x ∈ ws, 0 ≤ x.1 ∧ x.1 < cs.length) → (ws.map (·.1)).Nodup → ((∀ t, t < manyS.length → goesB (manyS.getD t 0) (beginL (manyS.getD t 0)) (ownD (cs.map asT) t ws) = true) ↔ Goes1 cs ws) := fun hr ho => by
    have hl := once_len hr ho
    have hask := ddC_ask hs hr
    have hown : ∀ t, ownD (cs.map asT) t ws = (ws.map (ddC cs)).filter fun d => d.arg.toNat == t := fun t => by
      unfold ownD
      rw [List.filter_map]
      have e1 : ws.filter (fun x => (atC (cs.map asT) x).thing.toNat == t) = ws.filter ((fun d : Dd => d.arg.toNat == t) ∘ ddC cs) := List.filter_congr fun x hx => by
        rw [hat x (hr x hx)]
        rfl
      rw [e1]
      refine List.map_congr_left fun x hx => ?_
      unfold ddC
      rw [hat x (hr x (List.mem_filter.1 hx).1)]
      rfl
    have hone : ∀ t, t < 1001 → (goesB 4 (beginL 4) (ownD (cs.map asT) t ws) = true ↔ ∀ v : Int, goes1 false (((ws.map (ddC cs)).filter fun d => d.arg.toNat == t).filter fun d => d.arg == v) = true) := fun t ht => by
      rw [hown t]
      have hg := set_goes ((ws.map (ddC cs)).filter fun d => d.arg.toNat == t) [] (by decide) (by
        have := List.length_filter_le (fun d : Dd => d.arg.toNat == t) (ws.map (ddC cs))
        rw [List.length_map] at this
        simp only [List.length_nil]
        omega) (fun d hd => hask d (List.mem_filter.1 hd).1)
      simp only [show ∀ v : Int, decide (v ∈ ([] : List Int)) = false from fun v => decide_eq_false (by simp)] at hg
      exact hg
    constructor
    · intro h v
      by_cases hv : ∃ d ∈ ws.map (ddC cs), d.arg = v
      · obtain ⟨d, hd, rfl⟩ := hv
        have h2 := (hask d hd).2
        have h3 := h d.arg.toNat (by rw [manyS_len]; omega)
        rw [manyS_at (by omega), hone _ (by omega)] at h3
        have h4 := h3 d.arg
        rwa [filter_one (fun x hx => by rw [beq_iff_eq] at hx ⊢; rw [hx])] at h4
      · rw [List.filter_eq_nil_iff.2 (fun d hd => by rw [beq_iff_eq]; exact fun e => hv ⟨d, hd, e⟩)]
        exact goes1_nil _
    · intro h t ht
      rw [manyS_len] at ht
      rw [manyS_at ht, hone t ht]
      intro v
      by_cases hv : v.toNat = t
      · rw [filter_one (fun x hx => by rw [beq_iff_eq] at hx ⊢; rw [hx]; exact hv)]
        exact h v
      · rw [List.filter_eq_nil_iff.2 (fun d hd => by
          rw [List.mem_filter, beq_iff_eq] at hd
          rw [beq_iff_eq]
          exact fun e => hv (by rw [← e]; exact hd.2))]
        exact goes1_nil _
  rw [rite_set hs hn]
  constructor
  · intro h
    have hr : ∀ x ∈ ws, 0 ≤ x.1 ∧ x.1 < cs.length := fun x hx => by have := h.rng x hx; rwa [List.length_map] at this
    refine ⟨hr, h.once, fun x hx => ?_, fun i hi => ?_, fun i j hi hj ha => h.ord i j (by rw [List.length_map]; exact hi) (by rw [List.length_map]; exact hj) (by rw [hah i j hi hj]; exact ha), (hgo hr h.once).1 h.goes⟩
    · have := h.res x hx
      rw [hat x (hr x hx)] at this
      exact this
    · have := h.all i (by rw [List.length_map]; exact hi)
      rw [getD_map hi] at this
      exact this
  · rintro ⟨h1, h2, h3, h4, h5, h6⟩
    refine ⟨fun x hx => by rw [List.length_map]; exact h1 x hx, h2, fun x hx => ?_, fun i hi => ?_, fun i j hi hj ha => ?_, (hgo h1 h2).2 h6⟩
    · rw [hat x (h1 x hx)]
      exact h3 x hx
    · rw [List.length_map] at hi
      rw [getD_map hi]
      exact h4 i hi
    · rw [List.length_map] at hi hj
      rw [hah i j hi hj] at ha
      exact h5 i j hi hj ha
/-- What calls of a history are, as far as it matters here. -/
structure BagH (cs : List Cl) : Prop where
  set : SetOk cs
  ends : ∀ c ∈ cs, c.til = -1 ∨ c.frm < c.til
  frm : ∀ c ∈ cs, 0 ≤ c.frm
theorem BagH.own {cs : List Cl} (h : BagH cs) (v : Int) : BagH (ownV cs v) :=
  ⟨fun c hc => h.set c (ownV_mem.1 hc).1, fun c hc => h.ends c (ownV_mem.1 hc).1, fun c hc => h.frm c (ownV_mem.1 hc).1⟩
def noneg (z : Int) : Int := if z < 0 then 0 else z
theorem retC_same {c : Cl} (h1 : c.til = -1 ∨ c.frm < c.til) (h2 : 0 ≤ c.frm) : retC noneg c = c := by
  unfold retC noneg
  rw [if_neg (by omega)]
  rcases h1 with h1 | h1
  · rw [if_pos h1, ← h1]
  · rw [if_neg (by omega), if_neg (by omega)]
/-- HERLIHY, WING: of a set there is a right order just if there is one of each number. -/
theorem bag_iff {cs : List Cl} (h : BagH cs) (hn : cs.length ≤ 50) : (∃ ws, Rite [4] cs ws) ↔ ∀ v, ∃ ws, Rite [4] (ownV cs v) ws := by
  have hmem : ∀ c ∈ cs.map asT, ∃ d ∈ cs, asT d = c := fun c hc => List.mem_map.1 hc
  have hth : ∀ c ∈ cs.map asT, 0 ≤ c.thing ∧ c.thing < manyS.length := fun c hc => by
    obtain ⟨d, hd, rfl⟩ := hmem c hc
    have := h.set d hd
    rw [manyS_len]
    show 0 ≤ d.arg ∧ d.arg < ((1001 : Nat) : Int)
    omega
  have hen : ∀ c ∈ cs.map asT, c.til = -1 ∨ c.frm < c.til := fun c hc => by obtain ⟨d, hd, rfl⟩ := hmem c hc; exact h.ends d hd
  have hfr : ∀ c ∈ cs.map asT, 0 ≤ c.frm := fun c hc => by obtain ⟨d, hd, rfl⟩ := hmem c hc; exact h.frm d hd
  have hpr : ∀ v, prt noneg v (cs.map asT) = (ownV cs v).map asT := fun v => by
    unfold prt ownV
    rw [List.filter_map, List.map_map]
    refine List.map_congr_left fun c hc => ?_
    have hc2 := (List.mem_filter.1 hc).1
    exact retC_same (c := asT c) (h.ends c hc2) (h.frm c hc2)
  have hlen : ∀ v, (ownV cs v).length ≤ 50 := fun v => Nat.le_trans (List.length_filter_le _ _) hn
  have hsome : ∀ v : Int, (∀ c ∈ cs, c.arg ≠ v) → ∃ ws, Rite [4] (ownV cs v) ws := fun v hv => by
    have e : ownV cs v = [] := List.filter_eq_nil_iff.2 fun c hc => by rw [beq_iff_eq]; exact hv c hc
    rw [e]
    exact ⟨[], ⟨fun x hx => absurd hx List.not_mem_nil, List.nodup_nil, fun x hx => absurd hx List.not_mem_nil, fun i hi => absurd hi (Nat.not_lt_zero _), fun i j hi => absurd hi (Nat.not_lt_zero _), fun t ht => by
      have : t = 0 := by simp at ht; exact ht
      subst this
      rfl⟩⟩
  have key : ∀ t : Nat, t < 1001 → ((∃ w, RiteT manyS (cs.map asT) t w) ↔ ∃ ws, Rite [4] (ownV cs (t : Int)) ws) := fun t ht => by
    have hup : ∀ y z : Int, y ≤ z → noneg y ≤ noneg z := fun y z hyz => by unfold noneg; repeat' split
                                                                           all_goals omega
    have hge : ∀ z, 0 ≤ noneg z := fun z => by unfold noneg; split <;> omega
    have htl : ∀ c ∈ cs.map asT, c.thing = (t : Int) → c.til ≠ -1 → noneg (c.til + 1) = noneg c.til + 1 := fun c hc _ hct => by
      have h1 := hen c hc
      have h2 := hfr c hc
      unfold noneg
      rw [if_neg (by omega), if_neg (by omega)]
    constructor
    · rintro ⟨w, hw⟩
      obtain ⟨ws, h1, rfl⟩ := upS_onto noneg (fun c hc => (hth c hc).1) rfl hw.rng hw.own
      have h2 := (rite_part_iff hup hge htl hth rfl (by rw [manyS_len]; exact ht) h1).2 hw
      rw [hpr] at h2
      exact ⟨ws, (rite_things (h.own t).set (hlen t)).1 h2⟩
    · rintro ⟨ws, hw⟩
      have h2 := (rite_things (h.own t).set (hlen t)).2 hw
      rw [← hpr] at h2
      exact ⟨_, (rite_part_iff hup hge htl hth rfl (by rw [manyS_len]; exact ht) h2.rng).1 h2⟩
  have h0 : (∃ ws, Rite [4] cs ws) ↔ ∃ ws, Rite manyS (cs.map asT) ws := ⟨fun ⟨ws, hw⟩ => ⟨ws, (rite_things h.set hn).2 hw⟩, fun ⟨ws, hw⟩ => ⟨ws, (rite_things h.set hn).1 hw⟩⟩
  rw [h0, local_iff hth hen hfr, manyS_len]
  constructor
  · intro k v
    by_cases hv : ∃ c ∈ cs, c.arg = v
    · obtain ⟨c, hc, rfl⟩ := hv
      have h1 := h.set c hc
      have h2 := (key c.arg.toNat (by omega)).1 (k c.arg.toNat (by omega))
      rwa [Int.toNat_of_nonneg (by omega)] at h2
    · exact hsome v fun c hc e => hv ⟨c, hc, e⟩
  · intro k t ht
    exact (key t ht).2 (k t)
/-- With times counted anew. -/
theorem rite_rtC {ts : List Int} {cs : List Cl} {r : Int → Int} (hr : ∀ z, 0 ≤ r z) (ha : ∀ c ∈ cs, ∀ d ∈ cs, c.til ≠ -1 → (r c.til < r d.frm ↔ c.til < d.frm)) {ws : List (Int × Int)} : Rite ts (cs.map (rtC r)) ws ↔ Rite ts cs ws := by
  have hat : ∀ x : Int × Int, 0 ≤ x.1 ∧ x.1 < cs.length → atC (cs.map (rtC r)) x = rtC r (atC cs x) := fun x hx => by
    unfold atC
    exact getD_map (by omega)
  have hm : ∀ i, i < cs.length → cs.getD i default ∈ cs := fun i hi => by rw [List.getD_eq_getElem?_getD, List.getElem?_eq_getElem hi]; exact List.getElem_mem _
  have hah : ∀ i j, i < cs.length → j < cs.length → aheadB (cs.map (rtC r)) i j = aheadB cs i j := fun i j hi hj => by
    unfold aheadB
    rw [getD_map hi, getD_map hj]
    refine decide_eq_decide.2 ?_
    have h1 := rtC_til hr (cs.getD i default)
    constructor
    · rintro ⟨h2, h3⟩
      have h4 : (cs.getD i default).til ≠ -1 := fun e => h2 (h1.2 e)
      have h5 := (ha _ (hm i hi) _ (hm j hj) h4)
      unfold rtC at h3
      simp only at h3
      rw [if_neg h4] at h3
      exact ⟨h4, h5.1 h3⟩
    · rintro ⟨h4, h3⟩
      refine ⟨fun e => h4 (h1.1 e), ?_⟩
      have h5 := (ha _ (hm i hi) _ (hm j hj) h4)
      unfold rtC
      simp only
      rw [if_neg h4]
      exact h5.2 h3
  have hown : (∀ x ∈ ws, 0 ≤ x.1 ∧ x.1 < cs.length) → ∀ t, ownD (cs.map (rtC r)) t ws = ownD cs t ws := fun hr2 t => by
    unfold ownD
    have e1 : ws.filter (fun x => (atC (cs.map (rtC r)) x).thing.toNat == t) = ws.filter (fun x => (atC cs x).thing.toNat == t) := List.filter_congr fun x hx => by
      rw [hat x (hr2 x hx)]
      rfl
    rw [e1]
    refine List.map_congr_left fun x hx => ?_
    unfold ddC
    rw [hat x (hr2 x (List.mem_filter.1 hx).1)]
    rfl
  constructor
  · intro h
    have h1 : ∀ x ∈ ws, 0 ≤ x.1 ∧ x.1 < cs.length := fun x hx => by have := h.rng x hx; rwa [List.length_map] at this
    refine ⟨h1, h.once, fun x hx ht => ?_, fun i hi ht => ?_, fun i j hi hj h2 => h.ord i j (by rw [List.length_map]; exact hi) (by rw [List.length_map]; exact hj) (by rw [hah i j hi hj]; exact h2), fun t ht => by rw [← hown h1 t]; exact h.goes t ht⟩
    · have := h.res x hx
      rw [hat x (h1 x hx)] at this
      exact this fun e => ht ((rtC_til hr _).1 e)
    · have := h.all i (by rw [List.length_map]; exact hi)
      rw [getD_map hi] at this
      exact this fun e => ht ((rtC_til hr _).1 e)
  · intro h
    refine ⟨fun x hx => by rw [List.length_map]; exact h.rng x hx, h.once, fun x hx ht => ?_, fun i hi ht => ?_, fun i j hi hj h2 => ?_, fun t ht => by rw [hown h.rng t]; exact h.goes t ht⟩
    · rw [hat x (h.rng x hx)] at ht ⊢
      exact h.res x hx fun e => ht ((rtC_til hr _).2 e)
    · rw [List.length_map] at hi
      rw [getD_map hi] at ht
      exact h.all i hi fun e => ht ((rtC_til hr _).2 e)
    · rw [List.length_map] at hi hj
      rw [hah i j hi hj] at h2
      exact h.ord i j hi hj h2
/-- Is it an event of a call of number v? -/
def bagK (cs : List Cl) (v : Int) (z : Int) : Bool := cs.any fun x => x.arg == v && (x.frm == z || (x.til != -1 && x.til == z))
theorem bagK_iff {cs : List Cl} {v z : Int} : bagK cs v z = true ↔ ∃ x ∈ cs, x.arg = v ∧ (x.frm = z ∨ (x.til ≠ -1 ∧ x.til = z)) := by
  unfold bagK
  rw [List.any_eq_true]
  simp only [Bool.and_eq_true, Bool.or_eq_true, beq_iff_eq, bne_iff_ne]
/-- The events of the calls of number v. -/
def bagL (l : List Ev) (v : Int) : List Ev := subL (bagK (callsOf [4] l).1 v) 0 l
section
variable {l : List Ev}
theorem bag_one (h : (callsOf [4] l).2.2 = 0) {c d : Cl} (hc : c ∈ (callsOf [4] l).1) (hd : d ∈ (callsOf [4] l).1) : (c.frm = d.frm → c = d) ∧ (c.til ≠ -1 → c.til = d.til → c = d) ∧ c.til ≠ d.frm := by
  have hu := calls_unlike h
  obtain ⟨i, hi⟩ := List.getElem?_of_mem hc
  obtain ⟨j, hj⟩ := List.getElem?_of_mem hd
  have h1 := hu i j c d hi hj
  refine ⟨fun e => ?_, fun e1 e2 => ?_, calls_apart h c hc d hd⟩
  · have := h1.1 e
    subst this
    rw [hi] at hj
    injection hj
  · have := h1.2 e1 e2
    subst this
    rw [hi] at hj
    injection hj
theorem bagK_frm (h : (callsOf [4] l).2.2 = 0) (v : Int) {c : Cl} (hc : c ∈ (callsOf [4] l).1) : bagK (callsOf [4] l).1 v c.frm = (c.arg == v) := by
  rw [Bool.eq_iff_iff, bagK_iff, beq_iff_eq]
  constructor
  · rintro ⟨x, hx, h1, h2 | ⟨_, h2⟩⟩
    · rw [← (bag_one h hx hc).1 h2]; exact h1
    · exact absurd h2 (bag_one h hx hc).2.2
  · intro e
    exact ⟨c, hc, e, .inl rfl⟩
theorem bagK_til (h : (callsOf [4] l).2.2 = 0) (v : Int) {c : Cl} (hc : c ∈ (callsOf [4] l).1) (ht : c.til ≠ -1) : bagK (callsOf [4] l).1 v c.til = (c.arg == v) := by
  rw [Bool.eq_iff_iff, bagK_iff, beq_iff_eq]
  constructor
  · rintro ⟨x, hx, h1, h2 | ⟨h3, h2⟩⟩
    · exact absurd h2.symm (bag_one h hc hx).2.2
    · rw [← (bag_one h hx hc).2.1 h3 h2]; exact h1
  · intro e
    exact ⟨c, hc, e, .inr ⟨ht, rfl⟩⟩
/-- How its events are counted anew. -/
def bagR (l : List Ev) (v : Int) : Int → Int := rkS (bagK (callsOf [4] l).1 v) l
theorem bag_calls (h : (callsOf [4] l).2.2 = 0) (v : Int) : callsOf [4] (bagL l v) = ((ownV (callsOf [4] l).1 v).map (rtC (bagR l v)), 0, 0) := by
  have h1 := sub_calls h (k := bagK (callsOf [4] l).1 v) (fun c hc ht => by rw [bagK_til h v hc ht, bagK_frm h v hc])
  show callsOf [4] (subL (bagK (callsOf [4] l).1 v) 0 l) = _
  rw [h1]
  unfold sbt ownV bagR
  rw [List.filter_congr fun c hc => bagK_frm h v hc]
theorem calls_bagH (h : (callsOf [4] l).2.2 = 0) : BagH (callsOf [4] l).1 := by
  have ho := (calls_orderly h).1
  refine ⟨fun c hc => ?_, ho.ends, fun c hc => (ho.tidy c hc).2.2.1⟩
  have hk := calls_callOk h c hc
  have h1 := hk.thing
  simp at h1
  have h0 : c.thing = 0 := by omega
  have hf := hk.fits
  have ht := hk.takes
  rw [h0] at hf
  have e4 : (4 : Int) = kindType c.kind := (of_decide_eq_true hf).2
  have hkind : c.kind = 7 ∨ c.kind = 8 ∨ c.kind = 9 := by
    unfold kindType at e4
    apply Classical.byContradiction
    intro hn
    repeat' split at e4
    all_goals omega
  unfold takesB at ht
  rw [if_pos (by omega)] at ht
  have := btw_iff.1 ht
  exact ⟨hkind, this.1, this.2, h0⟩
theorem bagR_ge (l : List Ev) (v z : Int) : 0 ≤ bagR l v z := rkS_ge _ _ _
theorem bagR_lt (h : (callsOf [4] l).2.2 = 0) (v : Int) : ∀ c ∈ ownV (callsOf [4] l).1 v, ∀ d ∈ ownV (callsOf [4] l).1 v, c.til ≠ -1 → (bagR l v c.til < bagR l v d.frm ↔ c.til < d.frm) := fun c hc d hd ht => by
  obtain ⟨hc1, hc2⟩ := ownV_mem.1 hc
  have ho := (calls_orderly h).1
  have h1 := ho.tidy c hc1
  have h2 := ho.ends c hc1
  have hk : bagK (callsOf [4] l).1 v c.til = true := by rw [bagK_til h v hc1 ht, beq_iff_eq]; exact hc2
  constructor
  · intro h3
    apply Classical.byContradiction
    intro h4
    have := rkS_up (bagK (callsOf [4] l).1 v) l (y := d.frm) (z := c.til) (by omega)
    unfold bagR at h3
    omega
  · intro h3
    exact rkS_lt (bagK (callsOf [4] l).1 v) l (by omega) h3 hk (by omega)
/-- A right order of the part is one of the calls of that number, with times as they are. -/
theorem bag_part (h : (callsOf [4] l).2.2 = 0) (v : Int) {ws : List (Int × Int)} : Rite [4] (callsOf [4] (bagL l v)).1 ws ↔ Rite [4] (ownV (callsOf [4] l).1 v) ws := by
  rw [bag_calls h v]
  exact rite_rtC (bagR_ge l v) (bagR_lt h v)
end
end Go.Proofs.YtfgangkpebkicaaDoor

/-
  Plain: what package bags tells of a history: the error, and the numbers that can't be; the part of a number alone, and numbers one more.
-/
namespace Go.Proofs.YtfgangkpebkicaaDoor
open Go.RowKit
set_option maxRecDepth 20000
/-- The error of package bags. -/
def bagsE (l : List Ev) : Int := if (callsOf [4] l).2.2 ≠ 0 then (callsOf [4] l).2.2 else if ((callsOf [4] l).1.any fun c => decide (9 < (ownV (callsOf [4] l).1 c.arg).length)) = true then 2 else 0
/-- Is there no right order of the calls of number v? -/
noncomputable def badV (cs : List Cl) (v : Int) : Bool := @decide (¬ ∃ ws, Rite [4] (ownV cs v) ws) (Classical.propDecidable _)
theorem badV_iff {cs : List Cl} {v : Int} : badV cs v = true ↔ ¬ ∃ ws, Rite [4] (ownV cs v) ws := by
  unfold badV
  exact @decide_eq_true_iff _ (Classical.propDecidable _)
/-- The numbers that can't be. -/
noncomputable def bagB (l : List Ev) : List Int := ((List.range 1001).map fun (k : Nat) => (k : Int)).filter fun v => ((callsOf [4] l).1.any fun c => c.arg == v) && badV (callsOf [4] l).1 v
theorem bagB_up (l : List Ev) : (bagB l).Pairwise (· < ·) := by
  unfold bagB
  refine List.Pairwise.filter _ ?_
  rw [List.pairwise_map]
  exact List.pairwise_lt_range.imp fun h => by omega
theorem bagsE_zero {l : List Ev} : bagsE l = 0 ↔ (callsOf [4] l).2.2 = 0 ∧ ∀ v, (ownV (callsOf [4] l).1 v).length ≤ 9 := by
  unfold bagsE
  by_cases h : (callsOf [4] l).2.2 = 0
  · rw [if_neg (fun h2 => h2 h)]
    by_cases h2 : ((callsOf [4] l).1.any fun c => decide (9 < (ownV (callsOf [4] l).1 c.arg).length)) = true
    · rw [if_pos h2]
      obtain ⟨c, _, hc⟩ := List.any_eq_true.1 h2
      have := of_decide_eq_true hc
      exact ⟨fun h3 => absurd h3 (by decide), fun h3 => by have := h3.2 c.arg; omega⟩
    · rw [if_neg h2]
      refine ⟨fun _ => ⟨h, fun v => ?_⟩, fun _ => rfl⟩
      apply Classical.byContradiction
      intro hv
      have hne : ownV (callsOf [4] l).1 v ≠ [] := fun e => by rw [e] at hv; exact hv (by decide)
      obtain ⟨c, hc⟩ := List.exists_mem_of_ne_nil _ hne
      obtain ⟨h3, rfl⟩ := ownV_mem.1 hc
      exact h2 (List.any_eq_true.2 ⟨c, h3, decide_eq_true (by omega)⟩)
  · rw [if_pos h]
    exact ⟨fun h3 => absurd h3 h, fun h3 => absurd h3.1 h⟩
theorem bagB_mem {l : List Ev} (h : (callsOf [4] l).2.2 = 0) {v : Int} : v ∈ bagB l ↔ (∃ c ∈ (callsOf [4] l).1, c.arg = v) ∧ ¬ ∃ ws, Rite [4] (ownV (callsOf [4] l).1 v) ws := by
  unfold bagB
  rw [List.mem_filter, Bool.and_eq_true, badV_iff, List.any_eq_true]
  simp only [beq_iff_eq]
  constructor
  · rintro ⟨_, h1, h2⟩
    exact ⟨h1, h2⟩
  · rintro ⟨⟨c, hc, rfl⟩, h2⟩
    have := (calls_bagH h).set c hc
    exact ⟨List.mem_map.2 ⟨c.arg.toNat, List.mem_range.2 (by omega), by omega⟩, ⟨c, hc, rfl⟩, h2⟩
theorem inc_ext : ∀ {a b : List Int}, a.Pairwise (· < ·) → b.Pairwise (· < ·) → (∀ x, x ∈ a ↔ x ∈ b) → a = b := by
  intro a b ha hb hm
  have h1 : a.Nodup := ha.imp fun h => by omega
  have h2 : b.Nodup := hb.imp fun h => by omega
  exact List.Perm.eq_of_pairwise (le := fun x y : Int => x < y) (fun x y _ _ h1 h2 => by omega) ha hb ((List.perm_ext_iff_of_nodup h1 h2).2 hm)
/-- HERLIHY, WING: there is a right order just if no number is told. -/
theorem bags_search {l : List Ev} (h : (callsOf [4] l).2.2 = 0) (hn : (callsOf [4] l).1.length ≤ 50) : (∃ ws, Rite [4] (callsOf [4] l).1 ws) ↔ bagB l = [] := by
  rw [bag_iff (calls_bagH h) hn, List.eq_nil_iff_forall_not_mem]
  constructor
  · intro k v hv
    exact ((bagB_mem h).1 hv).2 (k v)
  · intro k v
    apply Classical.byContradiction
    intro hv
    refine k v ((bagB_mem h).2 ⟨?_, hv⟩)
    apply Classical.byContradiction
    intro hc
    have e : ownV (callsOf [4] l).1 v = [] := List.filter_eq_nil_iff.2 fun c hc2 => by rw [beq_iff_eq]; exact fun e => hc ⟨c, hc2, e⟩
    refine hv ?_
    rw [e]
    exact ⟨[], ⟨fun x hx => absurd hx List.not_mem_nil, List.nodup_nil, fun x hx => absurd hx List.not_mem_nil, fun i hi => absurd hi (Nat.not_lt_zero _), fun i j hi => absurd hi (Nat.not_lt_zero _), fun t ht => by
      have : t = 0 := by simp at ht; exact ht
      subst this
      rfl⟩⟩
theorem step_frm {ts : List Int} {n : Nat} {cs cs' : List Cl} {x : Ev} (hs : step ts n cs x = .inr cs') {z : Int} (h : ∃ c ∈ cs, c.frm = z ∨ (c.til ≠ -1 ∧ c.til = z)) : ∃ c ∈ cs', c.frm = z ∨ (c.til ≠ -1 ∧ c.til = z) := by
  obtain ⟨c, hc, h⟩ := h
  by_cases ht : c.til = -1
  · have hz : c.frm = z := h.elim id fun h => absurd ht h.1
    unfold step respS invS at hs
    repeat' split at hs
    all_goals (try cases hs)
    · obtain ⟨e, e1, e2, e3, e4⟩ := openOf_at (cs := cs) (who := x.who) (by omega)
      obtain ⟨i, hi⟩ := List.getElem?_of_mem hc
      by_cases hne : (openOf cs x.who).toNat = i
      · rw [hne] at e4 ⊢
        refine ⟨_, List.mem_set e4 _, .inl ?_⟩
        show (cs.getD i default).frm = z
        rw [List.getD_eq_getElem?_getD, hi]
        exact hz
      · exact ⟨c, List.mem_of_getElem? (i := i) (by rw [List.getElem?_set_ne hne]; exact hi), .inl hz⟩
    · exact ⟨c, List.mem_append_left _ hc, .inl hz⟩
  · exact ⟨c, step_closed hs hc ht, h⟩
/-- Each event is one of a call. -/
theorem run_cover {ts : List Int} : ∀ (l : List Ev) (n : Nat) (cs : List Cl), (run ts n cs l).2.2 = 0 → ∀ z : Int, ((∃ c ∈ cs, c.frm = z ∨ (c.til ≠ -1 ∧ c.til = z)) ∨ ((n : Int) ≤ z ∧ z < n + l.length)) → ∃ c ∈ (run ts n cs l).1, c.frm = z ∨ (c.til ≠ -1 ∧ c.til = z)
  | [], n, cs, _, z, h => by
    rcases h with h | h
    · exact h
    · simp at h; omega
  | x :: l, n, cs, h0, z, h => by
    rw [run] at h0 ⊢
    cases hs : step ts n cs x with
    | inl e => rw [hs] at h0; exact absurd h0 (step_err hs)
    | inr cs' =>
      rw [hs] at h0
      refine run_cover l (n + 1) cs' h0 z ?_
      rcases h with h | h
      · exact .inl (step_frm hs h)
      · by_cases e : z = (n : Int)
        · subst e
          left
          unfold step respS invS at hs
          repeat' split at hs
          all_goals (try cases hs)
          · obtain ⟨e, e1, e2, e3, e4⟩ := openOf_at (cs := cs) (who := x.who) (by omega)
            exact ⟨_, List.mem_set e4 _, .inr ⟨by simp only; omega, rfl⟩⟩
          · exact ⟨_, List.mem_append_right _ (List.mem_singleton.2 rfl), .inl rfl⟩
        · right
          rw [List.length_cons] at h
          push_cast at h ⊢
          omega
theorem calls_cover {ts : List Int} {l : List Ev} (h : (callsOf ts l).2.2 = 0) {z : Int} (h0 : 0 ≤ z) (h1 : z < l.length) : ∃ c ∈ (callsOf ts l).1, c.frm = z ∨ (c.til ≠ -1 ∧ c.til = z) := by
  obtain ⟨_, _, e⟩ := calls_zero h
  rw [e] at h ⊢
  exact run_cover l 0 [] h z (.inr ⟨by omega, by omega⟩)
theorem subL_all {k : Int → Bool} : ∀ (l : List Ev) (n : Nat), (∀ z : Int, (n : Int) ≤ z → z < n + l.length → k z = true) → subL k n l = l
  | [], _, _ => rfl
  | x :: l, n, h => by
    rw [subL, if_pos (h n (by omega) (by rw [List.length_cons]; omega)), subL_all l (n + 1) (fun z h1 h2 => h z (by omega) (by rw [List.length_cons]; omega))]
section
variable {l : List Ev}
theorem bag_argE (h : (callsOf [4] l).2.2 = 0) (v : Int) : ∀ c ∈ (callsOf [4] (bagL l v)).1, c.arg = v := fun c hc => by
  rw [bag_calls h v] at hc
  obtain ⟨d, hd, rfl⟩ := List.mem_map.1 hc
  exact (ownV_mem.1 hd).2
theorem bag_own (h : (callsOf [4] l).2.2 = 0) (v : Int) : ownV (callsOf [4] (bagL l v)).1 v = (callsOf [4] (bagL l v)).1 := List.filter_eq_self.2 fun c hc => by rw [beq_iff_eq]; exact bag_argE h v c hc
/-- The part of the part is the part. -/
theorem bag_again (h : (callsOf [4] l).2.2 = 0) (v : Int) : bagL (bagL l v) v = bagL l v := by
  have h1 : (callsOf [4] (bagL l v)).2.2 = 0 := by rw [bag_calls h v]
  have key := @subL_all (bagK (callsOf [4] (bagL l v)).1 v) (bagL l v) 0 (fun z h2 h3 => by
    obtain ⟨c, hc, hz⟩ := calls_cover h1 (z := z) (by omega) (by omega)
    exact bagK_iff.2 ⟨c, hc, bag_argE h v c hc, hz⟩)
  exact key
theorem bag_small (h : bagsE l = 0) (v : Int) : bagsE (bagL l v) = 0 := by
  obtain ⟨h1, h2⟩ := bagsE_zero.1 h
  have e := bag_calls h1 v
  refine bagsE_zero.2 ⟨by rw [e], fun u => ?_⟩
  have h3 : (ownV (callsOf [4] (bagL l v)).1 u).length ≤ (callsOf [4] (bagL l v)).1.length := List.length_filter_le _ _
  have h4 : (callsOf [4] (bagL l v)).1.length = (ownV (callsOf [4] l).1 v).length := by rw [e]; exact List.length_map _
  have := h2 v
  omega
/-- Of the part of one number just that is told. -/
theorem bag_alone (h : (callsOf [4] l).2.2 = 0) (v : Int) : bagB (bagL l v) = if v ∈ bagB l then [v] else [] := by
  have h1 : (callsOf [4] (bagL l v)).2.2 = 0 := by rw [bag_calls h v]
  have key : ∀ u, u ∈ bagB (bagL l v) ↔ u = v ∧ v ∈ bagB l := fun u => by
    rw [bagB_mem h1, bagB_mem h]
    constructor
    · rintro ⟨⟨c, hc, rfl⟩, h3⟩
      have hv := bag_argE h v c hc
      rw [hv] at h3 ⊢
      rw [bag_own h v] at h3
      rw [bag_calls h v] at hc
      obtain ⟨d, hd, _⟩ := List.mem_map.1 hc
      obtain ⟨hd1, hd2⟩ := ownV_mem.1 hd
      exact ⟨rfl, ⟨d, hd1, hd2⟩, fun ⟨ws, hw⟩ => h3 ⟨ws, (bag_part h v).2 hw⟩⟩
    · rintro ⟨rfl, ⟨c, hc, e⟩, h3⟩
      refine ⟨⟨rtC (bagR l u) c, ?_, e⟩, ?_⟩
      · rw [bag_calls h u]
        exact List.mem_map.2 ⟨c, ownV_mem.2 ⟨hc, e⟩, rfl⟩
      · rw [bag_own h u]
        exact fun ⟨ws, hw⟩ => h3 ⟨ws, (bag_part h u).1 hw⟩
  by_cases hv : v ∈ bagB l
  · rw [if_pos hv]
    refine inc_ext (bagB_up _) (List.pairwise_singleton _ _) fun u => ?_
    rw [key u, List.mem_singleton]
    exact ⟨fun h => h.1, fun h => ⟨h, hv⟩⟩
  · rw [if_neg hv]
    refine List.eq_nil_iff_forall_not_mem.2 fun u hu => hv ((key u).1 hu).2
end
def addM (m : Int) (x : Ev) : Ev := if x.kind ≠ 0 then { x with val := x.val + m } else x
theorem open_argC (f : Int → Int) (who : Int) : ∀ (cs : List Cl) (k : Nat) (a : Int), openFrom who k a (cs.map (argC f)) = openFrom who k a cs
  | [], _, _ => rfl
  | c :: cs, k, a => by
    rw [List.map_cons, openFrom, openFrom, open_argC f who cs]
    rfl
theorem step_argC {ts : List Int} {n : Nat} {cs cs' : List Cl} {x : Ev} {m : Int} (hs : step ts n cs x = .inr cs') (hs2 : ∃ ds, step ts n (cs.map (argC (· + m))) (addM m x) = .inr ds) : step ts n (cs.map (argC (· + m))) (addM m x) = .inr (cs'.map (argC (· + m))) := by
  have ho : openOf (cs.map (argC (· + m))) x.who = openOf cs x.who := open_argC _ _ _ _ _
  have e1 : (addM m x).who = x.who := by unfold addM; split <;> rfl
  have e2 : (addM m x).thing = x.thing := by unfold addM; split <;> rfl
  have e3 : (addM m x).kind = x.kind := by unfold addM; split <;> rfl
  obtain ⟨ds, hs2⟩ := hs2
  have hs3 := hs2
  unfold step at hs hs2
  rw [e1, e2, e3] at hs2
  split at hs
  · cases hs
  rename_i hx
  rw [if_neg hx] at hs2
  by_cases hk : x.kind = 0
  · rw [if_pos hk] at hs hs2
    have e4 : addM m x = x := by unfold addM; rw [if_neg (fun h => h hk)]
    rw [hs3, ← hs2, e4]
    unfold respS at hs ⊢
    rw [ho]
    split at hs
    · cases hs
    rename_i h0
    rw [if_neg h0]
    split at hs
    · cases hs
    rename_i hg
    obtain ⟨c, f1, f2, f3, f4⟩ := openOf_at (cs := cs) (who := x.who) (by omega)
    have hgm : (cs.map (argC (· + m))).getD (openOf cs x.who).toNat default = argC (· + m) (cs.getD (openOf cs x.who).toNat default) := getD_map f4
    rw [hgm, if_neg (by exact hg)]
    injection hs with hs
    subst hs
    congr 1
    rw [List.map_set]
    rfl
  · rw [if_neg hk] at hs hs2
    rw [hs3, ← hs2]
    unfold invS at hs hs2 ⊢
    rw [e1, ho, e2, e3] at hs2 ⊢
    split at hs
    · cases hs
    split at hs
    · cases hs
    rename_i h0
    split at hs2
    · cases hs2
    rename_i hf
    rw [if_neg hf, if_neg h0]
    injection hs with hs
    subst hs
    congr 1
    rw [List.map_append]
    congr 1
    have e5 : (addM m x).val = x.val + m := by unfold addM; rw [if_pos hk]
    rw [e5]
    rfl
theorem run_argC {ts : List Int} {m : Int} : ∀ (l : List Ev) (n : Nat) (cs : List Cl), (run ts n cs l).2.2 = 0 → (run ts n (cs.map (argC (· + m))) (l.map (addM m))).2.2 = 0 → (run ts n (cs.map (argC (· + m))) (l.map (addM m))).1 = (run ts n cs l).1.map (argC (· + m))
  | [], _, _, _, _ => rfl
  | x :: l, n, cs, h, h2 => by
    rw [List.map_cons, run] at h2 ⊢
    rw [run] at h ⊢
    cases hs : step ts n cs x with
    | inl e => rw [hs] at h; exact absurd h (step_err hs)
    | inr cs' =>
      cases hs2 : step ts n (cs.map (argC (· + m))) (addM m x) with
      | inl e => rw [hs2] at h2; exact absurd h2 (step_err hs2)
      | inr ds =>
        have := step_argC hs ⟨ds, hs2⟩
        rw [hs2] at this
        injection this with this
        subst this
        rw [hs2] at h2
        rw [hs] at h
        exact run_argC l (n + 1) cs' h h2
theorem calls_argC {ts : List Int} {l : List Ev} {m : Int} (h : (callsOf ts l).2.2 = 0) (h2 : (callsOf ts (l.map (addM m))).2.2 = 0) : (callsOf ts (l.map (addM m))).1 = (callsOf ts l).1.map (argC (· + m)) := by
  obtain ⟨_, _, e⟩ := calls_zero h
  obtain ⟨_, _, e2⟩ := calls_zero h2
  rw [e] at h ⊢
  rw [e2] at h2 ⊢
  exact run_argC l 0 [] h h2
theorem bag_names {l : List Ev} {m : Int} (h : bagsE l = 0) (h2 : bagsE (l.map (addM m)) = 0) : bagB (l.map (addM m)) = (bagB l).map (· + m) := by
  obtain ⟨h1, h9⟩ := bagsE_zero.1 h
  obtain ⟨h3, _⟩ := bagsE_zero.1 h2
  have hc := calls_argC h1 h3
  have hown : ∀ v, ownV ((callsOf [4] l).1.map (argC (· + m))) (v + m) = (ownV (callsOf [4] l).1 v).map (argC (· + m)) := fun v => by
    unfold ownV
    rw [List.filter_map]
    congr 1
    refine List.filter_congr fun c _ => ?_
    show (c.arg + m == v + m) = (c.arg == v)
    rw [Bool.eq_iff_iff, beq_iff_eq, beq_iff_eq]
    omega
  have hrite : ∀ v ws, Rite [4] (ownV (callsOf [4] (l.map (addM m))).1 (v + m)) ws ↔ Rite [4] (ownV (callsOf [4] l).1 v) ws := fun v ws => by
    have hs2 := ((calls_bagH h3).own (v + m)).set
    rw [hc, hown v] at hs2 ⊢
    exact rite_argC (fun x y e => by omega) ((calls_bagH h1).own v).set hs2 (Nat.le_trans (h9 v) (by decide))
  refine inc_ext (bagB_up _) ?_ fun u => ?_
  · rw [List.pairwise_map]
    exact (bagB_up l).imp fun h => by omega
  · rw [bagB_mem h3, List.mem_map]
    constructor
    · rintro ⟨⟨c, hcm, rfl⟩, h4⟩
      rw [hc] at hcm
      obtain ⟨d, hd, rfl⟩ := List.mem_map.1 hcm
      refine ⟨d.arg, (bagB_mem h1).2 ⟨⟨d, hd, rfl⟩, fun ⟨ws, hw⟩ => h4 ⟨ws, (hrite d.arg ws).2 hw⟩⟩, rfl⟩
    · rintro ⟨v, hv, rfl⟩
      obtain ⟨⟨d, hd, rfl⟩, h4⟩ := (bagB_mem h1).1 hv
      refine ⟨⟨argC (· + m) d, ?_, rfl⟩, fun ⟨ws, hw⟩ => h4 ⟨ws, (hrite d.arg ws).1 hw⟩⟩
      rw [hc]
      exact List.mem_map.2 ⟨d, hd, rfl⟩
end Go.Proofs.YtfgangkpebkicaaDoor
