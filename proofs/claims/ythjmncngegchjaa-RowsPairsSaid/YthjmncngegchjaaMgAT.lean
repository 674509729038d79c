/-
  Joined by a program out of: RSubP, Unlike, ROnlyP, ContainsN.
-/
import Derived.Test.YthjmncngegchjaaMgAE
import Derived.Test.YthjmncngegchjaaMgAS
import Derived.Test.YthjmncngegchjaaMgAB
import Derived.WalkKit
import Derived.Deep.QuietTactic
import Derived.BigQuiet
import Derived.Lib.Hide

/-
  Plain: of some values of a queue alone: what can't be can't be of the whole; and what is told of the whole can't be of its values alone.
-/
namespace Go.Proofs.Ythjmncngegchjaa
open Go.RowKit
set_option maxRecDepth 20000

/-- What a call is of. -/
def valQ (c : Cl) : Int := max c.arg c.res
theorem once_pair {cs : List Cl} : OnceE cs ↔ cs.Pairwise fun c d => ¬ (c.kind = 3 ∧ d.kind = 3 ∧ c.arg = d.arg) := by
  rw [List.pairwise_iff_getElem]
  constructor
  · rintro h i j hi hj hij ⟨h1, h2, h3⟩
    have := h i j _ _ (List.getElem?_eq_getElem hi) (List.getElem?_eq_getElem hj) h1 h2 h3
    omega
  · intro h i j c d hc hd h1 h2 h3
    obtain ⟨hi, rfl⟩ := List.getElem?_eq_some_iff.1 hc
    obtain ⟨hj, rfl⟩ := List.getElem?_eq_some_iff.1 hd
    rcases Nat.lt_trichotomy i j with hlt | heq | hgt
    · exact absurd ⟨h1, h2, h3⟩ (h i j hi hj hlt)
    · exact heq
    · exact absurd ⟨h2, h1, h3.symm⟩ (h j i hj hi hgt)
theorem twice_pair {cs : List Cl} : ¬ TwiceQ cs ↔ cs.Pairwise fun c d => ¬ (c.kind = 4 ∧ d.kind = 4 ∧ c.res = d.res ∧ d.res ≠ -1) := by
  rw [List.pairwise_iff_getElem]
  constructor
  · rintro h i j hi hj hij ⟨h1, h2, h3, h4⟩
    exact h ⟨i, j, _, _, hij, List.getElem?_eq_getElem hi, List.getElem?_eq_getElem hj, h1, h2, h3, h4⟩
  · rintro h ⟨i, j, c, d, hij, hc, hd, h1, h2, h3, h4⟩
    obtain ⟨hi, rfl⟩ := List.getElem?_eq_some_iff.1 hc
    obtain ⟨hj, rfl⟩ := List.getElem?_eq_some_iff.1 hd
    exact h i j hi hj hij ⟨h1, h2, h3, h4⟩
/-- What is kept: the calls of some values, whole. -/
structure SubQ (l : List Ev) (kv : Int → Bool) (k : Int → Bool) : Prop where
  ok : rowsE l = 0
  frm : ∀ c ∈ (callsOf [2] l).1, k c.frm = kv (valQ c)
  til : ∀ c ∈ (callsOf [2] l).1, c.til ≠ -1 → k c.til = kv (valQ c)
section
variable {l : List Ev} {kv : Int → Bool} {k : Int → Bool}
theorem SubQ.calls (h : SubQ l kv k) : callsOf [2] (subL k 0 l) = (sbt k (rkS k l) (callsOf [2] l).1, 0, 0) :=
  sub_calls (rowsE_calls h.ok).1 fun c hc ht => (h.til c hc ht).trans (h.frm c hc).symm
theorem SubQ.mem (h : SubQ l kv k) {d : Cl} : d ∈ sbt k (rkS k l) (callsOf [2] l).1 ↔ ∃ c ∈ (callsOf [2] l).1, kv (valQ c) = true ∧ rtC (rkS k l) c = d := by
  rw [sbt_mem]
  constructor
  · rintro ⟨c, h1, h2, h3⟩
    exact ⟨c, h1, by rw [← h.frm c h1]; exact h2, h3⟩
  · rintro ⟨c, h1, h2, h3⟩
    exact ⟨c, h1, by rw [h.frm c h1]; exact h2, h3⟩
theorem SubQ.rowsE (h : SubQ l kv k) : rowsE (subL k 0 l) = 0 := by
  have hq := rowsE_que h.ok
  unfold Go.Proofs.Ythjmncngegchjaa.rowsE
  rw [h.calls, if_neg (by simp), if_pos]
  refine (okQ_iff fun c hc => ?_).2 ⟨?_, fun c hc h4 => ?_⟩
  · obtain ⟨d, h1, _, rfl⟩ := h.mem.1 hc
    exact (que_34 (hq.ok d h1) : d.kind = 3 ∨ d.kind = 4)
  · rw [once_pair]
    unfold sbt
    rw [List.pairwise_map]
    exact (once_pair.1 hq.once).filter _
  · obtain ⟨d, h1, _, rfl⟩ := h.mem.1 hc
    exact fun e => hq.ans d h1 h4 ((rtC_til (rkS_ge k l) d).1 e)
theorem SubQ.ds (h : SubQ l kv k) : (callsOf [2] (subL k 0 l)).1 = sbt k (rkS k l) (callsOf [2] l).1 := by rw [h.calls]
/-- Times of calls that are kept stand as they stood. -/
theorem SubQ.lt (h : SubQ l kv k) {c : Cl} (hc : c ∈ (callsOf [2] l).1) (d : Cl) (kc : kv (valQ c) = true) (ht : c.til ≠ -1) : (rtC (rkS k l) c).til < (rtC (rkS k l) d).frm ↔ c.til < d.frm := by
  have hq := rowsE_que h.ok
  have h1 := hq.ord.tidy c hc
  have h2 := hq.frm hc
  have e1 : (rtC (rkS k l) c).til = rkS k l c.til := by unfold rtC; simp only; rw [if_neg ht]
  have e2 : (rtC (rkS k l) d).frm = rkS k l d.frm := rfl
  rw [e1, e2]
  constructor
  · intro hlt
    apply Classical.byContradiction
    intro hn
    have := rkS_up k l (y := d.frm) (z := c.til) (by omega)
    omega
  · intro hlt
    exact rkS_lt k l (by omega) hlt (by rw [h.til c hc ht]; exact kc) (by omega)
theorem valQ_E {n : Nat} {cs : List Cl} (hq : QueH n cs) {v : Int} {c : Cl} (hc : c ∈ cs) (he : isE v c = true) : valQ c = v := by
  obtain ⟨h1, h2⟩ := isE_iff.1 he
  unfold valQ
  rcases hq.kind hc with k | k <;> omega
theorem valQ_D {n : Nat} {cs : List Cl} (hq : QueH n cs) {v : Int} {c : Cl} (hc : c ∈ cs) (he : isD v c = true) (hv : v ≠ -1) : valQ c = v := by
  obtain ⟨h1, h2⟩ := isD_iff.1 he
  unfold valQ
  rcases hq.kind hc with k | k <;> omega
theorem rtC_same (r : Int → Int) (c : Cl) : (rtC r c).kind = c.kind ∧ (rtC r c).arg = c.arg ∧ (rtC r c).res = c.res := ⟨rfl, rfl, rfl⟩
theorem SubQ.stray (h : SubQ l kv k) (hs : StrayQ (callsOf [2] (subL k 0 l)).1) : StrayQ (callsOf [2] l).1 := by
  have hq := rowsE_que h.ok
  rw [h.ds] at hs
  obtain ⟨x', hx, k1, k2, k3⟩ := hs
  obtain ⟨x, x1, x2, rfl⟩ := h.mem.1 hx
  refine ⟨x, x1, k1, k2, fun d hd => Bool.eq_false_iff.2 fun he => ?_⟩
  have e1 := valQ_E hq hd he
  have e2 : valQ x = x.res := valQ_D hq x1 (isD_iff.2 ⟨k1, rfl⟩) k2
  have := k3 _ (h.mem.2 ⟨d, hd, by rw [e1, ← e2]; exact x2, rfl⟩)
  rw [show isE (rtC (rkS k l) x).res (rtC (rkS k l) d) = isE x.res d from rfl, he] at this
  cases this
theorem SubQ.twice (h : SubQ l kv k) (hs : ¬ TwiceQ (callsOf [2] l).1) : ¬ TwiceQ (callsOf [2] (subL k 0 l)).1 := by
  rw [h.ds, twice_pair]
  rw [twice_pair] at hs
  unfold sbt
  rw [List.pairwise_map]
  exact hs.filter _
theorem SubQ.early (h : SubQ l kv k) (hs : EarlyQ (callsOf [2] (subL k 0 l)).1) : EarlyQ (callsOf [2] l).1 := by
  have hq := rowsE_que h.ok
  rw [h.ds] at hs
  obtain ⟨x', hx, k1, d', hd, k2, k3⟩ := hs
  obtain ⟨x, x1, x2, rfl⟩ := h.mem.1 hx
  obtain ⟨d, d1, d2, rfl⟩ := h.mem.1 hd
  exact ⟨x, x1, k1, d, d1, k2, (h.lt x1 _ x2 (hq.ans x x1 k1)).1 k3⟩
theorem SubQ.over (h : SubQ l kv k) {a b : Int} (hs : OverQ (callsOf [2] (subL k 0 l)).1 a b) : OverQ (callsOf [2] l).1 a b := by
  have hq := rowsE_que h.ok
  rw [h.ds] at hs
  obtain ⟨ea', hea, eb', heb, tb', htb, k1, k2, k3, k4, k5, k6⟩ := hs
  obtain ⟨ea, a1, a2, rfl⟩ := h.mem.1 hea
  obtain ⟨eb, b1, b2, rfl⟩ := h.mem.1 heb
  obtain ⟨tb, c1, c2, rfl⟩ := h.mem.1 htb
  have ht : ea.til ≠ -1 := fun e => k4 ((rtC_til (rkS_ge k l) ea).2 e)
  have htb4 : tb.til ≠ -1 := hq.ans tb c1 (isD_iff.1 k3).1
  have hva := hq.val a1 k1
  refine ⟨ea, a1, eb, b1, tb, c1, k1, k2, k3, ht, (h.lt a1 _ a2 ht).1 k5, fun ta hta hd => ?_⟩
  have e1 := valQ_D hq hta hd (by omega)
  have e2 := valQ_E hq a1 k1
  exact (h.lt c1 _ c2 htb4).1 (k6 _ (h.mem.2 ⟨ta, hta, by rw [e1, ← e2]; exact a2, rfl⟩) hd)
theorem last_kept (k : Int → Bool) (a : Int) (ha : k a = true) : ∀ m : Nat, ∃ z : Int, a ≤ z ∧ z ≤ a + m ∧ k z = true ∧ ∀ y, z < y → y ≤ a + m → k y = false
  | 0 => ⟨a, by omega, by omega, ha, fun y h1 h2 => by omega⟩
  | m + 1 => by
    by_cases hk : k (a + (m + 1 : Nat)) = true
    · exact ⟨a + (m + 1 : Nat), by omega, by omega, hk, fun y h1 h2 => by omega⟩
    · obtain ⟨z, h1, h2, h3, h4⟩ := last_kept k a ha m
      refine ⟨z, h1, by omega, h3, fun y h5 h6 => ?_⟩
      by_cases e : y = a + (m + 1 : Nat)
      · rw [e]; exact Bool.eq_false_iff.2 hk
      · exact h4 y h5 (by omega)
theorem SubQ.empty (h : SubQ l kv k) (hs : EmptyQ (callsOf [2] (subL k 0 l)).1) : EmptyQ (callsOf [2] l).1 := by
  have hq := rowsE_que h.ok
  rw [h.ds] at hs
  obtain ⟨x', hx, k1, k2, k3⟩ := hs
  obtain ⟨x, x1, x2, rfl⟩ := h.mem.1 hx
  have hxt := hq.ans x x1 k1
  have hfx := hq.frm x1
  have htx := hq.ord.tidy x x1
  have e1 : (rtC (rkS k l) x).til = rkS k l x.til := by unfold rtC; simp only; rw [if_neg hxt]
  refine ⟨x, x1, k1, k2, fun z hz1 hz2 => ?_⟩
  obtain ⟨z1, g1, g2, g3, g4⟩ := last_kept k x.frm (by rw [h.frm x x1]; exact x2) (z - x.frm).toNat
  have g5 : z1 ≤ z := by omega
  obtain ⟨e', he', f1, f2, f3, f4⟩ := k3 (rkS k l z1) (rkS_up k l g1) (by rw [e1]; exact rkS_lt k l (by omega) (by omega) g3 (by omega))
  obtain ⟨e, a1, a2, rfl⟩ := h.mem.1 he'
  have het : e.til ≠ -1 := fun e2 => f2 ((rtC_til (rkS_ge k l) e).2 e2)
  have hfe := hq.frm a1
  have e3 : (rtC (rkS k l) e).til = rkS k l e.til := by unfold rtC; simp only; rw [if_neg het]
  rw [e3] at f3
  have hle : e.til ≤ z1 := by
    apply Classical.byContradiction
    intro hn
    have := rkS_lt k l (y := z1) (z := e.til) (by omega) (by omega) g3 (by omega)
    omega
  refine ⟨e, a1, f1, het, by omega, fun t ht hd => ?_⟩
  have hv : e.arg ≠ -1 := by
    have := hq.val a1 (isE_iff.2 ⟨f1, rfl⟩)
    omega
  have e4 := valQ_D hq ht hd hv
  have e5 : valQ e = e.arg := valQ_E hq a1 (isE_iff.2 ⟨f1, rfl⟩)
  have hkt : kv (valQ t) = true := by rw [e4, ← e5]; exact a2
  have h6 : rkS k l z1 < rkS k l t.frm := f4 _ (h.mem.2 ⟨t, ht, hkt, rfl⟩) hd
  have h7 : z1 < t.frm := by
    apply Classical.byContradiction
    intro hn
    have := rkS_up k l (y := t.frm) (z := z1) (by omega)
    omega
  apply Classical.byContradiction
  intro hn
  have := g4 t.frm h7 (by omega)
  rw [h.frm t ht, hkt] at this
  cases this
/-- Of some values alone it may be, if the whole may be. -/
theorem SubQ.good (h : SubQ l kv k) (hb : (badQ (callsOf [2] l).1).kind = 0) : (badQ (callsOf [2] (subL k 0 l)).1).kind = 0 := by
  obtain ⟨n1, n2, n3, n4, n5⟩ := (rowsE_que h.ok).bad_iff.1 hb
  exact (rowsE_que h.rowsE).bad_iff.2 ⟨fun hs => n1 (h.stray hs), h.twice n2, fun hs => n3 (h.early hs), fun ⟨a, b, hs⟩ => n4 ⟨a, b, h.over hs⟩, fun hs => n5 (h.empty hs)⟩
/-- What is told of the whole is told of its values alone. -/
theorem SubQ.kind1 (h : SubQ l kv k) {x : Cl} (hx : x ∈ (callsOf [2] l).1) (h4 : x.kind = 4) (hr : x.res ≠ -1) (hn : ∀ d ∈ (callsOf [2] l).1, isE x.res d = false) (hk : kv x.res = true) : (badQ (callsOf [2] (subL k 0 l)).1).kind = 1 := by
  have hq := rowsE_que h.ok
  have hs : StrayQ (callsOf [2] (subL k 0 l)).1 := by
    rw [h.ds]
    refine ⟨_, h.mem.2 ⟨x, hx, by rw [valQ_D hq hx (isD_iff.2 ⟨h4, rfl⟩) hr]; exact hk, rfl⟩, h4, hr, fun d' hd' => ?_⟩
    obtain ⟨d, d1, _, rfl⟩ := h.mem.1 hd'
    exact hn d d1
  rcases (rowsE_que h.rowsE).bad with ⟨_, n, _⟩ | ⟨_, _, _, _, _, _, e⟩ | ⟨n, _⟩ | ⟨n, _⟩ | ⟨n, _⟩ | ⟨n, _⟩
  · exact absurd hs n
  · rw [e]
  all_goals exact absurd hs n
theorem SubQ.kind2 (h : SubQ l kv k) (n1 : ¬ StrayQ (callsOf [2] l).1) {i j : Nat} {c d : Cl} (hij : j < i) (hc : (callsOf [2] l).1[i]? = some c) (hd : (callsOf [2] l).1[j]? = some d) (hc4 : c.kind = 4) (hd4 : d.kind = 4) (hr : d.res = c.res) (hne : c.res ≠ -1) (hk : kv c.res = true) : (badQ (callsOf [2] (subL k 0 l)).1).kind = 2 := by
  have hq := rowsE_que h.ok
  have hs : TwiceQ (callsOf [2] (subL k 0 l)).1 := by
    apply Classical.byContradiction
    intro hn
    rw [h.ds, twice_pair] at hn
    unfold sbt at hn
    rw [List.pairwise_map, List.pairwise_filter, List.pairwise_iff_getElem] at hn
    obtain ⟨hi, rfl⟩ := List.getElem?_eq_some_iff.1 hc
    obtain ⟨hj, rfl⟩ := List.getElem?_eq_some_iff.1 hd
    refine hn j i hj hi hij ?_ ?_ ⟨hd4, hc4, hr, hne⟩
    · rw [h.frm _ (List.getElem_mem _), valQ_D hq (List.getElem_mem _) (isD_iff.2 ⟨hd4, hr⟩) hne]; exact hk
    · rw [h.frm _ (List.getElem_mem _), valQ_D hq (List.getElem_mem _) (isD_iff.2 ⟨hc4, rfl⟩) hne]; exact hk
  rcases (rowsE_que h.rowsE).bad with ⟨_, _, n, _⟩ | ⟨i', c', b1, b2, b3, b4, e⟩ | ⟨_, _, _, _, _, _, _, _, _, _, _, _, e⟩ | ⟨_, n, _⟩ | ⟨_, n, _⟩ | ⟨_, n, _⟩
  · exact absurd hs n
  · exact absurd (h.stray ⟨c', List.mem_of_getElem? b1, b2, b3, b4⟩) n1
  · rw [e]
  all_goals exact absurd hs n
theorem SubQ.kind3 (h : SubQ l kv k) (n1 : ¬ StrayQ (callsOf [2] l).1) (n2 : ¬ TwiceQ (callsOf [2] l).1) {c d : Cl} (hc : c ∈ (callsOf [2] l).1) (hd : d ∈ (callsOf [2] l).1) (hc4 : c.kind = 4) (he : isE c.res d = true) (hlt : c.til < d.frm) (hk : kv c.res = true) : (badQ (callsOf [2] (subL k 0 l)).1).kind = 3 := by
  have hq := rowsE_que h.ok
  have hne : c.res ≠ -1 := by have := hq.val hd he; omega
  have kc : kv (valQ c) = true := by rw [valQ_D hq hc (isD_iff.2 ⟨hc4, rfl⟩) hne]; exact hk
  have hs : EarlyQ (callsOf [2] (subL k 0 l)).1 := by
    rw [h.ds]
    exact ⟨_, h.mem.2 ⟨c, hc, kc, rfl⟩, hc4, _, h.mem.2 ⟨d, hd, by rw [valQ_E hq hd he]; exact hk, rfl⟩, he, (h.lt hc _ kc (hq.ans c hc hc4)).2 hlt⟩
  have m2 := h.twice n2
  rcases (rowsE_que h.rowsE).bad with ⟨_, _, _, n, _⟩ | ⟨i', c', b1, b2, b3, b4, e⟩ | ⟨_, i', j', c', d', b1, b2, b3, b4, b5, b6, b7, e⟩ | ⟨_, _, _, _, _, _, _, _, _, _, _, e⟩ | ⟨_, _, n, _⟩ | ⟨_, _, n, _⟩
  · exact absurd hs n
  · exact absurd (h.stray ⟨c', List.mem_of_getElem? b1, b2, b3, b4⟩) n1
  · exact absurd ⟨j', i', d', c', b1, b3, b2, b5, b4, b6, b7⟩ m2
  · rw [e]
  all_goals exact absurd hs n
theorem SubQ.kind6 (h : SubQ l kv k) (n1 : ¬ StrayQ (callsOf [2] l).1) (n2 : ¬ TwiceQ (callsOf [2] l).1) (n3 : ¬ EarlyQ (callsOf [2] l).1) {a b : Int} (ho : OverQ (callsOf [2] l).1 a b) (ha : kv a = true) (hb : kv b = true) : (badQ (callsOf [2] (subL k 0 l)).1).kind = 6 := by
  have hq := rowsE_que h.ok
  have hs : OrdQ (callsOf [2] (subL k 0 l)).1 := by
    rw [h.ds]
    obtain ⟨ea, a1, eb, b1, tb, c1, k1, k2, k3, k4, k5, k6⟩ := ho
    have va := valQ_E hq a1 k1
    have vb := valQ_E hq b1 k2
    have hvb := hq.val b1 k2
    have vt := valQ_D hq c1 k3 (by omega)
    have ktb : kv (valQ tb) = true := by rw [vt]; exact hb
    refine ⟨a, b, _, h.mem.2 ⟨ea, a1, by rw [va]; exact ha, rfl⟩, _, h.mem.2 ⟨eb, b1, by rw [vb]; exact hb, rfl⟩, _, h.mem.2 ⟨tb, c1, ktb, rfl⟩, k1, k2, k3, fun e => k4 ((rtC_til (rkS_ge k l) ea).1 e), (h.lt a1 _ (by rw [va]; exact ha) k4).2 k5, fun ta' hta hd => ?_⟩
    obtain ⟨ta, t1, t2, rfl⟩ := h.mem.1 hta
    exact (h.lt c1 _ ktb (hq.ans tb c1 (isD_iff.1 k3).1)).2 (k6 ta t1 hd)
  have m2 := h.twice n2
  rcases (rowsE_que h.rowsE).bad with ⟨_, _, _, _, n, _⟩ | ⟨i', c', b1, b2, b3, b4, e⟩ | ⟨_, i', j', c', d', b1, b2, b3, b4, b5, b6, b7, e⟩ | ⟨_, _, i', j', c', d', b1, b2, b3, b4, b5, e⟩ | ⟨_, _, _, _, _, _, e⟩ | ⟨_, _, _, n, _⟩
  · exact absurd hs n
  · exact absurd (h.stray ⟨c', List.mem_of_getElem? b1, b2, b3, b4⟩) n1
  · exact absurd ⟨j', i', d', c', b1, b3, b2, b5, b4, b6, b7⟩ m2
  · exact absurd (h.early ⟨c', List.mem_of_getElem? b1, b3, d', List.mem_of_getElem? b2, b4, b5⟩) n3
  · rw [e]
  · exact absurd hs n
end
end Go.Proofs.Ythjmncngegchjaa

/-
  Plain: no two calls begin at one event, or end at one.
-/
namespace Go.Proofs.Ythjmncngegchjaa
open Go.RowKit
set_option maxRecDepth 20000

def Unlike (cs : List Cl) : Prop := ∀ (i j : Nat) (c d : Cl), cs[i]? = some c → cs[j]? = some d → (c.frm = d.frm → i = j) ∧ (c.til ≠ -1 → c.til = d.til → i = j)
theorem step_unlike {ts : List Int} {n : Nat} {cs cs' : List Cl} {x : Ev} (h : Tidy n cs) (ha : Unlike cs) (hs : step ts n cs x = .inr cs') : Unlike cs' := by
  unfold step respS invS at hs
  repeat' split at hs
  all_goals (try cases hs)
  · obtain ⟨e, e1, _, e3, e4⟩ := openOf_at (cs := cs) (who := x.who) (by omega)
    have hg : cs.getD (openOf cs x.who).toNat default = e := by rw [List.getD_eq_getElem?_getD, e1]; rfl
    rw [hg]
    intro i j c d hc hd
    rw [List.getElem?_set] at hc hd
    split at hc
    · rename_i hi
      subst hi
      injection hc with hc
      subst hc
      split at hd
      · rename_i hj
        exact ⟨fun _ => hj, fun _ _ => hj⟩
      · have h2 := h d (List.mem_of_getElem? hd)
        exact ⟨(ha _ j e d e1 hd).1, fun _ h3 => by simp only at h3; omega⟩
    · have h1 := h c (List.mem_of_getElem? hc)
      split at hd
      · rename_i hj
        subst hj
        injection hd with hd
        subst hd
        exact ⟨(ha i _ c e hc e1).1, fun _ h3 => by simp only at h3; omega⟩
      · exact ha i j c d hc hd
  · intro i j c d hc hd
    have hil := (List.getElem?_eq_some_iff.1 hc).1
    have hjl := (List.getElem?_eq_some_iff.1 hd).1
    rw [List.length_append] at hil hjl
    simp only [List.length_cons, List.length_nil] at hil hjl
    rw [List.getElem?_append] at hc hd
    split at hc
    · have h1 := h c (List.mem_of_getElem? hc)
      split at hd
      · exact ha i j c d hc hd
      · have : j - cs.length = 0 := by omega
        rw [this] at hd
        simp at hd
        subst hd
        exact ⟨fun h3 => by simp only at h3; omega, fun h2 h3 => by simp only at h3; omega⟩
    · have : i - cs.length = 0 := by omega
      rw [this] at hc
      simp at hc
      subst hc
      split at hd
      · have h1 := h d (List.mem_of_getElem? hd)
        exact ⟨fun h3 => by simp only at h3; omega, fun h2 => absurd rfl h2⟩
      · exact ⟨fun _ => by omega, fun _ _ => by omega⟩
theorem calls_unlike {ts : List Int} {l : List Ev} (h : (callsOf ts l).2.2 = 0) : Unlike (callsOf ts l).1 := by
  obtain ⟨_, _, e⟩ := calls_zero h
  rw [e] at h ⊢
  have key : ∀ (r : List Ev) (n : Nat) (cs : List Cl), Tidy n cs → Unlike cs → (run ts n cs r).2.2 = 0 → Unlike (run ts n cs r).1 := by
    intro r
    induction r with
    | nil => intro n cs _ h _; exact h
    | cons x r ih =>
      intro n cs h h1 h2
      rw [run] at h2 ⊢
      cases hs : step ts n cs x with
      | inl e => rw [hs] at h2; exact absurd h2 (step_err hs)
      | inr cs' =>
        rw [hs] at h2
        exact ih (n + 1) cs' (step_tidy h hs) (step_unlike h h1 hs) h2
  exact key l 0 [] (fun c hc => by simp at hc) (fun i j c d hc => by simp at hc) h
end Go.Proofs.Ythjmncngegchjaa

/-
  Plain: what RowsOnly and RowsPairs keep of a history.
-/
namespace Go.Proofs.Ythjmncngegchjaa
open Go.RowKit
set_option maxRecDepth 20000

/-- Is it an event of a call that is of no such value? -/
def outP (kv : Int → Bool) (cs : List Cl) (z : Int) : Bool := cs.any fun x => !kv (valQ x) && (x.frm == z || (x.til != -1 && x.til == z))
theorem outP_iff {kv : Int → Bool} {cs : List Cl} {z : Int} : outP kv cs z = true ↔ ∃ x ∈ cs, kv (valQ x) = false ∧ (x.frm = z ∨ (x.til ≠ -1 ∧ x.til = z)) := by
  unfold outP
  rw [List.any_eq_true]
  simp only [Bool.and_eq_true, Bool.not_eq_true', Bool.or_eq_true, beq_iff_eq, bne_iff_ne]
/-- Is it an event of a call that is of such a value? -/
def inP (kv : Int → Bool) (cs : List Cl) (z : Int) : Bool := cs.any fun x => (x.frm == z || x.til == z) && kv (valQ x)
theorem inP_iff {kv : Int → Bool} {cs : List Cl} {z : Int} : inP kv cs z = true ↔ ∃ x ∈ cs, (x.frm = z ∨ x.til = z) ∧ kv (valQ x) = true := by
  unfold inP
  rw [List.any_eq_true]
  simp only [Bool.and_eq_true, Bool.or_eq_true, beq_iff_eq]
section
variable {l : List Ev} {kv : Int → Bool}
theorem at_one (h : rowsE l = 0) {c d : Cl} (hc : c ∈ (callsOf [2] l).1) (hd : d ∈ (callsOf [2] l).1) : (c.frm = d.frm → c = d) ∧ (c.til ≠ -1 → c.til = d.til → c = d) ∧ c.til ≠ d.frm := by
  have hu := calls_unlike (rowsE_calls h).1
  obtain ⟨i, hi⟩ := List.getElem?_of_mem hc
  obtain ⟨j, hj⟩ := List.getElem?_of_mem hd
  have h1 := hu i j c d hi hj
  refine ⟨fun e => ?_, fun e1 e2 => ?_, (rowsE_que h).apart c hc d hd⟩
  · have := h1.1 e
    subst this
    rw [hi] at hj
    injection hj
  · have := h1.2 e1 e2
    subst this
    rw [hi] at hj
    injection hj
theorem sub_out (h : rowsE l = 0) : SubQ l kv (fun z => !outP kv (callsOf [2] l).1 z) := by
  refine ⟨h, fun c hc => ?_, fun c hc ht => ?_⟩
  · cases hk : kv (valQ c)
    · rw [Bool.not_eq_false', outP_iff]
      exact ⟨c, hc, hk, .inl rfl⟩
    · rw [Bool.not_eq_true', Bool.eq_false_iff]
      intro ho
      obtain ⟨x, hx, h1, h2⟩ := outP_iff.1 ho
      have h3 := at_one h hx hc
      rcases h2 with h2 | ⟨_, h2⟩
      · rw [h3.1 h2, hk] at h1; cases h1
      · exact h3.2.2 h2
  · cases hk : kv (valQ c)
    · rw [Bool.not_eq_false', outP_iff]
      exact ⟨c, hc, hk, .inr ⟨ht, rfl⟩⟩
    · rw [Bool.not_eq_true', Bool.eq_false_iff]
      intro ho
      obtain ⟨x, hx, h1, h2⟩ := outP_iff.1 ho
      have h3 := at_one h hx hc
      have h4 := at_one h hc hx
      rcases h2 with h2 | ⟨h5, h2⟩
      · exact h4.2.2 h2.symm
      · rw [h3.2.1 h5 h2, hk] at h1; cases h1
theorem sub_in (h : rowsE l = 0) : SubQ l kv (inP kv (callsOf [2] l).1) := by
  refine ⟨h, fun c hc => ?_, fun c hc ht => ?_⟩
  · cases hk : kv (valQ c)
    · rw [Bool.eq_false_iff]
      intro ho
      obtain ⟨x, hx, h2, h1⟩ := inP_iff.1 ho
      have h3 := at_one h hx hc
      rcases h2 with h2 | h2
      · rw [h3.1 h2, hk] at h1; cases h1
      · exact h3.2.2 h2
    · exact inP_iff.2 ⟨c, hc, .inl rfl, hk⟩
  · cases hk : kv (valQ c)
    · rw [Bool.eq_false_iff]
      intro ho
      obtain ⟨x, hx, h2, h1⟩ := inP_iff.1 ho
      have h4 := at_one h hc hx
      rcases h2 with h2 | h2
      · exact h4.2.2 h2.symm
      · rw [← h4.2.1 ht h2.symm, hk] at h1; cases h1
    · exact inP_iff.2 ⟨c, hc, .inr rfl, hk⟩
/-- Each event stands in one call at most. -/
theorem in_one (h : rowsE l = 0) {c d : Cl} (hc : c ∈ (callsOf [2] l).1) (hd : d ∈ (callsOf [2] l).1) {z : Int} (hz : 0 ≤ z) (h1 : c.frm = z ∨ c.til = z) (h2 : d.frm = z ∨ d.til = z) : c = d := by
  have h3 := at_one h hc hd
  have h4 := at_one h hd hc
  rcases h1 with h1 | h1
  · rcases h2 with h2 | h2
    · exact h3.1 (h1.trans h2.symm)
    · exact absurd (h2.trans h1.symm) h4.2.2
  · rcases h2 with h2 | h2
    · exact absurd (h1.trans h2.symm) h3.2.2
    · exact h3.2.1 (by omega) (h1.trans h2.symm)
end
/-- One more event. -/
theorem subL_take {k : Int → Bool} {l : List Ev} {j : Nat} {x : Ev} (h : l[j]? = some x) : subL k 0 (l.take (j + 1)) = if k j = true then subL k 0 (l.take j) ++ [x] else subL k 0 (l.take j) := by
  have hj := (List.getElem?_eq_some_iff.1 h).1
  rw [List.take_add_one, h, Option.toList_some, subL_append, List.length_take, Nat.min_eq_left (by omega), Nat.zero_add, subL]
  split
  · rfl
  · rw [subL, List.append_nil]
theorem subL_len (k : Int → Bool) : ∀ (l : List Ev) (n : Nat), (subL k n l).length ≤ l.length
  | [], n => by simp [subL]
  | x :: l, n => by
    rw [subL]
    have := subL_len k l (n + 1)
    split <;> simp <;> omega
theorem outP_take {kv : Int → Bool} {cs : List Cl} {k : Nat} {c : Cl} (h : cs[k]? = some c) (z : Int) : outP kv (cs.take (k + 1)) z = (outP kv (cs.take k) z || (!kv (valQ c) && (c.frm == z || (c.til != -1 && c.til == z)))) := by
  unfold outP
  rw [List.take_add_one, h, List.any_append]
  simp
end Go.Proofs.Ythjmncngegchjaa

/-
  slices.Contains over integers, however many.
-/
namespace Go.Proofs.Ythjmncngegchjaa
open Go.RowKit
set_option maxRecDepth 20000

theorem indexN_any {B : Nat} {v : Value} {xs : List Int} {w : World} (h : NRd w B v xs) (hB : B ≤ w.heap.size) (x : Int) :
    Calls Try.prog 33 #[v, .int .i64 x] w fun e w' => ∃ r : Int, e = .returned (.int .i64 r) ∧ ((0 ≤ r ∧ x ∈ xs) ∨ (r = -1 ∧ x ∉ xs)) ∧ Below w.heap.size w w' := by
  obtain ⟨A, cap, rfl, m1, m2⟩ := h.is
  unfold maxLen at m2
  obtain ⟨L, hL⟩ : ∃ L, L = xs.length := ⟨_, rfl⟩
  rw [← hL] at h m1 ⊢
  have HC := Lib.hid (And.intro h (And.intro hL hB))
  have m3 : (L : Int) ≤ 9223372036854775807 := by omega
  clear h hL m1 m2 hB
  go_enter Try.func33, Try.ntmps33
  go_wp2_with fail
  go_loopw [8] (fun i wr => ∃ k : Nat, k ≤ L ∧ i = .int .i64 k ∧ (∀ (j : Nat) (y : Int), j < k → xs[j]? = some y → y ≠ x) ∧ Below w.heap.size w wr) (fun i _ => L - (intOf i).toNat)
  case atStart => exact ⟨0, by omega, rfl, fun j y hj => by omega, Below.refl _ _⟩
  case round =>
    obtain ⟨k, hk, rfl, ha, hb⟩ := hrel
    by_cases hkn : k < L
    · obtain ⟨y, hy⟩ : ∃ y, xs[k]? = some y := ⟨_, List.getElem?_eq_getElem (by rw [← HC.out.2.1]; exact hkn)⟩
      obtain ⟨g, o, hA, hg, d1⟩ := (HC.out.1.below (hb.mono HC.out.2.2)).num hy
      subst hA
      have i1 : (0 : Int) ≤ (k : Int) := by omega
      have i2 : (k : Int) < (L : Int) := by omega
      have HA := Lib.hid (And.intro ha (And.intro hb hy))
      clear ha hb hy
      by_cases hxy : x = y
      · have hz : (x == y) = true := by rw [beq_iff_eq]; exact hxy
        have HX := Lib.hid hxy
        clear hxy
        go_wp2_with fail
        go_ret
        exact ⟨k, rfl, .inl ⟨i1, by rw [HX.out]; exact List.mem_of_getElem? HA.out.2.2⟩, HA.out.2.1⟩
      · have hz : (x == y) = false := by rw [beq_eq_false_iff_ne]; exact hxy
        have HX := Lib.hid hxy
        clear hxy
        go_wp2_with fail
        go_roundw
        case rel => exact ⟨k + 1, by omega, by go_num, fun j u hj hu => by
          rcases Nat.lt_or_ge j k with h | h
          · exact HA.out.1 j u h hu
          · obtain rfl : j = k := by omega
            rw [HA.out.2.2] at hu
            injection hu with hu
            rw [← hu]
            exact fun e => HX.out e.symm, HA.out.2.1⟩
        case measure => simp [intOf]; omega
    · obtain rfl : L = k := by omega
      have HA := Lib.hid (And.intro ha hb)
      clear ha hb
      go_wp2_with fail
      go_ret
      refine ⟨-1, rfl, .inr ⟨rfl, fun hm => ?_⟩, HA.out.2⟩
      obtain ⟨j, hj, e⟩ := List.getElem_of_mem hm
      exact HA.out.1 j _ (by rw [HC.out.2.1]; exact hj) (List.getElem?_eq_getElem hj) e
theorem containsN_any {B : Nat} {v : Value} {xs : List Int} {w : World} (h : NRd w B v xs) (hB : B ≤ w.heap.size) (x : Int) :
    Calls Try.prog 16 #[v, .int .i64 x] w fun e w' => e = .returned (.bool (decide (x ∈ xs))) ∧ Below w.heap.size w w' := by
  have hi := Lib.hid (indexN_any h hB x)
  obtain ⟨A, cap, rfl, -, -⟩ := h.is
  clear h hB
  obtain ⟨P, hP⟩ : ∃ P, P = decide (x ∈ xs) := ⟨_, rfl⟩
  rw [← hP]
  have HP := Lib.hid hP
  clear hP
  generalize xs.length = L at hi ⊢
  go_enter Try.func16, Try.ntmps16
  go_wp2_with fail
  refine hi.out.mono ?_
  rintro e w1 ⟨r, rfl, hr, hb⟩
  have HB := Lib.hid hb
  clear hi hb
  rcases hr with ⟨h0, hm⟩ | ⟨rfl, hm⟩
  · have hP2 : P = true := by rw [HP.out]; exact decide_eq_true hm
    subst hP2
    clear hm HP
    go_wp2_with fail
    go_ret
    exact ⟨rfl, HB.out⟩
  · have hP2 : P = false := by rw [HP.out]; exact decide_eq_false hm
    subst hP2
    clear hm HP
    go_wp2_with fail
    go_ret
    exact ⟨rfl, HB.out⟩
end Go.Proofs.Ythjmncngegchjaa
