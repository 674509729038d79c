/-
  Joined by a program out of: ZOpenP, Lies, LRd, AppRow, LGrpPure.
-/
import Derived.Test.YtphhbojdolhieaaGreatDoorMgAB
import Derived.Test.YtphhbojdolhieaaGreatDoorProg
import Derived.WalkKit
import Derived.Deep.QuietTactic
import Derived.BigQuiet
import Derived.Lib.Hide
import Derived.Deep.Draws
import Derived.Laws.OwnMore
import Derived.Test.YtphhbojdolhieaaGreatDoorMgAA
import Derived.Deep.AppendLies
import Derived.Maps.GroupsBeside

/-
  Plain: what package zones makes of a history, call after call.
-/
namespace Go.Proofs.YtphhbojdolhieaaGreatDoor
open Go.RowKit
set_option maxRecDepth 20000
/-- The error of package zones. -/
def zonesE (l : List Ev) : Int := if (callsOf [1] l).2.2 ≠ 0 then (callsOf [1] l).2.2 else if onceZ (callsOf [1] l).1 = true then 0 else 6
theorem zonesE_calls {l : List Ev} (h : zonesE l = 0) : (callsOf [1] l).2.2 = 0 ∧ onceZ (callsOf [1] l).1 = true := by
  unfold zonesE at h
  split at h
  · rename_i h1; exact absurd h h1
  · rename_i h1
    split at h
    · rename_i h2; exact ⟨Classical.byContradiction h1, h2⟩
    · cases h
theorem zonesE_reg {l : List Ev} (h : zonesE l = 0) : RegH l.length (callsOf [1] l).1 := by
  obtain ⟨h1, h2⟩ := zonesE_calls h
  obtain ⟨h3, h4⟩ := calls_orderly h1
  exact ⟨h3, h4, calls_callOk h1, once_iff.1 h2⟩
/-- What the map holds of the first k calls. -/
def wUp (cs : List Cl) (k : Nat) : Int → Option Zop := wOf (cs.take k)
section
variable {cs : List Cl} {k : Nat} {c : Cl}
theorem wAt_lt {v : Int} : ∀ (cs : List Cl) (k i : Nat), wAt v k cs = some i → i < k + cs.length
  | [], k, i, h => by cases h
  | c :: r, k, i, h => by
    rw [wAt] at h
    split at h
    · injection h with h; simp; omega
    · have := wAt_lt r (k + 1) i h
      simp; omega
theorem wUp_eq (cs : List Cl) (k : Nat) (v : Int) : wUp cs k v = if v = 0 then some ⟨-1, 0, -1, -1⟩ else (wAt v 0 (cs.take k)).map fun i => wrZ i (cs.getD i default) := by
  unfold wUp wOf
  split
  · rfl
  · cases e : wAt v 0 (cs.take k) with
    | none => rfl
    | some i =>
      have hi := wAt_lt (cs.take k) 0 i e
      rw [List.length_take] at hi
      show some (wrZ i ((cs.take k).getD i default)) = some (wrZ i (cs.getD i default))
      rw [List.getD_eq_getElem?_getD, List.getD_eq_getElem?_getD, List.getElem?_take, if_pos (by omega)]
theorem wUp_all (cs : List Cl) (v : Int) : wUp cs cs.length v = wOf cs v := by unfold wUp; rw [List.take_length]
theorem wUp_zero (v : Int) : wUp cs 0 v = if v = 0 then some ⟨-1, 0, -1, -1⟩ else none := by
  rw [wUp_eq]
  split
  · rfl
  · rw [List.take_zero]; rfl
theorem take_snoc (h : cs[k]? = some c) : cs.take (k + 1) = cs.take k ++ [c] := by
  rw [List.take_add_one, h]
  rfl
theorem wAt_snoc {v : Int} (h : cs[k]? = some c) : wAt v 0 (cs.take (k + 1)) = match wAt v 0 (cs.take k) with
    | some i => some i
    | none => if isW v c = true then some k else none := by
  have hk := (List.getElem?_eq_some_iff.1 h).1
  rw [take_snoc h, wAt_append]
  cases wAt v 0 (cs.take k) with
  | some i => rfl
  | none =>
    simp only
    rw [wAt, List.length_take, Nat.min_eq_left (by omega), Nat.zero_add]
    rfl
/-- A call that writes nothing. -/
theorem wUp_other (h : cs[k]? = some c) (hk : c.kind ≠ 1) (v : Int) : wUp cs (k + 1) v = wUp cs k v := by
  rw [wUp_eq, wUp_eq, wAt_snoc h]
  have : isW v c = false := by rw [Bool.eq_false_iff]; intro hw; exact hk (isW_iff.1 hw).1
  rw [this]
  cases wAt v 0 (cs.take k) <;> rfl
/-- A write of what nobody wrote before. -/
theorem wUp_put (h : cs[k]? = some c) (hk : c.kind = 1) (hn : wUp cs k c.arg = none) : (fun v => if v = c.arg then some (wrZ k c) else wUp cs k v) = wUp cs (k + 1) := by
  funext v
  have h0 : c.arg ≠ 0 := by
    intro e
    rw [wUp_eq, if_pos e] at hn
    cases hn
  rw [wUp_eq, if_neg h0, Option.map_eq_none_iff] at hn
  rw [wUp_eq, wUp_eq, wAt_snoc h]
  by_cases hv : v = c.arg
  · subst hv
    rw [if_pos rfl, if_neg h0, hn]
    have : isW c.arg c = true := isW_iff.2 ⟨hk, rfl⟩
    rw [this]
    simp only [if_true, Option.map_some]
    rw [List.getD_eq_getElem?_getD, h]
    rfl
  · rw [if_neg hv]
    have : isW v c = false := by rw [Bool.eq_false_iff]; intro hw; exact hv (isW_iff.1 hw).2.symm
    rw [this]
    cases wAt v 0 (cs.take k) <;> rfl
theorem wUp_some (h : (wUp cs k c.arg).isSome = true) (h0 : c.arg ≠ 0) : ∃ i d, i < k ∧ cs[i]? = some d ∧ isW c.arg d = true := by
  rw [wUp_eq, if_neg h0, Option.isSome_map] at h
  obtain ⟨i, hi⟩ := Option.isSome_iff_exists.1 h
  obtain ⟨_, d, h1, h2⟩ := wAt_some _ 0 i hi
  rw [Nat.sub_zero, List.getElem?_take] at h1
  split at h1
  · rename_i hik; exact ⟨i, d, hik, h1, h2⟩
  · cases h1
/-- A value that was written before: not once. -/
theorem once_not (h : cs[k]? = some c) (hk : c.kind = 1) (h0 : c.arg ≠ 0) (hs : (wUp cs k c.arg).isSome = true) : onceZ cs = false := by
  obtain ⟨i, d, h1, h2, h3⟩ := wUp_some hs h0
  rw [Bool.eq_false_iff]
  intro ho
  have := once_iff.1 ho i k d c h2 h (isW_iff.1 h3).1 hk (isW_iff.1 h3).2
  omega
/-- Where none was: once. -/
theorem once_mk (h : ∀ (k : Nat) (c : Cl), cs[k]? = some c → c.kind = 1 → (wUp cs k c.arg).isSome = false) : onceZ cs = true := by
  rw [once_iff]
  have key : ∀ (i j : Nat) (c d : Cl), i < j → cs[i]? = some c → cs[j]? = some d → c.kind = 1 → d.kind = 1 → c.arg ≠ d.arg := by
    intro i j c d hij hc hd k1 k2 he
    have h1 := h j d hd k2
    rw [wUp_eq] at h1
    split at h1
    · cases h1
    · rw [Option.isSome_map, Option.isSome_eq_false_iff, Option.isNone_iff_eq_none, wAt_none] at h1
      have h2 : c ∈ cs.take j := List.mem_of_getElem? (i := i) (by rw [List.getElem?_take, if_pos hij]; exact hc)
      have h3 := h1 c h2
      rw [isW_iff.2 ⟨k1, he⟩] at h3
      cases h3
  intro i j c d hc hd k1 k2 he
  rcases Nat.lt_trichotomy i j with hij | hij | hij
  · exact absurd he (key i j c d hij hc hd k1 k2)
  · exact hij
  · exact absurd he.symm (key j i d c hij hd hc k2 k1)
/-- The reads of one more call. -/
theorem rds_snoc (h : cs[k]? = some c) : rds 0 (cs.take (k + 1)) = if isR c = true then rds 0 (cs.take k) ++ [rdZ k c] else rds 0 (cs.take k) := by
  have hk := (List.getElem?_eq_some_iff.1 h).1
  rw [take_snoc h, rds_append, rds, List.length_take, Nat.min_eq_left (by omega), Nat.zero_add]
  split
  · rfl
  · rw [show rds (k + 1) [] = [] from rfl, List.append_nil]
theorem rds_len : ∀ (cs : List Cl) (k : Nat), (rds k cs).length ≤ cs.length
  | [], _ => by simp [rds]
  | c :: r, k => by
    rw [rds]
    have := rds_len r (k + 1)
    split <;> simp <;> omega
end
/-- How many there are of a history: no more than events. -/
theorem calls_len {l : List Ev} (h : (callsOf [1] l).2.2 = 0) : (callsOf [1] l).1.length ≤ 200 := by
  obtain ⟨_, h2, e⟩ := calls_zero h
  rw [e]
  have key : ∀ (r : List Ev) (n : Nat) (cs : List Cl), (run [1] n cs r).1.length ≤ cs.length + r.length := by
    intro r
    induction r with
    | nil => intro n cs; simp [run]
    | cons x r ih =>
      intro n cs
      rw [run]
      cases hs : step [1] n cs x with
      | inl e => simp
      | inr cs' =>
        have h1 := ih (n + 1) cs'
        have h2 : cs'.length ≤ cs.length + 1 := by
          unfold step respS invS at hs
          repeat' split at hs
          all_goals (try cases hs)
          all_goals simp
        simp only [List.length_cons] at h1 ⊢
        omega
  have := key l 0 []
  simp at this
  omega
/-- A call of a register writes or reads. -/
theorem callOk_kind {c : Cl} (hk : CallOk [1] c) : (c.kind = 1 ∧ 1 ≤ c.arg ∧ c.arg ≤ 1000) ∨ (c.kind = 2 ∧ c.arg = 0) := by
  have hf := hk.fits
  have ht := hk.takes
  have h0 : c.thing.toNat = 0 := by have := hk.thing; simp at this; omega
  rw [h0] at hf
  unfold fitsB at hf
  rw [decide_eq_true_iff] at hf
  have h1 : (1 : Int) = kindType c.kind := hf.2
  unfold kindType at h1
  have h2 : c.kind = 1 ∨ c.kind = 2 := by
    apply Classical.byContradiction
    intro hn
    rw [if_neg hn] at h1
    repeat' split at h1
    all_goals omega
  rcases h2 with h2 | h2
  · left
    rw [h2] at ht
    unfold takesB at ht
    rw [if_pos (by simp), btw_iff] at ht
    exact ⟨h2, ht⟩
  · right
    rw [h2] at ht
    unfold takesB at ht
    rw [if_neg (by simp), beq_iff_eq] at ht
    exact ⟨h2, ht⟩
end Go.Proofs.YtphhbojdolhieaaGreatDoor

/-
  Words for memory: a block that is known whole.
-/
namespace Go.Proofs.YtphhbojdolhieaaGreatDoor
open Go.RowKit
set_option maxRecDepth 20000
/-- Block g of w: the cells cs, of type t, none of them frozen. -/
def Lies (w : World) (g : Nat) (t : TypeId) (cs : Array Value) : Prop := w.heap[g]? = some (.cells cs t (0, 0))
section
variable {w w' : World} {g : Nat} {t : TypeId} {cs : Array Value}
/-- It still lies there, wherever the heap has the same block. -/
theorem Lies.keep (h : Lies w g t cs) (e : w'.heap[g]? = w.heap[g]?) : Lies w' g t cs := by
  show w'.heap[g]? = _
  rw [e]
  exact h
theorem Lies.lt (h : Lies w g t cs) : g < w.heap.size := (Array.getElem?_eq_some_iff.1 h).1
theorem Lies.below {B : Nat} (h : Lies w g t cs) (hb : Below B w w') (hg : g < B) : Lies w' g t cs := h.keep (hb.block g hg)
theorem Lies.alloc (h : Lies w g t cs) (o : Obj) : Lies (w.alloc o) g t cs := h.below ((Below.refl _ _).alloc (Nat.le_refl _) o) h.lt
theorem Lies.far (h : Lies w g t cs) {p : Addr} (hp : g ≠ p.block) (u : Value) : Lies (w.setCell p u) g t cs := h.keep (Below.heap_setCell w p u g hp)
theorem Lies.drew (h : Lies w g t cs) : Lies w.drew g t cs := h.keep rfl
theorem Lies.new (w : World) (t : TypeId) (cs : Array Value) : Lies (w.alloc (.cells cs t)) w.heap.size t cs := by
  show (w.heap.push _)[w.heap.size]? = _
  simp
theorem Lies.cell (h : Lies w g t cs) (i : Nat) : w.cell? ⟨g, i, none⟩ = cs[i]? := cell_of_row w g i cs t (0, 0) h
theorem Lies.frozen (h : Lies w g t cs) (i : Nat) : w.frozen? ⟨g, i, none⟩ = false := by
  have h' : w.heap[g]? = some (.cells cs t (0, 0)) := h
  simp [World.frozen?, h']
theorem Lies.set_ (h : Lies w g t cs) (i : Nat) (u : Value) : Lies (w.setCell ⟨g, i, none⟩ u) g t (cs.setIfInBounds i u) := by
  have h' : w.heap[g]? = some (.cells cs t (0, 0)) := h
  simp [Lies, World.setCell, Array.getElem?_modify, h']
theorem Lies.cast {cs' : Array Value} (h : Lies w g t cs) (e : cs = cs') : Lies w g t cs' := by rw [← e]; exact h
end
theorem belowN {B : Nat} {a w : World} (h : Below B a w) (n : Nat) : Below B a (w.drewN n) := ⟨h.os, h.tape, h.output, h.size, h.block⟩
theorem Lies.drewN {w : World} {g : Nat} {t : TypeId} {cs : Array Value} (h : Lies w g t cs) (n : Nat) : Lies (w.drewN n) g t cs := h
/-- The cells of a block that was just made. -/
theorem new_cells (W : World) (t : TypeId) (l : List Value) : ∀ j u, l[j]? = some u → (W.alloc (.cells l.toArray t)).cell? ⟨W.heap.size, j, none⟩ = some u := by
  intro j u hu
  rw [Lies.cell (Lies.new W t l.toArray)]
  simpa using hu
theorem quiet_left {P : Program} {f : FuncId} {args : Array Value} {w : World} {n : Nat} {v : Value}
    (h : Calls P f args (w.drewN n) fun e w' => e = .returned v ∧ w.drewN n = w') : Calls P f args (w.drewN n) fun e w'' => e = .returned v ∧ ∃ m, w'' = w.drewN m :=
  h.mono fun _ _ ⟨he, hm⟩ => ⟨he, n, hm.symm⟩
theorem ret_bool {a b : Bool} (h : a = b) : Ending.returned (.bool a) = .returned (.bool b) := by rw [h]
end Go.Proofs.YtphhbojdolhieaaGreatDoor

/-
  Slices that read as a list of things of s cells each: events, calls, numbers.
-/
namespace Go.Proofs.YtphhbojdolhieaaGreatDoor
open Go.RowKit
set_option maxRecDepth 20000
abbrev intCs (x : Int) : List Value := [.int .i64 x]
abbrev evCs (x : Ev) : List Value := [.int .i64 x.who, .int .i64 x.thing, .int .i64 x.kind, .int .i64 x.val]
abbrev clCs (c : Cl) : List Value := [.int .i64 c.who, .int .i64 c.thing, .int .i64 c.kind, .int .i64 c.arg, .int .i64 c.res, .int .i64 c.frm, .int .i64 c.til]
abbrev evV (x : Ev) : Value := .agg #[.int .i64 x.who, .int .i64 x.thing, .int .i64 x.kind, .int .i64 x.val]
abbrev clV (c : Cl) : Value := .agg #[.int .i64 c.who, .int .i64 c.thing, .int .i64 c.kind, .int .i64 c.arg, .int .i64 c.res, .int .i64 c.frm, .int .i64 c.til]
/-- The value v is a slice that reads as the list l, each of s cells, in a block below B. -/
def LRd {α : Type} (s : Nat) (f : α → List Value) (w : World) (B : Nat) (v : Value) (l : List α) : Prop :=
  ∃ A cap, v = .slice A l.length cap ∧ l.length ≤ cap ∧ cap ≤ maxLen ∧ (0 < l.length → ∃ g o, A = some ⟨g, o, none⟩ ∧ g < B ∧ ∀ k x, l[k]? = some x → ∀ j u, (f x)[j]? = some u → w.cell? ⟨g, o + k * s + j, none⟩ = some u)
section
variable {α : Type} {s : Nat} {f : α → List Value} {w w' : World} {B B' : Nat} {v : Value} {l : List α}
theorem LRd.below (h : LRd s f w B v l) (hb : Below B w w') : LRd s f w' B v l := by
  obtain ⟨A, cap, hv, h0, h1, h2⟩ := h
  refine ⟨A, cap, hv, h0, h1, fun h0 => ?_⟩
  obtain ⟨g, o, hA, hg, hc⟩ := h2 h0
  exact ⟨g, o, hA, hg, fun k x hk j u hu => (hb.cell (p := ⟨g, o + k * s + j, none⟩) hg).trans (hc k x hk j u hu)⟩
theorem LRd.mono (h : LRd s f w B v l) (hB : B ≤ B') : LRd s f w B' v l := by
  obtain ⟨A, cap, hv, h0, h1, h2⟩ := h
  refine ⟨A, cap, hv, h0, h1, fun h0 => ?_⟩
  obtain ⟨g, o, hA, hg, hc⟩ := h2 h0
  exact ⟨g, o, hA, by omega, hc⟩
theorem LRd.is (h : LRd s f w B v l) : ∃ A cap, v = .slice A l.length cap ∧ l.length ≤ cap ∧ cap ≤ maxLen := by
  obtain ⟨A, cap, hv, h0, h1, h2⟩ := h
  exact ⟨A, cap, hv, h0, h1⟩
theorem LRd.at_ {A : Option Addr} {n cap : Nat} (h : LRd s f w B (.slice A n cap) l) {k : Nat} {x : α} (hk : l[k]? = some x) :
    ∃ g o, A = some ⟨g, o, none⟩ ∧ g < B ∧ ∀ j u, (f x)[j]? = some u → w.cell? ⟨g, o + k * s + j, none⟩ = some u := by
  obtain ⟨A', cap', hv, h0, h1, h2⟩ := h
  injection hv with hv1 hv2 hv3
  subst hv1
  obtain ⟨g, o, hA, hg, hc⟩ := h2 (by have := (List.getElem?_eq_some_iff.1 hk).1; omega)
  exact ⟨g, o, hA, hg, hc k x hk⟩
theorem LRd.nil (w : World) (B : Nat) : LRd s f w B (.slice none 0 0) ([] : List α) := ⟨none, 0, rfl, Nat.le_refl _, Nat.zero_le _, fun h => by simp at h⟩
theorem LRd.take_ {A : Option Addr} {m cap : Nat} (h : LRd s f w B (.slice A m cap) l) {n : Nat} (hn : n ≤ l.length) : LRd s f w B (.slice A n cap) (l.take n) := by
  obtain ⟨A', cap', hv, h0, h1, h2⟩ := h
  injection hv with hv1 hv2 hv3
  subst hv1
  subst hv3
  have e : (l.take n).length = n := by rw [List.length_take]; omega
  refine ⟨A, cap, by rw [e], by omega, h1, fun hp => ?_⟩
  obtain ⟨g, o, hA, hg, hc⟩ := h2 (by omega)
  refine ⟨g, o, hA, hg, fun k x hk => hc k x ?_⟩
  rw [List.getElem?_take] at hk
  split at hk
  · exact hk
  · cases hk
theorem flat_at (hf : ∀ x, (f x).length = s) : ∀ {l : List α} {k : Nat} {x : α}, l[k]? = some x → ∀ {j : Nat} {u : Value}, (f x)[j]? = some u → (l.flatMap f)[k * s + j]? = some u
  | [], k, x, h, _, _, _ => by simp at h
  | y :: r, 0, x, h, j, u, hu => by
    simp at h
    subst h
    rw [List.flatMap_cons, List.getElem?_append, if_pos (by have := (List.getElem?_eq_some_iff.1 hu).1; omega), Nat.zero_mul, Nat.zero_add]
    exact hu
  | y :: r, k + 1, x, h, j, u, hu => by
    have h' : r[k]? = some x := by simpa using h
    have hj := (List.getElem?_eq_some_iff.1 hu).1
    have e : (k + 1) * s + j - (f y).length = k * s + j := by rw [hf y, Nat.add_mul]; omega
    rw [List.flatMap_cons, List.getElem?_append, if_neg (by rw [hf y, Nat.add_mul]; omega), e]
    exact flat_at (l := r) hf h' hu
theorem flat_len (hf : ∀ x, (f x).length = s) : ∀ l : List α, (l.flatMap f).length = l.length * s
  | [] => by simp
  | y :: r => by rw [List.flatMap_cons, List.length_append, flat_len hf r, hf y, List.length_cons, Nat.add_mul]; omega
/-- What is left behind the first k of it. -/
theorem LRd.drop_ {g o n cap : Nat} (h : LRd s f w B (.slice (some ⟨g, o, none⟩) n cap) l) {k : Nat} (hk : k ≤ n) : LRd s f w B (.slice (some ⟨g, o + k * s, none⟩) (n - k) (cap - k)) (l.drop k) := by
  obtain ⟨A', cap', hv, h0, h1, h2⟩ := h
  injection hv with hv1 hv2 hv3
  subst hv2
  subst hv3
  have e : (l.drop k).length = l.length - k := List.length_drop
  refine ⟨_, _, by rw [e], by omega, by unfold maxLen at *; omega, fun hp => ?_⟩
  obtain ⟨g', o', hA, hg, hc⟩ := h2 (by omega)
  rw [← hv1] at hA
  injection hA with hA
  injection hA with hA1 hA2
  subst hA1
  subst hA2
  refine ⟨g, _, rfl, hg, fun i x hi j u hu => ?_⟩
  rw [List.getElem?_drop] at hi
  have := hc _ _ hi j u hu
  rw [Nat.add_mul, ← Nat.add_assoc] at this
  exact this
/-- A row of the call's own reads as its list. -/
theorem LRd.of_own {base : Nat} {t : TypeId} (hf : ∀ x, (f x).length = s) (h : w.ownsRow base t s v l.length (l.flatMap f)) : LRd s f w w.heap.size v l := by
  rcases h.2 with ⟨rfl, h0⟩ | ⟨g, cap, cur, rfl, h1, h2, h3, h4, h5, h6⟩
  · exact ⟨none, 0, by rw [h0], by omega, Nat.zero_le _, fun h => by omega⟩
  · refine ⟨_, cap, rfl, h3, h4, fun _ => ⟨g, 0, rfl, ?_, fun k x hk j u hu => ?_⟩⟩
    · exact (Array.getElem?_eq_some_iff.1 h2).1
    · have hkl := (List.getElem?_eq_some_iff.1 hk).1
      have hjl : j < s := by have := (List.getElem?_eq_some_iff.1 hu).1; rw [hf x] at this; exact this
      have hlt : k * s + j < l.length * s := by
        have : (k + 1) * s ≤ l.length * s := Nat.mul_le_mul_right s hkl
        rw [Nat.add_mul] at this
        omega
      rw [Nat.zero_add, World.ownsRow.cellAt h (k * s + j) hlt]
      exact flat_at (l := l) hf hk hu
/-- A block of exactly these cells reads as the list. -/
theorem LRd.of_lit (hf : ∀ x, (f x).length = s) (t : TypeId) {cs : Array Value} (hcs : cs.toList = l.flatMap f) {n : Nat} (hn : n = l.length) (hm : n ≤ maxLen) :
    LRd s f (w.alloc (.cells cs t)) (w.heap.size + 1) (.slice (some ⟨w.heap.size, 0, none⟩) n n) l := by
  subst hn
  refine ⟨_, _, rfl, Nat.le_refl _, hm, fun _ => ⟨_, 0, rfl, by omega, fun k x hk j u hu => ?_⟩⟩
  rw [Nat.zero_add, cell_of_row _ _ _ cs t (0, 0) (heap_alloc_new w _)]
  have h1 := flat_at (l := l) hf hk hu
  rw [← hcs] at h1
  simpa using h1
end
abbrev ERd (w : World) (B : Nat) (v : Value) (l : List Ev) : Prop := LRd 4 evCs w B v l
abbrev CRd (w : World) (B : Nat) (v : Value) (l : List Cl) : Prop := LRd 7 clCs w B v l
abbrev NRd (w : World) (B : Nat) (v : Value) (l : List Int) : Prop := LRd 1 intCs w B v l
/-- A slice of the call's own (in blocks from B on) that holds these calls; these events. -/
def COwn (w : World) (B : Nat) (v : Value) (l : List Cl) : Prop := w.ownsRow B 65 7 v l.length (l.flatMap clCs)
def EOwn (w : World) (B : Nat) (v : Value) (l : List Ev) : Prop := w.ownsRow B 94 4 v l.length (l.flatMap evCs)
theorem COwn.rd {w : World} {B : Nat} {v : Value} {l : List Cl} (h : COwn w B v l) : CRd w w.heap.size v l := LRd.of_own (fun _ => rfl) h
theorem EOwn.rd {w : World} {B : Nat} {v : Value} {l : List Ev} (h : EOwn w B v l) : ERd w w.heap.size v l := LRd.of_own (fun _ => rfl) h
section
variable {w : World} {B : Nat} {A : Option Addr} {n cap k : Nat}
theorem LRd.ev {l : List Ev} (h : ERd w B (.slice A n cap) l) {x : Ev} (hk : l[k]? = some x) : ∃ g o, A = some ⟨g, o, none⟩ ∧ g < B ∧ w.cell? ⟨g, o + k * 4, none⟩ = some (.int .i64 x.who) ∧ w.cell? ⟨g, o + k * 4 + 1, none⟩ = some (.int .i64 x.thing) ∧ w.cell? ⟨g, o + k * 4 + 2, none⟩ = some (.int .i64 x.kind) ∧ w.cell? ⟨g, o + k * 4 + 3, none⟩ = some (.int .i64 x.val) := by
  obtain ⟨g, o, hA, hg, hc⟩ := LRd.at_ h hk
  exact ⟨g, o, hA, hg, hc 0 _ rfl, hc 1 _ rfl, hc 2 _ rfl, hc 3 _ rfl⟩
theorem LRd.cl {l : List Cl} (h : CRd w B (.slice A n cap) l) {x : Cl} (hk : l[k]? = some x) : ∃ g o, A = some ⟨g, o, none⟩ ∧ g < B ∧ w.cell? ⟨g, o + k * 7, none⟩ = some (.int .i64 x.who) ∧ w.cell? ⟨g, o + k * 7 + 1, none⟩ = some (.int .i64 x.thing) ∧ w.cell? ⟨g, o + k * 7 + 2, none⟩ = some (.int .i64 x.kind) ∧ w.cell? ⟨g, o + k * 7 + 3, none⟩ = some (.int .i64 x.arg) ∧ w.cell? ⟨g, o + k * 7 + 4, none⟩ = some (.int .i64 x.res) ∧ w.cell? ⟨g, o + k * 7 + 5, none⟩ = some (.int .i64 x.frm) ∧ w.cell? ⟨g, o + k * 7 + 6, none⟩ = some (.int .i64 x.til) := by
  obtain ⟨g, o, hA, hg, hc⟩ := LRd.at_ h hk
  exact ⟨g, o, hA, hg, hc 0 _ rfl, hc 1 _ rfl, hc 2 _ rfl, hc 3 _ rfl, hc 4 _ rfl, hc 5 _ rfl, hc 6 _ rfl⟩
theorem LRd.num {l : List Int} (h : NRd w B (.slice A n cap) l) {x : Int} (hk : l[k]? = some x) : ∃ g o, A = some ⟨g, o, none⟩ ∧ g < B ∧ w.cell? ⟨g, o + k, none⟩ = some (.int .i64 x) := by
  obtain ⟨g, o, hA, hg, hc⟩ := LRd.at_ h hk
  have := hc 0 _ rfl
  rw [Nat.mul_one] at this
  exact ⟨g, o, hA, hg, this⟩
end
end Go.Proofs.YtphhbojdolhieaaGreatDoor

/-
  append(s, x): s the call's own row of things of several cells, x one more, in a new block: the run, at Oper.wp, at a list, at a step of a region that draws.
-/
namespace Go.Proofs.YtphhbojdolhieaaGreatDoor
open Go.RowKit
set_option maxRecDepth 20000
theorem info_cl : (Tryz.prog.info? 65).map (fun i => (i.zero, i.size, i.bytes)) = some (some (clV default), 7, 56) := by kernel_rfl
theorem info_of {P : Program} {t : TypeId} {z : Option Value} {s b : Nat} (h : (P.info? t).map (fun i => (i.zero, i.size, i.bytes)) = some (z, s, b)) : ∃ i, P.info? t = some i ∧ i.zero = z ∧ i.size = s ∧ i.bytes = b := by
  cases hi : P.info? t with
  | none => rw [hi] at h; cases h
  | some i =>
    rw [hi] at h
    simp only [Option.map_some, Option.some.injEq, Prod.mk.injEq] at h
    exact ⟨i, rfl, h.1, h.2.1, h.2.2⟩
theorem run_app_cl {W : World} {base G : Nat} {v : Value} {l : List Cl} {y : Cl} (ty : TypeId) (hown : COwn W base v l) (hG : ∀ j u, (clCs y)[j]? = some u → W.cell? ⟨G, j, none⟩ = some u) (hlen : l.length ≤ 65536) (hbase : base ≤ W.heap.size) :
    ∃ v' w', (Builtin.append_ #[59, 59] ty #[v, .slice (some ⟨G, 0, none⟩) 1 1]).run Tryz.prog W = .ok v' w' ∧ COwn w' base v' (l ++ [y]) ∧ Below base W w' ∧ W.grownBy w' v.ownBlock := by
  obtain ⟨i0, hi, hz0, hz1, hz2⟩ := info_of info_cl
  have hl := World.ownsRow.lt hown
  obtain ⟨v', w', hr, h2, h3, _⟩ := run_append_own (P := Tryz.prog) W base 59 ty 65 i0 (clV default) 7 56 Tryz.underlying59 hi hz0 hz1 hz2 rfl (by decide) v l.length (l.flatMap clCs) hown
    ⟨G, 0, none⟩ 1 1 (clCs y) rfl (fun j u hu => by
      rw [Addr.add_lit, Nat.zero_add]
      exact hG j u hu) (fun u hu => by
      simp only [List.mem_cons, List.not_mem_nil, or_false] at hu
      rcases hu with rfl | rfl | rfl | rfl | rfl | rfl | rfl <;> rfl) (by unfold maxLen; omega) (by omega) hbase
  refine ⟨v', w', hr, ?_, (Below.refl base W).grown h3 hbase (fun k hk => (hl k hk).1), h3⟩
  unfold COwn
  rw [List.length_append, List.flatMap_append]
  simpa using h2
theorem own_slice {w : World} {B : Nat} {v : Value} {l : List Cl} (h : COwn w B v l) : ∃ A c, v = .slice A l.length c := by
  obtain ⟨A, c, h, _⟩ := h.rd.is
  exact ⟨A, c, h⟩
theorem wp_app_cl {W : World} {o : Oper} {a : Act} {K : Act → World → Prop} {Q : Exit → Act → World → Prop} (s x : Operand)
    (ho : o.op = .call { callee := .builtin .append, args := #[s, x], argTypes := #[59, 59] })
    (base G : Nat) (v : Value) (l : List Cl) (y : Cl) (hs : a.eval s = v) (hx : a.eval x = .slice (some ⟨G, 0, none⟩) 1 1) (hown : COwn W base v l) (hG : ∀ j u, (clCs y)[j]? = some u → W.cell? ⟨G, j, none⟩ = some u) (hlen : l.length ≤ 65536) (hbase : base ≤ W.heap.size)
    (h : ∀ v' w', COwn w' base v' (l ++ [y]) → Below base W w' → W.grownBy w' v.ownBlock → K (a.put o.dst v') w') : Oper.wp Tryz.prog o a W K Q := by
  obtain ⟨v', w', hrun, r1, r2, r3⟩ := run_app_cl o.type hown hG hlen hbase
  unfold Oper.wp
  simp [execOp, ho, resolve, invoke, builtin, hs, hx, hrun, Result.andThen]
  exact h v' w' r1 r2 r3
theorem step_app_cl {W : World} {ops : Array Oper} {o : Oper} {a : Act} {K : Act → World → Prop} {Q : Exit → Act → World → Prop} {E : Prop} (hgd : o.guard = none) (s x : Operand)
    (ho : o.op = .call { callee := .builtin .append, args := #[s, x], argTypes := #[59, 59] })
    (base G : Nat) (v : Value) (l : List Cl) (y : Cl) (hs : a.eval s = v) (hx : a.eval x = .slice (some ⟨G, 0, none⟩) 1 1) (hown : COwn W base v l) (hG : ∀ j u, (clCs y)[j]? = some u → W.cell? ⟨G, j, none⟩ = some u) (hlen : l.length ≤ 65536) (hbase : base ≤ W.heap.size)
    (h : ∀ v' w', COwn w' base v' (l ++ [y]) → Below base W w' → W.grownBy w' v.ownBlock → K (a.put o.dst v') w') :
    if Region.wanted o (yielded ops a.tmps) = true then Oper.wp Tryz.prog o a W K Q else E := by
  have hw : Region.wanted o (yielded ops a.tmps) = true := by simp [Region.wanted, hgd]
  rw [if_pos hw]
  exact wp_app_cl s x ho base G v l y hs hx hown hG hlen hbase h
end Go.Proofs.YtphhbojdolhieaaGreatDoor

/-
  Plain: the numbers of each thing's calls, as a map's datum.
-/
namespace Go.Proofs.YtphhbojdolhieaaGreatDoor
open Go.RowKit Go.Maps Go.MapKept
open Go.ChangeShapes (lits)
set_option maxRecDepth 20000
/-- The numbers of thing q's calls among the first k. -/
def idxK (cs : List Cl) (q : Int) (k : Nat) : List Int := ((List.range k).filter fun i => (cs.getD i default).thing == q).map fun i : Nat => (i : Int)
theorem lits_inj {H : Type} {q : IntKind} : ∀ {a b : List Int}, lits (H := H) q a = lits q b → a = b
  | [], [], _ => rfl
  | [], y :: b, h => by simp [lits] at h
  | x :: a, [], h => by simp [lits] at h
  | x :: a, y :: b, h => by
    simp only [lits, List.map_cons, List.cons.injEq] at h
    have h1 := h.1
    injection h1 with h1
    injection h1 with h2 h3
    rw [h3, lits_inj (H := H) (q := q) (a := a) (b := b) h.2]
/-- What the map tells behind k calls. -/
def GrpD (cs : List Cl) (k : Nat) (D : DataW Unit) : Prop := IsMap D ∧ ∀ q : Int, D.atKey (.int .i64 q) .nil = if idxK cs q k = [] then .nil else .slice (lits .i64 (idxK cs q k)) []
theorem GrpD.zero (cs : List Cl) : GrpD cs 0 (.map []) := ⟨⟨[], rfl⟩, fun q => by rw [if_pos (show idxK cs q 0 = [] from rfl)]; rfl⟩
/-- What the look-up hands over is what was laid there. -/
theorem GrpD.at_ {cs : List Cl} {k : Nat} {D : DataW Unit} (h : GrpD cs k D) {w : World} {base : Nat} {e : TypeId} {v : Value} {zs : List Int} {q : Int} (hat : D.atKey (.int .i64 q) .nil = rowDatum .i64 v zs) (ho : w.ownsInts base e .i64 v zs) : zs = idxK cs q k := by
  rw [h.2 q] at hat
  rcases ho.datum (H := Unit) with ⟨h1, rfl⟩ | h1
  · rw [h1] at hat
    split at hat
    · rename_i h2; exact h2.symm
    · cases hat
  · rw [h1] at hat
    split at hat
    · cases hat
    · injection hat with h2
      exact (lits_inj h2).symm
end Go.Proofs.YtphhbojdolhieaaGreatDoor
