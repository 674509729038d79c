/-
  Joined by a program out of: IRd, Ok, LinLives, CloneSt, LinSay, BagCheck, AppEv2.
-/
import Derived.Test.YtfgangkpebkicaaGreatDoorProg
import Derived.WalkKit
import Derived.Deep.QuietTactic
import Derived.BigQuiet
import Derived.Lib.Hide
import Derived.Test.YtfgangkpebkicaaGreatDoorMgAV
import Derived.Test.YtfgangkpebkicaaGreatDoorMgAA
import Derived.Test.YtfgangkpebkicaaGreatDoorMgAB
import Derived.Deep.DeepAppendWide
import Derived.Lib.AppendZeros
import Derived.Lib.SliceRun
import Derived.Test.YtfgangkpebkicaaGreatDoorMgAQ
import Derived.Test.YtfgangkpebkicaaGreatDoorMgAD

/-
  Slices that read as a list of integers.
-/
namespace Go.Proofs.YtfgangkpebkicaaGreatDoor
open Go.RowKit
set_option maxRecDepth 20000
/-- The value v is a slice that reads as the integers xs, in a block below B. -/
def IRd (w : World) (B : Nat) (v : Value) (xs : List Int) : Prop :=
  ∃ A cap, v = .slice A xs.length cap ∧ (0 < xs.length → ∃ g, A = some ⟨g, 0, none⟩ ∧ g < B ∧ ∀ j, j < xs.length → w.cell? ⟨g, j, none⟩ = some (.int .i64 (xs.getD j 0)))
theorem IRd.below {w w' : World} {B : Nat} {v : Value} {xs : List Int} (h : IRd w B v xs) (hb : Below B w w') : IRd w' B v xs := by
  obtain ⟨A, cap, hv, h2⟩ := h
  refine ⟨A, cap, hv, fun h0 => ?_⟩
  obtain ⟨g, hA, hg, hc⟩ := h2 h0
  exact ⟨g, hA, hg, fun j hj => (hb.cell (p := ⟨g, j, none⟩) hg).trans (hc j hj)⟩
theorem IRd.mono {w : World} {B B' : Nat} {v : Value} {xs : List Int} (h : IRd w B v xs) (hB : B ≤ B') : IRd w B' v xs := by
  obtain ⟨A, cap, hv, h2⟩ := h
  refine ⟨A, cap, hv, fun h0 => ?_⟩
  obtain ⟨g, hA, hg, hc⟩ := h2 h0
  exact ⟨g, hA, by omega, hc⟩
end Go.Proofs.YtfgangkpebkicaaGreatDoor

/-
  Contract of alibkeep.ok.
-/
namespace Go.Proofs.YtfgangkpebkicaaGreatDoor
open Go.RowKit
set_option maxRecDepth 20000
theorem all_zero {xs : List Int} (h : ∀ j, j < xs.length → xs.getD j 0 = 0) : ∀ x ∈ xs, x = 0 := by
  intro x hx
  obtain ⟨j, hj, rfl⟩ := List.getElem_of_mem hx
  have := h j hj
  rwa [List.getD_eq_getElem?_getD, List.getElem?_eq_getElem hj] at this
theorem not_all_zero {xs : List Int} {k : Nat} (hk : k < xs.length) (h : xs.getD k 0 ≠ 0) : ¬ ∀ x ∈ xs, x = 0 := fun ha => by
  rw [List.getD_eq_getElem?_getD, List.getElem?_eq_getElem hk] at h
  exact h (ha _ (List.getElem_mem hk))
theorem ok_any {B : Nat} {v : Value} {xs : List Int} {w : World} (h : IRd w B v xs) (hn : xs.length ≤ 1000000) :
    Calls Tryz.prog 17 #[v] w fun e w' => e = .returned (.bool (decide (∀ x ∈ xs, x = 0))) ∧ w = w' := by
  obtain ⟨A, c, rfl, k⟩ := h
  have HK := Lib.hid k
  clear k
  go_enter Tryz.func17, Tryz.ntmps17
  go_wp2_with fail
  go_loopw [7] (fun i wr => ∃ k : Nat, k ≤ xs.length ∧ i = .int .i64 k ∧ (∀ j, j < k → xs.getD j 0 = 0) ∧ w = wr) (fun i _ => xs.length - (intOf i).toNat)
  case atStart => exact ⟨0, by omega, rfl, fun j hj => by omega, rfl⟩
  case round =>
    obtain ⟨k, hk, rfl, ha, rfl⟩ := hrel
    have HA := Lib.hid ha
    clear ha
    by_cases hkn : k < xs.length
    · obtain ⟨g, rfl, hg, hc⟩ := HK.out (by omega)
      have d1 : w.cell? ⟨g, k, none⟩ = some (.int .i64 (xs.getD k 0)) := hc k hkn
      clear hc
      have i1 : (0 : Int) ≤ (k : Int) := by omega
      have i2 : (k : Int) < (xs.length : Int) := by omega
      generalize hxk : xs.getD k 0 = x at d1
      have HXK := Lib.hid hxk
      clear hxk
      by_cases hx : x = 0
      · subst hx
        go_wp2_with fail
        go_roundw
        case rel => exact ⟨k + 1, by omega, by go_num, fun j hj => by
          rcases Nat.lt_or_ge j k with h | h
          · exact HA.out j h
          · obtain rfl : j = k := by omega
            exact HXK.out, by trivial⟩
        case measure => simp [intOf]; omega
      · have hz : (x != 0) = true := by rw [bne_iff_ne]; exact hx
        have HX := Lib.hid hx
        clear hx
        go_wp2_with fail
        go_ret
        exact ⟨congrArg (fun b => Ending.returned (.bool b)) (decide_eq_false (not_all_zero hkn (by rw [HXK.out]; exact HX.out))).symm, rfl⟩
    · have hkn' : k = xs.length := by omega
      subst hkn'
      go_wp2_with fail
      go_ret
      exact ⟨congrArg (fun b => Ending.returned (.bool b)) (decide_eq_true (all_zero HA.out)).symm, rfl⟩
/-- A slice that was just written out. -/
theorem IRd.fresh (w : World) (t : TypeId) (xs : List Int) (n : Nat) (hn : n = xs.length) (cs : Array Value) (hcs : cs = (xs.map (Value.int .i64)).toArray) :
    IRd (w.alloc (.cells cs t)) (w.heap.size + 1) (.slice (some ⟨w.heap.size, 0, none⟩) n n) xs := by
  subst hn
  refine ⟨_, _, rfl, fun _ => ⟨_, rfl, by omega, fun j hj => ?_⟩⟩
  rw [cell_of_row _ _ j cs t (0, 0) (heap_alloc_new w _), hcs]
  simp [hj]
theorem ok_zero {B : Nat} {v : Value} {xs : List Int} {w : World} (h : IRd w B v xs) (hz : ∀ x ∈ xs, x = 0) (hn : xs.length ≤ 1000000) :
    Calls Tryz.prog 17 #[v] w fun e w' => e = .returned (.bool true) ∧ w = w' := by
  have := ok_any h hn
  rw [decide_eq_true hz] at this
  exact this
theorem ok_not {B : Nat} {v : Value} {xs : List Int} {w : World} (h : IRd w B v xs) {x : Int} (hx : x ∈ xs) (hz : x ≠ 0) (hn : xs.length ≤ 1000000) :
    Calls Tryz.prog 17 #[v] w fun e w' => e = .returned (.bool false) ∧ w = w' := by
  have := ok_any h hn
  rw [decide_eq_false (fun k => hz (k x hx))] at this
  exact this
end Go.Proofs.YtfgangkpebkicaaGreatDoor

/-
  alibkeep.searchLives answers true.
-/
namespace Go.Proofs.YtfgangkpebkicaaGreatDoor
open Go.RowKit Go.Maps
set_option maxRecDepth 20000
theorem SOwn.sp {w : World} {B : Nat} {v : Value} {S : List (Nat × Int)} (h : SOwn w B v S) : SRd w w.heap.size v (asSteps S) := by
  have h1 : (asSteps S).length = S.length := by unfold asSteps; exact List.length_map _
  have h2 : (asSteps S).flatMap spCs = S.flatMap stCs := by unfold asSteps; rw [List.flatMap_map]
  refine LRd.of_own (base := B) (t := 64) (fun _ => rfl) ?_
  rw [h1, h2]
  exact h
end Go.Proofs.YtfgangkpebkicaaGreatDoor

/-
  append of steps: any slice of such behind a row of one's own; slices.Clone over such.
-/
namespace Go.Proofs.YtfgangkpebkicaaGreatDoor
open Go.RowKit
set_option maxRecDepth 20000
/-- A slice of the call's own (in blocks from B on) that holds these. -/
def TOwn (w : World) (B : Nat) (v : Value) (l : List (Int × Int)) : Prop := w.ownsRow B 64 2 v l.length (l.flatMap spCs)
theorem TOwn.rd {w : World} {B : Nat} {v : Value} {l : List (Int × Int)} (h : TOwn w B v l) : SRd w w.heap.size v l := LRd.of_own (fun _ => rfl) h
theorem TOwn.nil (w : World) (B : Nat) : TOwn w B (.slice none 0 0) [] := World.ownsRow_nil _ _ _ _
theorem TOwn.below {w w' : World} {B : Nat} {v : Value} {l : List (Int × Int)} (h : TOwn w B v l) (hb : Below w.heap.size w w') : TOwn w' B v l := by
  refine ⟨h.1, h.2.elim (fun h => .inl h) fun ⟨g, cap, cur, h1, h2, h3, h4, h5, h6, h7⟩ => .inr ⟨g, cap, cur, h1, h2, ?_, h4, h5, h6, h7⟩⟩
  rw [hb.block g (Array.getElem?_eq_some_iff.1 h3).1]
  exact h3
theorem TOwn.alloc {w : World} {B : Nat} {v : Value} {l : List (Int × Int)} (h : TOwn w B v l) (o : Obj) : TOwn (w.alloc o) B v l := h.below ((Below.refl _ _).alloc (Nat.le_refl _) o)
theorem info_sp : (Tryz.prog.info? 64).map (fun i => (i.zero, i.size, i.bytes)) = some (some (.agg #[.int .i64 0, .int .i64 0]), 2, 16) := by kernel_rfl
theorem run_app_sps {W : World} {base n cap : Nat} {v : Value} {A : Option Addr} {l ys : List (Int × Int)} {B : Nat} (ty : TypeId) (hown : TOwn W base v l) (hr : SRd W B (.slice A n cap) ys) (hlen : ((l.length + ys.length) + (l.length + ys.length) / 4 + 192) * 16 ≤ 281474976710656) (hbase : base ≤ W.heap.size) (hA : A ≠ none) :
    ∃ v' w', (Builtin.append_ #[38, 38] ty #[v, .slice A n cap]).run Tryz.prog W = .ok v' w' ∧ TOwn w' base v' (l ++ ys) ∧ Below base W w' := by
  obtain ⟨i0, hi, hz0, hz1, hz2⟩ := info_of info_sp
  have hl := World.ownsRow.lt hown
  obtain ⟨A', cap', he, m1, m2, hc⟩ := hr
  injection he with e1 e2 e3
  subst e1 e2 e3
  cases A with
  | none => exact absurd rfl hA
  | some a =>
    have hlf : (ys.flatMap spCs).length = ys.length * 2 := flat_len (f := spCs) (s := 2) (fun _ => rfl) ys
    obtain ⟨v', w', hr, h2, h3, _⟩ := run_append_own_wide (P := Tryz.prog) W base 38 ty 64 i0 (.agg #[.int .i64 0, .int .i64 0]) 2 16 Tryz.underlying38 hi hz0 hz1 hz2 rfl (by decide) v l.length (l.flatMap spCs) hown
      a ys.length cap (ys.flatMap spCs) hlf (fun j u hu => by
        have hj := (List.getElem?_eq_some_iff.1 hu).1
        rw [hlf] at hj
        obtain ⟨g, o, ha, _, hcell⟩ := hc (by omega)
        injection ha with ha
        subst ha
        have hx := List.getElem?_eq_getElem (show j / 2 < ys.length by omega)
        have hm : j % 2 < (spCs ys[j / 2]).length := by show j % 2 < 2; omega
        have hf := flat_at (l := ys) (f := spCs) (s := 2) (fun _ => rfl) hx (List.getElem?_eq_getElem hm)
        have e : j / 2 * 2 + j % 2 = j := by omega
        rw [e, hu] at hf
        have := hcell (j / 2) _ hx (j % 2) _ ((List.getElem?_eq_getElem hm).trans hf.symm)
        rw [Addr.add_lit]
        rw [Nat.add_assoc, e] at this
        exact this) (fun u hu => by
        rw [List.mem_flatMap] at hu
        obtain ⟨x, _, hx⟩ := hu
        simp only [List.mem_cons, List.not_mem_nil, or_false] at hx
        rcases hx with rfl | rfl <;> rfl) (by unfold maxLen; omega) hlen hbase
    refine ⟨v', w', hr, ?_, (Below.refl base W).grown h3 hbase (fun k hk => (hl k hk).1)⟩
    unfold TOwn
    rw [List.length_append, List.flatMap_append]
    exact h2
end Go.Proofs.YtfgangkpebkicaaGreatDoor

/-
  What Find and Right answer, in one word each; what that means.
-/
namespace Go.Proofs.YtfgangkpebkicaaGreatDoor
open Go.RowKit
set_option maxRecDepth 20000
/-- Is one found, by a relation? -/
def fndB (p : Nat → Nat → Bool) (ts : List Int) (o : List Cl × Nat × Int) : Bool := decide (searchE o = 0) && (foundO p ts o.1).isSome
/-- What is found. -/
def fndL (p : Nat → Nat → Bool) (ts : List Int) (o : List Cl × Nat × Int) : List (Int × Int) := if searchE o = 0 then asSteps ((foundO p ts o.1).getD []) else []
/-- Is one found? -/
def foundB (ts : List Int) (o : List Cl × Nat × Int) : Bool := decide (searchE o = 0) && (foundO (aheadB o.1) ts o.1).isSome
/-- What is found. -/
def foundL (ts : List Int) (o : List Cl × Nat × Int) : List (Int × Int) := if searchE o = 0 then asSteps ((foundO (aheadB o.1) ts o.1).getD []) else []
theorem SOwn.t {w : World} {B : Nat} {v : Value} {S : List (Nat × Int)} (h : SOwn w B v S) : TOwn w B v (asSteps S) := by
  have h1 : (asSteps S).length = S.length := by unfold asSteps; exact List.length_map _
  have h2 : (asSteps S).flatMap spCs = S.flatMap stCs := by unfold asSteps; rw [List.flatMap_map]
  unfold TOwn
  rw [h1, h2]
  exact h
theorem fnd_of {p : Nat → Nat → Bool} {ts : List Int} {o : List Cl × Nat × Int} {w w' : World} {e : Ending} (h0 : FindPost p w ts o e w') :
    Below w.heap.size w w' ∧ ∃ v, e = .returned (.tuple #[v, .bool (fndB p ts o), .int .i64 (searchE o)]) ∧ TOwn w' w.heap.size v (fndL p ts o) := by
  obtain ⟨hb, h⟩ := h0
  refine ⟨hb, ?_⟩
  rcases h with ⟨h1, rfl⟩ | ⟨h1, ⟨h2, rfl⟩ | ⟨S, v, h2, rfl, h3⟩⟩
  · refine ⟨.slice none 0 0, ?_, ?_⟩
    · unfold fndB; rw [decide_eq_false h1]; rfl
    · unfold fndL; rw [if_neg h1]; exact TOwn.nil _ _
  · refine ⟨.slice none 0 0, ?_, ?_⟩
    · unfold fndB; rw [decide_eq_true h1, h2, h1]; rfl
    · unfold fndL; rw [if_pos h1, h2]; exact TOwn.nil _ _
  · refine ⟨v, ?_, ?_⟩
    · unfold fndB; rw [decide_eq_true h1, h2, h1]; rfl
    · unfold fndL; rw [if_pos h1, h2]; exact h3.t
theorem find_say {tv lv : Value} {ts : List Int} {l : List Ev} {w : World} (ht : NRd w w.heap.size tv ts) (hl : ERd w w.heap.size lv l) (hp : Pow10 w.heap.size w) :
    Calls Tryz.prog 38 #[tv, lv] w fun e w' => Below w.heap.size w w' ∧ ∃ v, e = .returned (.tuple #[v, .bool (foundB ts (callsOf ts l)), .int .i64 (searchE (callsOf ts l))]) ∧ TOwn w' w.heap.size v (foundL ts (callsOf ts l)) := by
  refine (find_any ht hl hp).mono ?_
  rintro e w' h
  exact fnd_of h
theorem search_ok {ts : List Int} {l : List Ev} : searchE (callsOf ts l) = 0 ↔ (callsOf ts l).2.2 = 0 ∧ (callsOf ts l).1.length ≤ 9 := by
  unfold searchE
  by_cases h : (callsOf ts l).2.2 = 0
  · rw [if_neg (fun h2 => h2 h)]
    by_cases h2 : 9 < (callsOf ts l).1.length
    · rw [if_pos h2]
      exact ⟨fun h3 => absurd h3 (by decide), fun h3 => by omega⟩
    · rw [if_neg h2]
      exact ⟨fun _ => ⟨h, by omega⟩, fun _ => rfl⟩
  · rw [if_pos h]
    exact ⟨fun h3 => absurd h3 h, fun h3 => absurd h3.1 h⟩
theorem fndB_iff {p : Nat → Nat → Bool} {ts : List Int} {l : List Ev} : fndB p ts (callsOf ts l) = true ↔ searchE (callsOf ts l) = 0 ∧ ∃ ws, RiteP ts (callsOf ts l).1 p ws := by
  unfold fndB
  rw [Bool.and_eq_true, decide_eq_true_iff]
  constructor
  · rintro ⟨h1, h2⟩
    have := (search_ok.1 h1).2
    exact ⟨h1, (found_rite (by omega) calls_thing).1 (fun e => by rw [e] at h2; cases h2)⟩
  · rintro ⟨h1, h2⟩
    have := (search_ok.1 h1).2
    have h3 := (found_rite (by omega) calls_thing).2 h2
    refine ⟨h1, ?_⟩
    cases hf : foundO p ts (callsOf ts l).1 with
    | none => exact absurd hf h3
    | some S => rfl
theorem fndL_rite {p : Nat → Nat → Bool} {ts : List Int} {l : List Ev} (h : fndB p ts (callsOf ts l) = true) : RiteP ts (callsOf ts l).1 p (fndL p ts (callsOf ts l)) := by
  unfold fndB at h
  rw [Bool.and_eq_true, decide_eq_true_iff] at h
  obtain ⟨h1, h2⟩ := h
  have := (search_ok.1 h1).2
  unfold fndL
  rw [if_pos h1]
  cases hf : foundO p ts (callsOf ts l).1 with
  | none => rw [hf] at h2; cases h2
  | some S => exact (rite_iff (by omega) calls_thing).1 (found_right hf)
theorem foundB_eq (ts : List Int) (o : List Cl × Nat × Int) : foundB ts o = fndB (aheadB o.1) ts o := rfl
theorem foundL_eq (ts : List Int) (o : List Cl × Nat × Int) : foundL ts o = fndL (aheadB o.1) ts o := rfl
/-- One is found just if there is a right order. -/
theorem foundB_iff {ts : List Int} {l : List Ev} : foundB ts (callsOf ts l) = true ↔ searchE (callsOf ts l) = 0 ∧ ∃ ws, Rite ts (callsOf ts l).1 ws := by
  rw [foundB_eq, fndB_iff]
  exact ⟨fun h => ⟨h.1, h.2.imp fun _ => riteP_iff.1⟩, fun h => ⟨h.1, h.2.imp fun _ => riteP_iff.2⟩⟩
theorem foundL_rite {ts : List Int} {l : List Ev} (h : foundB ts (callsOf ts l) = true) : Rite ts (callsOf ts l).1 (foundL ts (callsOf ts l)) := riteP_iff.1 (fndL_rite h)
end Go.Proofs.YtfgangkpebkicaaGreatDoor

/-
  Contracts of bags.linearizable and bags.Check.
-/
namespace Go.Proofs.YtfgangkpebkicaaGreatDoor
open Go.RowKit
set_option maxRecDepth 20000

/-- What linearizable answers of a number that may be. -/
def linE (l : List Ev) (q : Int) : Int := searchE (callsOf [4] (bagL l q))
def linB (l : List Ev) (q : Int) : Bool := foundB [4] (callsOf [4] (bagL l q))
theorem linE_len {l : List Ev} (h : (callsOf [4] l).2.2 = 0) (q : Int) : linE l q = if 9 < (ownV (callsOf [4] l).1 q).length then 2 else 0 := by
  unfold linE searchE
  rw [bag_calls h q, if_neg (fun h => h rfl)]
  simp only [List.length_map]
theorem linB_iff {l : List Ev} (h : (callsOf [4] l).2.2 = 0) {q : Int} (h9 : linE l q = 0) : linB l q = !badV (callsOf [4] l).1 q := by
  rw [Bool.eq_iff_iff, Bool.not_eq_true', Bool.eq_false_iff, Ne, badV_iff, Classical.not_not]
  unfold linB
  rw [foundB_iff]
  constructor
  · rintro ⟨_, ws, hw⟩
    exact ⟨ws, (bag_part h q).1 hw⟩
  · rintro ⟨ws, hw⟩
    exact ⟨h9, ws, (bag_part h q).2 hw⟩
set_option maxHeartbeats 4000000 in
theorem blin_any {lv : Value} {l : List Ev} {w : World} (hl : ERd w w.heap.size lv l) (hp : Pow10 w.heap.size w) (h0 : (callsOf [4] l).2.2 = 0) {q : Int} (hq : 1 ≤ q ∧ q ≤ 1000) :
    Calls Tryz.prog 23 #[lv, .int .i64 q] w fun e w' => Below w.heap.size w w' ∧ e = .returned (.tuple #[.bool (linB l q), .int .i64 (linE l q)]) := by
  have HPT := Lib.hid (bpart_any hl q)
  have hbp : bagP l q = (bagL l q, 0) := by
    unfold bagP
    rw [if_neg (fun h => h h0), if_neg (fun h => h hq)]
  rw [hbp] at HPT
  have hee : linE l q = searchE (callsOf [4] (bagL l q)) := rfl
  have hbb : linB l q = foundB [4] (callsOf [4] (bagL l q)) := rfl
  rw [hee, hbb]
  clear hee hbb
  generalize bagL l q = p at HPT ⊢
  have HP := Lib.hid hp
  have HNL := Lib.hid (fun W : World => LRd.of_lit (f := intCs) (s := 1) (w := W) (l := [4]) (fun _ => rfl) 3 (cs := #[.int .i64 4]) rfl (n := 1) rfl (by unfold maxLen; omega))
  obtain ⟨Al, capl, rfl, -, -⟩ := hl.is
  generalize l.length = L at HPT ⊢
  obtain ⟨fb, hfb⟩ : ∃ fb, fb = foundB [4] (callsOf [4] p) := ⟨_, rfl⟩
  obtain ⟨SE, hSE⟩ : ∃ SE, SE = searchE (callsOf [4] p) := ⟨_, rfl⟩
  rw [← hfb, ← hSE]
  have HQ := Lib.hid (And.intro hfb hSE)
  clear hl hp h0 hq hbp hfb hSE
  go_enter Tryz.func23, Tryz.ntmps23
  go_wp2_with fail
  refine HPT.out.mono ?_
  rintro e w1 ⟨v, rfl, hb1, ho1⟩
  have hbl : Below w.heap.size w (w1.alloc (.cells #[.int .i64 4] 3)) := hb1.alloc hb1.size _
  have hrd := (ho1.alloc (.cells #[.int .i64 4] 3)).rd
  have hn := (HNL.out w1).mono (B' := (w1.alloc (.cells #[.int .i64 4] 3)).heap.size) (by simp)
  have hf := find_say hn hrd ((HP.out.on hbl).mono hbl.size)
  rw [← HQ.out.1, ← HQ.out.2] at hf
  have HF := Lib.hid hf
  clear hf
  obtain ⟨A, c, rfl, -, -⟩ := hrd.is
  generalize p.length = n at HF ⊢
  have H1 := Lib.hid hbl
  clear HPT hb1 ho1 hbl hrd hn
  simp only
  go_wp2_with fail
  refine HF.out.mono ?_
  rintro e w2 ⟨hb2, v, rfl, hv⟩
  have H2 := Lib.hid (H1.out.trans (hb2.mono H1.out.size))
  clear hb2 hv HF H1
  go_wp2_with fail
  go_ret2
  exact ⟨H2.out, rfl⟩
/-- The list that Check tells. -/
noncomputable def bagLst (l : List Ev) : List Int := if bagsE l = 0 then bagB l else []
/-- What Check answers. -/
def BCheck (w : World) (l : List Ev) (e : Ending) (w' : World) : Prop :=
  Below w.heap.size w w' ∧ ∃ v, e = .returned (.tuple #[v, .int .i64 (bagsE l)]) ∧ NOwn w' w.heap.size v (bagLst l)
/-- The numbers that can't be, of those up to one. -/
noncomputable def upB (l : List Ev) (es : List Int) : List Int := es.filter fun v => badV (callsOf [4] l).1 v
theorem upB_all {l : List Ev} (h : (callsOf [4] l).2.2 = 0) : upB l (elemL (callsOf [4] l).1) = bagB l := by
  obtain ⟨h1, h2, _⟩ := elemL_inc (callsOf [4] l).1
  refine inc_ext (h1.filter _) (bagB_up l) fun x => ?_
  unfold upB
  rw [List.mem_filter, h2, badV_iff, bagB_mem h]
theorem upB_take {l : List Ev} {es : List Int} {k : Nat} {x : Int} (h : es[k]? = some x) : upB l (es.take (k + 1)) = if badV (callsOf [4] l).1 x = true then upB l (es.take k) ++ [x] else upB l (es.take k) := by
  unfold upB
  rw [List.take_add_one, h, Option.toList_some, List.filter_append]
  cases hb : badV (callsOf [4] l).1 x <;> simp [hb]
set_option maxHeartbeats 8000000 in
theorem bcheck_any {lv : Value} {l : List Ev} {w : World} (hl : ERd w w.heap.size lv l) (hp : Pow10 w.heap.size w) :
    Calls Tryz.prog 7 #[lv] w (BCheck w l) := by
  have HO := Lib.hid (bopen_any hl)
  have HL := Lib.hid (And.intro hl hp)
  obtain ⟨Al, capl, rfl, m3, m4⟩ := hl.is
  unfold maxLen at m4
  obtain ⟨L, hL⟩ : ∃ L, L = l.length := ⟨_, rfl⟩
  rw [← hL] at m3 HO HL ⊢
  clear hl hp hL
  have hpost : BCheck w l = fun e w' => Below w.heap.size w w' ∧ ∃ v, e = .returned (.tuple #[v, .int .i64 (bagsE l)]) ∧ NOwn w' w.heap.size v (bagLst l) := rfl
  rw [hpost]
  clear hpost
  obtain ⟨bl, hbl⟩ : ∃ bl, bl = bagLst l := ⟨_, rfl⟩
  rw [← hbl]
  have HBL := Lib.hid (show (bagsE l = 0 → bl = bagB l) ∧ (bagsE l ≠ 0 → bl = []) from ⟨fun h => by rw [hbl]; unfold bagLst; rw [if_pos h], fun h => by rw [hbl]; unfold bagLst; rw [if_neg h]⟩)
  clear hbl
  by_cases h0 : (callsOf [4] l).2.2 = 0
  · obtain ⟨E, hE⟩ : ∃ E, E = bagsE l := ⟨_, rfl⟩
    rw [← hE] at HBL ⊢
    have hcl := calls_lenQ h0
    have hbz : E = 0 ↔ ∀ v, (ownV (callsOf [4] l).1 v).length ≤ 9 := by
      rw [hE, bagsE_zero]
      exact ⟨fun h => h.2, fun h => ⟨h0, h⟩⟩
    have hb2 : E = 0 ∨ E = 2 := by
      rw [hE]
      unfold bagsE
      rw [if_neg (fun h => h h0)]
      split
      · exact .inr rfl
      · exact .inl rfl
    have HE := Lib.hid (And.intro hbz hb2)
    have HZ := Lib.hid h0
    rw [h0] at HO
    clear h0 hbz hb2 hE
    go_enter Tryz.func7, Tryz.ntmps7
    go_wp2_with fail
    refine HO.out.mono ?_
    rintro e w1 ⟨hb1, v1, rfl, hc1⟩
    have HEL := Lib.hid (belems_any hc1 hcl)
    have H1 := Lib.hid hb1
    obtain ⟨Ac, cc, rfl, -, -⟩ := hc1.is
    generalize (callsOf [4] l).1.length = nc at HEL ⊢
    clear hc1 hb1 HO hcl
    go_wp2_with fail
    refine HEL.out.mono ?_
    rintro e w2 ⟨v2, rfl, ho2, hb2⟩
    have hb2w := H1.out.trans (hb2.mono H1.out.size)
    obtain ⟨es, hes⟩ : ∃ es, es = elemL (callsOf [4] l).1 := ⟨_, rfl⟩
    rw [← hes] at ho2
    have hrd := ho2.rd
    obtain ⟨Ae, ce, rfl, e1, e2⟩ := hrd.is
    unfold maxLen at e2
    have hel := (elemL_inc (callsOf [4] l).1).2.2
    rw [← hes] at hel
    have hcl := calls_lenQ HZ.out
    obtain ⟨N, hN⟩ : ∃ N, N = es.length := ⟨_, rfl⟩
    rw [← hN] at hrd e1 ⊢
    have hN2 : N ≤ 200 := by omega
    have H2 := Lib.hid (And.intro hb2w (And.intro hrd (And.intro hes hN)))
    clear ho2 hb2 hb2w hrd hes hN HEL H1 hel hcl
    go_wp2_with fail
    obtain ⟨B2, hB2⟩ : ∃ B2, B2 = w2.heap.size := ⟨_, rfl⟩
    rw [← hB2] at H2
    have HB2 := Lib.hid hB2
    go_loopw [6, 22] (fun v i wr => ∃ (k : Nat) (v0 : Value), k ≤ N ∧ i = .int .i64 k ∧ v0 = v ∧ NOwn wr B2 v0 (upB l (es.take k)) ∧ Below w.heap.size w wr ∧ Below B2 w2 wr ∧ ∀ j x, j < k → es[j]? = some x → (ownV (callsOf [4] l).1 x).length ≤ 9) (fun _ i _ => N - (intOf i).toNat)
    case atStart => exact ⟨0, _, by omega, rfl, rfl, NOwn.nil _ _, H2.out.1, Below.refl _ _, fun j x hj => by omega⟩
    case round =>
      clear hB2
      obtain ⟨k, v0, hk, rfl, rfl, ho, hb, hbb, hall⟩ := hrel
      by_cases hkN : k < N
      · obtain ⟨x, hx⟩ : ∃ x, es[k]? = some x := ⟨_, List.getElem?_eq_getElem (by rw [← H2.out.2.2.2]; exact hkN)⟩
        obtain ⟨g, o, rfl, -, d0⟩ := (H2.out.2.1.below hbb).num hx
        have i1 : (0 : Int) ≤ (k : Int) := by omega
        have i2 : (k : Int) < (N : Int) := by omega
        have hst := upB_take (l := l) hx
        have hxa : 1 ≤ x ∧ x ≤ 1000 := by
          have hm := List.mem_of_getElem? hx
          rw [H2.out.2.2.1, (elemL_inc _).2.1] at hm
          obtain ⟨c, hc, rfl⟩ := hm
          have := (calls_bagH HZ.out).set c hc
          exact ⟨this.2.1, this.2.2.1⟩
        have HLI := Lib.hid (blin_any ((HL.out.1.below hb).mono hb.size) ((HL.out.2.on hb).mono hb.size) HZ.out hxa)
        have hlen := linE_len HZ.out x
        have hlb := fun h => linB_iff HZ.out (q := x) h
        have hpl : (upB l (es.take k)).length ≤ 65536 := by
          have h1 : (upB l (es.take k)).length ≤ (es.take k).length := List.length_filter_le _ _
          have h2 := List.length_take_le k es
          omega
        have HB := Lib.hid (And.intro ho (And.intro hb (And.intro hbb (And.intro hall (And.intro hst (And.intro hlen (And.intro hlb (And.intro hpl hx))))))))
        generalize linB l x = lb at HLI HB
        generalize linE l x = le at HLI HB
        clear ho hb hbb hall hst hlen hlb hpl hx hxa
        go_wp2_with fail
        refine HLI.out.mono ?_
        rintro e w3 ⟨hb3, rfl⟩
        have hB2w : B2 ≤ wr.heap.size := by have := HB.out.2.2.1.size; rw [HB2.out]; exact this
        have H3 := Lib.hid (And.intro (HB.out.2.1.trans (hb3.mono HB.out.2.1.size)) (And.intro (HB.out.2.2.1.trans (hb3.mono hB2w)) (And.intro (HB.out.1.below hb3) (Nat.le_trans hB2w hb3.size))))
        clear hb3 HLI hB2w d0
        by_cases hE0 : le = 0
        · subst hE0
          have hlb := HB.out.2.2.2.2.2.2.1 rfl
          have h9 : (ownV (callsOf [4] l).1 x).length ≤ 9 := by
            have := HB.out.2.2.2.2.2.1
            apply Classical.byContradiction
            intro hn
            rw [if_pos (by omega)] at this
            cases this
          have hall2 : ∀ j y, j < k + 1 → es[j]? = some y → (ownV (callsOf [4] l).1 y).length ≤ 9 := fun j y hj hy => by
            by_cases e : j = k
            · rw [e, HB.out.2.2.2.2.2.2.2.2] at hy
              injection hy with hy
              rw [← hy]
              exact h9
            · exact HB.out.2.2.2.1 j y (by omega) hy
          cases hbv : badV (callsOf [4] l).1 x
          · rw [hbv] at hlb
            obtain rfl : lb = true := hlb
            have hs2 := HB.out.2.2.2.2.1
            rw [if_neg (by rw [hbv]; decide)] at hs2
            have HS := Lib.hid (And.intro hs2 hall2)
            clear h9 hall2 hbv hs2
            go_wp2_with fail
            go_roundw
            case rel =>
              refine ⟨k + 1, _, by omega, by go_num, rfl, ?_, H3.out.1, H3.out.2.1, HS.out.2⟩
              rw [HS.out.1]
              exact H3.out.2.2.1
            case measure => simp [intOf]; omega
          · rw [hbv] at hlb
            obtain rfl : lb = false := hlb
            have hs2 := HB.out.2.2.2.2.1
            rw [if_pos hbv] at hs2
            have HS := Lib.hid (And.intro hs2 hall2)
            have HOW := Lib.hid (H3.out.2.2.1.alloc (.cells #[.int .i64 x] 3))
            have HW := Lib.hid (And.intro (H3.out.1.alloc H3.out.1.size (.cells #[.int .i64 x] 3)) (And.intro (H3.out.2.1.alloc H3.out.2.2.2 (.cells #[.int .i64 x] 3)) (Nat.le_trans H3.out.2.2.2 (show w3.heap.size ≤ (w3.alloc (.cells #[.int .i64 x] 3)).heap.size by simp))))
            have HNC := Lib.hid (new_cells w3 3 [.int .i64 x] 0 _ rfl)
            have HBM := Lib.hid (show w.heap.size ≤ B2 by rw [HB2.out]; exact H2.out.1.size)
            obtain ⟨us, hus⟩ : ∃ us, us = upB l (es.take k) := ⟨_, rfl⟩
            have hpl := HB.out.2.2.2.2.2.2.2.1
            rw [← hus] at HOW hpl
            have HPL := Lib.hid (And.intro hpl hus)
            clear h9 hall2 hbv hs2 hus hpl
            go_wp2_with (at_builtin; refine wpList_app_int rfl (.tmp 37) (.tmp 39) rfl B2 w3.heap.size _ us x rfl rfl HOW.out HNC.out HPL.out.1 HW.out.2.2 ?_; intro v' w5 ho5 hb5; have HN := Lib.hid (And.intro ho5 hb5); clear ho5 hb5)
            go_roundw
            case rel =>
              refine ⟨k + 1, _, by omega, by go_num, rfl, ?_, HW.out.1.trans (HN.out.2.mono HBM.out), HW.out.2.1.trans HN.out.2, HS.out.2⟩
              rw [HS.out.1, ← HPL.out.2]
              exact HN.out.1
            case measure => simp [intOf]; omega
        · have h9 : le = 2 ∧ ¬ (ownV (callsOf [4] l).1 x).length ≤ 9 := by
            have := HB.out.2.2.2.2.2.1
            by_cases hn : 9 < (ownV (callsOf [4] l).1 x).length
            · rw [if_pos hn] at this
              exact ⟨this, by omega⟩
            · rw [if_neg hn] at this
              exact absurd this hE0
          obtain rfl := h9.1
          obtain rfl : E = 2 := HE.out.2.resolve_left fun h => h9.2 (HE.out.1.1 h x)
          clear hE0 h9
          go_wp2_with fail
          go_ret2
          exact ⟨H3.out.1, _, rfl, by rw [HBL.out.2 (by decide)]; exact NOwn.nil _ _⟩
      · obtain rfl : k = N := by omega
        have h9 : ∀ v, (ownV (callsOf [4] l).1 v).length ≤ 9 := fun v => by
          by_cases hm : v ∈ es
          · obtain ⟨j, hj, e⟩ := List.getElem_of_mem hm
            exact hall j v (by rw [H2.out.2.2.2]; exact hj) (by rw [← e]; exact List.getElem?_eq_getElem hj)
          · have e : ownV (callsOf [4] l).1 v = [] := List.filter_eq_nil_iff.2 fun c hc => by
              rw [beq_iff_eq]
              intro e2
              refine hm ?_
              rw [H2.out.2.2.1, (elemL_inc _).2.1]
              exact ⟨c, hc, e2⟩
            rw [e]
            exact Nat.zero_le _
        obtain rfl : E = 0 := HE.out.1.2 h9
        rw [H2.out.2.2.2, List.take_length, H2.out.2.2.1, upB_all HZ.out] at ho
        have HB := Lib.hid (And.intro ho hb)
        have HBM := Lib.hid (show w.heap.size ≤ B2 by rw [HB2.out]; exact H2.out.1.size)
        clear ho hb hbb hall h9
        go_wp2_with fail
        go_ret2
        refine ⟨HB.out.2, _, rfl, ?_⟩
        rw [HBL.out.1 (by trivial)]
        exact HB.out.1.base_mono HBM.out
  · have hE : bagsE l = (callsOf [4] l).2.2 := by unfold bagsE; rw [if_pos h0]
    have hn := HBL.out.2 (by rw [hE]; exact h0)
    subst hn
    rw [hE]
    have hz : ((callsOf [4] l).2.2 != 0) = true := by rw [bne_iff_ne]; exact h0
    generalize (callsOf [4] l).2.2 = r at HO hz ⊢
    clear h0 hE HBL
    go_enter Tryz.func7, Tryz.ntmps7
    go_wp2_with fail
    refine HO.out.mono ?_
    rintro e w1 ⟨hb1, v1, rfl, hc1⟩
    have H1 := Lib.hid hb1
    clear hb1 hc1 HO
    go_wp2_with fail
    go_ret2
    exact ⟨H1.out, _, rfl, NOwn.nil _ _⟩
end Go.Proofs.YtfgangkpebkicaaGreatDoor

/-
  append(s, x, y): two events at once.
-/
namespace Go.Proofs.YtfgangkpebkicaaGreatDoor
open Go.RowKit
set_option maxRecDepth 20000
theorem run_app_ev2 {W : World} {base G : Nat} {v : Value} {l : List Ev} {y z : Ev} (ty : TypeId) (hown : EOwn W base v l) (hG : ∀ j u, (evCs y ++ evCs z)[j]? = some u → W.cell? ⟨G, j, none⟩ = some u) (hlen : l.length ≤ 65536) (hbase : base ≤ W.heap.size) :
    ∃ v' w', (Builtin.append_ #[22, 22] ty #[v, .slice (some ⟨G, 0, none⟩) 2 2]).run Tryz.prog W = .ok v' w' ∧ EOwn w' base v' (l ++ [y, z]) ∧ Below base W w' ∧ W.grownBy w' v.ownBlock := by
  obtain ⟨i0, hi, hz0, hz1, hz2⟩ := info_of info_ev
  have hl := World.ownsRow.lt hown
  obtain ⟨v', w', hr, h2, h3, _⟩ := run_append_own (P := Tryz.prog) W base 22 ty 37 i0 (evV default) 4 32 Tryz.underlying22 hi hz0 hz1 hz2 rfl (by decide) v l.length (l.flatMap evCs) hown
    ⟨G, 0, none⟩ 2 2 (evCs y ++ evCs z) rfl (fun j u hu => by
      rw [Addr.add_lit, Nat.zero_add]
      exact hG j u hu) (fun u hu => by
      simp only [List.mem_append, List.mem_cons, List.not_mem_nil, or_false] at hu
      rcases hu with (rfl | rfl | rfl | rfl) | (rfl | rfl | rfl | rfl) <;> rfl) (by unfold maxLen; omega) (by omega) hbase
  refine ⟨v', w', hr, ?_, (Below.refl base W).grown h3 hbase (fun k hk => (hl k hk).1), h3⟩
  unfold EOwn
  rw [List.length_append, List.flatMap_append]
  simpa [List.flatMap_cons] using h2
theorem wp_app_ev2 {W : World} {o : Oper} {a : Act} {K : Act → World → Prop} {Q : Exit → Act → World → Prop} (s x : Operand)
    (ho : o.op = .call { callee := .builtin .append, args := #[s, x], argTypes := #[22, 22] })
    (base G : Nat) (v : Value) (l : List Ev) (y z : Ev) (hs : a.eval s = v) (hx : a.eval x = .slice (some ⟨G, 0, none⟩) 2 2) (hown : EOwn W base v l) (hG : ∀ j u, (evCs y ++ evCs z)[j]? = some u → W.cell? ⟨G, j, none⟩ = some u) (hlen : l.length ≤ 65536) (hbase : base ≤ W.heap.size)
    (h : ∀ v' w', EOwn w' base v' (l ++ [y, z]) → Below base W w' → W.grownBy w' v.ownBlock → K (a.put o.dst v') w') : Oper.wp Tryz.prog o a W K Q := by
  obtain ⟨v', w', hrun, r1, r2, r3⟩ := run_app_ev2 o.type hown hG hlen hbase
  unfold Oper.wp
  simp [execOp, ho, resolve, invoke, builtin, hs, hx, hrun, Result.andThen]
  exact h v' w' r1 r2 r3
theorem wpList_app_ev2 {W : World} {ops : Array Oper} {rest : List Oper} {o : Oper} {a : Act} {Q : Exit → Act → World → Prop} (hgd : o.guard = none) (s x : Operand)
    (ho : o.op = .call { callee := .builtin .append, args := #[s, x], argTypes := #[22, 22] })
    (base G : Nat) (v : Value) (l : List Ev) (y z : Ev) (hs : a.eval s = v) (hx : a.eval x = .slice (some ⟨G, 0, none⟩) 2 2) (hown : EOwn W base v l) (hG : ∀ j u, (evCs y ++ evCs z)[j]? = some u → W.cell? ⟨G, j, none⟩ = some u) (hlen : l.length ≤ 65536) (hbase : base ≤ W.heap.size)
    (h : ∀ v' w', EOwn w' base v' (l ++ [y, z]) → Below base W w' → W.grownBy w' v.ownBlock → wpList Tryz.prog ops Q rest (a.put o.dst v') w') : wpList Tryz.prog ops Q (o :: rest) a W :=
  wpList_plain hgd fun _ hK => wp_app_ev2 s x ho base G v l y z hs hx hown hG hlen hbase fun v' w' h1 h2 h3 => hK _ _ (h v' w' h1 h2 h3)
end Go.Proofs.YtfgangkpebkicaaGreatDoor
