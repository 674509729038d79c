/-
  Contract of zones.open.
-/
import Derived.Test.YtphhbojdolhieaaZOpenP
import Derived.Test.YtphhbojdolhieaaZSmall
import Derived.Test.YtphhbojdolhieaaCalls
namespace Go.Proofs.Ytphhbojdolhieaa
open Go.RowKit Go.Maps
set_option maxRecDepth 20000

theorem ZoOwn.then_ {w w' : World} {B : Nat} {v : Value} {l : List Zop} (h : ZoOwn w B v l) (hb : Below w.heap.size w w') : ZoOwn w' B v l :=
  World.ownsRow.kept h (row := none) ⟨hb.os, hb.tape, hb.output, hb.size, fun i hi _ => hb.block i hi⟩ (by cases v.ownBlock <;> simp)
/-- m[k] = v, as it runs. -/
theorem ZMap.store {w : World} {b n : Nat} {F : Int → Option Zop} (h : ZMap w b n F) (k : Int) (r : Zop) (h0 : -1000000 ≤ k) (h1 : k ≤ 1000000) (hn : n ≤ 1000000000000) :
    ∃ w', (Instr.mapUpdate 56 (.map (some b)) (.int .i64 k) (zoV r)).run Try.prog w = .ok () w' ∧ ZMap w' b (n + 1) (fun c => if c = k then some r else F c) ∧ w.grownBy w' (some b) := by
  obtain ⟨D, h, h2⟩ := h
  obtain ⟨w', hrun, h3, h4⟩ := h.update keyed_z Try.underlying56 (by unfold maxLen; omega) (key_z h0 h1) (zoR_mk r)
  refine ⟨w', hrun, ⟨_, h3, fun c => ?_⟩, h4⟩
  by_cases e : c = k
  · subst e
    simp only [if_true]
    refine ⟨has_put_same h.isMap (by first | exact trivial | decide | simp [WideAt.IsKeyLit]) _, fun y hy zd => ?_⟩
    injection hy with hy
    subst hy
    exact atKey_put_same (k := .int .i64 c) h.isMap (by first | exact trivial | decide | simp [WideAt.IsKeyLit]) _ _
  · simp only [e, if_false]
    have hne : (Lit.int .i64 k) ≠ .int .i64 c := fun h5 => e (Eq.symm (by injection h5))
    refine ⟨(has_put_other hne.symm _).trans (h2 c).1, fun y hy zd => ?_⟩
    rw [atKey_put_other hne.symm]
    exact (h2 c).2 y hy zd
/-- What the loop of open keeps. -/
structure OzR (w : World) (B M Q : Nat) (A : Option Addr) (cap n : Nat) (cs : List Cl) (k : Nat) (rv : Value) (wr : World) : Prop where
  below : Below w.heap.size w wr
  cls : CRd wr B (.slice A n cap) cs
  res : Lies wr w.heap.size 59 #[.map none, .slice none 0 0]
  rcd : Lies wr Q 59 #[.map (some M), rv]
  map_ : ∃ m, m ≤ k + 1 ∧ ZMap wr M m (wUp cs k)
  own : ZoOwn wr (Q + 1) rv (rds 0 (cs.take k))
  sz : w.heap.size < B ∧ B ≤ M ∧ M < Q ∧ Q < wr.heap.size
section
variable {w : World} {B M Q : Nat} {A : Option Addr} {cap n : Nat} {cs : List Cl} {k : Nat} {rv rv' : Value} {wr w' : World}
theorem OzR.next (h : OzR w B M Q A cap n cs k rv wr) (hb : Below wr.heap.size wr w') : OzR w B M Q A cap n cs k rv w' := by
  obtain ⟨m, hm, h7⟩ := h.map_
  have h1 := h.sz
  exact ⟨h.below.trans (hb.mono h.below.size), h.cls.below (hb.mono (by omega)), Lies.below h.res hb h.res.lt, Lies.below h.rcd hb h.rcd.lt, ⟨m, hm, h7.below hb h7.lt⟩, h.own.then_ hb, by have := hb.size; omega⟩
/-- A cell of a block that is none of these. -/
theorem OzR.poke (h : OzR w B M Q A cap n cs k rv wr) {V : Nat} (hV : Q < V) (hr : ∀ g, rv.ownBlock = some g → g < V) (i : Nat) (u : Value) : OzR w B M Q A cap n cs k rv (wr.setCell ⟨V, i, none⟩ u) := by
  obtain ⟨m, hm, h7⟩ := h.map_
  have h1 := h.sz
  have hb : Below V wr (wr.setCell ⟨V, i, none⟩ u) := (Below.refl _ _).setCell (p := ⟨V, i, none⟩) (Nat.le_refl _) _
  refine ⟨h.below.trans (hb.mono (by omega)), h.cls.below (hb.mono (by omega)), Lies.below h.res hb (by omega), Lies.below h.rcd hb hV, ⟨m, hm, h7.below hb (by omega)⟩, ?_, by have := hb.size; omega⟩
  refine World.ownsRow.kept h.own (row := some V) ⟨rfl, rfl, rfl, by rw [World.size_setCell]; exact Nat.le_refl _, fun j _ hne => Below.heap_setCell wr _ u j (fun e => hne (by rw [e]))⟩ ?_
  cases hv : rv.ownBlock with
  | none => exact .inl rfl
  | some g =>
    right
    have := hr g hv
    intro e
    injection e with e
    omega
/-- A read more. -/
theorem OzR.read (h : OzR w B M Q A cap n cs k rv wr) (hb : Below (Q + 1) wr w') {c : Cl} (hc : cs[k]? = some c) (hk : c.kind ≠ 1) (ho : ZoOwn w' (Q + 1) rv' (rds 0 (cs.take (k + 1)))) : OzR w B M Q A cap n cs (k + 1) rv' (w'.setCell ⟨Q, 1, none⟩ rv') := by
  obtain ⟨m, hm, h7⟩ := h.map_
  have h1 := h.sz
  have hb2 : Below Q wr (w'.setCell ⟨Q, 1, none⟩ rv') := (show Below Q wr w' from hb.mono (by omega)).setCell (p := ⟨Q, 1, none⟩) (Nat.le_refl _) _
  refine ⟨h.below.trans (hb2.mono (by omega)), h.cls.below (hb2.mono (by omega)), Lies.below h.res hb2 (by omega), Lies.cast (Lies.set_ (Lies.below h.rcd hb (by omega)) 1 rv') (by simp), ⟨m, by omega, ?_⟩, ?_, by have := hb2.size; omega⟩
  · exact (h7.below hb2 (by omega)).congr fun v => (wUp_other hc hk v).symm
  · refine World.ownsRow.kept ho (row := some Q) ⟨rfl, rfl, rfl, by rw [World.size_setCell]; exact Nat.le_refl _, fun i _ hne => Below.heap_setCell w' _ rv' i (fun e => hne (by rw [e]))⟩ ?_
    cases hv : rv'.ownBlock with
    | none => exact .inl rfl
    | some g =>
      right
      have := (World.ownsRow.lt ho g hv).1
      intro e
      injection e with e
      omega
/-- Nothing of a call that writes nothing and was not answered. -/
theorem OzR.pass (h : OzR w B M Q A cap n cs k rv wr) {c : Cl} (hc : cs[k]? = some c) (hk : c.kind ≠ 1) (hr : isR c = false) : OzR w B M Q A cap n cs (k + 1) rv wr := by
  obtain ⟨m, hm, h7⟩ := h.map_
  refine ⟨h.below, h.cls, h.res, h.rcd, ⟨m, by omega, h7.congr fun v => (wUp_other hc hk v).symm⟩, ?_, h.sz⟩
  rw [rds_snoc hc, hr, if_neg (by decide)]
  exact h.own
/-- A write more. -/
theorem OzR.write (h : OzR w B M Q A cap n cs k rv wr) (hg : wr.grownBy w' (some M)) {c : Cl} (hc : cs[k]? = some c) (hk : c.kind = 1) {m : Nat} (hm : m ≤ k + 2) (h7 : ZMap w' M m (wUp cs (k + 1))) : OzR w B M Q A cap n cs (k + 1) rv w' := by
  have h1 := h.sz
  have hb : Below M wr w' := ⟨hg.os, hg.tape, hg.output, hg.size, fun i hi => hg.block i (by omega) (fun e => by injection e with e; omega)⟩
  refine ⟨h.below.trans (hb.mono (by omega)), h.cls.below (hb.mono h1.2.1), Lies.below h.res hb (by omega), Lies.keep h.rcd (hg.block Q h1.2.2.2 (fun e => by injection e with e; omega)), ⟨m, by omega, h7⟩, ?_, by have := hg.size; omega⟩
  rw [rds_snoc hc, if_neg (by rw [isR_iff]; omega)]
  refine World.ownsRow.kept h.own hg ?_
  cases hv : rv.ownBlock with
  | none => exact .inl rfl
  | some g =>
    right
    have := (World.ownsRow.lt h.own g hv).1
    intro e
    injection e with e
    omega
end
def OpenZ (w : World) (l : List Ev) (e : Ending) (w' : World) : Prop :=
  Below w.heap.size w w' ∧ ((zonesE l ≠ 0 ∧ e = .returned (.tuple #[.agg #[.map none, .slice none 0 0], .int .i64 (zonesE l)])) ∨
    (zonesE l = 0 ∧ ∃ M rv m, e = .returned (.tuple #[.agg #[.map (some M), rv], .int .i64 0]) ∧ m ≤ 2000 ∧ ZMap w' M m (wOf (callsOf [1] l).1) ∧ ZoRd w' w'.heap.size rv (rds 0 (callsOf [1] l).1)))
set_option maxHeartbeats 8000000 in
theorem zopen_any {lv : Value} {l : List Ev} {w : World} (hl : ERd w w.heap.size lv l) :
    Calls Try.prog 23 #[lv] w (OpenZ w l) := by
  have hb0 : Below w.heap.size w (w.alloc (.cells #[.map none, .slice none 0 0] 59)) := (Below.refl _ _).alloc (Nat.le_refl _) _
  have hb1 : Below w.heap.size w ((w.alloc (.cells #[.map none, .slice none 0 0] 59)).alloc (.cells #[.int .i64 1] 3)) := hb0.alloc hb0.size _
  have hts : NRd ((w.alloc (.cells #[.map none, .slice none 0 0] 59)).alloc (.cells #[.int .i64 1] 3)) ((w.alloc (.cells #[.map none, .slice none 0 0] 59)).alloc (.cells #[.int .i64 1] 3)).heap.size (.slice (some ⟨w.heap.size + 1, 0, none⟩) 1 1) [1] := by
    have h9 := LRd.of_lit (f := intCs) (s := 1) (w := w.alloc (.cells #[.map none, .slice none 0 0] 59)) (l := [1]) (fun _ => rfl) 3 (cs := #[.int .i64 1]) rfl (n := 1) rfl (by unfold maxLen; omega)
    rw [World.size_alloc] at h9
    exact h9.mono (by simp)
  have hres : Lies ((w.alloc (.cells #[.map none, .slice none 0 0] 59)).alloc (.cells #[.int .i64 1] 3)) w.heap.size 59 #[.map none, .slice none 0 0] := Lies.alloc (Lies.new _ _ _) _
  have HC := Lib.hid (calls_any hts ((hl.below hb1).mono hb1.size))
  obtain ⟨Al, capl, rfl, -, -⟩ := hl.is
  have H1 := Lib.hid (And.intro hb1 hres)
  have hze : zonesE l = if (callsOf [1] l).2.2 ≠ 0 then (callsOf [1] l).2.2 else if onceZ (callsOf [1] l).1 = true then 0 else 6 := rfl
  have hkk := fun (h0 : (callsOf [1] l).2.2 = 0) => And.intro (calls_callOk h0) (calls_len h0)
  obtain ⟨E, hE⟩ : ∃ E, E = zonesE l := ⟨_, rfl⟩
  obtain ⟨CS, hCS⟩ : ∃ CS, CS = (callsOf [1] l).1 := ⟨_, rfl⟩
  have hpost : OpenZ w l = fun e w' => Below w.heap.size w w' ∧ ((E ≠ 0 ∧ e = .returned (.tuple #[.agg #[.map none, .slice none 0 0], .int .i64 E])) ∨
    (E = 0 ∧ ∃ M rv m, e = .returned (.tuple #[.agg #[.map (some M), rv], .int .i64 0]) ∧ m ≤ 2000 ∧ ZMap w' M m (wOf CS) ∧ ZoRd w' w'.heap.size rv (rds 0 CS))) := by
    rw [hE, hCS]; rfl
  rw [hpost]
  rw [← hE] at hze
  clear hpost hE hl hb0 hb1 hts hres
  generalize callsOf [1] l = o at HC hze hkk hCS
  generalize l.length = L at HC ⊢
  have HZE := Lib.hid (And.intro hze (And.intro hkk hCS))
  clear hze hkk hCS
  have hmm := @run_makeMap Try.prog
  go_enter Try.func23, Try.ntmps23
  go_wp2_with fail
  refine HC.out.mono ?_
  rintro e w1 ⟨v, rfl, hb1, hcr⟩
  obtain ⟨cs, at1, E0⟩ := o
  obtain ⟨hze, hkk, hCS⟩ := HZE.out
  simp only at hcr hze hkk hCS ⊢
  subst hCS
  obtain ⟨A, cap, rfl, -, hc9⟩ := hcr.is
  unfold maxLen at hc9
  have hres1 : Lies w1 w.heap.size 59 #[.map none, .slice none 0 0] := Lies.below H1.out.2 hb1 H1.out.2.lt
  have hbw : Below w.heap.size w w1 := H1.out.1.trans (hb1.mono H1.out.1.size)
  have r0 := Lies.cell hres1 0
  have r1 := Lies.cell hres1 1
  have rf : ∀ i, w1.frozen? ⟨w.heap.size, i, none⟩ = false := fun i => Lies.frozen hres1 i
  simp only [List.getElem?_toArray, List.getElem?_cons_zero, List.getElem?_cons_succ] at r0 r1
  have H2 := Lib.hid (And.intro hbw (And.intro hcr hres1))
  clear HC H1 hb1 hcr hres1 hbw HZE
  obtain ⟨n, hn⟩ : ∃ n, n = CS.length := ⟨_, rfl⟩
  by_cases hE0 : E0 = 0
  · subst hE0
    rw [if_neg (fun h => h rfl)] at hze
    obtain ⟨hok, hlen⟩ := hkk rfl
    have hn2 : n ≤ 200 := by rw [hn]; exact hlen
    have hkd : ∀ c ∈ CS, (c.kind = 1 ∧ 1 ≤ c.arg ∧ c.arg ≤ 1000) ∨ (c.kind = 2 ∧ c.arg = 0) := fun c hc => callOk_kind (hok c hc)
    have hb2 : Below w1.heap.size w1 (w1.alloc (.map #[] 0)) := (Below.refl _ _).alloc (Nat.le_refl _) _
    have hmade := ZMap.made w1
    obtain ⟨W3, hrun, hmp, hg3⟩ : ∃ W3, (Instr.mapUpdate 56 (.map (some w1.heap.size)) (.int .i64 0) (.agg #[.int .i64 (-1), .int .i64 0, .int .i64 (-1), .int .i64 (-1)])).run Try.prog (w1.alloc (.map #[] 0)) = .ok () W3 ∧ ZMap W3 w1.heap.size 1 (wUp CS 0) ∧ (w1.alloc (.map #[] 0)).grownBy W3 (some w1.heap.size) := by
      obtain ⟨W3, h1, h2, h3⟩ := hmade.store 0 ⟨-1, 0, -1, -1⟩ (by omega) (by omega) (by omega)
      exact ⟨W3, h1, h2.congr fun v => (wUp_zero v).symm, h3⟩
    have hb3 : Below w1.heap.size w1 W3 := ⟨hg3.os, hg3.tape, hg3.output, by have := hg3.size; simp at this; omega, fun i hi => (hg3.block i (by simp; omega) (fun e => by injection e with e; omega)).trans (hb2.block i hi)⟩
    have hs3 : w1.heap.size < W3.heap.size := by have := hg3.size; simp at this; omega
    have hb4 : Below w1.heap.size w1 (W3.alloc (.cells #[.map (some w1.heap.size), .slice none 0 0] 59)) := hb3.alloc hb3.size _
    have h0 : OzR w w1.heap.size w1.heap.size W3.heap.size A cap n CS 0 (.slice none 0 0) (W3.alloc (.cells #[.map (some w1.heap.size), .slice none 0 0] 59)) :=
      ⟨H2.out.1.trans (hb4.mono H2.out.1.size), by rw [hn]; exact H2.out.2.1.below hb4, Lies.below H2.out.2.2 hb4 H2.out.2.2.lt, Lies.new _ _ _, ⟨1, by omega, hmp.keep (((Below.refl _ W3).alloc (Nat.le_refl _) _).block _ hmp.lt)⟩, ZoOwn.nil _ _, H2.out.2.2.lt, Nat.le_refl _, hs3, by simp⟩
    have H0 := Lib.hid h0
    have HK := Lib.hid (And.intro hn (And.intro hkd hze))
    rw [← hn]
    clear h0 hb4 hs3 hb3 hb2 hmade hmp hg3 hkd hok hlen hkk hn hze r0 r1 rf H2
    go_wp2_with fail
    clear hmm hrun
    have h0 := H0.out
    clear H0
    change Code.wp _ _ _ _ (W3.alloc (.cells #[.map (some w1.heap.size), .slice none 0 0] 59))
    generalize W3.alloc (.cells #[.map (some w1.heap.size), .slice none 0 0] 59) = W at h0 ⊢
    generalize w1.heap.size = M at h0 ⊢
    generalize W3.heap.size = Q at h0 ⊢
    go_loopw [30] (fun i wr => ∃ (k : Nat) (rv : Value), k ≤ n ∧ i = .int .i64 k ∧ (∀ (j : Nat) (c : Cl), j < k → CS[j]? = some c → c.kind = 1 → (wUp CS j c.arg).isSome = false) ∧ OzR w M M Q A cap n CS k rv wr) (fun i _ => n - (intOf i).toNat)
    case atStart => exact ⟨0, _, by omega, rfl, (fun j c h => by omega), h0⟩
    case round =>
      clear h0
      obtain ⟨k, rv, hk, rfl, hno, hO⟩ := hrel
      by_cases hkn : k < n
      · obtain ⟨x, hx⟩ : ∃ x, CS[k]? = some x := ⟨_, List.getElem?_eq_getElem (by rw [← HK.out.1]; exact hkn)⟩
        have hkx := HK.out.2.1 x (List.mem_of_getElem? hx)
        obtain ⟨g, o, rfl, -, d0, d1, d2, d3, d4, d5, d6⟩ := hO.cls.cl hx
        obtain ⟨x0, x1, x2, x3, x4, x5, x6⟩ := x
        simp only at d0 d1 d2 d3 d4 d5 d6 hkx
        have i1 : (0 : Int) ≤ (k : Int) := by omega
        have i2 : (k : Int) < (n : Int) := by omega
        have hal : Below wr.heap.size wr (wr.alloc (.cells #[.int .i64 x0, .int .i64 x1, .int .i64 x2, .int .i64 x3, .int .i64 x4, .int .i64 x5, .int .i64 x6] 47)) := (Below.refl _ _).alloc (Nat.le_refl _) _
        have HO := Lib.hid (And.intro (hO.next hal) (Lies.new wr 47 #[.int .i64 x0, .int .i64 x1, .int .i64 x2, .int .i64 x3, .int .i64 x4, .int .i64 x5, .int .i64 x6]))
        have HX := Lib.hid (And.intro hx hno)
        clear hO hx hal hno
        go_upto_region 8 with fail
        clear d0 d1 d2 d3 d4 d5 d6
        change Code.wp _ _ _ _ (wr.alloc (.cells #[.int .i64 x0, .int .i64 x1, .int .i64 x2, .int .i64 x3, .int .i64 x4, .int .i64 x5, .int .i64 x6] 47))
        generalize wr.alloc (.cells #[.int .i64 x0, .int .i64 x1, .int .i64 x2, .int .i64 x3, .int .i64 x4, .int .i64 x5, .int .i64 x6] 47) = W2 at HO ⊢
        generalize wr.heap.size = X at HO ⊢
        have e0 := Lies.cell HO.out.2 0
        have e1 := Lies.cell HO.out.2 1
        have e2 := Lies.cell HO.out.2 2
        have e3 := Lies.cell HO.out.2 3
        have e4 := Lies.cell HO.out.2 4
        have e5 := Lies.cell HO.out.2 5
        have e6 := Lies.cell HO.out.2 6
        simp only [List.getElem?_toArray, List.getElem?_cons_zero, List.getElem?_cons_succ] at e0 e1 e2 e3 e4 e5 e6
        rcases hkx with ⟨rfl, ha1, ha2⟩ | ⟨rfl, rfl⟩
        · -- a write
          obtain ⟨m, hm, hmp⟩ := HO.out.1.map_
          obtain ⟨ok, hok⟩ : ∃ ok, ok = (wUp CS k x3).isSome := ⟨_, rfl⟩
          have hlk := (hmp.val x3 (by omega) (by omega)).1
          rw [← hok] at hlk
          generalize (wUp CS k x3).getD default = Z at hlk
          obtain ⟨z0, z1, z2, z3⟩ := Z
          have r0 := Lies.cell HO.out.1.rcd 0
          have q0 := Lies.cell HO.out.1.res 0
          have q1 := Lies.cell HO.out.1.res 1
          simp only [List.getElem?_toArray, List.getElem?_cons_zero, List.getElem?_cons_succ] at r0 q0 q1
          have hal : Below W2.heap.size W2 (W2.alloc (.cells #[.int .i64 z0, .int .i64 z1, .int .i64 z2, .int .i64 z3] 78)) := (Below.refl _ _).alloc (Nat.le_refl _) _
          have HO2 := Lib.hid (And.intro (HO.out.1.next hal) (Lies.below HO.out.2 hal HO.out.2.lt))
          have HM := Lib.hid (And.intro hok (And.intro ha1 ha2))
          have HHM := Lib.hid hm
          clear HO hal hmp hok hm ha1 ha2
          go_upto_region 12 with fail
          change Code.wp _ _ _ _ (W2.alloc (.cells #[.int .i64 z0, .int .i64 z1, .int .i64 z2, .int .i64 z3] 78))
          clear e0 e1 e2 e3 e4 e5 e6 r0 q0 q1 hlk HHM
          generalize W2.alloc (.cells #[.int .i64 z0, .int .i64 z1, .int .i64 z2, .int .i64 z3] 78) = W4 at HO2 ⊢
          generalize W2.heap.size = Y at ⊢
          cases ok
          · -- a new value
            have e0 := Lies.cell HO2.out.2 0
            have e1 := Lies.cell HO2.out.2 1
            have e2 := Lies.cell HO2.out.2 2
            have e3 := Lies.cell HO2.out.2 3
            have e4 := Lies.cell HO2.out.2 4
            have e5 := Lies.cell HO2.out.2 5
            have e6 := Lies.cell HO2.out.2 6
            simp only [List.getElem?_toArray, List.getElem?_cons_zero, List.getElem?_cons_succ] at e0 e1 e2 e3 e4 e5 e6
            have hal : Below W4.heap.size W4 (W4.alloc (.cells #[.int .i64 k, .int .i64 x3, .int .i64 x5, .int .i64 x6] 78)) := (Below.refl _ _).alloc (Nat.le_refl _) _
            have HQV := Lib.hid (And.intro HO2.out.1.sz.2.2.2 (And.intro HO2.out.2.lt (fun g hg => (World.ownsRow.lt HO2.out.1.own g hg).2)))
            have HO5 := Lib.hid (And.intro (HO2.out.1.next hal) (And.intro (Lies.below HO2.out.2 hal HO2.out.2.lt) (Lies.new W4 78 #[.int .i64 k, .int .i64 x3, .int .i64 x5, .int .i64 x6])))
            clear HO2 hal
            go_upto_region 15 with fail
            change Code.wp _ _ _ _ (W4.alloc (.cells #[.int .i64 k, .int .i64 x3, .int .i64 x5, .int .i64 x6] 78))
            clear e0 e1 e2 e3 e4 e5 e6
            generalize W4.alloc (.cells #[.int .i64 k, .int .i64 x3, .int .i64 x5, .int .i64 x6] 78) = W5 at HO5 ⊢
            generalize W4.heap.size = V at HO5 HQV ⊢
            have e0 := Lies.cell HO5.out.2.1 0
            have e1 := Lies.cell HO5.out.2.1 1
            have e2 := Lies.cell HO5.out.2.1 2
            have e3 := Lies.cell HO5.out.2.1 3
            have e4 := Lies.cell HO5.out.2.1 4
            have e5 := Lies.cell HO5.out.2.1 5
            have e6 := Lies.cell HO5.out.2.1 6
            simp only [List.getElem?_toArray, List.getElem?_cons_zero, List.getElem?_cons_succ] at e0 e1 e2 e3 e4 e5 e6
            have HRS := Lib.hid (zresp_any ⟨x0, x1, 1, x3, x4, x5, x6⟩ W5)
            go_wp2_with fail
            refine HRS.out.mono ?_
            rintro e w6 ⟨rfl, hb6⟩
            have HO6 := Lib.hid (And.intro (HO5.out.1.next hb6) (And.intro (Lies.below HO5.out.2.1 hb6 HO5.out.2.1.lt) (Lies.below HO5.out.2.2 hb6 HO5.out.2.2.lt)))
            clear HO5 hb6 HRS e0 e1 e2 e3 e4 e5 e6
            have hnew : ∀ (j : Nat) (c : Cl), j < k + 1 → CS[j]? = some c → c.kind = 1 → (wUp CS j c.arg).isSome = false := fun j c hj hc hk1 => by
              rcases Nat.lt_or_ge j k with h9 | h9
              · exact HX.out.2 j c h9 hc hk1
              · obtain rfl : j = k := by omega
                rw [HX.out.1] at hc
                injection hc with hc
                subst hc
                exact HM.out.1.symm
            have HNW := Lib.hid hnew
            have hput := wUp_put HX.out.1 rfl (by rw [← Option.not_isSome_iff_eq_none, show (wUp CS k x3).isSome = false from HM.out.1.symm]; decide)
            by_cases ht : x6 = -1
            · subst ht
              have hO7 : OzR w M M Q (some ⟨g, o, none⟩) cap n CS k rv (w6.setCell ⟨V, 3, none⟩ (.int .i64 200)) := HO6.out.1.poke HQV.out.1 HQV.out.2.2 3 (.int .i64 200)
              have hX7 : Lies (w6.setCell ⟨V, 3, none⟩ (.int .i64 200)) X 47 #[.int .i64 x0, .int .i64 x1, .int .i64 1, .int .i64 x3, .int .i64 x4, .int .i64 x5, .int .i64 (-1)] := Lies.far HO6.out.2.1 (p := ⟨V, 3, none⟩) (by have := HQV.out.2.1; simp; omega) _
              have hV7 : Lies (w6.setCell ⟨V, 3, none⟩ (.int .i64 200)) V 78 #[.int .i64 k, .int .i64 x3, .int .i64 x5, .int .i64 200] := Lies.cast (Lies.set_ HO6.out.2.2 3 (.int .i64 200)) (by simp)
              obtain ⟨m7, hm7, hmp7⟩ := hO7.map_
              obtain ⟨W8, hrun8, hmp8, hg8⟩ := hmp7.store x3 ⟨k, x3, x5, 200⟩ (by have := HM.out; omega) (by have := HM.out; omega) (by omega)
              have hrun8 : (Instr.mapUpdate 56 (.map (some M)) (.int .i64 x3) (.agg #[.int .i64 k, .int .i64 x3, .int .i64 x5, .int .i64 200])).run Try.prog (w6.setCell ⟨V, 3, none⟩ (.int .i64 200)) = .ok () W8 := hrun8
              have hmp9 : ZMap W8 M (m7 + 1) (wUp CS (k + 1)) := by
                have hwz : wrZ k ⟨x0, x1, 1, x3, x4, x5, (-1)⟩ = ⟨k, x3, x5, 200⟩ := by unfold wrZ; simp
                rw [← hput]
                simp only [hwz]
                exact hmp8
              have HZ := Lib.hid (hO7.write hg8 HX.out.1 rfl (by omega) hmp9)
              have vf : ∀ i, w6.frozen? ⟨V, i, none⟩ = false := fun i => Lies.frozen HO6.out.2.2 i
              have vw := Lies.cell HO6.out.2.2 3
              simp only [List.getElem?_toArray, List.getElem?_cons_zero, List.getElem?_cons_succ] at vw
              have e3 := Lies.cell hX7 3
              have r0 := Lies.cell hO7.rcd 0
              have v0 := Lies.cell hV7 0
              have v1 := Lies.cell hV7 1
              have v2 := Lies.cell hV7 2
              have v3 := Lies.cell hV7 3
              simp only [List.getElem?_toArray, List.getElem?_cons_zero, List.getElem?_cons_succ] at e3 r0 v0 v1 v2 v3
              clear hO7 hX7 hV7 hmp7 hmp8 hg8 hmp9 hput hm7 hnew
              go_wp2_with fail
              go_roundw
              case rel => exact ⟨k + 1, rv, by omega, by go_num, HNW.out, HZ.out⟩
              case measure => simp [intOf]; omega
            · have hz : (x6 != -1) = true := by rw [bne_iff_ne]; exact ht
              have hO7 : OzR w M M Q (some ⟨g, o, none⟩) cap n CS k rv w6 := HO6.out.1
              have hX7 : Lies w6 X 47 #[.int .i64 x0, .int .i64 x1, .int .i64 1, .int .i64 x3, .int .i64 x4, .int .i64 x5, .int .i64 x6] := HO6.out.2.1
              have hV7 : Lies w6 V 78 #[.int .i64 k, .int .i64 x3, .int .i64 x5, .int .i64 x6] := HO6.out.2.2
              obtain ⟨m7, hm7, hmp7⟩ := hO7.map_
              obtain ⟨W8, hrun8, hmp8, hg8⟩ := hmp7.store x3 ⟨k, x3, x5, x6⟩ (by have := HM.out; omega) (by have := HM.out; omega) (by omega)
              have hrun8 : (Instr.mapUpdate 56 (.map (some M)) (.int .i64 x3) (.agg #[.int .i64 k, .int .i64 x3, .int .i64 x5, .int .i64 x6])).run Try.prog w6 = .ok () W8 := hrun8
              have hmp9 : ZMap W8 M (m7 + 1) (wUp CS (k + 1)) := by
                have hwz : wrZ k ⟨x0, x1, 1, x3, x4, x5, x6⟩ = ⟨k, x3, x5, x6⟩ := by unfold wrZ; simp [ht]
                rw [← hput]
                simp only [hwz]
                exact hmp8
              have HZ := Lib.hid (hO7.write hg8 HX.out.1 rfl (by omega) hmp9)
              clear ht
              have e3 := Lies.cell hX7 3
              have r0 := Lies.cell hO7.rcd 0
              have v0 := Lies.cell hV7 0
              have v1 := Lies.cell hV7 1
              have v2 := Lies.cell hV7 2
              have v3 := Lies.cell hV7 3
              simp only [List.getElem?_toArray, List.getElem?_cons_zero, List.getElem?_cons_succ] at e3 r0 v0 v1 v2 v3
              clear hO7 hX7 hV7 hmp7 hmp8 hg8 hmp9 hput hm7 hnew
              go_wp2_with fail
              go_roundw
              case rel => exact ⟨k + 1, rv, by omega, by go_num, HNW.out, HZ.out⟩
              case measure => simp [intOf]; omega
          · -- a value that was written before
            have q0 := Lies.cell HO2.out.1.res 0
            have q1 := Lies.cell HO2.out.1.res 1
            have qf : ∀ i, W4.frozen? ⟨w.heap.size, i, none⟩ = false := fun i => Lies.frozen HO2.out.1.res i
            simp only [List.getElem?_toArray, List.getElem?_cons_zero, List.getElem?_cons_succ] at q0 q1
            have hbad := once_not HX.out.1 rfl (by have := HM.out.2; show x3 ≠ 0; omega) HM.out.1.symm
            have hE := HK.out.2.2
            rw [hbad, if_neg (by decide)] at hE
            have HE := Lib.hid hE
            clear hE hbad
            go_wp2_with fail
            clear q0 q1 qf
            have hl := fill2_lies (a := .map none) (b := .slice none 0 0) HO2.out.1.res
            have hb := fill2_below (a := .map none) (b := .slice none 0 0) HO2.out.1.below (g := w.heap.size) (Nat.le_refl _)
            change bodyPost _ _ _ _ _ (fill2 W4 w.heap.size (.map none) (.slice none 0 0))
            generalize fill2 W4 w.heap.size (.map none) (.slice none 0 0) = wz at hl hb ⊢
            have q0 := Lies.cell hl 0
            have q1 := Lies.cell hl 1
            simp only [List.getElem?_toArray, List.getElem?_cons_zero, List.getElem?_cons_succ] at q0 q1
            exact bodyPost_ret (v := .tuple #[.agg #[.map none, .slice none 0 0], .int .i64 6]) (by simp [results, Try.results23, go_sem, q0, q1]) rfl ⟨hb, .inl ⟨by rw [HE.out]; decide, by rw [HE.out]⟩⟩
        · -- a read
          have HRS := Lib.hid (zresp_any ⟨x0, x1, 2, 0, x4, x5, x6⟩ W2)
          go_wp2_with fail
          refine HRS.out.mono ?_
          rintro e w4 ⟨rfl, hb4⟩
          have hL4 := Lies.below HO.out.2 hb4 HO.out.2.lt
          have HO4 := Lib.hid (And.intro (HO.out.1.next hb4) hL4)
          clear HO hb4 hL4 HRS e0 e1 e2 e3 e4 e5 e6
          by_cases ht : x6 = -1
          · subst ht
            have HQ := Lib.hid (HO4.out.1.pass HX.out.1 (by simp) (by rfl))
            go_wp2_with fail
            go_roundw
            case rel => exact ⟨k + 1, rv, by omega, by go_num, (fun j c hj hc hk1 => by
              rcases Nat.lt_or_ge j k with h9 | h9
              · exact HX.out.2 j c h9 hc hk1
              · obtain rfl : j = k := by omega
                rw [HX.out.1] at hc
                injection hc with hc
                subst hc
                simp at hk1), HQ.out⟩
            case measure => simp [intOf]; omega
          · have hz : (x6 != -1) = true := by rw [bne_iff_ne]; exact ht
            have HT := Lib.hid ht
            clear ht
            have e4 := Lies.cell HO4.out.2 4
            have e5 := Lies.cell HO4.out.2 5
            have e6 := Lies.cell HO4.out.2 6
            have r1 := Lies.cell HO4.out.1.rcd 1
            simp only [List.getElem?_toArray, List.getElem?_cons_zero, List.getElem?_cons_succ] at e4 e5 e6 r1
            have hal : Below w4.heap.size w4 (w4.alloc (.cells #[.int .i64 k, .int .i64 x4, .int .i64 x5, .int .i64 x6] 78)) := (Below.refl _ _).alloc (Nat.le_refl _) _
            have hown := (HO4.out.1.next hal).own
            have hnew := new_cells w4 78 (zoCs ⟨k, x4, x5, x6⟩)
            obtain ⟨Av, cv, hvv⟩ := own_slice_zo hown
            have hlen := rds_len (CS.take k) 0
            rw [List.length_take] at hlen
            have hsz := HO4.out.1.sz
            have HR := Lib.hid (fun (rv' : Value) (w' : World) (hb : Below (Q + 1) (w4.alloc (.cells #[.int .i64 k, .int .i64 x4, .int .i64 x5, .int .i64 x6] 78)) w') (ho : ZoOwn w' (Q + 1) rv' (rds 0 (CS.take k) ++ [⟨k, x4, x5, x6⟩])) => OzR.read (rv' := rv') (HO4.out.1.next hal) hb HX.out.1 (by simp) (by rw [rds_snoc HX.out.1, if_pos (isR_iff.2 ⟨rfl, HT.out⟩)]; exact ho))
            have HC := Lib.hid (fun (w' : World) (hb : Below (Q + 1) (w4.alloc (.cells #[.int .i64 k, .int .i64 x4, .int .i64 x5, .int .i64 x6] 78)) w') => Lies.below (HO4.out.1.next hal).rcd hb (Nat.lt_succ_self Q))
            rw [hvv] at hown HC r1
            clear hal
            go_wp2_with (at_builtin; refine wpList_app_zo rfl (.tmp 41) (.tmp 50) rfl (Q + 1) w4.heap.size _ (rds 0 (CS.take k)) ⟨k, x4, x5, x6⟩ rfl rfl hown hnew (by omega) (by simp; omega) ?_; intro v' w5 ho5 hb5 _; have hz5 := HR.out v' w5 hb5 ho5; have HZ5 := Lib.hid hz5; have hl5 := HC.out w5 hb5; have u0 := Lies.cell hl5 0; have u1 := Lies.cell hl5 1; have uf := fun i => Lies.frozen hl5 i; simp only [List.getElem?_toArray, List.getElem?_cons_zero, List.getElem?_cons_succ] at u0 u1; obtain ⟨A5, c5, hv5⟩ := own_slice_zo ho5; subst hv5; clear ho5 hb5 hz5 hl5)
            go_roundw
            case rel => exact ⟨k + 1, _, by omega, by go_num, (fun j c hj hc hk1 => by
              rcases Nat.lt_or_ge j k with h9 | h9
              · exact HX.out.2 j c h9 hc hk1
              · obtain rfl : j = k := by omega
                rw [HX.out.1] at hc
                injection hc with hc
                subst hc
                simp at hk1), (by have h9 := HZ5.out; rw [List.length_append] at h9; exact h9)⟩
            case measure => simp [intOf]; omega
      · obtain rfl : n = k := by omega
        have hones : onceZ CS = true := once_mk fun j c hc hk1 => hno j c (by have := (List.getElem?_eq_some_iff.1 hc).1; have := HK.out.1; omega) hc hk1
        have hE := HK.out.2.2
        rw [hones, if_pos rfl] at hE
        obtain ⟨m, hm, hmp⟩ := hO.map_
        have hown := hO.own
        have hmp2 : ZMap wr M m (wOf CS) := hmp.congr fun v => (by rw [HK.out.1]; exact wUp_all CS v)
        rw [HK.out.1, List.take_length] at hown
        obtain ⟨Av, cv, rfl⟩ := own_slice_zo hown
        have r0 := Lies.cell hO.rcd 0
        have r1 := Lies.cell hO.rcd 1
        have q0 := Lies.cell hO.res 0
        have q1 := Lies.cell hO.res 1
        have qf : ∀ i, wr.frozen? ⟨w.heap.size, i, none⟩ = false := fun i => Lies.frozen hO.res i
        simp only [List.getElem?_toArray, List.getElem?_cons_zero, List.getElem?_cons_succ] at r0 r1 q0 q1
        have HZ := Lib.hid (And.intro hO (And.intro hm (And.intro hmp2 (And.intro hown hE))))
        clear hO hno hones hE hm hmp hmp2 hown
        generalize (rds 0 CS).length = len at r1 HZ ⊢
        go_wp2_with fail
        clear r0 r1 q0 q1 qf
        have hne : w.heap.size ≠ Q := by have := HZ.out.1.sz; omega
        have hl := fill2_lies (a := .map (some M)) (b := .slice Av len cv) HZ.out.1.res
        have hb := fill2_below (a := .map (some M)) (b := .slice Av len cv) HZ.out.1.below (g := w.heap.size) (Nat.le_refl _)
        have hkeep : ∀ j, j ≠ w.heap.size → (fill2 wr w.heap.size (.map (some M)) (.slice Av len cv)).heap[j]? = wr.heap[j]? := fun j hj => by
          rw [Below.heap_setCell _ _ _ _ hj, Below.heap_setCell _ _ _ _ hj]
        have hmp := HZ.out.2.2.1.keep (hkeep M (by have := HZ.out.1.sz; omega))
        have hown : ZoOwn (fill2 wr w.heap.size (.map (some M)) (.slice Av len cv)) (Q + 1) (.slice Av len cv) (rds 0 CS) := by
          refine World.ownsRow.kept HZ.out.2.2.2.1 (row := some w.heap.size) ⟨rfl, rfl, rfl, by simp, fun i _ hi => hkeep i (fun e => hi (by rw [e]))⟩ ?_
          cases hv : (Value.slice Av len cv).ownBlock with
          | none => exact .inl rfl
          | some g =>
            right
            have h1 := (World.ownsRow.lt HZ.out.2.2.2.1 g hv).1
            have h2 := HZ.out.1.sz
            intro e
            injection e with e
            omega
        have hrd := hown.rd
        change bodyPost _ _ _ _ _ (fill2 wr w.heap.size (.map (some M)) (.slice Av len cv))
        clear hkeep hne hown
        generalize fill2 wr w.heap.size (.map (some M)) (.slice Av len cv) = wz at hl hb hmp hrd ⊢
        have q0 := Lies.cell hl 0
        have q1 := Lies.cell hl 1
        simp only [List.getElem?_toArray, List.getElem?_cons_zero, List.getElem?_cons_succ] at q0 q1
        exact bodyPost_ret (v := .tuple #[.agg #[.map (some M), .slice Av len cv], .int .i64 0]) (by simp [results, Try.results23, go_sem, q0, q1]) rfl ⟨hb, .inr ⟨HZ.out.2.2.2.2, M, _, m, rfl, by have := HZ.out.2.1; omega, hmp, hrd⟩⟩
  · rw [if_pos hE0] at hze
    subst hze
    have hz : (E != 0) = true := by rw [bne_iff_ne]; exact hE0
    have HE := Lib.hid hE0
    clear hE0 hkk hn hmm
    generalize CS.length = nn
    go_wp2_with fail
    clear r0 r1 rf
    have hl := fill2_lies (a := .map none) (b := .slice none 0 0) H2.out.2.2
    have hb := fill2_below (a := .map none) (b := .slice none 0 0) H2.out.1 (g := w.heap.size) (Nat.le_refl _)
    change bodyPost _ _ _ _ _ (fill2 w1 w.heap.size (.map none) (.slice none 0 0))
    generalize fill2 w1 w.heap.size (.map none) (.slice none 0 0) = wz at hl hb ⊢
    have q0 := Lies.cell hl 0
    have q1 := Lies.cell hl 1
    simp only [List.getElem?_toArray, List.getElem?_cons_zero, List.getElem?_cons_succ] at q0 q1
    exact bodyPost_ret (v := .tuple #[.agg #[.map none, .slice none 0 0], .int .i64 E]) (by simp [results, Try.results23, go_sem, q0, q1]) rfl ⟨hb, .inl ⟨HE.out, rfl⟩⟩
end Go.Proofs.Ytphhbojdolhieaa
