/-
  Joined by a program out of: CallsO, SNeverP, SNeverW, SNeverCard.
-/
import Derived.Test.YtecpjeililiafaaDoorMgAI
import Derived.Test.YtecpjeililiafaaDoorMgAW
import Derived.Test.YtecpjeililiafaaDoorMgBA
import Derived.Test.YtecpjeililiafaaDoorMgBB
import Derived.Test.YtecpjeililiafaaDoorMgAX
import Derived.Test.YtecpjeililiafaaDoorTie
import Derived.Test.YtecpjeililiafaaDoorCards
import Derived.SevenTiedAt
import Derived.Stop.Joined

/-
  Contract of history.Calls: the calls lie in a row of the call's own.
-/
namespace Go.Proofs.YtecpjeililiafaaDoor
open Go.RowKit
set_option maxRecDepth 20000

def CallsOPost (w : World) (o : List Cl × Nat × Int) (e : Ending) (w' : World) : Prop :=
  ∃ v, e = .returned (.tuple #[v, .int .i64 (o.2.1 : Nat), .int .i64 o.2.2]) ∧ Below w.heap.size w w' ∧ COwn w' w.heap.size v o.1
theorem COwn.base {w : World} {B B' : Nat} {v : Value} {l : List Cl} (h : COwn w B v l) (hB : B' ≤ B) : COwn w B' v l :=
  ⟨h.1, h.2.imp (fun h => h) fun ⟨g, cap, cur, h1, h2, h3⟩ => ⟨g, cap, cur, h1, Nat.le_trans hB h2, h3⟩⟩

set_option maxHeartbeats 4000000 in
theorem calls_own {tv lv : Value} {ts : List Int} {l : List Ev} {w : World} (ht : NRd w w.heap.size tv ts) (hl : ERd w w.heap.size lv l) :
    Calls Tryd.prog 47 #[tv, lv] w (CallsOPost w (callsOf ts l)) := by
  have er : callsOf ts l = if typesB ts = false then ([], 0, 1) else if 200 < l.length then ([], 0, 2) else run ts 0 [] l := rfl
  generalize callsOf ts l = o at er ⊢
  obtain ⟨At, capt, rfl, m1, m2⟩ := ht.is
  obtain ⟨Al, capl, rfl, m3, m4⟩ := hl.is
  unfold maxLen at m2 m4
  have HT := Lib.hid ht
  have HL := Lib.hid hl
  clear ht hl
  cases hb : typesB ts
  · rw [if_pos hb] at er
    subst er
    have HV := Lib.hid (valid_any HT.out)
    rw [hb] at HV
    clear hb
    go_enter Tryd.func47, Tryd.ntmps47
    go_wp2_with fail
    refine HV.out.mono ?_
    rintro e w' ⟨rfl, rfl⟩
    go_wp2_with fail
    go_ret3
    exact ⟨_, rfl, Below.refl _ _, World.ownsRow_nil _ _ _ _⟩
  · rw [if_neg (by rw [hb]; decide)] at er
    have HV := Lib.hid (valid_any HT.out)
    rw [hb] at HV
    clear hb
    by_cases hn : 200 < l.length
    · rw [if_pos hn] at er
      subst er
      have hn' : (200 : Int) < (l.length : Int) := by omega
      go_enter Tryd.func47, Tryd.ntmps47
      go_wp2_with fail
      refine HV.out.mono ?_
      rintro e w' ⟨rfl, rfl⟩
      go_wp2_with fail
      go_ret3
      exact ⟨_, rfl, Below.refl _ _, World.ownsRow_nil _ _ _ _⟩
    · rw [if_neg hn] at er
      have hn' : ¬ (200 : Int) < (l.length : Int) := by omega
      have HE := Lib.hid er
      have HR0 := Lib.hid (rec_start w _ ts HT.out)
      clear er
      go_enter Tryd.func47, Tryd.ntmps47
      go_wp2_with fail
      refine HV.out.mono ?_
      rintro e w' ⟨rfl, rfl⟩
      go_wp2_with fail
      obtain ⟨L, hL⟩ : ∃ L, L = l.length := ⟨_, rfl⟩
      have HR1 := HR0.out
      clear HR0
      change Code.wp _ _ _ _ (w.alloc (.cells (recCs (.slice At ts.length capt) (.slice none 0 0) (fun _ => false) (fun _ => 0)) 112))
      have hb0 : Below w.heap.size w (w.alloc (.cells (recCs (.slice At ts.length capt) (.slice none 0 0) (fun _ => false) (fun _ => 0)) 112)) := (Below.refl _ _).alloc (Nat.le_refl _) _
      obtain ⟨g, hg⟩ : ∃ g, g = w.heap.size := ⟨_, rfl⟩
      rw [← hg] at HR1
      rw [← hg]
      have HG := Lib.hid hg
      clear hg
      generalize w.alloc (.cells (recCs (.slice At ts.length capt) (.slice none 0 0) (fun _ => false) (fun _ => 0)) 112) = W at HR1 hb0 ⊢
      rw [← hL]
      rw [← hL] at m3 hn hn'
      have HLL := Lib.hid hL
      clear hL
      go_loopw [21] (fun i wr => ∃ (k : Nat) (cs : List Cl), k ≤ L ∧ i = .int .i64 k ∧ cs.length ≤ k ∧ run ts 0 [] l = run ts k cs (l.drop k) ∧ RecS g (.slice At ts.length capt) ts cs wr ∧ Below w.heap.size w wr) (fun i _ => L - (intOf i).toNat)
      case atStart => exact ⟨0, [], by omega, rfl, by simp, by simp, HR1, hb0⟩
      case round =>
        clear HR1 hb0
        obtain ⟨k, cs, hk, rfl, hck, hrun, hR, hB⟩ := hrel
        have HA := Lib.hid (And.intro hrun (And.intro hR hB))
        by_cases hkL : k < L
        · have hkl : k < l.length := by rw [← HLL.out]; exact hkL
          obtain ⟨x, hx⟩ : ∃ x, l[k]? = some x := ⟨_, List.getElem?_eq_getElem hkl⟩
          have hxe : l[k] = x := (List.getElem?_eq_some_iff.1 hx).2
          have hL' := HL.out.below hB
          rw [← HLL.out] at hL'
          obtain ⟨gl, o', rfl, hgl, d0, d1, d2, d3⟩ := hL'.ev hx
          have hst := run_drop (ts := ts) hkl cs
          rw [hxe] at hst
          generalize hs : step ts k cs x = s at hst
          have i1 : (0 : Int) ≤ (k : Int) := by omega
          have i2 : (k : Int) < (L : Int) := by omega
          obtain ⟨xw, xt, xk, xv⟩ := x
          have hR2 := hR.next ((Below.refl _ _).alloc (Nat.le_refl _) (.cells (evCs ⟨xw, xt, xk, xv⟩).toArray 77))
          have hl2 := Lies.new wr 77 (evCs ⟨xw, xt, xk, xv⟩).toArray
          have hb2 : Below w.heap.size w (wr.alloc (.cells (evCs ⟨xw, xt, xk, xv⟩).toArray 77)) := hB.alloc hB.size _
          have HX := Lib.hid (And.intro hst (And.intro hs (And.intro hR2 (And.intro hl2 hb2))))
          clear hx hxe hL' hst hs hrun hR hB hR2 hl2 hb2
          go_wp2_with fail
          change Calls _ _ _ (wr.alloc (.cells (evCs ⟨xw, xt, xk, xv⟩).toArray 77)) _
          generalize wr.alloc (.cells (evCs ⟨xw, xt, xk, xv⟩).toArray 77) = W2 at HX ⊢
          have hc := add_any HX.out.2.2.1 k ⟨xw, xt, xk, xv⟩ (by omega)
          rw [HX.out.2.1] at hc
          clear d0 d1 d2 d3
          refine hc.mono ?_
          rintro e w' ⟨hbw, hd⟩
          have hb' : Below w.heap.size w w' := HX.out.2.2.2.2.trans (by rw [← HG.out]; exact hbw)
          cases s with
          | inl r =>
            simp only at hd
            subst hd
            have hr : (r != 0) = true := by rw [bne_iff_ne]; exact step_err HX.out.2.1
            have HY := Lib.hid hb'
            clear hb' hbw hc
            go_wp2_with fail
            go_ret3
            have e := HE.out
            rw [HA.out.1, HX.out.1] at e
            subst e
            exact ⟨_, rfl, HY.out, World.ownsRow_nil _ _ _ _⟩
          | inr cs' =>
            obtain ⟨rfl, hd⟩ := hd
            have HY := Lib.hid (And.intro hb' hd)
            have HLN := Lib.hid (step_len HX.out.2.1)
            clear hb' hbw hd hc
            go_wp2_with fail
            go_roundw
            case rel => exact ⟨k + 1, cs', by omega, by go_num, by have := HLN.out; omega, HA.out.1.trans HX.out.1, HY.out.2, HY.out.1⟩
            case measure => simp [intOf]; omega
        · obtain rfl : k = L := by omega
          have hre : run ts 0 [] l = (cs, 0, 0) := by rw [HA.out.1, HLL.out, List.drop_length]; rfl
          have HZ := Lib.hid hre
          obtain ⟨⟨cv, b, c, h1, h2, h3⟩, h4⟩ := hR
          have r1 := h1.calls
          have HW := Lib.hid (And.intro h1 h2)
          clear hre hrun h1 h2 h3 h4 hB
          go_wp2_with fail
          go_ret3
          have e := HE.out
          rw [HZ.out] at e
          subst e
          exact ⟨_, rfl, HA.out.2.2, COwn.base HW.out.2 (by have := HG.out; omega)⟩
end Go.Proofs.YtecpjeililiafaaDoor

/-
  For the law SearchNever: what it comes to; what a round leaves as it was.
-/
namespace Go.Proofs.YtecpjeililiafaaDoor
open Go.RowKit
set_option maxRecDepth 20000

theorem never_found {ts : List Int} {l : List Ev} {k : Nat} {a b : List (Int × Int)} {v : Int} (hf : foundB ts (callsOf ts l) = true) (hL : l.length < 200) (hk : k < (callsOf ts l).1.length) (ht : ((callsOf ts l).1.getD k default).til = -1)
    (h : foundL ts (callsOf ts l) = a ++ ((k : Int), v) :: b ∨ (b = [] ∧ foundL ts (callsOf ts l) = a ∧ (k : Int) ∉ a.map (·.1))) :
    ((a ++ ((k : Int), v) :: b).map (·.1)).Nodup ∧ ∃ r, -1 ≤ r ∧ r ≤ 1000 ∧ (∀ n, rightB ts (callsOf ts l) (a ++ ((k : Int), n) :: b) = decide (n = r)) ∧
      searchE (callsOf ts (l ++ [⟨((callsOf ts l).1.getD k default).who, ((callsOf ts l).1.getD k default).thing, 0, r⟩])) = 0 ∧ foundB ts (callsOf ts (l ++ [⟨((callsOf ts l).1.getD k default).who, ((callsOf ts l).1.getD k default).thing, 0, r⟩])) = true := by
  have hr := foundL_rite hf
  obtain ⟨hE, -⟩ := foundB_iff.1 hf
  obtain ⟨h0, h9⟩ := search_ok.1 hE
  have hty : ∀ t ∈ ts, 1 ≤ t ∧ t ≤ 5 := by
    have h1 := (calls_zero h0).1
    unfold typesB at h1
    simp only [Bool.and_eq_true, List.all_eq_true, decide_eq_true_eq] at h1
    exact h1.2
  have h2 : Rite ts (callsOf ts l).1 (a ++ ((k : Int), v) :: b) ∨ (b = [] ∧ Rite ts (callsOf ts l).1 a ∧ (k : Int) ∉ a.map (·.1)) := by
    rcases h with h | ⟨h1, h2, h3⟩
    · exact .inl (by rw [← h]; exact hr)
    · exact .inr ⟨h1, by rw [← h2]; exact hr, h3⟩
  obtain ⟨r, r1, r2, r3, r4⟩ := one_answer hty (by omega) (calls_callOk h0) hk ht h2
  have hR := (r4 r).2 rfl
  refine ⟨?_, r, r1, r2, fun n => ?_, ?_⟩
  · have := hR.once
    rw [List.map_append, List.map_cons] at this ⊢
    exact this
  · rw [Bool.eq_iff_iff, rightB_iff, decide_eq_true_iff, ← r4 n]
    exact ⟨fun h => h.2, fun h => ⟨hE, h⟩⟩
  · have hc := answer_calls h0 hL hk ht r3
    have h5 : searchE (callsOf ts (l ++ [⟨((callsOf ts l).1.getD k default).who, ((callsOf ts l).1.getD k default).thing, 0, r⟩])) = 0 := by
      rw [search_ok, hc]
      exact ⟨rfl, by rw [List.length_set]; exact h9⟩
    refine ⟨h5, foundB_iff.2 ⟨h5, a ++ ((k : Int), r) :: b, ?_⟩⟩
    · rw [hc]
      have htd : Tidy l.length (callsOf ts l).1 := (calls_orderly h0).1.tidy
      exact answered_rite htd hk hR
/-- Where it stands first, it stands alone. -/
theorem first_alone {k : Int} {a b : List (Int × Int)} {v r : Int} (hn : ((a ++ (k, v) :: b).map (·.1)).Nodup) (h : FirstAt k (a ++ (k, v) :: b) r) : r = (a.length : Int) := by
  rcases h with ⟨_, h⟩ | ⟨i, x, rfl, hx, e⟩
  · exact absurd rfl (h (k, v) (by simp))
  · have h1 : ((a ++ (k, v) :: b).map (·.1))[i]? = some k := by rw [List.getElem?_map, hx]; simp [e]
    have h2 : ((a ++ (k, v) :: b).map (·.1))[a.length]? = some k := by rw [List.getElem?_map]; simp
    obtain ⟨i1, e1⟩ := List.getElem?_eq_some_iff.1 h1
    obtain ⟨i2, e2⟩ := List.getElem?_eq_some_iff.1 h2
    have : i = a.length := by
      rcases Nat.lt_trichotomy i a.length with hlt | heq | hgt
      · exact absurd (by rw [e1, e2]) (List.pairwise_iff_getElem.1 hn i a.length i1 i2 hlt)
      · exact heq
      · exact absurd (by rw [e1, e2]) (List.pairwise_iff_getElem.1 hn a.length i i2 i1 hgt)
    rw [this]
theorem flat_res : ∀ (a b : List (Int × Int)) (k v n : Int), ((a ++ (k, v) :: b).flatMap spCs).set (a.length * 2 + 1) (.int .i64 n) = (a ++ (k, n) :: b).flatMap spCs
  | [], b, k, v, n => by simp [List.flatMap_cons]
  | z :: a, b, k, v, n => by
    have ih := flat_res a b k v n
    rw [show ((z :: a) ++ (k, v) :: b).flatMap spCs = spCs z ++ (a ++ (k, v) :: b).flatMap spCs from List.flatMap_cons, show ((z :: a) ++ (k, n) :: b).flatMap spCs = spCs z ++ (a ++ (k, n) :: b).flatMap spCs from List.flatMap_cons, ← ih]
    rw [show (z :: a).length * 2 + 1 = (spCs z).length + (a.length * 2 + 1) by simp; omega]
    rw [List.set_append_right _ _ (Nat.le_add_right _ _), Nat.add_sub_cancel_left]
/-- What a round finds. -/
structure NeR (W0 : World) (g M cap : Nat) (xs : List (Int × Int)) (gc oc : Nat) (who thing : Int) (X : World) : Prop where
  below : Below W0.heap.size W0 X
  row : TOwn X W0.heap.size (.slice (some ⟨g, 0, none⟩) M cap) xs
  c0 : X.cell? ⟨gc, oc, none⟩ = some (.int .i64 who)
  c1 : X.cell? ⟨gc, oc + 1, none⟩ = some (.int .i64 thing)
  far : gc ≠ g
  gcl : gc < X.heap.size
theorem NeR.next {W0 : World} {g M cap : Nat} {xs : List (Int × Int)} {gc oc : Nat} {who thing : Int} {X X' : World} (h : NeR W0 g M cap xs gc oc who thing X) (hb : Below X.heap.size X X') : NeR W0 g M cap xs gc oc who thing X' :=
  ⟨h.below.trans (hb.mono h.below.size), h.row.below hb, (hb.cell (p := ⟨gc, oc, none⟩) h.gcl).trans h.c0, (hb.cell (p := ⟨gc, oc + 1, none⟩) h.gcl).trans h.c1, h.far, Nat.lt_of_lt_of_le h.gcl hb.size⟩
theorem TOwn.at_ {w : World} {B g n cap : Nat} {l : List (Int × Int)} (h : TOwn w B (.slice (some ⟨g, 0, none⟩) n cap) l) : B ≤ g ∧ ∀ j, w.frozen? ⟨g, j, none⟩ = false := by
  rcases h.2 with ⟨h', _⟩ | ⟨g', cap', cur, h', hB, hg, _⟩
  · simp at h'
  · simp only [Value.slice.injEq, Option.some.injEq, Addr.mk.injEq, and_true] at h'
    obtain ⟨rfl, -⟩ := h'
    exact ⟨hB, fun j => Lies.frozen hg j⟩
theorem cell_far {w : World} {g gc j i : Nat} (h : gc ≠ g) (u : Value) : (w.setCell ⟨g, j, none⟩ u).cell? ⟨gc, i, none⟩ = w.cell? ⟨gc, i, none⟩ :=
  World.cell?_of_block (w := w) (Below.heap_setCell w ⟨g, j, none⟩ u gc h)
theorem NeR.put {W0 : World} {g M cap : Nat} {a b : List (Int × Int)} {k v : Int} {gc oc : Nat} {who thing : Int} {X : World} (h : NeR W0 g M cap (a ++ (k, v) :: b) gc oc who thing X) (hM : M = (a ++ (k, v) :: b).length) {p : Nat} (hp : p = a.length) (n : Int) : NeR W0 g M cap (a ++ (k, n) :: b) gc oc who thing (X.setCell ⟨g, p * 2 + 1, none⟩ (.int .i64 n)) := by
  subst hp
  have hg := h.row.at_
  refine ⟨h.below.setCell hg.1 _, ?_, (cell_far h.far _).trans h.c0, (cell_far h.far _).trans h.c1, h.far, ?_⟩
  · have h2 : (a ++ (k, n) :: b).length = M := by rw [hM]; simp
    have h1 := h.row
    unfold TOwn at h1 ⊢
    rw [← hM] at h1
    rw [h2, ← flat_res a b k v n]
    exact own_set h1 _ _
  · have := h.gcl
    rwa [World.size_setCell]
theorem TOwn.sp_at {w : World} {B g n cap : Nat} {a b : List (Int × Int)} {k v : Int} (h : TOwn w B (.slice (some ⟨g, 0, none⟩) n cap) (a ++ (k, v) :: b)) {p : Nat} (hp : p = a.length) : w.cell? ⟨g, p * 2, none⟩ = some (.int .i64 k) ∧ w.cell? ⟨g, p * 2 + 1, none⟩ = some (.int .i64 v) := by
  subst hp
  obtain ⟨A, cap', e, -, -⟩ := h.rd.is
  injection e with e1 e2 e3
  have h1 := h.rd
  rw [e2] at h1
  obtain ⟨g', o', e, _, d0, d1⟩ := h1.sp (k := a.length) (x := (k, v)) (by simp)
  injection e with e
  injection e with e4 e5
  subst e4 e5
  simp only [Nat.zero_add] at d0 d1
  exact ⟨d0, d1⟩
theorem own_block_at {w : World} {B : Nat} {v : Value} {l : List (Int × Int)} (h : TOwn w B v l) (hl : l ≠ []) : ∃ g cap, v = .slice (some ⟨g, 0, none⟩) l.length cap ∧ B ≤ g ∧ g < w.heap.size := by
  rcases h.2 with ⟨_, h0⟩ | ⟨g, cap, cur, rfl, hB, hg, _⟩
  · exact absurd (List.length_eq_zero_iff.1 h0) hl
  · exact ⟨g, cap, rfl, hB, (Array.getElem?_eq_some_iff.1 hg).1⟩
theorem cl_own_at {w : World} {B k : Nat} {v : Value} {l : List Cl} (h : COwn w B v l) {c : Cl} (hk : l[k]? = some c) : ∃ g cap, v = .slice (some ⟨g, 0, none⟩) l.length cap ∧ B ≤ g ∧ g < w.heap.size ∧
    w.cell? ⟨g, k * 7, none⟩ = some (.int .i64 c.who) ∧ w.cell? ⟨g, k * 7 + 1, none⟩ = some (.int .i64 c.thing) ∧ w.cell? ⟨g, k * 7 + 2, none⟩ = some (.int .i64 c.kind) ∧ w.cell? ⟨g, k * 7 + 6, none⟩ = some (.int .i64 c.til) := by
  have hlt := (List.getElem?_eq_some_iff.1 hk).1
  rcases h.2 with ⟨_, h0⟩ | ⟨g, cap, cur, rfl, hB, hg, _⟩
  · omega
  · obtain ⟨g', o', e, _, d0, d1, d2, d3, d4, d5, d6⟩ := h.rd.cl hk
    injection e with e
    injection e with e1 e2
    subst e1 e2
    simp only [Nat.zero_add] at d0 d1 d2 d6
    exact ⟨g, cap, rfl, hB, (Array.getElem?_eq_some_iff.1 hg).1, d0, d1, d2, d6⟩
theorem cl_own_at2 {w : World} {B k n : Nat} {A : Option Addr} {cap : Nat} {l : List Cl} (h : COwn w B (.slice A n cap) l) {c : Cl} (hk : l[k]? = some c) : ∃ g cap', (Value.slice A n cap) = .slice (some ⟨g, 0, none⟩) l.length cap' ∧ B ≤ g ∧ g < w.heap.size ∧ ∀ W, Below w.heap.size w W →
    W.cell? ⟨g, k * 7, none⟩ = some (.int .i64 c.who) ∧ W.cell? ⟨g, k * 7 + 1, none⟩ = some (.int .i64 c.thing) ∧ W.cell? ⟨g, k * 7 + 2, none⟩ = some (.int .i64 c.kind) ∧ W.cell? ⟨g, k * 7 + 6, none⟩ = some (.int .i64 c.til) := by
  obtain ⟨g, cap', e, h1, h2, d0, d1, d2, d6⟩ := cl_own_at h hk
  exact ⟨g, cap', e, h1, h2, fun W hW => ⟨(hW.cell (p := ⟨g, k * 7, none⟩) h2).trans d0, (hW.cell (p := ⟨g, k * 7 + 1, none⟩) h2).trans d1, (hW.cell (p := ⟨g, k * 7 + 2, none⟩) h2).trans d2, (hW.cell (p := ⟨g, k * 7 + 6, none⟩) h2).trans d6⟩⟩
theorem once_any {k v : Int} {a b : List (Int × Int)} (h : ((a ++ (k, v) :: b).map (·.1)).Nodup) (u : Int) : ((a ++ (k, u) :: b).map (·.1)).Nodup := by
  rw [List.map_append, List.map_cons] at h ⊢
  exact h
theorem len_any {k v u : Int} {a b : List (Int × Int)} : (a ++ (k, u) :: b).length = (a ++ (k, v) :: b).length := by simp
theorem TOwn.drew {w : World} {B : Nat} {v : Value} {l : List (Int × Int)} (h : TOwn w B v l) : TOwn w.drew B v l := h
theorem step_app_go {P : Program} {W : World} {ops : Array Oper} {o : Oper} {a : Act} {K : Act → World → Prop} {Q : Exit → Act → World → Prop} {E : Prop} (hgd : o.guard = none) (s x : Operand) (t tn : TypeId)
    (ho : o.op = .call { callee := .builtin .append, args := #[s, x], argTypes := #[t, tn] }) (vs vx : Value) (hs : a.eval s = vs) (hx : a.eval x = vx)
    (v' : Value) (w' : World) (hr : (Builtin.append_ #[t, tn] o.type #[vs, vx]).run P W = .ok v' w') (h : K (a.put o.dst v') w') :
    if Region.wanted o (yielded ops a.tmps) = true then Oper.wp P o a W K Q else E := by
  have hw : Region.wanted o (yielded ops a.tmps) = true := by simp [Region.wanted, hgd]
  rw [if_pos hw]
  exact Lib.wp_append_run W s x t tn ho vs vx hs hx v' w' hr h
/-- The split at call k. -/
theorem split_at {k : Int} {l : List (Int × Int)} (h : k ∈ l.map (·.1)) : ∃ a v b, l = a ++ (k, v) :: b := by
  obtain ⟨x, hx, e⟩ := List.mem_map.1 h
  obtain ⟨a, b, rfl⟩ := List.append_of_mem hx
  exact ⟨a, x.2, b, by rw [← e]⟩
end Go.Proofs.YtecpjeililiafaaDoor

/-
  The walk of the law SearchNever.
-/
namespace Go.Proofs.YtecpjeililiafaaDoor
open Go.RowKit
set_option maxRecDepth 20000

def NvS (P kn : Nat) (W : World) : Prop := W.cell? ⟨P, 0, none⟩ = some (.int .i64 (kn : Int))
def NvT (P kn gc : Nat) (y0 y1 : Int) (W : World) : Prop := W.cell? ⟨P, 0, none⟩ = some (.int .i64 (kn : Int)) ∧ W.cell? ⟨gc, kn * 7, none⟩ = some (.int .i64 y0) ∧ W.cell? ⟨gc, kn * 7 + 1, none⟩ = some (.int .i64 y1)
theorem TOwn.base {w : World} {B B' : Nat} {v : Value} {l : List (Int × Int)} (h : TOwn w B v l) (hB : B' ≤ B) : TOwn w B' v l :=
  ⟨h.1, h.2.imp (fun h => h) fun ⟨g, cap, cur, h1, h2, h3⟩ => ⟨g, cap, cur, h1, Nat.le_trans hB h2, h3⟩⟩

set_option maxHeartbeats 8000000 in
theorem snever_any {tv lv : Value} {ts : List Int} {l : List Ev} {w : World} (ht : NRd w w.heap.size tv ts) (hl : ERd w w.heap.size lv l) (k : Int) (hp : Pow10 w.heap.size w) :
    Calls Tryd.prog 10 #[tv, lv, .int .i64 k] w fun e w' => e = .returned (.bool true) ∧ Below w.heap.size w w' := by
  obtain ⟨At, capt, rfl, -, -⟩ := ht.is
  obtain ⟨Al, capl, rfl, hl1, hl2⟩ := hl.is
  unfold maxLen at hl2
  have hb0 : Below w.heap.size w (w.alloc (.cells #[.int .i64 k] 3)) := (Below.refl _ _).alloc (Nat.le_refl _) _
  have hP0 : w.heap.size < (w.alloc (.cells #[.int .i64 k] 3)).heap.size ∧ (w.alloc (.cells #[.int .i64 k] 3)).cell? ⟨w.heap.size, 0, none⟩ = some (.int .i64 k) := ⟨by simp, Lies.cell (Lies.new w 3 #[.int .i64 k]) 0⟩
  have hta := (ht.below hb0).mono hb0.size
  have hla := (hl.below hb0).mono hb0.size
  have hpa : Pow10 (w.alloc (.cells #[.int .i64 k] 3)).heap.size (w.alloc (.cells #[.int .i64 k] 3)) := (hp.on hb0).mono hb0.size
  have HF := Lib.hid (find_say hta hla hpa)
  have HTa := Lib.hid (And.intro hta (And.intro hla hpa))
  have HB0a := Lib.hid hb0
  have HPa := Lib.hid hP0
  obtain ⟨tl, htl⟩ : ∃ tl, tl = ts.length := ⟨_, rfl⟩
  obtain ⟨L, hL⟩ : ∃ L, L = l.length := ⟨_, rfl⟩
  rw [← htl, ← hL] at HF HTa
  rw [← htl, ← hL]
  rw [← hL] at hl1
  have HLL := Lib.hid (And.intro htl hL)
  clear ht hl hp htl hL hta hla hpa hb0 hP0
  go_enter Tryd.func10, Tryd.ntmps10
  go_wp2_with fail
  generalize (w.alloc (.cells #[.int .i64 k] 3)) = W0 at HF HTa HB0a HPa ⊢
  have HT := HTa
  have HB0 := HB0a
  have HP := HPa
  clear HTa HB0a HPa
  refine HF.out.mono ?_
  rintro e w1 ⟨hb1, v, rfl, hv⟩
  have H1 := Lib.hid hb1
  obtain ⟨Av, capv, rfl, -, -⟩ := hv.rd.is
  have HV1 := Lib.hid hv
  have HC := Lib.hid (calls_own ((HT.out.1.below H1.out).mono H1.out.size) ((HT.out.2.1.below H1.out).mono H1.out.size))
  clear hb1 hv HF
  obtain ⟨M, hM⟩ : ∃ M, M = (foundL ts (callsOf ts l)).length := ⟨_, rfl⟩
  rw [← hM] at HV1 ⊢
  have HM0 := Lib.hid hM
  clear hM
  go_wp2_with fail
  refine HC.out.mono ?_
  rintro e w2 ⟨cv, rfl, hb2, hc2⟩
  have H2 := Lib.hid (H1.out.trans (hb2.mono H1.out.size))
  have HV2 := Lib.hid (HV1.out.below hb2)
  obtain ⟨Ac, capc, rfl⟩ := own_slice hc2
  obtain ⟨m, hm⟩ : ∃ m, m = (callsOf ts l).1.length := ⟨_, rfl⟩
  have HC2 := Lib.hid hc2
  rw [← hm] at HC2 ⊢
  have HMM := Lib.hid (And.intro HM0.out hm)
  clear hb2 hc2 HC HM0 hm
  generalize ((callsOf ts l).2.1 : Int) = at1
  by_cases hE : searchE (callsOf ts l) = 0
  · obtain ⟨q1, q2⟩ := search_ok.1 hE
    rw [hE, q1]
    have hm9 : m ≤ 9 := by rw [HMM.out.2]; exact q2
    cases hb : foundB ts (callsOf ts l)
    · clear hE hb q1 q2
      have HS2 := Lib.hid (slives_any w2 ((HT.out.2.2.on H2.out).mono H2.out.size))
      go_wp2_with fail
      refine HS2.out.mono ?_
      rintro e w3 ⟨rfl, hb3⟩
      have H3 := Lib.hid (H2.out.trans (hb3.mono H2.out.size))
      have HB23 := Lib.hid hb3
      clear hb3 HS2
      have HOK := Lib.hid (ok_zero (IRd.fresh w3 25 [0, 0] 2 rfl #[.int .i64 0, .int .i64 0] rfl) (by decide) (by decide))
      have hal : Below w3.heap.size w3 (w3.alloc (.cells #[.int .i64 0, .int .i64 0] 25)) := (Below.refl _ _).alloc (Nat.le_refl _) _
      have h4 := H3.out.trans (hal.mono H3.out.size)
      have hq4 : (w3.alloc (.cells #[.int .i64 0, .int .i64 0] 25)).cell? ⟨w.heap.size, 0, none⟩ = some (.int .i64 k) := (h4.cell (p := ⟨w.heap.size, 0, none⟩) HP.out.1).trans HP.out.2
      have h24 := HB23.out.trans (hal.mono HB23.out.size)
      have H4a := Lib.hid (And.intro h4 h24)
      clear hal h4 h24
      go_wp2_with fail
      refine HOK.out.mono ?_
      rintro e w9 ⟨rfl, rfl⟩
      clear HOK
      generalize (w3.alloc (.cells #[.int .i64 0, .int .i64 0] 25)) = w4 at H4a hq4 ⊢
      have H4 := Lib.hid H4a.out.1
      have HS4 := Lib.hid (slives_any w4 ((HT.out.2.2.on H4.out).mono H4.out.size))
      go_wp2_with fail
      refine HS4.out.mono ?_
      rintro e w5 ⟨rfl, hb5⟩
      have H5 := Lib.hid (H4.out.trans (hb5.mono H4.out.size))
      clear hb5 HS4
      go_wp2_with fail
      go_ret
      exact ⟨rfl, HB0.out.trans (H5.out.mono HB0.out.size)⟩
    · have HB := Lib.hid (And.intro hb hE)
      have HQ := Lib.hid (And.intro q1 q2)
      have hfl : M ≤ 9 := by
        have h1 := foundL_rite hb
        have h2 := nodup_lt (callsOf ts l).1.length h1.once (fun x hx => by
          obtain ⟨y, hy, rfl⟩ := List.mem_map.1 hx
          exact h1.rng y hy)
        rw [List.length_map, ← HMM.out.1] at h2
        omega
      clear hE hb q1 q2
      by_cases hk0 : k < 0
      · skip
        have HS2 := Lib.hid (slives_any w2 ((HT.out.2.2.on H2.out).mono H2.out.size))
        go_wp2_with fail
        refine HS2.out.mono ?_
        rintro e w3 ⟨rfl, hb3⟩
        have H3 := Lib.hid (H2.out.trans (hb3.mono H2.out.size))
        have HB23 := Lib.hid hb3
        clear hb3 HS2
        have HOK := Lib.hid (ok_zero (IRd.fresh w3 25 [0, 0] 2 rfl #[.int .i64 0, .int .i64 0] rfl) (by decide) (by decide))
        have hal : Below w3.heap.size w3 (w3.alloc (.cells #[.int .i64 0, .int .i64 0] 25)) := (Below.refl _ _).alloc (Nat.le_refl _) _
        have h4 := H3.out.trans (hal.mono H3.out.size)
        have hq4 : (w3.alloc (.cells #[.int .i64 0, .int .i64 0] 25)).cell? ⟨w.heap.size, 0, none⟩ = some (.int .i64 k) := (h4.cell (p := ⟨w.heap.size, 0, none⟩) HP.out.1).trans HP.out.2
        have h24 := HB23.out.trans (hal.mono HB23.out.size)
        have H4a := Lib.hid (And.intro h4 h24)
        clear hal h4 h24
        go_wp2_with fail
        refine HOK.out.mono ?_
        rintro e w9 ⟨rfl, rfl⟩
        clear HOK
        generalize (w3.alloc (.cells #[.int .i64 0, .int .i64 0] 25)) = w4 at H4a hq4 ⊢
        have H4 := Lib.hid H4a.out.1
        have HS4 := Lib.hid (slives_any w4 ((HT.out.2.2.on H4.out).mono H4.out.size))
        go_wp2_with fail
        refine HS4.out.mono ?_
        rintro e w5 ⟨rfl, hb5⟩
        have H5 := Lib.hid (H4.out.trans (hb5.mono H4.out.size))
        clear hb5 HS4
        go_wp2_with fail
        go_ret
        exact ⟨rfl, HB0.out.trans (H5.out.mono HB0.out.size)⟩
      · by_cases hkm : (m : Int) ≤ k
        · skip
          have HS2 := Lib.hid (slives_any w2 ((HT.out.2.2.on H2.out).mono H2.out.size))
          go_wp2_with fail
          refine HS2.out.mono ?_
          rintro e w3 ⟨rfl, hb3⟩
          have H3 := Lib.hid (H2.out.trans (hb3.mono H2.out.size))
          have HB23 := Lib.hid hb3
          clear hb3 HS2
          have HOK := Lib.hid (ok_zero (IRd.fresh w3 25 [0, 0] 2 rfl #[.int .i64 0, .int .i64 0] rfl) (by decide) (by decide))
          have hal : Below w3.heap.size w3 (w3.alloc (.cells #[.int .i64 0, .int .i64 0] 25)) := (Below.refl _ _).alloc (Nat.le_refl _) _
          have h4 := H3.out.trans (hal.mono H3.out.size)
          have hq4 : (w3.alloc (.cells #[.int .i64 0, .int .i64 0] 25)).cell? ⟨w.heap.size, 0, none⟩ = some (.int .i64 k) := (h4.cell (p := ⟨w.heap.size, 0, none⟩) HP.out.1).trans HP.out.2
          have h24 := HB23.out.trans (hal.mono HB23.out.size)
          have H4a := Lib.hid (And.intro h4 h24)
          clear hal h4 h24
          go_wp2_with fail
          refine HOK.out.mono ?_
          rintro e w9 ⟨rfl, rfl⟩
          clear HOK
          generalize (w3.alloc (.cells #[.int .i64 0, .int .i64 0] 25)) = w4 at H4a hq4 ⊢
          have H4 := Lib.hid H4a.out.1
          have HS4 := Lib.hid (slives_any w4 ((HT.out.2.2.on H4.out).mono H4.out.size))
          go_wp2_with fail
          refine HS4.out.mono ?_
          rintro e w5 ⟨rfl, hb5⟩
          have H5 := Lib.hid (H4.out.trans (hb5.mono H4.out.size))
          clear hb5 HS4
          go_wp2_with fail
          go_ret
          exact ⟨rfl, HB0.out.trans (H5.out.mono HB0.out.size)⟩
        · obtain ⟨kn, rfl⟩ : ∃ kn : Nat, k = (kn : Int) := ⟨k.toNat, by omega⟩
          have hkc : kn < (callsOf ts l).1.length := by rw [← HMM.out.2]; omega
          have hcc := getD_some hkc
          obtain ⟨y, hyy⟩ : ∃ y, y = (callsOf ts l).1.getD kn default := ⟨_, rfl⟩
          rw [← hyy] at hcc
          obtain ⟨gc, capc', e9, hgc1, hgc2, hcells⟩ := cl_own_at2 HC2.out hcc
          injection e9 with e1 e2 e3
          subst e1
          have HCC := Lib.hid (And.intro hgc1 (And.intro hgc2 hcells))
          have HKC := Lib.hid hkc
          have HYY := Lib.hid hyy
          clear hyy hkc
          have HYY2 := HYY
          clear HYY
          obtain ⟨y0, y1, y2, y3, y4, y5, y6⟩ := y
          simp only at HCC
          have HYY := HYY2
          clear HYY2
          have i1 : (0 : Int) ≤ (kn : Int) := by omega
          have i2 : (kn : Int) < (m : Int) := by omega
          clear hcc hgc1 hgc2 hcells e2 e3
          by_cases hti : y6 = -1
          · have b1 : (y6 != -1) = false := by rw [bne_eq_false_iff_eq]; exact hti
            by_cases hL2 : L < 200
            · have i8 : ¬ (200 : Int) ≤ (L : Int) := by omega
              have HTI := Lib.hid hti
              clear hti
              have HS2 := Lib.hid (slives_any w2 ((HT.out.2.2.on H2.out).mono H2.out.size))
              go_wp2_with fail
              refine HS2.out.mono ?_
              rintro e w3 ⟨rfl, hb3⟩
              have H3 := Lib.hid (H2.out.trans (hb3.mono H2.out.size))
              have HB23 := Lib.hid hb3
              have HV3 := Lib.hid (HV2.out.below hb3)
              clear hb3 HS2
              have HOK := Lib.hid (ok_zero (IRd.fresh w3 25 [0, 0] 2 rfl #[.int .i64 0, .int .i64 0] rfl) (by decide) (by decide))
              have hal : Below w3.heap.size w3 (w3.alloc (.cells #[.int .i64 0, .int .i64 0] 25)) := (Below.refl _ _).alloc (Nat.le_refl _) _
              have h4 := H3.out.trans (hal.mono H3.out.size)
              have hq4 : (w3.alloc (.cells #[.int .i64 0, .int .i64 0] 25)).cell? ⟨w.heap.size, 0, none⟩ = some (.int .i64 (kn : Int)) := (h4.cell (p := ⟨w.heap.size, 0, none⟩) HP.out.1).trans HP.out.2
              have h24 := HB23.out.trans (hal.mono HB23.out.size)
              have H4a := Lib.hid (And.intro h4 h24)
              clear hal h4 h24
              have HV4a := Lib.hid (HV3.out.alloc (.cells #[.int .i64 0, .int .i64 0] 25))
              obtain ⟨k0, k1, k2, k6⟩ := HCC.out.2.2 _ H4a.out.2
              go_wp2_with fail
              refine HOK.out.mono ?_
              rintro e w9 ⟨rfl, rfl⟩
              clear HOK
              generalize (w3.alloc (.cells #[.int .i64 0, .int .i64 0] 25)) = w4 at H4a hq4 k0 k1 k2 k6 HV4a ⊢
              have H4 := Lib.hid H4a.out.1
              have HV4 := HV4a
              have HC4 := Lib.hid (show gc < w4.heap.size ∧ w4.cell? ⟨gc, kn * 7, none⟩ = some (.int .i64 y0) ∧ w4.cell? ⟨gc, kn * 7 + 1, none⟩ = some (.int .i64 y1) from ⟨Nat.lt_of_lt_of_le HCC.out.2.1 H4a.out.2.size, k0, k1⟩)
              have HCS := Lib.hid (contS_any HV4.out.rd hq4 (Nat.lt_of_lt_of_le HP.out.1 H4.out.size) : Calls _ _ _ _ _)
              have HKK := Lib.hid HP.out.2
              clear HV4a
              go_wp2_with fail
              refine HCS.out.mono ?_
              rintro e w5 ⟨rfl, hb5⟩
              have H5 := Lib.hid (H4.out.trans (hb5.mono H4.out.size))
              have HB45 := Lib.hid hb5
              have HV5 := Lib.hid (HV4.out.below hb5)
              have hl200 : l.length < 200 := by rw [← HLL.out.2]; exact hL2
              have HL2 := Lib.hid hl200
              have HKT := Lib.hid (And.intro HKC.out (show ((callsOf ts l).1.getD kn default).til = -1 by rw [← HYY.out]; exact HTI.out))
              clear hb5 HCS hl200 k0 k1 k2 k6
              by_cases hmem : (kn : Int) ∈ (foundL ts (callsOf ts l)).map (·.1)
              · rw [decide_eq_true hmem]
                obtain ⟨a, v0, b, hab⟩ := split_at hmem
                have hnf0 := never_found HB.out.1 HL2.out HKT.out.1 HKT.out.2 (.inl hab)
                rw [← HYY.out] at hnf0
                obtain ⟨hnd, r, hnf⟩ := hnf0
                simp only at hnf
                obtain ⟨g, cap, e, hBg, hgl⟩ := own_block_at HV1.out (by rw [hab]; simp)
                injection e with e1 e2 e3
                subst e1 e3
                have hv5 := HV5.out
                rw [hab] at hv5
                have HNE := Lib.hid (NeR.mk H5.out hv5 ((HB45.out.cell (p := ⟨gc, kn * 7, none⟩) HC4.out.1).trans HC4.out.2.1) ((HB45.out.cell (p := ⟨gc, kn * 7 + 1, none⟩) HC4.out.1).trans HC4.out.2.2) (by have := HCC.out.1; omega : gc ≠ g) (Nat.lt_of_lt_of_le HC4.out.1 HB45.out.size))
                have HM2 := Lib.hid (show M = (a ++ ((kn : Int), v0) :: b).length by rw [← hab]; exact HMM.out.1)
                obtain ⟨p, hp⟩ : ∃ p, p = a.length := ⟨_, rfl⟩
                have HPP := Lib.hid hp
                have HNF := Lib.hid (And.intro hnd hnf)
                clear hmem hab hnd hnf e2 hBg hgl hv5 hp HV1 HV2 HV3 HV4 HV5
                have hrr := HNF.out.2.1
                go_wp2_with fail
                go_loopw [13] (fun t wr => ∃ n v : Int, -1 ≤ n ∧ n ≤ r ∧ t = .int .i64 n ∧ NeR W0 g M capv (a ++ ((kn : Int), v) :: b) gc (kn * 7) y0 y1 wr) (fun t _ => (1002 - intOf t).toNat)
                case atStart => exact ⟨-1, v0, by omega, hrr, rfl, HNE.out⟩
                case round =>
                  clear hrr
                  obtain ⟨n, v, hn1, hn2, rfl, hN⟩ := hrel
                  have i1 : n ≤ 1000 := by have := HNF.out.2.2.1; omega
                  have HI := Lib.hid (idx2_any hN.row.rd ((hN.below.cell (p := ⟨w.heap.size, 0, none⟩) HP.out.1).trans HKK.out) (Nat.lt_of_lt_of_le HP.out.1 hN.below.size))
                  have HN := Lib.hid hN
                  clear hN
                  go_wp2_with fail
                  refine HI.out.mono ?_
                  rintro e w6 ⟨q, rfl, hq, hb6⟩
                  have hq2 := first_alone (once_any HNF.out.1 v) hq
                  rw [← HPP.out] at hq2
                  subst hq2
                  have hN6 := HN.out.next hb6
                  obtain ⟨s0, s1⟩ := hN6.row.sp_at HPP.out
                  have hfz := hN6.row.at_.2
                  have HN6 := Lib.hid hN6
                  have i2 : (0 : Int) ≤ (p : Int) := by omega
                  have i3 : (p : Int) < (M : Int) := by rw [HM2.out, List.length_append, List.length_cons, ← HPP.out]; omega
                  clear hq hb6 HI hN6
                  go_wp2_with fail
                  have hX := HN6.out.put (HM2.out.trans len_any) HPP.out n
                  generalize w6.setCell ⟨g, p * 2 + 1, none⟩ (.int .i64 n) = X at hX ⊢
                  have HRR := Lib.hid (right_say ((HT.out.1.below hX.below).mono hX.below.size) ((HT.out.2.1.below hX.below).mono hX.below.size) hX.row.rd)
                  rw [HNF.out.2.2.2.1 n, HB.out.2] at HRR
                  have HX := Lib.hid hX
                  clear s0 s1 hfz hX
                  refine HRR.out.mono ?_
                  rintro e w7 ⟨hb7, rfl⟩
                  have HN7 := Lib.hid (HX.out.next hb7)
                  clear hb7 HRR
                  by_cases hnr : n = r
                  · subst hnr
                    simp only [decide_true]
                    have HSY := Lib.hid (fun (W : World) (hW : Below w7.heap.size w7 W) => show NvT w.heap.size kn gc y0 y1 W from ⟨((HN7.out.next hW).below.cell (p := ⟨w.heap.size, 0, none⟩) HP.out.1).trans HKK.out, (HN7.out.next hW).c0, (HN7.out.next hW).c1⟩)
                    go_wp2_with fail
                    refine wp_region_held_drew (S := NvT w.heap.size kn gc y0 y1) (by kernel_rfl) (HSY.out _ ((Below.refl _ w7).drew)) (fun hHeld => ?_)
                    change wpAnyH _ _ _ _ _ 25 _ _ _
                    clear hHeld
                    have HD7a := Lib.hid (And.intro ((Below.refl w7.heap.size w7).drew) HN7.out.below.drew)
                    generalize w7.drew = WE at HD7a ⊢
                    refine takeAt 0 104 (oi := _) (v := ?_) rfl rfl (by kernel_rfl) (by kernel_rfl) (by kernel_rfl) (fun _ _ _ h => h) (by rfl) ?_ (HSY.out _ HD7a.out.1) ?_
                    rotate_left
                    · (intro w hSw; obtain ⟨p0, p1, p2⟩ := hSw; go_simp; try with_reducible rfl)
                    simp only [Act.put, List.setIfInBounds_toArray, List.set_cons_zero, List.set_cons_succ]
                    refine takeAt 1 105 (oi := _) (v := ?_) rfl rfl (by kernel_rfl) (by kernel_rfl) (by kernel_rfl) (fun _ _ _ h => h) (by rfl) ?_ (HSY.out _ HD7a.out.1) ?_
                    rotate_left
                    · (intro w hSw; obtain ⟨p0, p1, p2⟩ := hSw; go_simp; try with_reducible rfl)
                    simp only [Act.put, List.setIfInBounds_toArray, List.set_cons_zero, List.set_cons_succ]
                    refine takeAt 3 107 (oi := _) (v := ?_) rfl rfl (by kernel_rfl) (by kernel_rfl) (by kernel_rfl) (fun _ _ _ h => h) (by rfl) ?_ (HSY.out _ HD7a.out.1) ?_
                    rotate_left
                    · (intro w hSw; obtain ⟨p0, p1, p2⟩ := hSw; go_simp; try with_reducible rfl)
                    simp only [Act.put, List.setIfInBounds_toArray, List.set_cons_zero, List.set_cons_succ]
                    refine takeAt 4 108 (oi := _) (v := ?_) rfl rfl (by kernel_rfl) (by kernel_rfl) (by kernel_rfl) (fun _ _ _ h => h) (by rfl) ?_ (HSY.out _ HD7a.out.1) ?_
                    rotate_left
                    · (intro w hSw; obtain ⟨p0, p1, p2⟩ := hSw; go_simp; try with_reducible rfl)
                    simp only [Act.put, List.setIfInBounds_toArray, List.set_cons_zero, List.set_cons_succ]
                    refine takeAt 5 109 (oi := _) (v := ?_) rfl rfl (by kernel_rfl) (by kernel_rfl) (by kernel_rfl) (fun _ _ _ h => h) (by rfl) ?_ (HSY.out _ HD7a.out.1) ?_
                    rotate_left
                    · (intro w hSw; obtain ⟨p0, p1, p2⟩ := hSw; go_simp; try with_reducible rfl)
                    simp only [Act.put, List.setIfInBounds_toArray, List.set_cons_zero, List.set_cons_succ]
                    refine takeAt 6 110 (oi := _) (v := ?_) rfl rfl (by kernel_rfl) (by kernel_rfl) (by kernel_rfl) (fun _ _ _ h => h) (by rfl) ?_ (HSY.out _ HD7a.out.1) ?_
                    rotate_left
                    · (intro w hSw; obtain ⟨p0, p1, p2⟩ := hSw; go_simp; try with_reducible rfl)
                    simp only [Act.put, List.setIfInBounds_toArray, List.set_cons_zero, List.set_cons_succ]
                    refine takeAt 7 111 (oi := _) (v := ?_) rfl rfl (by kernel_rfl) (by kernel_rfl) (by kernel_rfl) (fun _ _ _ h => h) (by rfl) ?_ (HSY.out _ HD7a.out.1) ?_
                    rotate_left
                    · (intro w hSw; obtain ⟨p0, p1, p2⟩ := hSw; go_simp; try with_reducible rfl)
                    simp only [Act.put, List.setIfInBounds_toArray, List.set_cons_zero, List.set_cons_succ]
                    refine takeAt 8 112 (oi := _) (v := ?_) rfl rfl (by kernel_rfl) (by kernel_rfl) (by kernel_rfl) (fun _ _ _ h => h) (by rfl) ?_ (HSY.out _ HD7a.out.1) ?_
                    rotate_left
                    · (intro w hSw; obtain ⟨p0, p1, p2⟩ := hSw; go_simp; try with_reducible rfl)
                    simp only [Act.put, List.setIfInBounds_toArray, List.set_cons_zero, List.set_cons_succ]
                    refine takeAt 9 113 (oi := _) (v := ?_) rfl rfl (by kernel_rfl) (by kernel_rfl) (by kernel_rfl) (fun _ _ _ h => h) (by rfl) ?_ (HSY.out _ HD7a.out.1) ?_
                    rotate_left
                    · (intro w hSw; obtain ⟨p0, p1, p2⟩ := hSw; go_simp; try with_reducible rfl)
                    simp only [Act.put, List.setIfInBounds_toArray, List.set_cons_zero, List.set_cons_succ]
                    refine takeAt 10 114 (oi := _) (v := ?_) rfl rfl (by kernel_rfl) (by kernel_rfl) (by kernel_rfl) (fun _ _ _ h => h) (by rfl) ?_ (HSY.out _ HD7a.out.1) ?_
                    rotate_left
                    · (intro w hSw; obtain ⟨p0, p1, p2⟩ := hSw; go_simp; try with_reducible rfl)
                    simp only [Act.put, List.setIfInBounds_toArray, List.set_cons_zero, List.set_cons_succ]
                    refine takeAt 11 115 (oi := _) (v := ?_) rfl rfl (by kernel_rfl) (by kernel_rfl) (by kernel_rfl) (fun _ _ _ h => h) (by rfl) ?_ (HSY.out _ HD7a.out.1) ?_
                    rotate_left
                    · (intro w hSw; obtain ⟨p0, p1, p2⟩ := hSw; go_simp; try with_reducible rfl)
                    simp only [Act.put, List.setIfInBounds_toArray, List.set_cons_zero, List.set_cons_succ]
                    refine takeAt 12 116 (oi := _) (v := ?_) rfl rfl (by kernel_rfl) (by kernel_rfl) (by kernel_rfl) (fun _ _ _ h => h) (by rfl) ?_ (HSY.out _ HD7a.out.1) ?_
                    rotate_left
                    · (intro w hSw; obtain ⟨p0, p1, p2⟩ := hSw; go_simp; try with_reducible rfl)
                    simp only [Act.put, List.setIfInBounds_toArray, List.set_cons_zero, List.set_cons_succ]
                    refine takeAt 13 117 (oi := _) (v := ?_) rfl rfl (by kernel_rfl) (by kernel_rfl) (by kernel_rfl) (fun _ _ _ h => h) (by rfl) ?_ (HSY.out _ HD7a.out.1) ?_
                    rotate_left
                    · (intro w hSw; obtain ⟨p0, p1, p2⟩ := hSw; go_simp; try with_reducible rfl)
                    simp only [Act.put, List.setIfInBounds_toArray, List.set_cons_zero, List.set_cons_succ]
                    refine takeAt 14 118 (oi := _) (v := ?_) rfl rfl (by kernel_rfl) (by kernel_rfl) (by kernel_rfl) (fun _ _ _ h => h) (by rfl) ?_ (HSY.out _ HD7a.out.1) ?_
                    rotate_left
                    · (intro w hSw; obtain ⟨p0, p1, p2⟩ := hSw; go_simp; try with_reducible rfl)
                    simp only [Act.put, List.setIfInBounds_toArray, List.set_cons_zero, List.set_cons_succ]
                    refine wpAnyH_ready (rs := [2, 15]) (by kernel_rfl) (by simp) ?_
                    refine AllReadyH.cons (o := _) rfl (fun K hK => ?_) (AllReadyH.cons (o := _) rfl (fun K hK => ?_) AllReadyH.nil)
                    · go_simp
                      refine (cloneE_any ((HT.out.2.1.below HD7a.out.2).mono HD7a.out.2.size) (by have := HL2.out; have := HLL.out.2; omega)).mono ?_
                      rintro e w9 ⟨v9, rfl, ho9, hb9⟩
                      have hb9' := HD7a.out.1.trans (hb9.mono HD7a.out.1.size)
                      refine hK.out _ _ (HSY.out _ hb9') (fun _ => ?_)
                      clear hK K
                      have ho10 := EOwn.alloc ho9 (.cells #[.int .i64 y0, .int .i64 y1, .int .i64 0, .int .i64 n] 77)
                      have hlit : ERd (w9.alloc (.cells #[.int .i64 y0, .int .i64 y1, .int .i64 0, .int .i64 n] 77)) (w9.heap.size + 1) (.slice (some ⟨w9.heap.size, 0, none⟩) 1 1) [⟨y0, y1, 0, n⟩] := LRd.of_lit (f := evCs) (s := 4) (w := w9) (l := [⟨y0, y1, 0, n⟩]) (fun _ => rfl) 77 (cs := #[.int .i64 y0, .int .i64 y1, .int .i64 0, .int .i64 n]) rfl (n := 1) rfl (by unfold maxLen; omega)
                      have hb10 := hb9'.alloc hb9'.size (.cells #[.int .i64 y0, .int .i64 y1, .int .i64 0, .int .i64 n] 77)
                      have hB10 : WE.heap.size ≤ (w9.alloc (.cells #[.int .i64 y0, .int .i64 y1, .int .i64 0, .int .i64 n] 77)).heap.size := by have := hb9.size; simp; omega
                      have hB7 : w7.heap.size ≤ WE.heap.size := HD7a.out.1.size
                      clear ho9 hb9 hb9'
                      refine wpAnyH_ready (rs := [15]) (by kernel_rfl) (by simp) ?_
                      refine AllReadyH.cons (o := _) rfl (fun K hK => ?_) AllReadyH.nil
                      go_simp
                      refine hK.out _ _ (HSY.out _ hb10) (fun _ => ?_)
                      clear hK K
                      refine wpAnyH_ready (rs := [16]) (by kernel_rfl) (by simp) ?_
                      refine AllReadyH.cons (o := _) rfl (fun K hK => ?_) AllReadyH.nil
                      obtain ⟨v11, w11, hrun, ho11, hb11⟩ := run_app_evs 23 ho10 hlit (by have := HL2.out; have := HLL.out.2; simp; omega) hB10 (by simp)
                      have hb12 := hb10.trans (hb11.mono hB7)
                      have HRUN := Lib.hid hrun
                      have HO11 := Lib.hid (And.intro ho11.rd hb12)
                      clear hrun ho11 hb12 ho10 hlit hB10 hb10 hb11 hB7
                      refine step_app_go (by rfl) (.tmp 106) (.tmp 119) _ _ (by rfl) _ _ (by rfl) (by rfl) _ _ HRUN.out ?_
                      refine hK.out _ _ (HSY.out _ HO11.out.2) (fun _ => ?_)
                      clear hK K
                      have hW11 := HN7.out.below.trans (HO11.out.2.mono HN7.out.below.size)
                      have HF11 := Lib.hid (find_say ((HT.out.1.below hW11).mono hW11.size) HO11.out.1 ((HT.out.2.2.on hW11).mono hW11.size))
                      have HW11 := Lib.hid hW11
                      clear hW11
                      rw [HNF.out.2.2.2.2.1, HNF.out.2.2.2.2.2] at HF11
                      refine wpAnyH_ready (rs := [17]) (by kernel_rfl) (by simp) ?_
                      refine AllReadyH.cons (o := _) rfl (fun K hK => ?_) AllReadyH.nil
                      go_simp
                      refine HF11.out.mono ?_
                      rintro e w12 ⟨hb12, v12, rfl, -⟩
                      have H12 := Lib.hid (And.intro (HO11.out.2.trans (hb12.mono HO11.out.2.size)) (HW11.out.trans (hb12.mono HW11.out.size)))
                      clear hb12 HF11
                      refine hK.out _ _ (HSY.out _ H12.out.1) (fun _ => ?_)
                      clear hK K
                      refine takeAt 18 103 (oi := _) (v := ?_) rfl rfl (by kernel_rfl) (by kernel_rfl) (by kernel_rfl) (fun _ _ _ h => h) (by rfl) ?_ (HSY.out _ H12.out.1) ?_
                      rotate_left
                      · (intro w hSw; obtain ⟨p0, p1, p2⟩ := hSw; go_simp; try with_reducible rfl)
                      simp only [Act.put, List.setIfInBounds_toArray, List.set_cons_zero, List.set_cons_succ]
                      refine takeAt 19 122 (oi := _) (v := ?_) rfl rfl (by kernel_rfl) (by kernel_rfl) (by kernel_rfl) (fun _ _ _ h => h) (by rfl) ?_ (HSY.out _ H12.out.1) ?_
                      rotate_left
                      · (intro w hSw; obtain ⟨p0, p1, p2⟩ := hSw; go_simp; try with_reducible rfl)
                      simp only [Act.put, List.setIfInBounds_toArray, List.set_cons_zero, List.set_cons_succ]
                      refine takeAt 22 16 (oi := _) (v := ?_) rfl rfl (by kernel_rfl) (by kernel_rfl) (by kernel_rfl) (fun _ _ _ h => h) (by rfl) ?_ (HSY.out _ H12.out.1) ?_
                      rotate_left
                      · (intro w hSw; obtain ⟨p0, p1, p2⟩ := hSw; go_simp; try with_reducible rfl)
                      simp only [Act.put, List.setIfInBounds_toArray, List.set_cons_zero, List.set_cons_succ]
                      refine takeAt 20 123 (oi := _) (v := ?_) rfl rfl (by kernel_rfl) (by kernel_rfl) (by kernel_rfl) (fun _ _ _ h => h) (by rfl) ?_ (HSY.out _ H12.out.1) ?_
                      rotate_left
                      · (intro w hSw; obtain ⟨p0, p1, p2⟩ := hSw; go_simp; try with_reducible rfl)
                      simp only [Act.put, List.setIfInBounds_toArray, List.set_cons_zero, List.set_cons_succ]
                      refine takeAt 23 17 (oi := _) (v := ?_) rfl rfl (by kernel_rfl) (by kernel_rfl) (by kernel_rfl) (fun _ _ _ h => h) (by rfl) ?_ (HSY.out _ H12.out.1) ?_
                      rotate_left
                      · (intro w hSw; obtain ⟨p0, p1, p2⟩ := hSw; go_simp; try with_reducible rfl)
                      simp only [Act.put, List.setIfInBounds_toArray, List.set_cons_zero, List.set_cons_succ]
                      refine takeAt 21 124 (oi := _) (v := ?_) rfl rfl (by kernel_rfl) (by kernel_rfl) (by kernel_rfl) (fun _ _ _ h => h) (by rfl) ?_ (HSY.out _ H12.out.1) ?_
                      rotate_left
                      · (intro w hSw; obtain ⟨p0, p1, p2⟩ := hSw; go_simp; try with_reducible rfl)
                      simp only [Act.put, List.setIfInBounds_toArray, List.set_cons_zero, List.set_cons_succ]
                      refine takeAt 24 18 (oi := _) (v := ?_) rfl rfl (by kernel_rfl) (by kernel_rfl) (by kernel_rfl) (fun _ _ _ h => h) (by rfl) ?_ (HSY.out _ H12.out.1) ?_
                      rotate_left
                      · (intro w hSw; obtain ⟨p0, p1, p2⟩ := hSw; go_simp; try with_reducible rfl)
                      simp only [Act.put, List.setIfInBounds_toArray, List.set_cons_zero, List.set_cons_succ]
                      refine wpAnyH_done (by kernel_rfl) ?_ _
                      go_wp2_with fail
                      go_ret
                      exact ⟨rfl, HB0.out.trans (H12.out.2.mono HB0.out.size)⟩
                    · go_simp
                      have hb8' := HD7a.out.1.alloc HD7a.out.1.size (.cells #[.int .i64 y0, .int .i64 y1, .int .i64 0, .int .i64 n] 77)
                      have hw8' := HD7a.out.2.alloc HD7a.out.2.size (.cells #[.int .i64 y0, .int .i64 y1, .int .i64 0, .int .i64 n] 77)
                      have hl8 : ERd (WE.alloc (.cells #[.int .i64 y0, .int .i64 y1, .int .i64 0, .int .i64 n] 77)) (WE.heap.size + 1) (.slice (some ⟨WE.heap.size, 0, none⟩) 1 1) [⟨y0, y1, 0, n⟩] := LRd.of_lit (f := evCs) (s := 4) (w := WE) (l := [⟨y0, y1, 0, n⟩]) (fun _ => rfl) 77 (cs := #[.int .i64 y0, .int .i64 y1, .int .i64 0, .int .i64 n]) rfl (n := 1) rfl (by unfold maxLen; omega)
                      have hs8 : (WE.alloc (.cells #[.int .i64 y0, .int .i64 y1, .int .i64 0, .int .i64 n] 77)).heap.size = WE.heap.size + 1 := World.size_alloc _ _
                      refine hK.out _ _ (HSY.out _ hb8') (fun _ => ?_)
                      clear hK K
                      generalize WE.alloc (.cells #[.int .i64 y0, .int .i64 y1, .int .i64 0, .int .i64 n] 77) = W8 at hb8' hw8' hl8 hs8 ⊢
                      have HV8 := Lib.hid (And.intro hb8' (And.intro hw8' (hl8.mono (B' := W8.heap.size) (by omega))))
                      clear hb8' hw8' hl8 hs8
                      refine wpAnyH_ready (rs := [2]) (by kernel_rfl) (by simp) ?_
                      refine AllReadyH.cons (o := _) rfl (fun K hK => ?_) AllReadyH.nil
                      go_simp
                      refine (cloneE_any ((HT.out.2.1.below HV8.out.2.1).mono HV8.out.2.1.size) (by have := HL2.out; have := HLL.out.2; omega)).mono ?_
                      rintro e w10 ⟨v9, rfl, ho10, hb9⟩
                      have hb10 := HV8.out.1.trans (hb9.mono HV8.out.1.size)
                      have hlit := HV8.out.2.2.below hb9
                      refine hK.out _ _ (HSY.out _ hb10) (fun _ => ?_)
                      clear hK K
                      have hB10 : W8.heap.size ≤ w10.heap.size := hb9.size
                      have hB7 : w7.heap.size ≤ W8.heap.size := HV8.out.1.size
                      clear hb9
                      refine wpAnyH_ready (rs := [16]) (by kernel_rfl) (by simp) ?_
                      refine AllReadyH.cons (o := _) rfl (fun K hK => ?_) AllReadyH.nil
                      obtain ⟨v11, w11, hrun, ho11, hb11⟩ := run_app_evs 23 ho10 hlit (by have := HL2.out; have := HLL.out.2; simp; omega) hB10 (by simp)
                      have hb12 := hb10.trans (hb11.mono hB7)
                      have HRUN := Lib.hid hrun
                      have HO11 := Lib.hid (And.intro ho11.rd hb12)
                      clear hrun ho11 hb12 ho10 hlit hB10 hb10 hb11 hB7
                      refine step_app_go (by rfl) (.tmp 106) (.tmp 119) _ _ (by rfl) _ _ (by rfl) (by rfl) _ _ HRUN.out ?_
                      refine hK.out _ _ (HSY.out _ HO11.out.2) (fun _ => ?_)
                      clear hK K
                      have hW11 := HN7.out.below.trans (HO11.out.2.mono HN7.out.below.size)
                      have HF11 := Lib.hid (find_say ((HT.out.1.below hW11).mono hW11.size) HO11.out.1 ((HT.out.2.2.on hW11).mono hW11.size))
                      have HW11 := Lib.hid hW11
                      clear hW11
                      rw [HNF.out.2.2.2.2.1, HNF.out.2.2.2.2.2] at HF11
                      refine wpAnyH_ready (rs := [17]) (by kernel_rfl) (by simp) ?_
                      refine AllReadyH.cons (o := _) rfl (fun K hK => ?_) AllReadyH.nil
                      go_simp
                      refine HF11.out.mono ?_
                      rintro e w12 ⟨hb12, v12, rfl, -⟩
                      have H12 := Lib.hid (And.intro (HO11.out.2.trans (hb12.mono HO11.out.2.size)) (HW11.out.trans (hb12.mono HW11.out.size)))
                      clear hb12 HF11
                      refine hK.out _ _ (HSY.out _ H12.out.1) (fun _ => ?_)
                      clear hK K
                      refine takeAt 18 103 (oi := _) (v := ?_) rfl rfl (by kernel_rfl) (by kernel_rfl) (by kernel_rfl) (fun _ _ _ h => h) (by rfl) ?_ (HSY.out _ H12.out.1) ?_
                      rotate_left
                      · (intro w hSw; obtain ⟨p0, p1, p2⟩ := hSw; go_simp; try with_reducible rfl)
                      simp only [Act.put, List.setIfInBounds_toArray, List.set_cons_zero, List.set_cons_succ]
                      refine takeAt 19 122 (oi := _) (v := ?_) rfl rfl (by kernel_rfl) (by kernel_rfl) (by kernel_rfl) (fun _ _ _ h => h) (by rfl) ?_ (HSY.out _ H12.out.1) ?_
                      rotate_left
                      · (intro w hSw; obtain ⟨p0, p1, p2⟩ := hSw; go_simp; try with_reducible rfl)
                      simp only [Act.put, List.setIfInBounds_toArray, List.set_cons_zero, List.set_cons_succ]
                      refine takeAt 22 16 (oi := _) (v := ?_) rfl rfl (by kernel_rfl) (by kernel_rfl) (by kernel_rfl) (fun _ _ _ h => h) (by rfl) ?_ (HSY.out _ H12.out.1) ?_
                      rotate_left
                      · (intro w hSw; obtain ⟨p0, p1, p2⟩ := hSw; go_simp; try with_reducible rfl)
                      simp only [Act.put, List.setIfInBounds_toArray, List.set_cons_zero, List.set_cons_succ]
                      refine takeAt 20 123 (oi := _) (v := ?_) rfl rfl (by kernel_rfl) (by kernel_rfl) (by kernel_rfl) (fun _ _ _ h => h) (by rfl) ?_ (HSY.out _ H12.out.1) ?_
                      rotate_left
                      · (intro w hSw; obtain ⟨p0, p1, p2⟩ := hSw; go_simp; try with_reducible rfl)
                      simp only [Act.put, List.setIfInBounds_toArray, List.set_cons_zero, List.set_cons_succ]
                      refine takeAt 23 17 (oi := _) (v := ?_) rfl rfl (by kernel_rfl) (by kernel_rfl) (by kernel_rfl) (fun _ _ _ h => h) (by rfl) ?_ (HSY.out _ H12.out.1) ?_
                      rotate_left
                      · (intro w hSw; obtain ⟨p0, p1, p2⟩ := hSw; go_simp; try with_reducible rfl)
                      simp only [Act.put, List.setIfInBounds_toArray, List.set_cons_zero, List.set_cons_succ]
                      refine takeAt 21 124 (oi := _) (v := ?_) rfl rfl (by kernel_rfl) (by kernel_rfl) (by kernel_rfl) (fun _ _ _ h => h) (by rfl) ?_ (HSY.out _ H12.out.1) ?_
                      rotate_left
                      · (intro w hSw; obtain ⟨p0, p1, p2⟩ := hSw; go_simp; try with_reducible rfl)
                      simp only [Act.put, List.setIfInBounds_toArray, List.set_cons_zero, List.set_cons_succ]
                      refine takeAt 24 18 (oi := _) (v := ?_) rfl rfl (by kernel_rfl) (by kernel_rfl) (by kernel_rfl) (fun _ _ _ h => h) (by rfl) ?_ (HSY.out _ H12.out.1) ?_
                      rotate_left
                      · (intro w hSw; obtain ⟨p0, p1, p2⟩ := hSw; go_simp; try with_reducible rfl)
                      simp only [Act.put, List.setIfInBounds_toArray, List.set_cons_zero, List.set_cons_succ]
                      refine wpAnyH_done (by kernel_rfl) ?_ _
                      go_wp2_with fail
                      go_ret
                      exact ⟨rfl, HB0.out.trans (H12.out.2.mono HB0.out.size)⟩
                  · rw [decide_eq_false hnr]
                    have hw1 : IntKind.i64.wrap (n + 1) = n + 1 := by rw [IntKind.wrap_i64]; omega
                    go_wp2_with fail
                    go_roundw
                    case rel => exact ⟨n + 1, n, by omega, by omega, by go_num, HN7.out⟩
                    case measure => simp [intOf]; omega
              · rw [decide_eq_false hmem]
                have HMEM := Lib.hid hmem
                clear hmem
                have HSX := Lib.hid (fun (W : World) (hW : Below W0.heap.size W0 W) => show NvS w.heap.size kn W from ((hW.cell (p := ⟨w.heap.size, 0, none⟩) HP.out.1).trans HP.out.2))
                go_wp2_with fail
                refine wp_region_held_drew (S := NvS w.heap.size kn) (by kernel_rfl) (HSX.out _ H5.out.drew) (fun hHeld => ?_)
                change wpAnyH _ _ _ _ _ 7 _ _ _
                clear hHeld
                have HV5a := Lib.hid (And.intro (TOwn.drew HV5.out) (And.intro H5.out.drew (HB45.out.drew)))
                clear HV5
                generalize w5.drew = WD at HV5a ⊢
                refine takeAt 0 74 (oi := _) (v := ?_) rfl rfl (by kernel_rfl) (by kernel_rfl) (by kernel_rfl) (fun _ _ _ h => h) (by rfl) ?_ (HSX.out _ HV5a.out.2.1) ?_
                rotate_left
                · (intro w hSw; have p0 := hSw; simp only [NvS] at p0; go_simp; try with_reducible rfl)
                simp only [Act.put, List.setIfInBounds_toArray, List.set_cons_zero, List.set_cons_succ]
                refine takeAt 2 76 (oi := _) (v := ?_) rfl rfl (by kernel_rfl) (by kernel_rfl) (by kernel_rfl) (fun _ _ _ h => h) (by rfl) ?_ (HSX.out _ HV5a.out.2.1) ?_
                rotate_left
                · (intro w hSw; have p0 := hSw; simp only [NvS] at p0; go_simp; try with_reducible rfl)
                simp only [Act.put, List.setIfInBounds_toArray, List.set_cons_zero, List.set_cons_succ]
                refine takeAt 3 77 (oi := _) (v := ?_) rfl rfl (by kernel_rfl) (by kernel_rfl) (by kernel_rfl) (fun _ _ _ h => h) (by rfl) ?_ (HSX.out _ HV5a.out.2.1) ?_
                rotate_left
                · (intro w hSw; have p0 := hSw; simp only [NvS] at p0; go_simp; try with_reducible rfl)
                simp only [Act.put, List.setIfInBounds_toArray, List.set_cons_zero, List.set_cons_succ]
                refine wpAnyH_ready (rs := [1, 4]) (by kernel_rfl) (by simp) ?_
                refine AllReadyH.cons (o := _) rfl (fun K hK => ?_) (AllReadyH.cons (o := _) rfl (fun K hK => ?_) AllReadyH.nil)
                · go_simp
                  refine (cloneS_any (HV5a.out.1.rd) (by have := HMM.out.1; omega)).mono ?_
                  rintro e w6 ⟨v6, rfl, ho6, hb6⟩
                  have hb6' := HV5a.out.2.1.trans (hb6.mono HV5a.out.2.1.size)
                  have hg6' := HV5a.out.2.2.trans (hb6.mono HV5a.out.2.2.size)
                  refine hK.out _ _ (HSX.out _ hb6') (fun _ => ?_)
                  clear hK K
                  have ho7 := TOwn.alloc ho6 (.cells #[.int .i64 kn, .int .i64 0] 42)
                  have hlit : SRd (w6.alloc (.cells #[.int .i64 kn, .int .i64 0] 42)) (w6.heap.size + 1) (.slice (some ⟨w6.heap.size, 0, none⟩) 1 1) [((kn : Int), 0)] := LRd.of_lit (f := spCs) (s := 2) (w := w6) (l := [((kn : Int), 0)]) (fun _ => rfl) 42 (cs := #[.int .i64 kn, .int .i64 0]) rfl (n := 1) rfl (by unfold maxLen; omega)
                  have hb7 := hb6'.alloc hb6'.size (.cells #[.int .i64 kn, .int .i64 0] 42)
                  have hg7 := hg6'.alloc hg6'.size (.cells #[.int .i64 kn, .int .i64 0] 42)
                  have hB7 : WD.heap.size ≤ (w6.alloc (.cells #[.int .i64 kn, .int .i64 0] 42)).heap.size := by have := hb6.size; simp; omega
                  have hBW : W0.heap.size ≤ WD.heap.size := HV5a.out.2.1.size
                  have hBG : w4.heap.size ≤ WD.heap.size := HV5a.out.2.2.size
                  clear ho6 hb6 hb6' hg6'
                  refine wpAnyH_ready (rs := [4]) (by kernel_rfl) (by simp) ?_
                  refine AllReadyH.cons (o := _) rfl (fun K hK => ?_) AllReadyH.nil
                  go_simp
                  refine hK.out _ _ (HSX.out _ hb7) (fun _ => ?_)
                  clear hK K
                  refine wpAnyH_ready (rs := [5]) (by kernel_rfl) (by simp) ?_
                  refine AllReadyH.cons (o := _) rfl (fun K hK => ?_) AllReadyH.nil
                  obtain ⟨v8, w8, hrun, ho8, hb8⟩ := run_app_sps 24 ho7 hlit (by have := HMM.out.1; simp; omega) hB7 (by simp)
                  have hb9 := hb7.trans (hb8.mono hBW)
                  have hg9 := hg7.trans (hb8.mono hBG)
                  obtain ⟨g, cap, e8, hBg, -⟩ := own_block_at ho8 (by simp)
                  obtain ⟨M2, hM2⟩ : ∃ M2, M2 = (foundL ts (callsOf ts l) ++ [((kn : Int), (0 : Int))]).length := ⟨_, rfl⟩
                  rw [← hM2] at e8
                  subst e8
                  have HM2 := Lib.hid hM2
                  clear hM2
                  have HRUN := Lib.hid hrun
                  have HO8 := Lib.hid (And.intro ho8 (And.intro hb9 (And.intro hg9 (Nat.le_trans hBG hBg))))
                  clear hrun ho8 hb9 hg9 ho7 hlit hB7 hb7 hg7 hb8 hBW hBG hBg
                  refine step_app_go (by rfl) (.tmp 75) (.tmp 78) _ _ (by rfl) _ _ (by rfl) (by rfl) _ _ HRUN.out ?_
                  refine hK.out _ _ (HSX.out _ HO8.out.2.1) (fun _ => ?_)
                  clear hK K
                  refine takeAt 6 7 (oi := _) (v := ?_) rfl rfl (by kernel_rfl) (by kernel_rfl) (by kernel_rfl) (fun _ _ _ h => h) (by rfl) ?_ (HSX.out _ HO8.out.2.1) ?_
                  rotate_left
                  · (intro w hSw; have p0 := hSw; simp only [NvS] at p0; go_simp; try with_reducible rfl)
                  simp only [Act.put, List.setIfInBounds_toArray]
                  refine wpAnyH_done (by kernel_rfl) ?_ _
                  have hnf0 := never_found (b := []) (v := 0) HB.out.1 HL2.out HKT.out.1 HKT.out.2 (.inr ⟨rfl, rfl, HMEM.out⟩)
                  rw [← HYY.out] at hnf0
                  obtain ⟨hnd, r, hnf⟩ := hnf0
                  simp only at hnf
                  have hbase : W0.heap.size ≤ WD.heap.size := HV5a.out.2.1.size
                  have HNE := Lib.hid (NeR.mk HO8.out.2.1 (TOwn.base HO8.out.1 hbase) ((HO8.out.2.2.1.cell (p := ⟨gc, kn * 7, none⟩) HC4.out.1).trans HC4.out.2.1) ((HO8.out.2.2.1.cell (p := ⟨gc, kn * 7 + 1, none⟩) HC4.out.1).trans HC4.out.2.2) (by have := HO8.out.2.2.2; have := HC4.out.1; omega : gc ≠ g) (Nat.lt_of_lt_of_le HC4.out.1 HO8.out.2.2.1.size))
                  obtain ⟨p, hp⟩ : ∃ p, p = (foundL ts (callsOf ts l)).length := ⟨_, rfl⟩
                  have HPP := Lib.hid hp
                  have HNF := Lib.hid (And.intro hnd hnf)
                  obtain ⟨a, ha⟩ : ∃ a, a = foundL ts (callsOf ts l) := ⟨_, rfl⟩
                  rw [← ha] at HNE HM2 HPP HNF
                  obtain ⟨b, hbb⟩ : ∃ b : List (Int × Int), b = [] := ⟨_, rfl⟩
                  rw [← hbb] at HNE HM2 HNF
                  obtain ⟨v0, hv0⟩ : ∃ v0 : Int, v0 = 0 := ⟨_, rfl⟩
                  rw [← hv0] at HNE HM2
                  clear hp hnd hnf ha hbb hv0
                  have hrr := HNF.out.2.1
                  go_wp2_with fail
                  go_loopw [13] (fun t wr => ∃ n v : Int, -1 ≤ n ∧ n ≤ r ∧ t = .int .i64 n ∧ NeR W0 g M2 cap (a ++ ((kn : Int), v) :: b) gc (kn * 7) y0 y1 wr) (fun t _ => (1002 - intOf t).toNat)
                  case atStart => exact ⟨-1, v0, by omega, hrr, rfl, HNE.out⟩
                  case round =>
                    clear hrr
                    obtain ⟨n, v, hn1, hn2, rfl, hN⟩ := hrel
                    have i1 : n ≤ 1000 := by have := HNF.out.2.2.1; omega
                    have HI := Lib.hid (idx2_any hN.row.rd ((hN.below.cell (p := ⟨w.heap.size, 0, none⟩) HP.out.1).trans HKK.out) (Nat.lt_of_lt_of_le HP.out.1 hN.below.size))
                    have HN := Lib.hid hN
                    clear hN
                    go_wp2_with fail
                    refine HI.out.mono ?_
                    rintro e w6 ⟨q, rfl, hq, hb6⟩
                    have hq2 := first_alone (once_any HNF.out.1 v) hq
                    rw [← HPP.out] at hq2
                    subst hq2
                    have hN6 := HN.out.next hb6
                    obtain ⟨s0, s1⟩ := hN6.row.sp_at HPP.out
                    have hfz := hN6.row.at_.2
                    have HN6 := Lib.hid hN6
                    have i2 : (0 : Int) ≤ (p : Int) := by omega
                    have i3 : (p : Int) < (M2 : Int) := by rw [HM2.out, List.length_append, List.length_cons, ← HPP.out]; omega
                    clear hq hb6 HI hN6
                    go_wp2_with fail
                    have hX := HN6.out.put (HM2.out.trans len_any) HPP.out n
                    generalize w6.setCell ⟨g, p * 2 + 1, none⟩ (.int .i64 n) = X at hX ⊢
                    have HRR := Lib.hid (right_say ((HT.out.1.below hX.below).mono hX.below.size) ((HT.out.2.1.below hX.below).mono hX.below.size) hX.row.rd)
                    rw [HNF.out.2.2.2.1 n, HB.out.2] at HRR
                    have HX := Lib.hid hX
                    clear s0 s1 hfz hX
                    refine HRR.out.mono ?_
                    rintro e w7 ⟨hb7, rfl⟩
                    have HN7 := Lib.hid (HX.out.next hb7)
                    clear hb7 HRR
                    by_cases hnr : n = r
                    · subst hnr
                      simp only [decide_true]
                      have HSY := Lib.hid (fun (W : World) (hW : Below w7.heap.size w7 W) => show NvT w.heap.size kn gc y0 y1 W from ⟨((HN7.out.next hW).below.cell (p := ⟨w.heap.size, 0, none⟩) HP.out.1).trans HKK.out, (HN7.out.next hW).c0, (HN7.out.next hW).c1⟩)
                      go_wp2_with fail
                      refine wp_region_held_drew (S := NvT w.heap.size kn gc y0 y1) (by kernel_rfl) (HSY.out _ ((Below.refl _ w7).drew)) (fun hHeld => ?_)
                      change wpAnyH _ _ _ _ _ 25 _ _ _
                      clear hHeld
                      have HD7a := Lib.hid (And.intro ((Below.refl w7.heap.size w7).drew) HN7.out.below.drew)
                      generalize w7.drew = WE at HD7a ⊢
                      refine takeAt 0 104 (oi := _) (v := ?_) rfl rfl (by kernel_rfl) (by kernel_rfl) (by kernel_rfl) (fun _ _ _ h => h) (by rfl) ?_ (HSY.out _ HD7a.out.1) ?_
                      rotate_left
                      · (intro w hSw; obtain ⟨p0, p1, p2⟩ := hSw; go_simp; try with_reducible rfl)
                      simp only [Act.put, List.setIfInBounds_toArray, List.set_cons_zero, List.set_cons_succ]
                      refine takeAt 1 105 (oi := _) (v := ?_) rfl rfl (by kernel_rfl) (by kernel_rfl) (by kernel_rfl) (fun _ _ _ h => h) (by rfl) ?_ (HSY.out _ HD7a.out.1) ?_
                      rotate_left
                      · (intro w hSw; obtain ⟨p0, p1, p2⟩ := hSw; go_simp; try with_reducible rfl)
                      simp only [Act.put, List.setIfInBounds_toArray, List.set_cons_zero, List.set_cons_succ]
                      refine takeAt 3 107 (oi := _) (v := ?_) rfl rfl (by kernel_rfl) (by kernel_rfl) (by kernel_rfl) (fun _ _ _ h => h) (by rfl) ?_ (HSY.out _ HD7a.out.1) ?_
                      rotate_left
                      · (intro w hSw; obtain ⟨p0, p1, p2⟩ := hSw; go_simp; try with_reducible rfl)
                      simp only [Act.put, List.setIfInBounds_toArray, List.set_cons_zero, List.set_cons_succ]
                      refine takeAt 4 108 (oi := _) (v := ?_) rfl rfl (by kernel_rfl) (by kernel_rfl) (by kernel_rfl) (fun _ _ _ h => h) (by rfl) ?_ (HSY.out _ HD7a.out.1) ?_
                      rotate_left
                      · (intro w hSw; obtain ⟨p0, p1, p2⟩ := hSw; go_simp; try with_reducible rfl)
                      simp only [Act.put, List.setIfInBounds_toArray, List.set_cons_zero, List.set_cons_succ]
                      refine takeAt 5 109 (oi := _) (v := ?_) rfl rfl (by kernel_rfl) (by kernel_rfl) (by kernel_rfl) (fun _ _ _ h => h) (by rfl) ?_ (HSY.out _ HD7a.out.1) ?_
                      rotate_left
                      · (intro w hSw; obtain ⟨p0, p1, p2⟩ := hSw; go_simp; try with_reducible rfl)
                      simp only [Act.put, List.setIfInBounds_toArray, List.set_cons_zero, List.set_cons_succ]
                      refine takeAt 6 110 (oi := _) (v := ?_) rfl rfl (by kernel_rfl) (by kernel_rfl) (by kernel_rfl) (fun _ _ _ h => h) (by rfl) ?_ (HSY.out _ HD7a.out.1) ?_
                      rotate_left
                      · (intro w hSw; obtain ⟨p0, p1, p2⟩ := hSw; go_simp; try with_reducible rfl)
                      simp only [Act.put, List.setIfInBounds_toArray, List.set_cons_zero, List.set_cons_succ]
                      refine takeAt 7 111 (oi := _) (v := ?_) rfl rfl (by kernel_rfl) (by kernel_rfl) (by kernel_rfl) (fun _ _ _ h => h) (by rfl) ?_ (HSY.out _ HD7a.out.1) ?_
                      rotate_left
                      · (intro w hSw; obtain ⟨p0, p1, p2⟩ := hSw; go_simp; try with_reducible rfl)
                      simp only [Act.put, List.setIfInBounds_toArray, List.set_cons_zero, List.set_cons_succ]
                      refine takeAt 8 112 (oi := _) (v := ?_) rfl rfl (by kernel_rfl) (by kernel_rfl) (by kernel_rfl) (fun _ _ _ h => h) (by rfl) ?_ (HSY.out _ HD7a.out.1) ?_
                      rotate_left
                      · (intro w hSw; obtain ⟨p0, p1, p2⟩ := hSw; go_simp; try with_reducible rfl)
                      simp only [Act.put, List.setIfInBounds_toArray, List.set_cons_zero, List.set_cons_succ]
                      refine takeAt 9 113 (oi := _) (v := ?_) rfl rfl (by kernel_rfl) (by kernel_rfl) (by kernel_rfl) (fun _ _ _ h => h) (by rfl) ?_ (HSY.out _ HD7a.out.1) ?_
                      rotate_left
                      · (intro w hSw; obtain ⟨p0, p1, p2⟩ := hSw; go_simp; try with_reducible rfl)
                      simp only [Act.put, List.setIfInBounds_toArray, List.set_cons_zero, List.set_cons_succ]
                      refine takeAt 10 114 (oi := _) (v := ?_) rfl rfl (by kernel_rfl) (by kernel_rfl) (by kernel_rfl) (fun _ _ _ h => h) (by rfl) ?_ (HSY.out _ HD7a.out.1) ?_
                      rotate_left
                      · (intro w hSw; obtain ⟨p0, p1, p2⟩ := hSw; go_simp; try with_reducible rfl)
                      simp only [Act.put, List.setIfInBounds_toArray, List.set_cons_zero, List.set_cons_succ]
                      refine takeAt 11 115 (oi := _) (v := ?_) rfl rfl (by kernel_rfl) (by kernel_rfl) (by kernel_rfl) (fun _ _ _ h => h) (by rfl) ?_ (HSY.out _ HD7a.out.1) ?_
                      rotate_left
                      · (intro w hSw; obtain ⟨p0, p1, p2⟩ := hSw; go_simp; try with_reducible rfl)
                      simp only [Act.put, List.setIfInBounds_toArray, List.set_cons_zero, List.set_cons_succ]
                      refine takeAt 12 116 (oi := _) (v := ?_) rfl rfl (by kernel_rfl) (by kernel_rfl) (by kernel_rfl) (fun _ _ _ h => h) (by rfl) ?_ (HSY.out _ HD7a.out.1) ?_
                      rotate_left
                      · (intro w hSw; obtain ⟨p0, p1, p2⟩ := hSw; go_simp; try with_reducible rfl)
                      simp only [Act.put, List.setIfInBounds_toArray, List.set_cons_zero, List.set_cons_succ]
                      refine takeAt 13 117 (oi := _) (v := ?_) rfl rfl (by kernel_rfl) (by kernel_rfl) (by kernel_rfl) (fun _ _ _ h => h) (by rfl) ?_ (HSY.out _ HD7a.out.1) ?_
                      rotate_left
                      · (intro w hSw; obtain ⟨p0, p1, p2⟩ := hSw; go_simp; try with_reducible rfl)
                      simp only [Act.put, List.setIfInBounds_toArray, List.set_cons_zero, List.set_cons_succ]
                      refine takeAt 14 118 (oi := _) (v := ?_) rfl rfl (by kernel_rfl) (by kernel_rfl) (by kernel_rfl) (fun _ _ _ h => h) (by rfl) ?_ (HSY.out _ HD7a.out.1) ?_
                      rotate_left
                      · (intro w hSw; obtain ⟨p0, p1, p2⟩ := hSw; go_simp; try with_reducible rfl)
                      simp only [Act.put, List.setIfInBounds_toArray, List.set_cons_zero, List.set_cons_succ]
                      refine wpAnyH_ready (rs := [2, 15]) (by kernel_rfl) (by simp) ?_
                      refine AllReadyH.cons (o := _) rfl (fun K hK => ?_) (AllReadyH.cons (o := _) rfl (fun K hK => ?_) AllReadyH.nil)
                      · go_simp
                        refine (cloneE_any ((HT.out.2.1.below HD7a.out.2).mono HD7a.out.2.size) (by have := HL2.out; have := HLL.out.2; omega)).mono ?_
                        rintro e w9 ⟨v9, rfl, ho9, hb9⟩
                        have hb9' := HD7a.out.1.trans (hb9.mono HD7a.out.1.size)
                        refine hK.out _ _ (HSY.out _ hb9') (fun _ => ?_)
                        clear hK K
                        have ho10 := EOwn.alloc ho9 (.cells #[.int .i64 y0, .int .i64 y1, .int .i64 0, .int .i64 n] 77)
                        have hlit : ERd (w9.alloc (.cells #[.int .i64 y0, .int .i64 y1, .int .i64 0, .int .i64 n] 77)) (w9.heap.size + 1) (.slice (some ⟨w9.heap.size, 0, none⟩) 1 1) [⟨y0, y1, 0, n⟩] := LRd.of_lit (f := evCs) (s := 4) (w := w9) (l := [⟨y0, y1, 0, n⟩]) (fun _ => rfl) 77 (cs := #[.int .i64 y0, .int .i64 y1, .int .i64 0, .int .i64 n]) rfl (n := 1) rfl (by unfold maxLen; omega)
                        have hb10 := hb9'.alloc hb9'.size (.cells #[.int .i64 y0, .int .i64 y1, .int .i64 0, .int .i64 n] 77)
                        have hB10 : WE.heap.size ≤ (w9.alloc (.cells #[.int .i64 y0, .int .i64 y1, .int .i64 0, .int .i64 n] 77)).heap.size := by have := hb9.size; simp; omega
                        have hB7 : w7.heap.size ≤ WE.heap.size := HD7a.out.1.size
                        clear ho9 hb9 hb9'
                        refine wpAnyH_ready (rs := [15]) (by kernel_rfl) (by simp) ?_
                        refine AllReadyH.cons (o := _) rfl (fun K hK => ?_) AllReadyH.nil
                        go_simp
                        refine hK.out _ _ (HSY.out _ hb10) (fun _ => ?_)
                        clear hK K
                        refine wpAnyH_ready (rs := [16]) (by kernel_rfl) (by simp) ?_
                        refine AllReadyH.cons (o := _) rfl (fun K hK => ?_) AllReadyH.nil
                        obtain ⟨v11, w11, hrun, ho11, hb11⟩ := run_app_evs 23 ho10 hlit (by have := HL2.out; have := HLL.out.2; simp; omega) hB10 (by simp)
                        have hb12 := hb10.trans (hb11.mono hB7)
                        have HRUN := Lib.hid hrun
                        have HO11 := Lib.hid (And.intro ho11.rd hb12)
                        clear hrun ho11 hb12 ho10 hlit hB10 hb10 hb11 hB7
                        refine step_app_go (by rfl) (.tmp 106) (.tmp 119) _ _ (by rfl) _ _ (by rfl) (by rfl) _ _ HRUN.out ?_
                        refine hK.out _ _ (HSY.out _ HO11.out.2) (fun _ => ?_)
                        clear hK K
                        have hW11 := HN7.out.below.trans (HO11.out.2.mono HN7.out.below.size)
                        have HF11 := Lib.hid (find_say ((HT.out.1.below hW11).mono hW11.size) HO11.out.1 ((HT.out.2.2.on hW11).mono hW11.size))
                        have HW11 := Lib.hid hW11
                        clear hW11
                        rw [HNF.out.2.2.2.2.1, HNF.out.2.2.2.2.2] at HF11
                        refine wpAnyH_ready (rs := [17]) (by kernel_rfl) (by simp) ?_
                        refine AllReadyH.cons (o := _) rfl (fun K hK => ?_) AllReadyH.nil
                        go_simp
                        refine HF11.out.mono ?_
                        rintro e w12 ⟨hb12, v12, rfl, -⟩
                        have H12 := Lib.hid (And.intro (HO11.out.2.trans (hb12.mono HO11.out.2.size)) (HW11.out.trans (hb12.mono HW11.out.size)))
                        clear hb12 HF11
                        refine hK.out _ _ (HSY.out _ H12.out.1) (fun _ => ?_)
                        clear hK K
                        refine takeAt 18 103 (oi := _) (v := ?_) rfl rfl (by kernel_rfl) (by kernel_rfl) (by kernel_rfl) (fun _ _ _ h => h) (by rfl) ?_ (HSY.out _ H12.out.1) ?_
                        rotate_left
                        · (intro w hSw; obtain ⟨p0, p1, p2⟩ := hSw; go_simp; try with_reducible rfl)
                        simp only [Act.put, List.setIfInBounds_toArray, List.set_cons_zero, List.set_cons_succ]
                        refine takeAt 19 122 (oi := _) (v := ?_) rfl rfl (by kernel_rfl) (by kernel_rfl) (by kernel_rfl) (fun _ _ _ h => h) (by rfl) ?_ (HSY.out _ H12.out.1) ?_
                        rotate_left
                        · (intro w hSw; obtain ⟨p0, p1, p2⟩ := hSw; go_simp; try with_reducible rfl)
                        simp only [Act.put, List.setIfInBounds_toArray, List.set_cons_zero, List.set_cons_succ]
                        refine takeAt 22 16 (oi := _) (v := ?_) rfl rfl (by kernel_rfl) (by kernel_rfl) (by kernel_rfl) (fun _ _ _ h => h) (by rfl) ?_ (HSY.out _ H12.out.1) ?_
                        rotate_left
                        · (intro w hSw; obtain ⟨p0, p1, p2⟩ := hSw; go_simp; try with_reducible rfl)
                        simp only [Act.put, List.setIfInBounds_toArray, List.set_cons_zero, List.set_cons_succ]
                        refine takeAt 20 123 (oi := _) (v := ?_) rfl rfl (by kernel_rfl) (by kernel_rfl) (by kernel_rfl) (fun _ _ _ h => h) (by rfl) ?_ (HSY.out _ H12.out.1) ?_
                        rotate_left
                        · (intro w hSw; obtain ⟨p0, p1, p2⟩ := hSw; go_simp; try with_reducible rfl)
                        simp only [Act.put, List.setIfInBounds_toArray, List.set_cons_zero, List.set_cons_succ]
                        refine takeAt 23 17 (oi := _) (v := ?_) rfl rfl (by kernel_rfl) (by kernel_rfl) (by kernel_rfl) (fun _ _ _ h => h) (by rfl) ?_ (HSY.out _ H12.out.1) ?_
                        rotate_left
                        · (intro w hSw; obtain ⟨p0, p1, p2⟩ := hSw; go_simp; try with_reducible rfl)
                        simp only [Act.put, List.setIfInBounds_toArray, List.set_cons_zero, List.set_cons_succ]
                        refine takeAt 21 124 (oi := _) (v := ?_) rfl rfl (by kernel_rfl) (by kernel_rfl) (by kernel_rfl) (fun _ _ _ h => h) (by rfl) ?_ (HSY.out _ H12.out.1) ?_
                        rotate_left
                        · (intro w hSw; obtain ⟨p0, p1, p2⟩ := hSw; go_simp; try with_reducible rfl)
                        simp only [Act.put, List.setIfInBounds_toArray, List.set_cons_zero, List.set_cons_succ]
                        refine takeAt 24 18 (oi := _) (v := ?_) rfl rfl (by kernel_rfl) (by kernel_rfl) (by kernel_rfl) (fun _ _ _ h => h) (by rfl) ?_ (HSY.out _ H12.out.1) ?_
                        rotate_left
                        · (intro w hSw; obtain ⟨p0, p1, p2⟩ := hSw; go_simp; try with_reducible rfl)
                        simp only [Act.put, List.setIfInBounds_toArray, List.set_cons_zero, List.set_cons_succ]
                        refine wpAnyH_done (by kernel_rfl) ?_ _
                        go_wp2_with fail
                        go_ret
                        exact ⟨rfl, HB0.out.trans (H12.out.2.mono HB0.out.size)⟩
                      · go_simp
                        have hb8' := HD7a.out.1.alloc HD7a.out.1.size (.cells #[.int .i64 y0, .int .i64 y1, .int .i64 0, .int .i64 n] 77)
                        have hw8' := HD7a.out.2.alloc HD7a.out.2.size (.cells #[.int .i64 y0, .int .i64 y1, .int .i64 0, .int .i64 n] 77)
                        have hl8 : ERd (WE.alloc (.cells #[.int .i64 y0, .int .i64 y1, .int .i64 0, .int .i64 n] 77)) (WE.heap.size + 1) (.slice (some ⟨WE.heap.size, 0, none⟩) 1 1) [⟨y0, y1, 0, n⟩] := LRd.of_lit (f := evCs) (s := 4) (w := WE) (l := [⟨y0, y1, 0, n⟩]) (fun _ => rfl) 77 (cs := #[.int .i64 y0, .int .i64 y1, .int .i64 0, .int .i64 n]) rfl (n := 1) rfl (by unfold maxLen; omega)
                        have hs8 : (WE.alloc (.cells #[.int .i64 y0, .int .i64 y1, .int .i64 0, .int .i64 n] 77)).heap.size = WE.heap.size + 1 := World.size_alloc _ _
                        refine hK.out _ _ (HSY.out _ hb8') (fun _ => ?_)
                        clear hK K
                        generalize WE.alloc (.cells #[.int .i64 y0, .int .i64 y1, .int .i64 0, .int .i64 n] 77) = W8 at hb8' hw8' hl8 hs8 ⊢
                        have HV8 := Lib.hid (And.intro hb8' (And.intro hw8' (hl8.mono (B' := W8.heap.size) (by omega))))
                        clear hb8' hw8' hl8 hs8
                        refine wpAnyH_ready (rs := [2]) (by kernel_rfl) (by simp) ?_
                        refine AllReadyH.cons (o := _) rfl (fun K hK => ?_) AllReadyH.nil
                        go_simp
                        refine (cloneE_any ((HT.out.2.1.below HV8.out.2.1).mono HV8.out.2.1.size) (by have := HL2.out; have := HLL.out.2; omega)).mono ?_
                        rintro e w10 ⟨v9, rfl, ho10, hb9⟩
                        have hb10 := HV8.out.1.trans (hb9.mono HV8.out.1.size)
                        have hlit := HV8.out.2.2.below hb9
                        refine hK.out _ _ (HSY.out _ hb10) (fun _ => ?_)
                        clear hK K
                        have hB10 : W8.heap.size ≤ w10.heap.size := hb9.size
                        have hB7 : w7.heap.size ≤ W8.heap.size := HV8.out.1.size
                        clear hb9
                        refine wpAnyH_ready (rs := [16]) (by kernel_rfl) (by simp) ?_
                        refine AllReadyH.cons (o := _) rfl (fun K hK => ?_) AllReadyH.nil
                        obtain ⟨v11, w11, hrun, ho11, hb11⟩ := run_app_evs 23 ho10 hlit (by have := HL2.out; have := HLL.out.2; simp; omega) hB10 (by simp)
                        have hb12 := hb10.trans (hb11.mono hB7)
                        have HRUN := Lib.hid hrun
                        have HO11 := Lib.hid (And.intro ho11.rd hb12)
                        clear hrun ho11 hb12 ho10 hlit hB10 hb10 hb11 hB7
                        refine step_app_go (by rfl) (.tmp 106) (.tmp 119) _ _ (by rfl) _ _ (by rfl) (by rfl) _ _ HRUN.out ?_
                        refine hK.out _ _ (HSY.out _ HO11.out.2) (fun _ => ?_)
                        clear hK K
                        have hW11 := HN7.out.below.trans (HO11.out.2.mono HN7.out.below.size)
                        have HF11 := Lib.hid (find_say ((HT.out.1.below hW11).mono hW11.size) HO11.out.1 ((HT.out.2.2.on hW11).mono hW11.size))
                        have HW11 := Lib.hid hW11
                        clear hW11
                        rw [HNF.out.2.2.2.2.1, HNF.out.2.2.2.2.2] at HF11
                        refine wpAnyH_ready (rs := [17]) (by kernel_rfl) (by simp) ?_
                        refine AllReadyH.cons (o := _) rfl (fun K hK => ?_) AllReadyH.nil
                        go_simp
                        refine HF11.out.mono ?_
                        rintro e w12 ⟨hb12, v12, rfl, -⟩
                        have H12 := Lib.hid (And.intro (HO11.out.2.trans (hb12.mono HO11.out.2.size)) (HW11.out.trans (hb12.mono HW11.out.size)))
                        clear hb12 HF11
                        refine hK.out _ _ (HSY.out _ H12.out.1) (fun _ => ?_)
                        clear hK K
                        refine takeAt 18 103 (oi := _) (v := ?_) rfl rfl (by kernel_rfl) (by kernel_rfl) (by kernel_rfl) (fun _ _ _ h => h) (by rfl) ?_ (HSY.out _ H12.out.1) ?_
                        rotate_left
                        · (intro w hSw; obtain ⟨p0, p1, p2⟩ := hSw; go_simp; try with_reducible rfl)
                        simp only [Act.put, List.setIfInBounds_toArray, List.set_cons_zero, List.set_cons_succ]
                        refine takeAt 19 122 (oi := _) (v := ?_) rfl rfl (by kernel_rfl) (by kernel_rfl) (by kernel_rfl) (fun _ _ _ h => h) (by rfl) ?_ (HSY.out _ H12.out.1) ?_
                        rotate_left
                        · (intro w hSw; obtain ⟨p0, p1, p2⟩ := hSw; go_simp; try with_reducible rfl)
                        simp only [Act.put, List.setIfInBounds_toArray, List.set_cons_zero, List.set_cons_succ]
                        refine takeAt 22 16 (oi := _) (v := ?_) rfl rfl (by kernel_rfl) (by kernel_rfl) (by kernel_rfl) (fun _ _ _ h => h) (by rfl) ?_ (HSY.out _ H12.out.1) ?_
                        rotate_left
                        · (intro w hSw; obtain ⟨p0, p1, p2⟩ := hSw; go_simp; try with_reducible rfl)
                        simp only [Act.put, List.setIfInBounds_toArray, List.set_cons_zero, List.set_cons_succ]
                        refine takeAt 20 123 (oi := _) (v := ?_) rfl rfl (by kernel_rfl) (by kernel_rfl) (by kernel_rfl) (fun _ _ _ h => h) (by rfl) ?_ (HSY.out _ H12.out.1) ?_
                        rotate_left
                        · (intro w hSw; obtain ⟨p0, p1, p2⟩ := hSw; go_simp; try with_reducible rfl)
                        simp only [Act.put, List.setIfInBounds_toArray, List.set_cons_zero, List.set_cons_succ]
                        refine takeAt 23 17 (oi := _) (v := ?_) rfl rfl (by kernel_rfl) (by kernel_rfl) (by kernel_rfl) (fun _ _ _ h => h) (by rfl) ?_ (HSY.out _ H12.out.1) ?_
                        rotate_left
                        · (intro w hSw; obtain ⟨p0, p1, p2⟩ := hSw; go_simp; try with_reducible rfl)
                        simp only [Act.put, List.setIfInBounds_toArray, List.set_cons_zero, List.set_cons_succ]
                        refine takeAt 21 124 (oi := _) (v := ?_) rfl rfl (by kernel_rfl) (by kernel_rfl) (by kernel_rfl) (fun _ _ _ h => h) (by rfl) ?_ (HSY.out _ H12.out.1) ?_
                        rotate_left
                        · (intro w hSw; obtain ⟨p0, p1, p2⟩ := hSw; go_simp; try with_reducible rfl)
                        simp only [Act.put, List.setIfInBounds_toArray, List.set_cons_zero, List.set_cons_succ]
                        refine takeAt 24 18 (oi := _) (v := ?_) rfl rfl (by kernel_rfl) (by kernel_rfl) (by kernel_rfl) (fun _ _ _ h => h) (by rfl) ?_ (HSY.out _ H12.out.1) ?_
                        rotate_left
                        · (intro w hSw; obtain ⟨p0, p1, p2⟩ := hSw; go_simp; try with_reducible rfl)
                        simp only [Act.put, List.setIfInBounds_toArray, List.set_cons_zero, List.set_cons_succ]
                        refine wpAnyH_done (by kernel_rfl) ?_ _
                        go_wp2_with fail
                        go_ret
                        exact ⟨rfl, HB0.out.trans (H12.out.2.mono HB0.out.size)⟩
                    · rw [decide_eq_false hnr]
                      have hw1 : IntKind.i64.wrap (n + 1) = n + 1 := by rw [IntKind.wrap_i64]; omega
                      go_wp2_with fail
                      go_roundw
                      case rel => exact ⟨n + 1, n, by omega, by omega, by go_num, HN7.out⟩
                      case measure => simp [intOf]; omega
                · go_simp
                  have hb6' := HV5a.out.2.1.alloc HV5a.out.2.1.size (.cells #[.int .i64 kn, .int .i64 0] 42)
                  have hg6' := HV5a.out.2.2.alloc HV5a.out.2.2.size (.cells #[.int .i64 kn, .int .i64 0] 42)
                  have hl6 : SRd (WD.alloc (.cells #[.int .i64 kn, .int .i64 0] 42)) (WD.heap.size + 1) (.slice (some ⟨WD.heap.size, 0, none⟩) 1 1) [((kn : Int), 0)] := LRd.of_lit (f := spCs) (s := 2) (w := WD) (l := [((kn : Int), 0)]) (fun _ => rfl) 42 (cs := #[.int .i64 kn, .int .i64 0]) rfl (n := 1) rfl (by unfold maxLen; omega)
                  have hv6 := TOwn.alloc HV5a.out.1 (.cells #[.int .i64 kn, .int .i64 0] 42)
                  have hs6 : (WD.alloc (.cells #[.int .i64 kn, .int .i64 0] 42)).heap.size = WD.heap.size + 1 := World.size_alloc _ _
                  refine hK.out _ _ (HSX.out _ hb6') (fun _ => ?_)
                  clear hK K
                  generalize WD.alloc (.cells #[.int .i64 kn, .int .i64 0] 42) = W6 at hb6' hg6' hl6 hv6 hs6 ⊢
                  have HV6 := Lib.hid (And.intro hb6' (And.intro hg6' (And.intro (hl6.mono (B' := W6.heap.size) (by omega)) (And.intro hv6 hs6))))
                  clear hb6' hg6' hl6 hv6 hs6
                  refine wpAnyH_ready (rs := [1]) (by kernel_rfl) (by simp) ?_
                  refine AllReadyH.cons (o := _) rfl (fun K hK => ?_) AllReadyH.nil
                  go_simp
                  refine (cloneS_any (HV6.out.2.2.2.1.rd) (by have := HMM.out.1; omega)).mono ?_
                  rintro e w7 ⟨v6, rfl, ho7, hb6⟩
                  have hb7 := HV6.out.1.trans (hb6.mono HV6.out.1.size)
                  have hg7 := HV6.out.2.1.trans (hb6.mono HV6.out.2.1.size)
                  have hlit := HV6.out.2.2.1.below hb6
                  refine hK.out _ _ (HSX.out _ hb7) (fun _ => ?_)
                  clear hK K
                  have hB7 : W6.heap.size ≤ w7.heap.size := hb6.size
                  have hBW : W0.heap.size ≤ W6.heap.size := HV6.out.1.size
                  have hBG : w4.heap.size ≤ W6.heap.size := HV6.out.2.1.size
                  clear hb6
                  refine wpAnyH_ready (rs := [5]) (by kernel_rfl) (by simp) ?_
                  refine AllReadyH.cons (o := _) rfl (fun K hK => ?_) AllReadyH.nil
                  obtain ⟨v8, w8, hrun, ho8, hb8⟩ := run_app_sps 24 ho7 hlit (by have := HMM.out.1; simp; omega) hB7 (by simp)
                  have hb9 := hb7.trans (hb8.mono hBW)
                  have hg9 := hg7.trans (hb8.mono hBG)
                  obtain ⟨g, cap, e8, hBg, -⟩ := own_block_at ho8 (by simp)
                  obtain ⟨M2, hM2⟩ : ∃ M2, M2 = (foundL ts (callsOf ts l) ++ [((kn : Int), (0 : Int))]).length := ⟨_, rfl⟩
                  rw [← hM2] at e8
                  subst e8
                  have HM2 := Lib.hid hM2
                  clear hM2
                  have HRUN := Lib.hid hrun
                  have HO8 := Lib.hid (And.intro ho8 (And.intro hb9 (And.intro hg9 (Nat.le_trans hBG hBg))))
                  clear hrun ho8 hb9 hg9 ho7 hlit hB7 hb7 hg7 hb8 hBW hBG hBg
                  refine step_app_go (by rfl) (.tmp 75) (.tmp 78) _ _ (by rfl) _ _ (by rfl) (by rfl) _ _ HRUN.out ?_
                  refine hK.out _ _ (HSX.out _ HO8.out.2.1) (fun _ => ?_)
                  clear hK K
                  refine takeAt 6 7 (oi := _) (v := ?_) rfl rfl (by kernel_rfl) (by kernel_rfl) (by kernel_rfl) (fun _ _ _ h => h) (by rfl) ?_ (HSX.out _ HO8.out.2.1) ?_
                  rotate_left
                  · (intro w hSw; have p0 := hSw; simp only [NvS] at p0; go_simp; try with_reducible rfl)
                  simp only [Act.put, List.setIfInBounds_toArray]
                  refine wpAnyH_done (by kernel_rfl) ?_ _
                  have hnf0 := never_found (b := []) (v := 0) HB.out.1 HL2.out HKT.out.1 HKT.out.2 (.inr ⟨rfl, rfl, HMEM.out⟩)
                  rw [← HYY.out] at hnf0
                  obtain ⟨hnd, r, hnf⟩ := hnf0
                  simp only at hnf
                  have hbase : W0.heap.size ≤ W6.heap.size := HV6.out.1.size
                  have HNE := Lib.hid (NeR.mk HO8.out.2.1 (TOwn.base HO8.out.1 hbase) ((HO8.out.2.2.1.cell (p := ⟨gc, kn * 7, none⟩) HC4.out.1).trans HC4.out.2.1) ((HO8.out.2.2.1.cell (p := ⟨gc, kn * 7 + 1, none⟩) HC4.out.1).trans HC4.out.2.2) (by have := HO8.out.2.2.2; have := HC4.out.1; omega : gc ≠ g) (Nat.lt_of_lt_of_le HC4.out.1 HO8.out.2.2.1.size))
                  obtain ⟨p, hp⟩ : ∃ p, p = (foundL ts (callsOf ts l)).length := ⟨_, rfl⟩
                  have HPP := Lib.hid hp
                  have HNF := Lib.hid (And.intro hnd hnf)
                  obtain ⟨a, ha⟩ : ∃ a, a = foundL ts (callsOf ts l) := ⟨_, rfl⟩
                  rw [← ha] at HNE HM2 HPP HNF
                  obtain ⟨b, hbb⟩ : ∃ b : List (Int × Int), b = [] := ⟨_, rfl⟩
                  rw [← hbb] at HNE HM2 HNF
                  obtain ⟨v0, hv0⟩ : ∃ v0 : Int, v0 = 0 := ⟨_, rfl⟩
                  rw [← hv0] at HNE HM2
                  clear hp hnd hnf ha hbb hv0
                  have hrr := HNF.out.2.1
                  go_wp2_with fail
                  go_loopw [13] (fun t wr => ∃ n v : Int, -1 ≤ n ∧ n ≤ r ∧ t = .int .i64 n ∧ NeR W0 g M2 cap (a ++ ((kn : Int), v) :: b) gc (kn * 7) y0 y1 wr) (fun t _ => (1002 - intOf t).toNat)
                  case atStart => exact ⟨-1, v0, by omega, hrr, rfl, HNE.out⟩
                  case round =>
                    clear hrr
                    obtain ⟨n, v, hn1, hn2, rfl, hN⟩ := hrel
                    have i1 : n ≤ 1000 := by have := HNF.out.2.2.1; omega
                    have HI := Lib.hid (idx2_any hN.row.rd ((hN.below.cell (p := ⟨w.heap.size, 0, none⟩) HP.out.1).trans HKK.out) (Nat.lt_of_lt_of_le HP.out.1 hN.below.size))
                    have HN := Lib.hid hN
                    clear hN
                    go_wp2_with fail
                    refine HI.out.mono ?_
                    rintro e w6 ⟨q, rfl, hq, hb6⟩
                    have hq2 := first_alone (once_any HNF.out.1 v) hq
                    rw [← HPP.out] at hq2
                    subst hq2
                    have hN6 := HN.out.next hb6
                    obtain ⟨s0, s1⟩ := hN6.row.sp_at HPP.out
                    have hfz := hN6.row.at_.2
                    have HN6 := Lib.hid hN6
                    have i2 : (0 : Int) ≤ (p : Int) := by omega
                    have i3 : (p : Int) < (M2 : Int) := by rw [HM2.out, List.length_append, List.length_cons, ← HPP.out]; omega
                    clear hq hb6 HI hN6
                    go_wp2_with fail
                    have hX := HN6.out.put (HM2.out.trans len_any) HPP.out n
                    generalize w6.setCell ⟨g, p * 2 + 1, none⟩ (.int .i64 n) = X at hX ⊢
                    have HRR := Lib.hid (right_say ((HT.out.1.below hX.below).mono hX.below.size) ((HT.out.2.1.below hX.below).mono hX.below.size) hX.row.rd)
                    rw [HNF.out.2.2.2.1 n, HB.out.2] at HRR
                    have HX := Lib.hid hX
                    clear s0 s1 hfz hX
                    refine HRR.out.mono ?_
                    rintro e w7 ⟨hb7, rfl⟩
                    have HN7 := Lib.hid (HX.out.next hb7)
                    clear hb7 HRR
                    by_cases hnr : n = r
                    · subst hnr
                      simp only [decide_true]
                      have HSY := Lib.hid (fun (W : World) (hW : Below w7.heap.size w7 W) => show NvT w.heap.size kn gc y0 y1 W from ⟨((HN7.out.next hW).below.cell (p := ⟨w.heap.size, 0, none⟩) HP.out.1).trans HKK.out, (HN7.out.next hW).c0, (HN7.out.next hW).c1⟩)
                      go_wp2_with fail
                      refine wp_region_held_drew (S := NvT w.heap.size kn gc y0 y1) (by kernel_rfl) (HSY.out _ ((Below.refl _ w7).drew)) (fun hHeld => ?_)
                      change wpAnyH _ _ _ _ _ 25 _ _ _
                      clear hHeld
                      have HD7a := Lib.hid (And.intro ((Below.refl w7.heap.size w7).drew) HN7.out.below.drew)
                      generalize w7.drew = WE at HD7a ⊢
                      refine takeAt 0 104 (oi := _) (v := ?_) rfl rfl (by kernel_rfl) (by kernel_rfl) (by kernel_rfl) (fun _ _ _ h => h) (by rfl) ?_ (HSY.out _ HD7a.out.1) ?_
                      rotate_left
                      · (intro w hSw; obtain ⟨p0, p1, p2⟩ := hSw; go_simp; try with_reducible rfl)
                      simp only [Act.put, List.setIfInBounds_toArray, List.set_cons_zero, List.set_cons_succ]
                      refine takeAt 1 105 (oi := _) (v := ?_) rfl rfl (by kernel_rfl) (by kernel_rfl) (by kernel_rfl) (fun _ _ _ h => h) (by rfl) ?_ (HSY.out _ HD7a.out.1) ?_
                      rotate_left
                      · (intro w hSw; obtain ⟨p0, p1, p2⟩ := hSw; go_simp; try with_reducible rfl)
                      simp only [Act.put, List.setIfInBounds_toArray, List.set_cons_zero, List.set_cons_succ]
                      refine takeAt 3 107 (oi := _) (v := ?_) rfl rfl (by kernel_rfl) (by kernel_rfl) (by kernel_rfl) (fun _ _ _ h => h) (by rfl) ?_ (HSY.out _ HD7a.out.1) ?_
                      rotate_left
                      · (intro w hSw; obtain ⟨p0, p1, p2⟩ := hSw; go_simp; try with_reducible rfl)
                      simp only [Act.put, List.setIfInBounds_toArray, List.set_cons_zero, List.set_cons_succ]
                      refine takeAt 4 108 (oi := _) (v := ?_) rfl rfl (by kernel_rfl) (by kernel_rfl) (by kernel_rfl) (fun _ _ _ h => h) (by rfl) ?_ (HSY.out _ HD7a.out.1) ?_
                      rotate_left
                      · (intro w hSw; obtain ⟨p0, p1, p2⟩ := hSw; go_simp; try with_reducible rfl)
                      simp only [Act.put, List.setIfInBounds_toArray, List.set_cons_zero, List.set_cons_succ]
                      refine takeAt 5 109 (oi := _) (v := ?_) rfl rfl (by kernel_rfl) (by kernel_rfl) (by kernel_rfl) (fun _ _ _ h => h) (by rfl) ?_ (HSY.out _ HD7a.out.1) ?_
                      rotate_left
                      · (intro w hSw; obtain ⟨p0, p1, p2⟩ := hSw; go_simp; try with_reducible rfl)
                      simp only [Act.put, List.setIfInBounds_toArray, List.set_cons_zero, List.set_cons_succ]
                      refine takeAt 6 110 (oi := _) (v := ?_) rfl rfl (by kernel_rfl) (by kernel_rfl) (by kernel_rfl) (fun _ _ _ h => h) (by rfl) ?_ (HSY.out _ HD7a.out.1) ?_
                      rotate_left
                      · (intro w hSw; obtain ⟨p0, p1, p2⟩ := hSw; go_simp; try with_reducible rfl)
                      simp only [Act.put, List.setIfInBounds_toArray, List.set_cons_zero, List.set_cons_succ]
                      refine takeAt 7 111 (oi := _) (v := ?_) rfl rfl (by kernel_rfl) (by kernel_rfl) (by kernel_rfl) (fun _ _ _ h => h) (by rfl) ?_ (HSY.out _ HD7a.out.1) ?_
                      rotate_left
                      · (intro w hSw; obtain ⟨p0, p1, p2⟩ := hSw; go_simp; try with_reducible rfl)
                      simp only [Act.put, List.setIfInBounds_toArray, List.set_cons_zero, List.set_cons_succ]
                      refine takeAt 8 112 (oi := _) (v := ?_) rfl rfl (by kernel_rfl) (by kernel_rfl) (by kernel_rfl) (fun _ _ _ h => h) (by rfl) ?_ (HSY.out _ HD7a.out.1) ?_
                      rotate_left
                      · (intro w hSw; obtain ⟨p0, p1, p2⟩ := hSw; go_simp; try with_reducible rfl)
                      simp only [Act.put, List.setIfInBounds_toArray, List.set_cons_zero, List.set_cons_succ]
                      refine takeAt 9 113 (oi := _) (v := ?_) rfl rfl (by kernel_rfl) (by kernel_rfl) (by kernel_rfl) (fun _ _ _ h => h) (by rfl) ?_ (HSY.out _ HD7a.out.1) ?_
                      rotate_left
                      · (intro w hSw; obtain ⟨p0, p1, p2⟩ := hSw; go_simp; try with_reducible rfl)
                      simp only [Act.put, List.setIfInBounds_toArray, List.set_cons_zero, List.set_cons_succ]
                      refine takeAt 10 114 (oi := _) (v := ?_) rfl rfl (by kernel_rfl) (by kernel_rfl) (by kernel_rfl) (fun _ _ _ h => h) (by rfl) ?_ (HSY.out _ HD7a.out.1) ?_
                      rotate_left
                      · (intro w hSw; obtain ⟨p0, p1, p2⟩ := hSw; go_simp; try with_reducible rfl)
                      simp only [Act.put, List.setIfInBounds_toArray, List.set_cons_zero, List.set_cons_succ]
                      refine takeAt 11 115 (oi := _) (v := ?_) rfl rfl (by kernel_rfl) (by kernel_rfl) (by kernel_rfl) (fun _ _ _ h => h) (by rfl) ?_ (HSY.out _ HD7a.out.1) ?_
                      rotate_left
                      · (intro w hSw; obtain ⟨p0, p1, p2⟩ := hSw; go_simp; try with_reducible rfl)
                      simp only [Act.put, List.setIfInBounds_toArray, List.set_cons_zero, List.set_cons_succ]
                      refine takeAt 12 116 (oi := _) (v := ?_) rfl rfl (by kernel_rfl) (by kernel_rfl) (by kernel_rfl) (fun _ _ _ h => h) (by rfl) ?_ (HSY.out _ HD7a.out.1) ?_
                      rotate_left
                      · (intro w hSw; obtain ⟨p0, p1, p2⟩ := hSw; go_simp; try with_reducible rfl)
                      simp only [Act.put, List.setIfInBounds_toArray, List.set_cons_zero, List.set_cons_succ]
                      refine takeAt 13 117 (oi := _) (v := ?_) rfl rfl (by kernel_rfl) (by kernel_rfl) (by kernel_rfl) (fun _ _ _ h => h) (by rfl) ?_ (HSY.out _ HD7a.out.1) ?_
                      rotate_left
                      · (intro w hSw; obtain ⟨p0, p1, p2⟩ := hSw; go_simp; try with_reducible rfl)
                      simp only [Act.put, List.setIfInBounds_toArray, List.set_cons_zero, List.set_cons_succ]
                      refine takeAt 14 118 (oi := _) (v := ?_) rfl rfl (by kernel_rfl) (by kernel_rfl) (by kernel_rfl) (fun _ _ _ h => h) (by rfl) ?_ (HSY.out _ HD7a.out.1) ?_
                      rotate_left
                      · (intro w hSw; obtain ⟨p0, p1, p2⟩ := hSw; go_simp; try with_reducible rfl)
                      simp only [Act.put, List.setIfInBounds_toArray, List.set_cons_zero, List.set_cons_succ]
                      refine wpAnyH_ready (rs := [2, 15]) (by kernel_rfl) (by simp) ?_
                      refine AllReadyH.cons (o := _) rfl (fun K hK => ?_) (AllReadyH.cons (o := _) rfl (fun K hK => ?_) AllReadyH.nil)
                      · go_simp
                        refine (cloneE_any ((HT.out.2.1.below HD7a.out.2).mono HD7a.out.2.size) (by have := HL2.out; have := HLL.out.2; omega)).mono ?_
                        rintro e w9 ⟨v9, rfl, ho9, hb9⟩
                        have hb9' := HD7a.out.1.trans (hb9.mono HD7a.out.1.size)
                        refine hK.out _ _ (HSY.out _ hb9') (fun _ => ?_)
                        clear hK K
                        have ho10 := EOwn.alloc ho9 (.cells #[.int .i64 y0, .int .i64 y1, .int .i64 0, .int .i64 n] 77)
                        have hlit : ERd (w9.alloc (.cells #[.int .i64 y0, .int .i64 y1, .int .i64 0, .int .i64 n] 77)) (w9.heap.size + 1) (.slice (some ⟨w9.heap.size, 0, none⟩) 1 1) [⟨y0, y1, 0, n⟩] := LRd.of_lit (f := evCs) (s := 4) (w := w9) (l := [⟨y0, y1, 0, n⟩]) (fun _ => rfl) 77 (cs := #[.int .i64 y0, .int .i64 y1, .int .i64 0, .int .i64 n]) rfl (n := 1) rfl (by unfold maxLen; omega)
                        have hb10 := hb9'.alloc hb9'.size (.cells #[.int .i64 y0, .int .i64 y1, .int .i64 0, .int .i64 n] 77)
                        have hB10 : WE.heap.size ≤ (w9.alloc (.cells #[.int .i64 y0, .int .i64 y1, .int .i64 0, .int .i64 n] 77)).heap.size := by have := hb9.size; simp; omega
                        have hB7 : w7.heap.size ≤ WE.heap.size := HD7a.out.1.size
                        clear ho9 hb9 hb9'
                        refine wpAnyH_ready (rs := [15]) (by kernel_rfl) (by simp) ?_
                        refine AllReadyH.cons (o := _) rfl (fun K hK => ?_) AllReadyH.nil
                        go_simp
                        refine hK.out _ _ (HSY.out _ hb10) (fun _ => ?_)
                        clear hK K
                        refine wpAnyH_ready (rs := [16]) (by kernel_rfl) (by simp) ?_
                        refine AllReadyH.cons (o := _) rfl (fun K hK => ?_) AllReadyH.nil
                        obtain ⟨v11, w11, hrun, ho11, hb11⟩ := run_app_evs 23 ho10 hlit (by have := HL2.out; have := HLL.out.2; simp; omega) hB10 (by simp)
                        have hb12 := hb10.trans (hb11.mono hB7)
                        have HRUN := Lib.hid hrun
                        have HO11 := Lib.hid (And.intro ho11.rd hb12)
                        clear hrun ho11 hb12 ho10 hlit hB10 hb10 hb11 hB7
                        refine step_app_go (by rfl) (.tmp 106) (.tmp 119) _ _ (by rfl) _ _ (by rfl) (by rfl) _ _ HRUN.out ?_
                        refine hK.out _ _ (HSY.out _ HO11.out.2) (fun _ => ?_)
                        clear hK K
                        have hW11 := HN7.out.below.trans (HO11.out.2.mono HN7.out.below.size)
                        have HF11 := Lib.hid (find_say ((HT.out.1.below hW11).mono hW11.size) HO11.out.1 ((HT.out.2.2.on hW11).mono hW11.size))
                        have HW11 := Lib.hid hW11
                        clear hW11
                        rw [HNF.out.2.2.2.2.1, HNF.out.2.2.2.2.2] at HF11
                        refine wpAnyH_ready (rs := [17]) (by kernel_rfl) (by simp) ?_
                        refine AllReadyH.cons (o := _) rfl (fun K hK => ?_) AllReadyH.nil
                        go_simp
                        refine HF11.out.mono ?_
                        rintro e w12 ⟨hb12, v12, rfl, -⟩
                        have H12 := Lib.hid (And.intro (HO11.out.2.trans (hb12.mono HO11.out.2.size)) (HW11.out.trans (hb12.mono HW11.out.size)))
                        clear hb12 HF11
                        refine hK.out _ _ (HSY.out _ H12.out.1) (fun _ => ?_)
                        clear hK K
                        refine takeAt 18 103 (oi := _) (v := ?_) rfl rfl (by kernel_rfl) (by kernel_rfl) (by kernel_rfl) (fun _ _ _ h => h) (by rfl) ?_ (HSY.out _ H12.out.1) ?_
                        rotate_left
                        · (intro w hSw; obtain ⟨p0, p1, p2⟩ := hSw; go_simp; try with_reducible rfl)
                        simp only [Act.put, List.setIfInBounds_toArray, List.set_cons_zero, List.set_cons_succ]
                        refine takeAt 19 122 (oi := _) (v := ?_) rfl rfl (by kernel_rfl) (by kernel_rfl) (by kernel_rfl) (fun _ _ _ h => h) (by rfl) ?_ (HSY.out _ H12.out.1) ?_
                        rotate_left
                        · (intro w hSw; obtain ⟨p0, p1, p2⟩ := hSw; go_simp; try with_reducible rfl)
                        simp only [Act.put, List.setIfInBounds_toArray, List.set_cons_zero, List.set_cons_succ]
                        refine takeAt 22 16 (oi := _) (v := ?_) rfl rfl (by kernel_rfl) (by kernel_rfl) (by kernel_rfl) (fun _ _ _ h => h) (by rfl) ?_ (HSY.out _ H12.out.1) ?_
                        rotate_left
                        · (intro w hSw; obtain ⟨p0, p1, p2⟩ := hSw; go_simp; try with_reducible rfl)
                        simp only [Act.put, List.setIfInBounds_toArray, List.set_cons_zero, List.set_cons_succ]
                        refine takeAt 20 123 (oi := _) (v := ?_) rfl rfl (by kernel_rfl) (by kernel_rfl) (by kernel_rfl) (fun _ _ _ h => h) (by rfl) ?_ (HSY.out _ H12.out.1) ?_
                        rotate_left
                        · (intro w hSw; obtain ⟨p0, p1, p2⟩ := hSw; go_simp; try with_reducible rfl)
                        simp only [Act.put, List.setIfInBounds_toArray, List.set_cons_zero, List.set_cons_succ]
                        refine takeAt 23 17 (oi := _) (v := ?_) rfl rfl (by kernel_rfl) (by kernel_rfl) (by kernel_rfl) (fun _ _ _ h => h) (by rfl) ?_ (HSY.out _ H12.out.1) ?_
                        rotate_left
                        · (intro w hSw; obtain ⟨p0, p1, p2⟩ := hSw; go_simp; try with_reducible rfl)
                        simp only [Act.put, List.setIfInBounds_toArray, List.set_cons_zero, List.set_cons_succ]
                        refine takeAt 21 124 (oi := _) (v := ?_) rfl rfl (by kernel_rfl) (by kernel_rfl) (by kernel_rfl) (fun _ _ _ h => h) (by rfl) ?_ (HSY.out _ H12.out.1) ?_
                        rotate_left
                        · (intro w hSw; obtain ⟨p0, p1, p2⟩ := hSw; go_simp; try with_reducible rfl)
                        simp only [Act.put, List.setIfInBounds_toArray, List.set_cons_zero, List.set_cons_succ]
                        refine takeAt 24 18 (oi := _) (v := ?_) rfl rfl (by kernel_rfl) (by kernel_rfl) (by kernel_rfl) (fun _ _ _ h => h) (by rfl) ?_ (HSY.out _ H12.out.1) ?_
                        rotate_left
                        · (intro w hSw; obtain ⟨p0, p1, p2⟩ := hSw; go_simp; try with_reducible rfl)
                        simp only [Act.put, List.setIfInBounds_toArray, List.set_cons_zero, List.set_cons_succ]
                        refine wpAnyH_done (by kernel_rfl) ?_ _
                        go_wp2_with fail
                        go_ret
                        exact ⟨rfl, HB0.out.trans (H12.out.2.mono HB0.out.size)⟩
                      · go_simp
                        have hb8' := HD7a.out.1.alloc HD7a.out.1.size (.cells #[.int .i64 y0, .int .i64 y1, .int .i64 0, .int .i64 n] 77)
                        have hw8' := HD7a.out.2.alloc HD7a.out.2.size (.cells #[.int .i64 y0, .int .i64 y1, .int .i64 0, .int .i64 n] 77)
                        have hl8 : ERd (WE.alloc (.cells #[.int .i64 y0, .int .i64 y1, .int .i64 0, .int .i64 n] 77)) (WE.heap.size + 1) (.slice (some ⟨WE.heap.size, 0, none⟩) 1 1) [⟨y0, y1, 0, n⟩] := LRd.of_lit (f := evCs) (s := 4) (w := WE) (l := [⟨y0, y1, 0, n⟩]) (fun _ => rfl) 77 (cs := #[.int .i64 y0, .int .i64 y1, .int .i64 0, .int .i64 n]) rfl (n := 1) rfl (by unfold maxLen; omega)
                        have hs8 : (WE.alloc (.cells #[.int .i64 y0, .int .i64 y1, .int .i64 0, .int .i64 n] 77)).heap.size = WE.heap.size + 1 := World.size_alloc _ _
                        refine hK.out _ _ (HSY.out _ hb8') (fun _ => ?_)
                        clear hK K
                        generalize WE.alloc (.cells #[.int .i64 y0, .int .i64 y1, .int .i64 0, .int .i64 n] 77) = W8 at hb8' hw8' hl8 hs8 ⊢
                        have HV8 := Lib.hid (And.intro hb8' (And.intro hw8' (hl8.mono (B' := W8.heap.size) (by omega))))
                        clear hb8' hw8' hl8 hs8
                        refine wpAnyH_ready (rs := [2]) (by kernel_rfl) (by simp) ?_
                        refine AllReadyH.cons (o := _) rfl (fun K hK => ?_) AllReadyH.nil
                        go_simp
                        refine (cloneE_any ((HT.out.2.1.below HV8.out.2.1).mono HV8.out.2.1.size) (by have := HL2.out; have := HLL.out.2; omega)).mono ?_
                        rintro e w10 ⟨v9, rfl, ho10, hb9⟩
                        have hb10 := HV8.out.1.trans (hb9.mono HV8.out.1.size)
                        have hlit := HV8.out.2.2.below hb9
                        refine hK.out _ _ (HSY.out _ hb10) (fun _ => ?_)
                        clear hK K
                        have hB10 : W8.heap.size ≤ w10.heap.size := hb9.size
                        have hB7 : w7.heap.size ≤ W8.heap.size := HV8.out.1.size
                        clear hb9
                        refine wpAnyH_ready (rs := [16]) (by kernel_rfl) (by simp) ?_
                        refine AllReadyH.cons (o := _) rfl (fun K hK => ?_) AllReadyH.nil
                        obtain ⟨v11, w11, hrun, ho11, hb11⟩ := run_app_evs 23 ho10 hlit (by have := HL2.out; have := HLL.out.2; simp; omega) hB10 (by simp)
                        have hb12 := hb10.trans (hb11.mono hB7)
                        have HRUN := Lib.hid hrun
                        have HO11 := Lib.hid (And.intro ho11.rd hb12)
                        clear hrun ho11 hb12 ho10 hlit hB10 hb10 hb11 hB7
                        refine step_app_go (by rfl) (.tmp 106) (.tmp 119) _ _ (by rfl) _ _ (by rfl) (by rfl) _ _ HRUN.out ?_
                        refine hK.out _ _ (HSY.out _ HO11.out.2) (fun _ => ?_)
                        clear hK K
                        have hW11 := HN7.out.below.trans (HO11.out.2.mono HN7.out.below.size)
                        have HF11 := Lib.hid (find_say ((HT.out.1.below hW11).mono hW11.size) HO11.out.1 ((HT.out.2.2.on hW11).mono hW11.size))
                        have HW11 := Lib.hid hW11
                        clear hW11
                        rw [HNF.out.2.2.2.2.1, HNF.out.2.2.2.2.2] at HF11
                        refine wpAnyH_ready (rs := [17]) (by kernel_rfl) (by simp) ?_
                        refine AllReadyH.cons (o := _) rfl (fun K hK => ?_) AllReadyH.nil
                        go_simp
                        refine HF11.out.mono ?_
                        rintro e w12 ⟨hb12, v12, rfl, -⟩
                        have H12 := Lib.hid (And.intro (HO11.out.2.trans (hb12.mono HO11.out.2.size)) (HW11.out.trans (hb12.mono HW11.out.size)))
                        clear hb12 HF11
                        refine hK.out _ _ (HSY.out _ H12.out.1) (fun _ => ?_)
                        clear hK K
                        refine takeAt 18 103 (oi := _) (v := ?_) rfl rfl (by kernel_rfl) (by kernel_rfl) (by kernel_rfl) (fun _ _ _ h => h) (by rfl) ?_ (HSY.out _ H12.out.1) ?_
                        rotate_left
                        · (intro w hSw; obtain ⟨p0, p1, p2⟩ := hSw; go_simp; try with_reducible rfl)
                        simp only [Act.put, List.setIfInBounds_toArray, List.set_cons_zero, List.set_cons_succ]
                        refine takeAt 19 122 (oi := _) (v := ?_) rfl rfl (by kernel_rfl) (by kernel_rfl) (by kernel_rfl) (fun _ _ _ h => h) (by rfl) ?_ (HSY.out _ H12.out.1) ?_
                        rotate_left
                        · (intro w hSw; obtain ⟨p0, p1, p2⟩ := hSw; go_simp; try with_reducible rfl)
                        simp only [Act.put, List.setIfInBounds_toArray, List.set_cons_zero, List.set_cons_succ]
                        refine takeAt 22 16 (oi := _) (v := ?_) rfl rfl (by kernel_rfl) (by kernel_rfl) (by kernel_rfl) (fun _ _ _ h => h) (by rfl) ?_ (HSY.out _ H12.out.1) ?_
                        rotate_left
                        · (intro w hSw; obtain ⟨p0, p1, p2⟩ := hSw; go_simp; try with_reducible rfl)
                        simp only [Act.put, List.setIfInBounds_toArray, List.set_cons_zero, List.set_cons_succ]
                        refine takeAt 20 123 (oi := _) (v := ?_) rfl rfl (by kernel_rfl) (by kernel_rfl) (by kernel_rfl) (fun _ _ _ h => h) (by rfl) ?_ (HSY.out _ H12.out.1) ?_
                        rotate_left
                        · (intro w hSw; obtain ⟨p0, p1, p2⟩ := hSw; go_simp; try with_reducible rfl)
                        simp only [Act.put, List.setIfInBounds_toArray, List.set_cons_zero, List.set_cons_succ]
                        refine takeAt 23 17 (oi := _) (v := ?_) rfl rfl (by kernel_rfl) (by kernel_rfl) (by kernel_rfl) (fun _ _ _ h => h) (by rfl) ?_ (HSY.out _ H12.out.1) ?_
                        rotate_left
                        · (intro w hSw; obtain ⟨p0, p1, p2⟩ := hSw; go_simp; try with_reducible rfl)
                        simp only [Act.put, List.setIfInBounds_toArray, List.set_cons_zero, List.set_cons_succ]
                        refine takeAt 21 124 (oi := _) (v := ?_) rfl rfl (by kernel_rfl) (by kernel_rfl) (by kernel_rfl) (fun _ _ _ h => h) (by rfl) ?_ (HSY.out _ H12.out.1) ?_
                        rotate_left
                        · (intro w hSw; obtain ⟨p0, p1, p2⟩ := hSw; go_simp; try with_reducible rfl)
                        simp only [Act.put, List.setIfInBounds_toArray, List.set_cons_zero, List.set_cons_succ]
                        refine takeAt 24 18 (oi := _) (v := ?_) rfl rfl (by kernel_rfl) (by kernel_rfl) (by kernel_rfl) (fun _ _ _ h => h) (by rfl) ?_ (HSY.out _ H12.out.1) ?_
                        rotate_left
                        · (intro w hSw; obtain ⟨p0, p1, p2⟩ := hSw; go_simp; try with_reducible rfl)
                        simp only [Act.put, List.setIfInBounds_toArray, List.set_cons_zero, List.set_cons_succ]
                        refine wpAnyH_done (by kernel_rfl) ?_ _
                        go_wp2_with fail
                        go_ret
                        exact ⟨rfl, HB0.out.trans (H12.out.2.mono HB0.out.size)⟩
                    · rw [decide_eq_false hnr]
                      have hw1 : IntKind.i64.wrap (n + 1) = n + 1 := by rw [IntKind.wrap_i64]; omega
                      go_wp2_with fail
                      go_roundw
                      case rel => exact ⟨n + 1, n, by omega, by omega, by go_num, HN7.out⟩
                      case measure => simp [intOf]; omega
            · have i8 : (200 : Int) ≤ (L : Int) := by omega
              clear hti
              have HS2 := Lib.hid (slives_any w2 ((HT.out.2.2.on H2.out).mono H2.out.size))
              go_wp2_with fail
              refine HS2.out.mono ?_
              rintro e w3 ⟨rfl, hb3⟩
              have H3 := Lib.hid (H2.out.trans (hb3.mono H2.out.size))
              have HB23 := Lib.hid hb3
              clear hb3 HS2
              have HOK := Lib.hid (ok_zero (IRd.fresh w3 25 [0, 0] 2 rfl #[.int .i64 0, .int .i64 0] rfl) (by decide) (by decide))
              have hal : Below w3.heap.size w3 (w3.alloc (.cells #[.int .i64 0, .int .i64 0] 25)) := (Below.refl _ _).alloc (Nat.le_refl _) _
              have h4 := H3.out.trans (hal.mono H3.out.size)
              have hq4 : (w3.alloc (.cells #[.int .i64 0, .int .i64 0] 25)).cell? ⟨w.heap.size, 0, none⟩ = some (.int .i64 (kn : Int)) := (h4.cell (p := ⟨w.heap.size, 0, none⟩) HP.out.1).trans HP.out.2
              have h24 := HB23.out.trans (hal.mono HB23.out.size)
              have H4a := Lib.hid (And.intro h4 h24)
              clear hal h4 h24
              obtain ⟨k0, k1, k2, k6⟩ := HCC.out.2.2 _ H4a.out.2
              go_wp2_with fail
              refine HOK.out.mono ?_
              rintro e w9 ⟨rfl, rfl⟩
              clear HOK
              generalize (w3.alloc (.cells #[.int .i64 0, .int .i64 0] 25)) = w4 at H4a hq4 k0 k1 k2 k6 ⊢
              have H4 := Lib.hid H4a.out.1
              have HS4 := Lib.hid (slives_any w4 ((HT.out.2.2.on H4.out).mono H4.out.size))
              go_wp2_with fail
              refine HS4.out.mono ?_
              rintro e w5 ⟨rfl, hb5⟩
              have H5 := Lib.hid (H4.out.trans (hb5.mono H4.out.size))
              clear hb5 HS4
              go_wp2_with fail
              go_ret
              exact ⟨rfl, HB0.out.trans (H5.out.mono HB0.out.size)⟩
          · have b1 : (y6 != -1) = true := by rw [bne_iff_ne]; exact hti
            clear hti
            have HS2 := Lib.hid (slives_any w2 ((HT.out.2.2.on H2.out).mono H2.out.size))
            go_wp2_with fail
            refine HS2.out.mono ?_
            rintro e w3 ⟨rfl, hb3⟩
            have H3 := Lib.hid (H2.out.trans (hb3.mono H2.out.size))
            have HB23 := Lib.hid hb3
            clear hb3 HS2
            have HOK := Lib.hid (ok_zero (IRd.fresh w3 25 [0, 0] 2 rfl #[.int .i64 0, .int .i64 0] rfl) (by decide) (by decide))
            have hal : Below w3.heap.size w3 (w3.alloc (.cells #[.int .i64 0, .int .i64 0] 25)) := (Below.refl _ _).alloc (Nat.le_refl _) _
            have h4 := H3.out.trans (hal.mono H3.out.size)
            have hq4 : (w3.alloc (.cells #[.int .i64 0, .int .i64 0] 25)).cell? ⟨w.heap.size, 0, none⟩ = some (.int .i64 (kn : Int)) := (h4.cell (p := ⟨w.heap.size, 0, none⟩) HP.out.1).trans HP.out.2
            have h24 := HB23.out.trans (hal.mono HB23.out.size)
            have H4a := Lib.hid (And.intro h4 h24)
            clear hal h4 h24
            obtain ⟨k0, k1, k2, k6⟩ := HCC.out.2.2 _ H4a.out.2
            go_wp2_with fail
            refine HOK.out.mono ?_
            rintro e w9 ⟨rfl, rfl⟩
            clear HOK
            generalize (w3.alloc (.cells #[.int .i64 0, .int .i64 0] 25)) = w4 at H4a hq4 k0 k1 k2 k6 ⊢
            have H4 := Lib.hid H4a.out.1
            have HS4 := Lib.hid (slives_any w4 ((HT.out.2.2.on H4.out).mono H4.out.size))
            go_wp2_with fail
            refine HS4.out.mono ?_
            rintro e w5 ⟨rfl, hb5⟩
            have H5 := Lib.hid (H4.out.trans (hb5.mono H4.out.size))
            clear hb5 HS4
            go_wp2_with fail
            go_ret
            exact ⟨rfl, HB0.out.trans (H5.out.mono HB0.out.size)⟩
  · obtain ⟨q1, -, -⟩ := say_bad (ts := ts) hE []
    rw [q1]
    clear q1
    generalize (callsOf ts l).2.2 = f
    generalize hEE : searchE (callsOf ts l) = E at hE ⊢
    have HE := Lib.hid hE
    clear hEE hE
    have HS2 := Lib.hid (slives_any w2 ((HT.out.2.2.on H2.out).mono H2.out.size))
    go_wp2_with fail
    refine HS2.out.mono ?_
    rintro e w3 ⟨rfl, hb3⟩
    have H3 := Lib.hid (H2.out.trans (hb3.mono H2.out.size))
    clear hb3 HS2
    have HOK := Lib.hid (ok_not (IRd.fresh w3 25 [E, f] 2 rfl #[.int .i64 E, .int .i64 f] rfl) (x := E) (by simp) HE.out (by simp))
    go_wp2_with fail
    refine HOK.out.mono ?_
    rintro e w9 ⟨rfl, rfl⟩
    have H4a := Lib.hid (H3.out.alloc H3.out.size (.cells #[.int .i64 E, .int .i64 f] 25))
    clear HOK
    generalize w3.alloc (.cells #[.int .i64 E, .int .i64 f] 25) = w4 at H4a ⊢
    have H4 := H4a
    have HS4 := Lib.hid (slives_any w4 ((HT.out.2.2.on H4.out).mono H4.out.size))
    go_wp2_with fail
    refine HS4.out.mono ?_
    rintro e w5 ⟨rfl, hb5⟩
    have H5 := Lib.hid (H4.out.trans (hb5.mono H4.out.size))
    clear hb5 HS4
    go_wp2_with fail
    go_ret
    exact ⟨rfl, HB0.out.trans (H5.out.mono HB0.out.size)⟩
end Go.Proofs.YtecpjeililiafaaDoor

/-
  The tied card of alibkeep.SearchNever: whatever is handed in (the listed tables reading as the program's own text lays them), the law answers true and leaves its arguments as they were.
-/
namespace Go.Proofs.YtecpjeililiafaaDoor
open Go.ChangeShapes Go.WideShapes Go.ChangeAt Go.RowKit
set_option maxRecDepth 20000

theorem searchNever_knob : ownKnob Tryd.prog.godebug = none := by kernel_rfl

set_option maxRecDepth 100000 in
theorem searchNever_lifted (os : Os) (started : os.Started) (H : Type) (enc : TypeId × Value → H) :
    ReturnsInHanded {} Tryd.checked os 10 .any (fun w args => (Rows.searchNeverSpec.pre enc Tryd.prog Tryd.f10 [] false w args ∧ laidMetH Tryd.prog tab3Laid w) ∧ sizedMet enc Tryd.prog Tryd.f10 (OpenSpec.ofChange Rows.searchNeverSpec) false w args)
      (Rows.searchNeverSpec.post enc Tryd.prog Tryd.f10 false true false false) := by
  refine returnsInHanded_of_change_and (C := Tryd.checked) (X := fun w _ => laidMetH Tryd.prog tab3Laid w) (fun _ _ _ hh h => h.of_heap hh) searchNever_knob started (by kernel_rfl) Tryd.func10
    (ChangeSpec.witness_shaped (enc := enc) (C := Tryd.checked) (os := os) (X := fun w _ => laidMetH Tryd.prog tab3Laid w) false (World.laidAll Tryd.prog os tab3Laid) #[.slice none 0 0, .slice none 0 0, .int .i64 0] 8 (World.laidAll_os _ _ _)
      (World.shaped_of_ZipB (by kernel_rfl) (by kernel_rfl)) (by kernel_rfl) (by kernel_rfl) (by kernel_rfl)
      (by rw [MakeChecks.laidMetH_plain _ _ _ (by kernel_rfl)]; exact laidMet_laidAll _ (by kernel_rfl) (by kernel_rfl))) ?_
  intro W base args ds gs before hval0 hW _ _ hL _
  have hval : ∀ (j : Nat) t v, Tryd.f10.params[j]? = some t → args[j]? = some v → Value.okWide Tryd.prog W .any base t v := hval0
  have hW' := hW
  have hlt := hW.lt
  obtain ⟨p, q, hA0, hV, rfl, _, _⟩ := hW
  have hA : DataW.TrodAll enc Tryd.prog W 0 (fun _ => true) true Tryd.f10.params.toList args.toList ds p := hA0
  rw [Tryd.params10] at hA hval
  obtain ⟨v0, v1, v2, d0, d1, d2, p0, p1, p2, rfl, rfl, rfl, h0, h1, h2⟩ := trodAll_three hA
  obtain ⟨rfl, rfl⟩ := trodVars_none hV
  obtain ⟨l0, hL0⟩ := open_nums (hval 0 22 v0 rfl rfl) h0
  obtain ⟨l1, hL1⟩ := open_evs (hval 1 23 v1 rfl rfl) h1
  obtain ⟨i2, rfl, rfl, rfl, wi2⟩ := open_int Tryd.underlying3 (hval 2 3 v2 rfl rfl) h2
  have hT := pow_of_laid hL
  clear hA0 hval0
  simp only [List.append_nil] at hW' hlt
  refine (snever_any hL0 hL1 i2 hT).mono fun e W' ⟨he, hb⟩ => ?_
  subst he
  refine ⟨_, rfl, end_of_below (pa := p0 ++ p1) (pv := []) hW' hb (by simp) (fun _ _ _ => ?_) (fun sp hsp => ?_) (fun _ _ => rfl) (ok_one (by kernel_rfl) rfl (okWide_bool_mk Tryd.underlying4 _))⟩
  · exact trodAll_mk1 (shut_bool Tryd.underlying4 _)
  · skip
    have hk0 := WideElems.Trod_stays laidOutIt (by kernel_rfl) (of_decide_eq_true (by kernel_rfl)) h0 (fun x hx => hb.same (hlt x (List.mem_append.2 (.inl hx)))) (fun x hx => hsp x (List.mem_append.2 (.inl hx)))
    have hk1 := WideElems.Trod_stays laidOutIt (by kernel_rfl) (of_decide_eq_true (by kernel_rfl)) h1 (fun x hx => hb.same (hlt x (List.mem_append.2 (.inr hx)))) (fun x hx => hsp x (List.mem_append.2 (.inr hx)))
    have := trodAll_mk3 hk0 hk1 (shut_int Tryd.underlying3 wi2)
    simp only [List.append_nil] at this ⊢
    exact this

theorem searchNever_holds : Rows.SearchNeverSaid :=
  OpenClaim.holds_of_wide 10 Tryd.f10 rfl rfl rfl rfl rfl rfl rfl ⟨rfl, rfl, rfl, rfl, rfl⟩ rfl rfl rfl rfl rfl (by kernel_rfl) Tryd.func10 (by kernel_rfl)
    (of_decide_eq_true (by kernel_rfl)) (by unfold Func.isWrapper; first | (rw [if_pos (by decide +kernel)]; kernel_rfl) | (rw [if_neg (by decide +kernel)]; exact ⟨rfl, rfl⟩))
    (fun os started H enc _ => searchNever_lifted os started H enc)

theorem searchNever_card : Rows.SearchNeverCardSaid :=
  Claim7.holds_tied_plain_at .later [] [.data, .data, .data] true Rows.searchNeverCard.stood.harness false searchNever_holds (fun _ h => by cases h) (by kernel_rfl) (fun _ h => by cases h) searchNever_row_tie rfl ⟨rfl, rfl⟩ (by kernel_rfl) rfl
    (fun f fn hf hfn => by
      obtain rfl : f = 10 := Option.some.inj ((show Tryd.prog.funcNamed "alibi/alibkeep.SearchNever" = some 10 by kernel_rfl).symm.trans hf) |>.symm
      obtain rfl : fn = Tryd.f10 := (Option.some.inj (Tryd.func10.symm.trans hfn)).symm
      exact ⟨by kernel_rfl, fun j t ht => by
        rw [Tryd.params10] at ht
        have hm : t ∈ [22, 23, 3] := by simpa using Array.mem_of_getElem? ht
        have hall : ([22, 23, 3].all fun u => !Tryd.prog.wantsStandIn u) = true := by kernel_rfl
        exact (show Tryd.prog.wantsStandIn t = false by simpa using List.all_eq_true.1 hall t hm)⟩)
    (by kernel_rfl)
#print axioms searchNever_card
end Go.Proofs.YtecpjeililiafaaDoor
