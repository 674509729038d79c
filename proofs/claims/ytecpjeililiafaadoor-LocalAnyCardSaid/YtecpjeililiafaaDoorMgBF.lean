/-
  Joined by a program out of: SeqFind, CloneEv, PlacePure, SLaterP.
-/
import Derived.Test.YtecpjeililiafaaDoorMgBD
import Derived.Test.YtecpjeililiafaaDoorMgBE
import Derived.Test.YtecpjeililiafaaDoorMgAX
import Derived.Test.YtecpjeililiafaaDoorMgAJ
import Derived.Deep.DeepAppendWide
import Derived.Lib.AppendZeros
import Derived.Lib.SliceRun
import Derived.Test.YtecpjeililiafaaDoorMgAA
import Derived.Test.YtecpjeililiafaaDoorMgAZ
import Derived.Test.YtecpjeililiafaaDoorMgAB

/-
  Contracts of package seq's faces: Right, Find, Calm, Quiet.
-/
namespace Go.Proofs.YtecpjeililiafaaDoor
open Go.RowKit
set_option maxRecDepth 20000

def SayPost (p : Nat → Nat → Bool) (w : World) (ts : List Int) (o : List Cl × Nat × Int) (e : Ending) (w' : World) : Prop :=
  Below w.heap.size w w' ∧ ∃ v, e = .returned (.tuple #[v, .bool (fndB p ts o), .int .i64 (searchE o)]) ∧ TOwn w' w.heap.size v (fndL p ts o)
def SayR (p : Nat → Nat → Bool) (w : World) (ts : List Int) (o : List Cl × Nat × Int) (ws : List (Int × Int)) (e : Ending) (w' : World) : Prop :=
  Below w.heap.size w w' ∧ e = .returned (.tuple #[.bool (rgtB p ts o ws), .int .i64 (searchE o)])
def CalmPost (w : World) (l : List Ev) (o : List Cl × Nat × Int) (e : Ending) (w' : World) : Prop :=
  Below w.heap.size w w' ∧ ∃ v, e = .returned (.tuple #[v, .int .i64 (searchE o)]) ∧ NOwn w' w.heap.size v (if searchE o = 0 then calmsL l else [])
theorem TOwn.lower {w : World} {B B' : Nat} {v : Value} {l : List (Int × Int)} (h : TOwn w B v l) (hB : B' ≤ B) : TOwn w B' v l :=
  ⟨h.1, h.2.imp (fun h => h) fun ⟨g, cap, cur, h1, h2, h3⟩ => ⟨g, cap, cur, h1, Nat.le_trans hB h2, h3⟩⟩
theorem NOwn.lower {w : World} {B B' : Nat} {v : Value} {l : List Int} (h : NOwn w B v l) (hB : B' ≤ B) : NOwn w B' v l :=
  ⟨h.1, h.2.imp (fun h => h) fun ⟨g, cap, cur, h1, h2, h3⟩ => ⟨g, cap, cur, h1, Nat.le_trans hB h2, h3⟩⟩
theorem relP_same {n : Nat} {p q : Nat → Nat → Bool} (h : ∀ i j, i < n → j < n → p i j = q i j) : relP p n = relP q n := by
  funext i
  apply Nat.eq_of_testBit_eq
  intro j
  rw [relP_bit, relP_bit]
  by_cases h1 : i < n
  · by_cases h2 : j < n
    · rw [h i j h1 h2]
    · rw [decide_eq_false h2]; simp
  · rw [decide_eq_false h1]; simp
/-- The relation that is made of what was counted. -/
theorem calm_rel {ts : List Int} {l : List Ev} (h : (callsOf ts l).2.2 = 0) : (calmsL l).length = (callsOf ts l).1.length ∧ relP (fun i j => decide ((calmsL l).getD i 0 < (calmsL l).getD j 0)) (callsOf ts l).1.length = relP (calmB (callsOf ts l).1) (callsOf ts l).1.length := by
  have e := calms_of h
  refine ⟨by rw [e, List.length_map], relP_same fun i j hi hj => ?_⟩
  have key : ∀ i, i < (callsOf ts l).1.length → (calmsL l).getD i 0 = epochC (callsOf ts l).1 ((callsOf ts l).1.getD i default) := fun i hi => by
    rw [e, List.getD_eq_getElem?_getD, List.getElem?_map, getD_some hi]
    rfl
  unfold calmB
  rw [key i hi, key j hj]
set_option maxHeartbeats 4000000 in
theorem sqfind_any {tv lv : Value} {ts : List Int} {l : List Ev} {w : World} (ht : NRd w w.heap.size tv ts) (hl : ERd w w.heap.size lv l) (hp : Pow10 w.heap.size w) :
    Calls Tryd.prog 36 #[tv, lv] w (SayPost (ownB (callsOf ts l).1) w ts (callsOf ts l)) := by
  have HC := Lib.hid (scalls_any ht hl)
  have HT := Lib.hid (And.intro ht (And.intro hl hp))
  obtain ⟨At, capt, rfl, -, -⟩ := ht.is
  obtain ⟨Al, capl, rfl, -, -⟩ := hl.is
  clear ht hl hp
  obtain ⟨tl, htl⟩ : ∃ tl, tl = ts.length := ⟨_, rfl⟩
  obtain ⟨L, hL⟩ : ∃ L, L = l.length := ⟨_, rfl⟩
  rw [← htl, ← hL] at HC HT
  rw [← htl, ← hL]
  clear htl hL
  go_enter Tryd.func36, Tryd.ntmps36
  go_wp2_with fail
  refine HC.out.mono ?_
  rintro e w1 ⟨hb1, v, rfl, hok, hbad⟩
  by_cases hE : searchE (callsOf ts l) = 0
  · have hc := hok hE
    have h9 := (search_few hE).2
    obtain ⟨A, c, rfl, -, -⟩ := hc.is
    have HP := Lib.hid (byProcess_any hc (by omega))
    have H1 := Lib.hid hb1
    obtain ⟨n, hn⟩ : ∃ n, n = (callsOf ts l).1.length := ⟨_, rfl⟩
    obtain ⟨r, hr⟩ : ∃ r, r = relP (ownB (callsOf ts l).1) (callsOf ts l).1.length := ⟨_, rfl⟩
    have HR := Lib.hid (And.intro hr (relP_lt (ownB (callsOf ts l).1) (m := (callsOf ts l).1.length) (by omega)))
    rw [← hr, ← hn] at HP
    rw [hE, ← hn]
    clear hb1 hok hbad hE hc h9 HC hn hr
    go_wp2_with fail
    refine HP.out.mono ?_
    rintro e w2 ⟨rfl, hb2⟩
    have h2 := H1.out.trans (hb2.mono H1.out.size)
    have HF := Lib.hid (findIn_say (p := ownB (callsOf ts l).1) (N := n) (r := r) ((HT.out.1.below h2).mono h2.size) ((HT.out.2.1.below h2).mono h2.size) ((HT.out.2.2.on h2).mono h2.size) (by rw [HR.out.1]; exact HR.out.2) (fun _ i _ => by rw [HR.out.1]))
    have H2 := Lib.hid h2
    clear hb2 h2 HP
    go_wp2_with fail
    refine HF.out.mono ?_
    rintro e w3 ⟨hb3, v, rfl, hv⟩
    have H3 := Lib.hid (And.intro (H2.out.trans (hb3.mono H2.out.size)) (hv.lower H2.out.size))
    clear hb3 hv HF
    go_wp2_with fail
    go_ret3
    exact ⟨H3.out.1, v, rfl, H3.out.2⟩
  · have hv := hbad hE
    subst hv
    have hz : (searchE (callsOf ts l) != 0) = true := by rw [bne_iff_ne]; exact hE
    have HE := Lib.hid (And.intro hb1 hE)
    clear hb1 hok hbad hE HC
    generalize hEE : searchE (callsOf ts l) = E at hz HE ⊢
    have HEE := Lib.hid hEE
    clear hEE
    go_wp2_with fail
    go_ret3
    obtain ⟨q1, q2, -⟩ := fnd_bad (p := ownB (callsOf ts l).1) (ts := ts) (o := callsOf ts l) (by rw [HEE.out]; exact HE.out.2) []
    exact ⟨HE.out.1, _, by rw [q1, HEE.out]; rfl, by rw [q2]; exact TOwn.nil _ _⟩
set_option maxHeartbeats 4000000 in
theorem sqright_any {tv lv sv : Value} {ts : List Int} {l : List Ev} {ws : List (Int × Int)} {w : World} (ht : NRd w w.heap.size tv ts) (hl : ERd w w.heap.size lv l) (hw : SRd w w.heap.size sv ws) :
    Calls Tryd.prog 35 #[tv, lv, sv] w (SayR (ownB (callsOf ts l).1) w ts (callsOf ts l) ws) := by
  have HC := Lib.hid (scalls_any ht hl)
  have HT := Lib.hid (And.intro ht (And.intro hl hw))
  obtain ⟨At, capt, rfl, -, -⟩ := ht.is
  obtain ⟨Al, capl, rfl, -, -⟩ := hl.is
  obtain ⟨As, caps, rfl, -, -⟩ := hw.is
  clear ht hl hw
  obtain ⟨tl, htl⟩ : ∃ tl, tl = ts.length := ⟨_, rfl⟩
  obtain ⟨L, hL⟩ : ∃ L, L = l.length := ⟨_, rfl⟩
  obtain ⟨M, hM⟩ : ∃ M, M = ws.length := ⟨_, rfl⟩
  rw [← htl, ← hL] at HC
  rw [← htl, ← hL, ← hM] at HT
  rw [← htl, ← hL, ← hM]
  clear htl hL hM
  go_enter Tryd.func35, Tryd.ntmps35
  go_wp2_with fail
  refine HC.out.mono ?_
  rintro e w1 ⟨hb1, v, rfl, hok, hbad⟩
  by_cases hE : searchE (callsOf ts l) = 0
  · have hc := hok hE
    have h9 := (search_few hE).2
    obtain ⟨A, c, rfl, -, -⟩ := hc.is
    have HP := Lib.hid (byProcess_any hc (by omega))
    have H1 := Lib.hid hb1
    obtain ⟨n, hn⟩ : ∃ n, n = (callsOf ts l).1.length := ⟨_, rfl⟩
    obtain ⟨r, hr⟩ : ∃ r, r = relP (ownB (callsOf ts l).1) (callsOf ts l).1.length := ⟨_, rfl⟩
    have HR := Lib.hid (And.intro hr (relP_lt (ownB (callsOf ts l).1) (m := (callsOf ts l).1.length) (by omega)))
    rw [← hr, ← hn] at HP
    rw [hE, ← hn]
    clear hb1 hok hbad hE hc h9 HC hn hr
    go_wp2_with fail
    refine HP.out.mono ?_
    rintro e w2 ⟨rfl, hb2⟩
    have h2 := H1.out.trans (hb2.mono H1.out.size)
    have HF := Lib.hid (rightIn_any (Rl := ownB (callsOf ts l).1) (N := n) (r := r) ((HT.out.1.below h2).mono h2.size) ((HT.out.2.1.below h2).mono h2.size) ((HT.out.2.2.below h2).mono h2.size) (by rw [HR.out.1]; exact HR.out.2) (fun _ i _ => by rw [HR.out.1]))
    have H2 := Lib.hid h2
    clear hb2 h2 HP
    go_wp2_with fail
    refine HF.out.mono ?_
    rintro e w3 ⟨hb3, rfl⟩
    have H3 := Lib.hid (H2.out.trans (hb3.mono H2.out.size))
    clear hb3 HF
    go_wp2_with fail
    go_ret2
    exact ⟨H3.out, rfl⟩
  · have hv := hbad hE
    subst hv
    have hz : (searchE (callsOf ts l) != 0) = true := by rw [bne_iff_ne]; exact hE
    have HE := Lib.hid (And.intro hb1 hE)
    clear hb1 hok hbad hE HC
    generalize hEE : searchE (callsOf ts l) = E at hz HE ⊢
    have HEE := Lib.hid hEE
    clear hEE
    go_wp2_with fail
    go_ret2
    obtain ⟨-, -, q1⟩ := fnd_bad (p := ownB (callsOf ts l).1) (ts := ts) (o := callsOf ts l) (by rw [HEE.out]; exact HE.out.2) ws
    exact ⟨HE.out.1, by rw [q1, HEE.out]; rfl⟩
set_option maxHeartbeats 4000000 in
theorem calm_any {tv lv : Value} {ts : List Int} {l : List Ev} {w : World} (ht : NRd w w.heap.size tv ts) (hl : ERd w w.heap.size lv l) :
    Calls Tryd.prog 38 #[tv, lv] w (CalmPost w l (callsOf ts l)) := by
  have HC := Lib.hid (scalls_any ht hl)
  have HT := Lib.hid hl
  obtain ⟨At, capt, rfl, -, -⟩ := ht.is
  obtain ⟨Al, capl, rfl, -, -⟩ := hl.is
  clear ht hl
  obtain ⟨tl, htl⟩ : ∃ tl, tl = ts.length := ⟨_, rfl⟩
  obtain ⟨L, hL⟩ : ∃ L, L = l.length := ⟨_, rfl⟩
  rw [← htl, ← hL] at HC
  rw [← hL] at HT
  rw [← htl, ← hL]
  clear htl hL
  go_enter Tryd.func38, Tryd.ntmps38
  go_wp2_with fail
  refine HC.out.mono ?_
  rintro e w1 ⟨hb1, v, rfl, hok, hbad⟩
  by_cases hE : searchE (callsOf ts l) = 0
  · obtain ⟨A, c, rfl, -, -⟩ := (hok hE).is
    have HP := Lib.hid (epochsOf_any ((HT.out.below hb1).mono hb1.size) (calls_zero (search_few hE).1).2.1)
    have H1 := Lib.hid hb1
    have HE := Lib.hid hE
    rw [hE]
    clear hb1 hok hbad hE HC
    generalize (callsOf ts l).1.length = n
    go_wp2_with fail
    refine HP.out.mono ?_
    rintro e w2 ⟨v, rfl, hv, hb2⟩
    have H2 := Lib.hid (And.intro (H1.out.trans (hb2.mono H1.out.size)) (hv.lower H1.out.size))
    clear hb2 hv HP
    go_wp2_with fail
    go_ret2
    exact ⟨H2.out.1, v, by rw [HE.out]; rfl, by rw [if_pos HE.out]; exact H2.out.2⟩
  · have hv := hbad hE
    subst hv
    have hz : (searchE (callsOf ts l) != 0) = true := by rw [bne_iff_ne]; exact hE
    have HE := Lib.hid (And.intro hb1 hE)
    clear hb1 hok hbad hE HC
    generalize hEE : searchE (callsOf ts l) = E at hz HE ⊢
    have HEE := Lib.hid hEE
    clear hEE
    go_wp2_with fail
    go_ret2
    exact ⟨HE.out.1, _, by rw [HEE.out]; rfl, by rw [HEE.out, if_neg HE.out.2]; exact NOwn.nil _ _⟩
set_option maxHeartbeats 4000000 in
theorem quiet_any {tv lv : Value} {ts : List Int} {l : List Ev} {w : World} (ht : NRd w w.heap.size tv ts) (hl : ERd w w.heap.size lv l) (hp : Pow10 w.heap.size w) :
    Calls Tryd.prog 39 #[tv, lv] w (SayPost (calmB (callsOf ts l).1) w ts (callsOf ts l)) := by
  have HC := Lib.hid (calm_any ht hl)
  have HT := Lib.hid (And.intro ht (And.intro hl hp))
  obtain ⟨At, capt, rfl, -, -⟩ := ht.is
  obtain ⟨Al, capl, rfl, -, -⟩ := hl.is
  clear ht hl hp
  obtain ⟨tl, htl⟩ : ∃ tl, tl = ts.length := ⟨_, rfl⟩
  obtain ⟨L, hL⟩ : ∃ L, L = l.length := ⟨_, rfl⟩
  rw [← htl, ← hL] at HC HT
  rw [← htl, ← hL]
  clear htl hL
  go_enter Tryd.func39, Tryd.ntmps39
  go_wp2_with fail
  refine HC.out.mono ?_
  rintro e w1 ⟨hb1, v, rfl, hv⟩
  by_cases hE : searchE (callsOf ts l) = 0
  · rw [if_pos hE] at hv
    obtain ⟨k1, k2⟩ := calm_rel (search_few hE).1
    have h9 := (search_few hE).2
    have hr := hv.rd
    have hby := byEpoch_any hr (by omega)
    rw [k1, k2] at hby
    obtain ⟨A, c, rfl, -, -⟩ := hr.is
    rw [k1] at hby ⊢
    have HP := Lib.hid hby
    have H1 := Lib.hid hb1
    obtain ⟨n, hn⟩ : ∃ n, n = (callsOf ts l).1.length := ⟨_, rfl⟩
    obtain ⟨r, hr⟩ : ∃ r, r = relP (calmB (callsOf ts l).1) (callsOf ts l).1.length := ⟨_, rfl⟩
    have HR := Lib.hid (And.intro hr (relP_lt (calmB (callsOf ts l).1) (m := (callsOf ts l).1.length) (by omega)))
    rw [← hr, ← hn] at HP
    rw [hE, ← hn]
    clear hb1 hv hE h9 HC hn hr hby k1 k2
    go_wp2_with fail
    refine HP.out.mono ?_
    rintro e w2 ⟨rfl, hb2⟩
    have h2 := H1.out.trans (hb2.mono H1.out.size)
    have HF := Lib.hid (findIn_say (p := calmB (callsOf ts l).1) (N := n) (r := r) ((HT.out.1.below h2).mono h2.size) ((HT.out.2.1.below h2).mono h2.size) ((HT.out.2.2.on h2).mono h2.size) (by rw [HR.out.1]; exact HR.out.2) (fun _ i _ => by rw [HR.out.1]))
    have H2 := Lib.hid h2
    clear hb2 h2 HP
    go_wp2_with fail
    refine HF.out.mono ?_
    rintro e w3 ⟨hb3, v, rfl, hv⟩
    have H3 := Lib.hid (And.intro (H2.out.trans (hb3.mono H2.out.size)) (hv.lower H2.out.size))
    clear hb3 hv HF
    go_wp2_with fail
    go_ret3
    exact ⟨H3.out.1, v, rfl, H3.out.2⟩
  · obtain ⟨A, c, rfl, -, -⟩ := hv.rd.is
    have hz : (searchE (callsOf ts l) != 0) = true := by rw [bne_iff_ne]; exact hE
    have HE := Lib.hid (And.intro hb1 hE)
    clear hb1 hE HC hv
    generalize hEE : searchE (callsOf ts l) = E at hz HE ⊢
    have HEE := Lib.hid hEE
    clear hEE
    generalize (if E = 0 then calmsL l else []).length = m
    go_wp2_with fail
    go_ret3
    obtain ⟨q1, q2, -⟩ := fnd_bad (p := calmB (callsOf ts l).1) (ts := ts) (o := callsOf ts l) (by rw [HEE.out]; exact HE.out.2) []
    exact ⟨HE.out.1, _, by rw [q1, HEE.out]; rfl, by rw [q2]; exact TOwn.nil _ _⟩
end Go.Proofs.YtecpjeililiafaaDoor

/-
  append of events: any slice of such behind a row of one's own; slices.Clone over such.
-/
namespace Go.Proofs.YtecpjeililiafaaDoor
open Go.RowKit
set_option maxRecDepth 20000

theorem EOwn.nil (w : World) (B : Nat) : EOwn w B (.slice none 0 0) [] := World.ownsRow_nil _ _ _ _
theorem EOwn.below {w w' : World} {B : Nat} {v : Value} {l : List Ev} (h : EOwn w B v l) (hb : Below w.heap.size w w') : EOwn w' B v l := by
  refine ⟨h.1, h.2.elim (fun h => .inl h) fun ⟨g, cap, cur, h1, h2, h3, h4, h5, h6, h7⟩ => .inr ⟨g, cap, cur, h1, h2, ?_, h4, h5, h6, h7⟩⟩
  rw [hb.block g (Array.getElem?_eq_some_iff.1 h3).1]
  exact h3

theorem run_app_evs {W : World} {base n cap : Nat} {v : Value} {A : Option Addr} {l ys : List Ev} {B : Nat} (ty : TypeId) (hown : EOwn W base v l) (hr : ERd W B (.slice A n cap) ys) (hlen : ((l.length + ys.length) + (l.length + ys.length) / 4 + 192) * 32 ≤ 281474976710656) (hbase : base ≤ W.heap.size) (hA : A ≠ none) :
    ∃ v' w', (Builtin.append_ #[23, 23] ty #[v, .slice A n cap]).run Tryd.prog W = .ok v' w' ∧ EOwn w' base v' (l ++ ys) ∧ Below base W w' := by
  obtain ⟨i0, hi, hz0, hz1, hz2⟩ := info_of info_ev
  have hl := World.ownsRow.lt hown
  obtain ⟨A', cap', he, m1, m2, hc⟩ := hr
  injection he with e1 e2 e3
  subst e1 e2 e3
  cases A with
  | none => exact absurd rfl hA
  | some a =>
    have hlf : (ys.flatMap evCs).length = ys.length * 4 := flat_len (f := evCs) (s := 4) (fun _ => rfl) ys
    obtain ⟨v', w', hr, h2, h3, _⟩ := run_append_own_wide (P := Tryd.prog) W base 23 ty 77 i0 (evV default) 4 32 Tryd.underlying23 hi hz0 hz1 hz2 rfl (by decide) v l.length (l.flatMap evCs) hown
      a ys.length cap (ys.flatMap evCs) hlf (fun j u hu => by
        have hj := (List.getElem?_eq_some_iff.1 hu).1
        rw [hlf] at hj
        obtain ⟨g, o, ha, _, hcell⟩ := hc (by omega)
        injection ha with ha
        subst ha
        have hx := List.getElem?_eq_getElem (show j / 4 < ys.length by omega)
        have hm : j % 4 < (evCs ys[j / 4]).length := by show j % 4 < 4; omega
        have hf := flat_at (l := ys) (f := evCs) (s := 4) (fun _ => rfl) hx (List.getElem?_eq_getElem hm)
        have e : j / 4 * 4 + j % 4 = j := by omega
        rw [e, hu] at hf
        have := hcell (j / 4) _ hx (j % 4) _ ((List.getElem?_eq_getElem hm).trans hf.symm)
        rw [Addr.add_lit]
        rw [Nat.add_assoc, e] at this
        exact this) (fun u hu => by
        rw [List.mem_flatMap] at hu
        obtain ⟨x, _, hx⟩ := hu
        simp only [List.mem_cons, List.not_mem_nil, or_false] at hx
        rcases hx with rfl | rfl | rfl | rfl <;> rfl) (by unfold maxLen; omega) hlen hbase
    refine ⟨v', w', hr, ?_, (Below.refl base W).grown h3 hbase (fun k hk => (hl k hk).1)⟩
    unfold EOwn
    rw [List.length_append, List.flatMap_append]
    exact h2

set_option maxHeartbeats 1000000 in
theorem cloneE_any {v : Value} {l : List Ev} {w : World} (h : ERd w w.heap.size v l) (hbig : l.length * 32 ≤ 140737488355328) :
    Calls Tryd.prog 53 #[v] w fun e w' => ∃ v', e = .returned v' ∧ EOwn w' w.heap.size v' l ∧ Below w.heap.size w w' := by
  obtain ⟨A, cap, rfl, m1, m2⟩ := h.is
  have hq := fun (W : World) (a : Option Addr) (n cap : Nat) => Lib.run_eql_slice_nil (P := Tryd.prog) W 23 77 a n cap 0 0 Tryd.underlying23
  cases A with
  | none =>
    have hl : l = [] := by
      apply List.length_eq_zero_iff.1
      apply Classical.byContradiction
      intro hp
      obtain ⟨A', cap', hv, h1, h2, h3⟩ := h
      injection hv with e1 e2 e3
      subst e1
      obtain ⟨g, o, hA, _⟩ := h3 (by omega)
      cases hA
    subst hl
    go_enter Tryd.func53, Tryd.ntmps53
    go_wp2
    go_ret
    exact ⟨_, rfl, EOwn.nil _ _, Below.refl _ _⟩
  | some a =>
    have hempty : EOwn (w.alloc (.cells #[] 77)) w.heap.size (.slice (some ⟨w.heap.size, 0, none⟩) 0 0) [] := ⟨rfl, .inr ⟨w.heap.size, 0, #[], rfl, Nat.le_refl _, heap_alloc_new w _, Nat.le_refl _, by unfold maxLen; omega, rfl, rfl⟩⟩
    have hr1 : ERd (w.alloc (.cells #[] 77)) w.heap.size (.slice (some a) l.length cap) l := h.below ((Below.refl _ _).alloc (Nat.le_refl _) _)
    obtain ⟨v1, w1, hrun, ho1, hb1⟩ := run_app_evs 23 hempty hr1 (by simp; omega) (by simp) (by simp)
    rw [List.nil_append] at ho1
    have HO := Lib.hid (And.intro ho1 (((Below.refl w.heap.size w).alloc (Nat.le_refl _) (.cells #[] 77)).trans hb1))
    have HRUN := Lib.hid hrun
    clear hempty hr1 h ho1 hb1 hrun
    go_enter Tryd.func53, Tryd.ntmps53
    go_wp2_with (at_builtin; refine Lib.wpList_append_run _ rfl (.tmp 5) (.tmp 6) _ _ rfl _ _ rfl rfl v1 w1 HRUN.out ?_)
    go_ret
    exact ⟨v1, rfl, HO.out⟩
end Go.Proofs.YtecpjeililiafaaDoor

/-
  Plain mathematics for history.place: events put where calls say.
-/
namespace Go.Proofs.YtecpjeililiafaaDoor
open Go.RowKit
set_option maxRecDepth 20000

def evInv (c : Cl) : Ev := ⟨c.who, c.thing, c.kind, c.arg⟩
def evRes (c : Cl) : Ev := ⟨c.who, c.thing, 0, c.res⟩
/-- How many of the first calls were answered. -/
def ansUp : List Cl → Nat
  | [] => 0
  | c :: r => (if c.til ≠ -1 then 1 else 0) + ansUp r
theorem ansUp_le : ∀ l : List Cl, ansUp l ≤ l.length
  | [] => Nat.le_refl _
  | c :: r => by
    have := ansUp_le r
    rw [ansUp, List.length_cons]
    split <;> omega
theorem ansUp_append (a b : List Cl) : ansUp (a ++ b) = ansUp a + ansUp b := by
  induction a with
  | nil => simp [ansUp]
  | cons c a ih => rw [List.cons_append, ansUp, ansUp, ih]; omega
theorem ansUp_take {l : List Cl} {k : Nat} {c : Cl} (h : l[k]? = some c) : ansUp (l.take (k + 1)) = ansUp (l.take k) + if c.til ≠ -1 then 1 else 0 := by
  rw [List.take_add_one, h, ansUp_append]
  simp [ansUp]
def placeN (l : List Cl) : Nat := l.length + ansUp l
def putOne (es : List Ev) (c : Cl) : List Ev := if c.til ≠ -1 then (es.set c.frm.toNat (evInv c)).set c.til.toNat (evRes c) else es.set c.frm.toNat (evInv c)
def placeUp (n : Nat) : List Ev → List Cl → Option (List Ev)
  | es, [] => some es
  | es, c :: r => if btw 0 c.frm ((n : Int) - 1) = false ∨ btw (-1) c.til ((n : Int) - 1) = false then none else placeUp n (putOne es c) r
def placeL (l : List Cl) : Option (List Ev) := placeUp (placeN l) (List.replicate (placeN l) default) l
theorem putOne_len (es : List Ev) (c : Cl) : (putOne es c).length = es.length := by
  unfold putOne
  split <;> simp
theorem placeUp_drop {n : Nat} {l : List Cl} {k : Nat} {c : Cl} (h : l[k]? = some c) (es : List Ev) : placeUp n es (l.drop k) = if btw 0 c.frm ((n : Int) - 1) = false ∨ btw (-1) c.til ((n : Int) - 1) = false then none else placeUp n (putOne es c) (l.drop (k + 1)) := by
  have hk := (List.getElem?_eq_some_iff.1 h).1
  have e := (List.getElem?_eq_some_iff.1 h).2
  rw [List.drop_eq_getElem_cons hk, placeUp, e]

/-- A whole event is written. -/
theorem flat_put : ∀ (es : List Ev) (q : Nat) (e : Ev), q < es.length → ((((es.flatMap evCs).set (q * 4) (.int .i64 e.who)).set (q * 4 + 1) (.int .i64 e.thing)).set (q * 4 + 2) (.int .i64 e.kind)).set (q * 4 + 3) (.int .i64 e.val) = (es.set q e).flatMap evCs
  | [], q, e, h => by simp at h
  | z :: r, 0, e, _ => by simp [List.flatMap_cons]
  | z :: r, q + 1, e, h => by
    have h' : q < r.length := by simpa using h
    have ih := flat_put r q e h'
    rw [List.flatMap_cons, List.set_cons_succ, List.flatMap_cons, ← ih]
    have e0 : (q + 1) * 4 = (evCs z).length + q * 4 := by simp; omega
    rw [e0, show (evCs z).length + q * 4 + 1 = (evCs z).length + (q * 4 + 1) by omega, show (evCs z).length + q * 4 + 2 = (evCs z).length + (q * 4 + 2) by omega, show (evCs z).length + q * 4 + 3 = (evCs z).length + (q * 4 + 3) by omega]
    simp only [List.set_append_right _ _ (Nat.le_add_right _ _), Nat.add_sub_cancel_left]
end Go.Proofs.YtecpjeililiafaaDoor

/-
  The walk of the law SearchLater.
-/
namespace Go.Proofs.YtecpjeililiafaaDoor
open Go.RowKit
set_option maxRecDepth 20000

/-- What may be passed by: its guard says so. -/
theorem skipAt (i d : Nat) {P : Program} {md : Region.Mode} {Q : Exit → Act → World → Prop} {ops : Array Oper} {S : World → Prop} {oi : Oper} {fuel : Nat} {listed : Array Bool} {a : Act} {w : World} (hi : ops[i]? = some oi) (hd : oi.dst = some d)
    (hs : Region.noSelect ops = true) (hf : Region.free md ops listed i = true) (hr : (Region.ready md ops listed).contains i = true)
    (hQ : ∀ c a w, Q (.panic c) (a.put (some d) undef) w → Q (.panic c) a w) (hy : Region.wanted oi (yielded ops a.tmps) = false) (hS : S w)
    (h : wpAnyH P md ops Q S fuel (listed.setIfInBounds i true) (a.put (some d) undef) w) : wpAnyH P md ops Q S (fuel + 1) listed a w := by
  rw [← hd] at hQ h
  exact wpAnyH_take hi hs hf hr hQ (.inr ⟨hy, rfl⟩) hS h
/-- Two exchanged. -/
def swapL (l : List Ev) (k : Nat) : List Ev := (l.set k (l.getD (k + 1) default)).set (k + 1) (l.getD k default)
theorem swapL_app (a b : List Ev) (x y : Ev) : swapL (a ++ x :: y :: b) a.length = a ++ y :: x :: b := by
  unfold swapL
  simp
theorem found_swap {ts : List Int} {l : List Ev} {k : Nat} {x y : Ev} (h : foundB ts (callsOf ts l) = true) (hx : l[k]? = some x) (hy : l[k + 1]? = some y) (hw : x.who ≠ y.who) (hxy : ¬ (x.kind ≠ 0 ∧ y.kind = 0)) :
    searchE (callsOf ts (swapL l k)) = 0 ∧ foundB ts (callsOf ts (swapL l k)) = true := by
  have hk := (List.getElem?_eq_some_iff.1 hx).1
  have hk2 := (List.getElem?_eq_some_iff.1 hy).1
  obtain ⟨a, b, ea, rfl⟩ : ∃ a b, l = a ++ x :: y :: b ∧ a.length = k := by
    refine ⟨l.take k, l.drop (k + 2), ?_, by rw [List.length_take]; omega⟩
    rw [← (List.getElem?_eq_some_iff.1 hx).2, ← (List.getElem?_eq_some_iff.1 hy).2, ← List.drop_eq_getElem_cons hk2, ← List.drop_eq_getElem_cons hk, List.take_append_drop]
  subst ea
  rw [swapL_app]
  obtain ⟨h1, ws, h2⟩ := foundB_iff.1 h
  obtain ⟨h3, h4⟩ := search_ok.1 h1
  obtain ⟨h5, h6, h7⟩ := later_rite hw hxy h3 h2
  have h8 := search_ok.2 ⟨h5, by omega⟩
  exact ⟨h8, foundB_iff.2 ⟨h8, h7⟩⟩
/-- One cell of a row of one's own is written. -/
theorem own_set {w : World} {B s n cap : Nat} {t : TypeId} {g : Nat} {xs : List Value} (h : w.ownsRow B t s (.slice (some ⟨g, 0, none⟩) n cap) n xs) (j : Nat) (u : Value) : (w.setCell ⟨g, j, none⟩ u).ownsRow B t s (.slice (some ⟨g, 0, none⟩) n cap) n (xs.set j u) := by
  refine ⟨by rw [List.length_set]; exact h.1, ?_⟩
  rcases h.2 with ⟨h', _⟩ | ⟨g', cap', cur, h', hB, hg, h1, h2, h3, h4⟩
  · simp at h'
  · simp only [Value.slice.injEq, Option.some.injEq, Addr.mk.injEq, and_true, true_and] at h'
    obtain ⟨rfl, rfl⟩ := h'
    refine .inr ⟨g, cap, cur.setIfInBounds j u, rfl, hB, Lies.set_ hg j u, h1, h2, by simpa using h3, ?_⟩
    rw [← h4, Array.toList_setIfInBounds, List.take_set]
theorem own_at {w : World} {B g n cap : Nat} {l : List Ev} (h : EOwn w B (.slice (some ⟨g, 0, none⟩) n cap) l) : B ≤ g := by
  rcases h.2 with ⟨h', _⟩ | ⟨g', cap', cur, h', hB, _⟩
  · simp at h'
  · simp only [Value.slice.injEq, Option.some.injEq, Addr.mk.injEq, and_true] at h'
    obtain ⟨rfl, -⟩ := h'
    exact hB
theorem EOwn.drew {w : World} {B : Nat} {v : Value} {l : List Ev} (h : EOwn w B v l) : EOwn w.drew B v l := h
theorem own_frozen {w : World} {B g n cap : Nat} {l : List Ev} (h : EOwn w B (.slice (some ⟨g, 0, none⟩) n cap) l) (j : Nat) : w.frozen? ⟨g, j, none⟩ = false := by
  rcases h.2 with ⟨h', _⟩ | ⟨g', cap', cur, h', hB, hg, _⟩
  · simp at h'
  · simp only [Value.slice.injEq, Option.some.injEq, Addr.mk.injEq, and_true] at h'
    obtain ⟨rfl, -⟩ := h'
    exact Lies.frozen hg j
theorem getD_ev {l : List Ev} {k : Nat} {x : Ev} (h : l[k]? = some x) : l.getD k default = x := by
  rw [List.getD_eq_getElem?_getD, h]
  rfl
theorem own_ev {w : World} {B g n cap k : Nat} {l : List Ev} (h : EOwn w B (.slice (some ⟨g, 0, none⟩) n cap) l) {x : Ev} (hk : l[k]? = some x) : w.cell? ⟨g, k * 4, none⟩ = some (.int .i64 x.who) ∧ w.cell? ⟨g, k * 4 + 1, none⟩ = some (.int .i64 x.thing) ∧ w.cell? ⟨g, k * 4 + 2, none⟩ = some (.int .i64 x.kind) ∧ w.cell? ⟨g, k * 4 + 3, none⟩ = some (.int .i64 x.val) := by
  obtain ⟨g', o', e, _, d0, d1, d2, d3⟩ := h.rd.ev hk
  injection e with e
  injection e with e1 e2
  subst e1 e2
  simp only [Nat.zero_add] at d0 d1 d2 d3
  exact ⟨d0, d1, d2, d3⟩
/-- An event of a row of one's own is written. -/
theorem EOwn.put {w : World} {B g n cap q : Nat} {l : List Ev} (h : EOwn w B (.slice (some ⟨g, 0, none⟩) n cap) l) (hn : n = l.length) (hq : q < l.length) (e : Ev) :
    EOwn ((((w.setCell ⟨g, q * 4, none⟩ (.int .i64 e.who)).setCell ⟨g, q * 4 + 1, none⟩ (.int .i64 e.thing)).setCell ⟨g, q * 4 + 2, none⟩ (.int .i64 e.kind)).setCell ⟨g, q * 4 + 3, none⟩ (.int .i64 e.val)) B (.slice (some ⟨g, 0, none⟩) n cap) (l.set q e) := by
  subst hn
  unfold EOwn
  rw [List.length_set, ← flat_put l q e hq]
  exact own_set (own_set (own_set (own_set h _ _) _ _) _ _) _ _
/-- Two events that follow each other, as they lie. -/
def EvC (g o m : Nat) (x y : Ev) (W : World) : Prop := W.cell? ⟨g, o + m * 4, none⟩ = some (.int .i64 x.who) ∧ W.cell? ⟨g, o + m * 4 + 1, none⟩ = some (.int .i64 x.thing) ∧ W.cell? ⟨g, o + m * 4 + 2, none⟩ = some (.int .i64 x.kind) ∧ W.cell? ⟨g, o + m * 4 + 3, none⟩ = some (.int .i64 x.val) ∧
  W.cell? ⟨g, o + (m + 1) * 4, none⟩ = some (.int .i64 y.who) ∧ W.cell? ⟨g, o + (m + 1) * 4 + 1, none⟩ = some (.int .i64 y.thing) ∧ W.cell? ⟨g, o + (m + 1) * 4 + 2, none⟩ = some (.int .i64 y.kind) ∧ W.cell? ⟨g, o + (m + 1) * 4 + 3, none⟩ = some (.int .i64 y.val)
theorem ev_two {w : World} {B n cap m : Nat} {A : Option Addr} {l : List Ev} (h : ERd w B (.slice A n cap) l) {x y : Ev} (hx : l[m]? = some x) (hy : l[m + 1]? = some y) : ∃ g o, A = some ⟨g, o, none⟩ ∧ g < B ∧ ∀ W, Below B w W → EvC g o m x y W := by
  obtain ⟨g, o, rfl, hg, d0, d1, d2, d3⟩ := h.ev hx
  refine ⟨g, o, rfl, hg, fun W hb => ?_⟩
  obtain ⟨g', o', e, _, x0, x1, x2, x3⟩ := (h.below hb).ev hx
  obtain ⟨g2, o2, e2, _, y0, y1, y2, y3⟩ := (h.below hb).ev hy
  injection e with e
  injection e with e3 e4
  injection e2 with e2
  injection e2 with e5 e6
  subst e3 e4 e5 e6
  exact ⟨x0, x1, x2, x3, y0, y1, y2, y3⟩
theorem own_two {w : World} {B m : Nat} {v : Value} {l : List Ev} (h : EOwn w B v l) {x y : Ev} (hx : l[m]? = some x) (hy : l[m + 1]? = some y) : ∃ g cap, v = .slice (some ⟨g, 0, none⟩) l.length cap ∧ B ≤ g ∧ EvC g 0 m x y w := by
  have hk := (List.getElem?_eq_some_iff.1 hx).1
  rcases h.2 with ⟨h', h0⟩ | ⟨g, cap, cur, rfl, hB, _⟩
  · omega
  · obtain ⟨g', o', e, _, hev⟩ := ev_two h.rd hx hy
    injection e with e
    injection e with e3 e4
    subst e3 e4
    exact ⟨g, cap, rfl, hB, hev w (Below.refl _ _)⟩
end Go.Proofs.YtecpjeililiafaaDoor
