/-
  Joined by a program out of: SeqFind, RefPeople, EqInt.
-/
import Derived.Test.YtecpjeililiafaaDoorMgBP
import Derived.Test.YtecpjeililiafaaDoorMgAW
import Derived.Test.YtecpjeililiafaaDoorMgBN
import Derived.Test.YtecpjeililiafaaDoorMgAB

/-
  Contracts of package seq's faces: Right, Find, Calm, Quiet.
-/
namespace Go.Proofs.YtecpjeililiafaaDoor
open Go.RowKit
set_option maxRecDepth 20000

def SayPost (p : Nat → Nat → Bool) (w : World) (ts : List Int) (o : List Cl × Nat × Int) (e : Ending) (w' : World) : Prop :=
  Below w.heap.size w w' ∧ ∃ v, e = .returned (.tuple #[v, .bool (fndB p ts o), .int .i64 (searchE o)]) ∧ TOwn w' w.heap.size v (fndL p ts o)
def SayR (p : Nat → Nat → Bool) (w : World) (ts : List Int) (o : List Cl × Nat × Int) (ws : List (Int × Int)) (e : Ending) (w' : World) : Prop :=
  Below w.heap.size w w' ∧ e = .returned (.tuple #[.bool (rgtB p ts o ws), .int .i64 (searchE o)])
def CalmPost (w : World) (l : List Ev) (o : List Cl × Nat × Int) (e : Ending) (w' : World) : Prop :=
  Below w.heap.size w w' ∧ ∃ v, e = .returned (.tuple #[v, .int .i64 (searchE o)]) ∧ NOwn w' w.heap.size v (if searchE o = 0 then calmsL l else [])
theorem TOwn.lower {w : World} {B B' : Nat} {v : Value} {l : List (Int × Int)} (h : TOwn w B v l) (hB : B' ≤ B) : TOwn w B' v l :=
  ⟨h.1, h.2.imp (fun h => h) fun ⟨g, cap, cur, h1, h2, h3⟩ => ⟨g, cap, cur, h1, Nat.le_trans hB h2, h3⟩⟩
theorem NOwn.lower {w : World} {B B' : Nat} {v : Value} {l : List Int} (h : NOwn w B v l) (hB : B' ≤ B) : NOwn w B' v l :=
  ⟨h.1, h.2.imp (fun h => h) fun ⟨g, cap, cur, h1, h2, h3⟩ => ⟨g, cap, cur, h1, Nat.le_trans hB h2, h3⟩⟩
theorem relP_same {n : Nat} {p q : Nat → Nat → Bool} (h : ∀ i j, i < n → j < n → p i j = q i j) : relP p n = relP q n := by
  funext i
  apply Nat.eq_of_testBit_eq
  intro j
  rw [relP_bit, relP_bit]
  by_cases h1 : i < n
  · by_cases h2 : j < n
    · rw [h i j h1 h2]
    · rw [decide_eq_false h2]; simp
  · rw [decide_eq_false h1]; simp
/-- The relation that is made of what was counted. -/
theorem calm_rel {ts : List Int} {l : List Ev} (h : (callsOf ts l).2.2 = 0) : (calmsL l).length = (callsOf ts l).1.length ∧ relP (fun i j => decide ((calmsL l).getD i 0 < (calmsL l).getD j 0)) (callsOf ts l).1.length = relP (calmB (callsOf ts l).1) (callsOf ts l).1.length := by
  have e := calms_of h
  refine ⟨by rw [e, List.length_map], relP_same fun i j hi hj => ?_⟩
  have key : ∀ i, i < (callsOf ts l).1.length → (calmsL l).getD i 0 = epochC (callsOf ts l).1 ((callsOf ts l).1.getD i default) := fun i hi => by
    rw [e, List.getD_eq_getElem?_getD, List.getElem?_map, getD_some hi]
    rfl
  unfold calmB
  rw [key i hi, key j hj]
set_option maxHeartbeats 4000000 in
theorem sqfind_any {tv lv : Value} {ts : List Int} {l : List Ev} {w : World} (ht : NRd w w.heap.size tv ts) (hl : ERd w w.heap.size lv l) (hp : Pow10 w.heap.size w) :
    Calls Tryd.prog 36 #[tv, lv] w (SayPost (ownB (callsOf ts l).1) w ts (callsOf ts l)) := by
  have HC := Lib.hid (scalls_any ht hl)
  have HT := Lib.hid (And.intro ht (And.intro hl hp))
  obtain ⟨At, capt, rfl, -, -⟩ := ht.is
  obtain ⟨Al, capl, rfl, -, -⟩ := hl.is
  clear ht hl hp
  obtain ⟨tl, htl⟩ : ∃ tl, tl = ts.length := ⟨_, rfl⟩
  obtain ⟨L, hL⟩ : ∃ L, L = l.length := ⟨_, rfl⟩
  rw [← htl, ← hL] at HC HT
  rw [← htl, ← hL]
  clear htl hL
  go_enter Tryd.func36, Tryd.ntmps36
  go_wp2_with fail
  refine HC.out.mono ?_
  rintro e w1 ⟨hb1, v, rfl, hok, hbad⟩
  by_cases hE : searchE (callsOf ts l) = 0
  · have hc := hok hE
    have h9 := (search_few hE).2
    obtain ⟨A, c, rfl, -, -⟩ := hc.is
    have HP := Lib.hid (byProcess_any hc (by omega))
    have H1 := Lib.hid hb1
    obtain ⟨n, hn⟩ : ∃ n, n = (callsOf ts l).1.length := ⟨_, rfl⟩
    obtain ⟨r, hr⟩ : ∃ r, r = relP (ownB (callsOf ts l).1) (callsOf ts l).1.length := ⟨_, rfl⟩
    have HR := Lib.hid (And.intro hr (relP_lt (ownB (callsOf ts l).1) (m := (callsOf ts l).1.length) (by omega)))
    rw [← hr, ← hn] at HP
    rw [hE, ← hn]
    clear hb1 hok hbad hE hc h9 HC hn hr
    go_wp2_with fail
    refine HP.out.mono ?_
    rintro e w2 ⟨rfl, hb2⟩
    have h2 := H1.out.trans (hb2.mono H1.out.size)
    have HF := Lib.hid (findIn_say (p := ownB (callsOf ts l).1) (N := n) (r := r) ((HT.out.1.below h2).mono h2.size) ((HT.out.2.1.below h2).mono h2.size) ((HT.out.2.2.on h2).mono h2.size) (by rw [HR.out.1]; exact HR.out.2) (fun _ i _ => by rw [HR.out.1]))
    have H2 := Lib.hid h2
    clear hb2 h2 HP
    go_wp2_with fail
    refine HF.out.mono ?_
    rintro e w3 ⟨hb3, v, rfl, hv⟩
    have H3 := Lib.hid (And.intro (H2.out.trans (hb3.mono H2.out.size)) (hv.lower H2.out.size))
    clear hb3 hv HF
    go_wp2_with fail
    go_ret3
    exact ⟨H3.out.1, v, rfl, H3.out.2⟩
  · have hv := hbad hE
    subst hv
    have hz : (searchE (callsOf ts l) != 0) = true := by rw [bne_iff_ne]; exact hE
    have HE := Lib.hid (And.intro hb1 hE)
    clear hb1 hok hbad hE HC
    generalize hEE : searchE (callsOf ts l) = E at hz HE ⊢
    have HEE := Lib.hid hEE
    clear hEE
    go_wp2_with fail
    go_ret3
    obtain ⟨q1, q2, -⟩ := fnd_bad (p := ownB (callsOf ts l).1) (ts := ts) (o := callsOf ts l) (by rw [HEE.out]; exact HE.out.2) []
    exact ⟨HE.out.1, _, by rw [q1, HEE.out]; rfl, by rw [q2]; exact TOwn.nil _ _⟩
set_option maxHeartbeats 4000000 in
theorem sqright_any {tv lv sv : Value} {ts : List Int} {l : List Ev} {ws : List (Int × Int)} {w : World} (ht : NRd w w.heap.size tv ts) (hl : ERd w w.heap.size lv l) (hw : SRd w w.heap.size sv ws) :
    Calls Tryd.prog 35 #[tv, lv, sv] w (SayR (ownB (callsOf ts l).1) w ts (callsOf ts l) ws) := by
  have HC := Lib.hid (scalls_any ht hl)
  have HT := Lib.hid (And.intro ht (And.intro hl hw))
  obtain ⟨At, capt, rfl, -, -⟩ := ht.is
  obtain ⟨Al, capl, rfl, -, -⟩ := hl.is
  obtain ⟨As, caps, rfl, -, -⟩ := hw.is
  clear ht hl hw
  obtain ⟨tl, htl⟩ : ∃ tl, tl = ts.length := ⟨_, rfl⟩
  obtain ⟨L, hL⟩ : ∃ L, L = l.length := ⟨_, rfl⟩
  obtain ⟨M, hM⟩ : ∃ M, M = ws.length := ⟨_, rfl⟩
  rw [← htl, ← hL] at HC
  rw [← htl, ← hL, ← hM] at HT
  rw [← htl, ← hL, ← hM]
  clear htl hL hM
  go_enter Tryd.func35, Tryd.ntmps35
  go_wp2_with fail
  refine HC.out.mono ?_
  rintro e w1 ⟨hb1, v, rfl, hok, hbad⟩
  by_cases hE : searchE (callsOf ts l) = 0
  · have hc := hok hE
    have h9 := (search_few hE).2
    obtain ⟨A, c, rfl, -, -⟩ := hc.is
    have HP := Lib.hid (byProcess_any hc (by omega))
    have H1 := Lib.hid hb1
    obtain ⟨n, hn⟩ : ∃ n, n = (callsOf ts l).1.length := ⟨_, rfl⟩
    obtain ⟨r, hr⟩ : ∃ r, r = relP (ownB (callsOf ts l).1) (callsOf ts l).1.length := ⟨_, rfl⟩
    have HR := Lib.hid (And.intro hr (relP_lt (ownB (callsOf ts l).1) (m := (callsOf ts l).1.length) (by omega)))
    rw [← hr, ← hn] at HP
    rw [hE, ← hn]
    clear hb1 hok hbad hE hc h9 HC hn hr
    go_wp2_with fail
    refine HP.out.mono ?_
    rintro e w2 ⟨rfl, hb2⟩
    have h2 := H1.out.trans (hb2.mono H1.out.size)
    have HF := Lib.hid (rightIn_any (Rl := ownB (callsOf ts l).1) (N := n) (r := r) ((HT.out.1.below h2).mono h2.size) ((HT.out.2.1.below h2).mono h2.size) ((HT.out.2.2.below h2).mono h2.size) (by rw [HR.out.1]; exact HR.out.2) (fun _ i _ => by rw [HR.out.1]))
    have H2 := Lib.hid h2
    clear hb2 h2 HP
    go_wp2_with fail
    refine HF.out.mono ?_
    rintro e w3 ⟨hb3, rfl⟩
    have H3 := Lib.hid (H2.out.trans (hb3.mono H2.out.size))
    clear hb3 HF
    go_wp2_with fail
    go_ret2
    exact ⟨H3.out, rfl⟩
  · have hv := hbad hE
    subst hv
    have hz : (searchE (callsOf ts l) != 0) = true := by rw [bne_iff_ne]; exact hE
    have HE := Lib.hid (And.intro hb1 hE)
    clear hb1 hok hbad hE HC
    generalize hEE : searchE (callsOf ts l) = E at hz HE ⊢
    have HEE := Lib.hid hEE
    clear hEE
    go_wp2_with fail
    go_ret2
    obtain ⟨-, -, q1⟩ := fnd_bad (p := ownB (callsOf ts l).1) (ts := ts) (o := callsOf ts l) (by rw [HEE.out]; exact HE.out.2) ws
    exact ⟨HE.out.1, by rw [q1, HEE.out]; rfl⟩
set_option maxHeartbeats 4000000 in
theorem calm_any {tv lv : Value} {ts : List Int} {l : List Ev} {w : World} (ht : NRd w w.heap.size tv ts) (hl : ERd w w.heap.size lv l) :
    Calls Tryd.prog 38 #[tv, lv] w (CalmPost w l (callsOf ts l)) := by
  have HC := Lib.hid (scalls_any ht hl)
  have HT := Lib.hid hl
  obtain ⟨At, capt, rfl, -, -⟩ := ht.is
  obtain ⟨Al, capl, rfl, -, -⟩ := hl.is
  clear ht hl
  obtain ⟨tl, htl⟩ : ∃ tl, tl = ts.length := ⟨_, rfl⟩
  obtain ⟨L, hL⟩ : ∃ L, L = l.length := ⟨_, rfl⟩
  rw [← htl, ← hL] at HC
  rw [← hL] at HT
  rw [← htl, ← hL]
  clear htl hL
  go_enter Tryd.func38, Tryd.ntmps38
  go_wp2_with fail
  refine HC.out.mono ?_
  rintro e w1 ⟨hb1, v, rfl, hok, hbad⟩
  by_cases hE : searchE (callsOf ts l) = 0
  · obtain ⟨A, c, rfl, -, -⟩ := (hok hE).is
    have HP := Lib.hid (epochsOf_any ((HT.out.below hb1).mono hb1.size) (calls_zero (search_few hE).1).2.1)
    have H1 := Lib.hid hb1
    have HE := Lib.hid hE
    rw [hE]
    clear hb1 hok hbad hE HC
    generalize (callsOf ts l).1.length = n
    go_wp2_with fail
    refine HP.out.mono ?_
    rintro e w2 ⟨v, rfl, hv, hb2⟩
    have H2 := Lib.hid (And.intro (H1.out.trans (hb2.mono H1.out.size)) (hv.lower H1.out.size))
    clear hb2 hv HP
    go_wp2_with fail
    go_ret2
    exact ⟨H2.out.1, v, by rw [HE.out]; rfl, by rw [if_pos HE.out]; exact H2.out.2⟩
  · have hv := hbad hE
    subst hv
    have hz : (searchE (callsOf ts l) != 0) = true := by rw [bne_iff_ne]; exact hE
    have HE := Lib.hid (And.intro hb1 hE)
    clear hb1 hok hbad hE HC
    generalize hEE : searchE (callsOf ts l) = E at hz HE ⊢
    have HEE := Lib.hid hEE
    clear hEE
    go_wp2_with fail
    go_ret2
    exact ⟨HE.out.1, _, by rw [HEE.out]; rfl, by rw [HEE.out, if_neg HE.out.2]; exact NOwn.nil _ _⟩
set_option maxHeartbeats 4000000 in
theorem quiet_any {tv lv : Value} {ts : List Int} {l : List Ev} {w : World} (ht : NRd w w.heap.size tv ts) (hl : ERd w w.heap.size lv l) (hp : Pow10 w.heap.size w) :
    Calls Tryd.prog 39 #[tv, lv] w (SayPost (calmB (callsOf ts l).1) w ts (callsOf ts l)) := by
  have HC := Lib.hid (calm_any ht hl)
  have HT := Lib.hid (And.intro ht (And.intro hl hp))
  obtain ⟨At, capt, rfl, -, -⟩ := ht.is
  obtain ⟨Al, capl, rfl, -, -⟩ := hl.is
  clear ht hl hp
  obtain ⟨tl, htl⟩ : ∃ tl, tl = ts.length := ⟨_, rfl⟩
  obtain ⟨L, hL⟩ : ∃ L, L = l.length := ⟨_, rfl⟩
  rw [← htl, ← hL] at HC HT
  rw [← htl, ← hL]
  clear htl hL
  go_enter Tryd.func39, Tryd.ntmps39
  go_wp2_with fail
  refine HC.out.mono ?_
  rintro e w1 ⟨hb1, v, rfl, hv⟩
  by_cases hE : searchE (callsOf ts l) = 0
  · rw [if_pos hE] at hv
    obtain ⟨k1, k2⟩ := calm_rel (search_few hE).1
    have h9 := (search_few hE).2
    have hr := hv.rd
    have hby := byEpoch_any hr (by omega)
    rw [k1, k2] at hby
    obtain ⟨A, c, rfl, -, -⟩ := hr.is
    rw [k1] at hby ⊢
    have HP := Lib.hid hby
    have H1 := Lib.hid hb1
    obtain ⟨n, hn⟩ : ∃ n, n = (callsOf ts l).1.length := ⟨_, rfl⟩
    obtain ⟨r, hr⟩ : ∃ r, r = relP (calmB (callsOf ts l).1) (callsOf ts l).1.length := ⟨_, rfl⟩
    have HR := Lib.hid (And.intro hr (relP_lt (calmB (callsOf ts l).1) (m := (callsOf ts l).1.length) (by omega)))
    rw [← hr, ← hn] at HP
    rw [hE, ← hn]
    clear hb1 hv hE h9 HC hn hr hby k1 k2
    go_wp2_with fail
    refine HP.out.mono ?_
    rintro e w2 ⟨rfl, hb2⟩
    have h2 := H1.out.trans (hb2.mono H1.out.size)
    have HF := Lib.hid (findIn_say (p := calmB (callsOf ts l).1) (N := n) (r := r) ((HT.out.1.below h2).mono h2.size) ((HT.out.2.1.below h2).mono h2.size) ((HT.out.2.2.on h2).mono h2.size) (by rw [HR.out.1]; exact HR.out.2) (fun _ i _ => by rw [HR.out.1]))
    have H2 := Lib.hid h2
    clear hb2 h2 HP
    go_wp2_with fail
    refine HF.out.mono ?_
    rintro e w3 ⟨hb3, v, rfl, hv⟩
    have H3 := Lib.hid (And.intro (H2.out.trans (hb3.mono H2.out.size)) (hv.lower H2.out.size))
    clear hb3 hv HF
    go_wp2_with fail
    go_ret3
    exact ⟨H3.out.1, v, rfl, H3.out.2⟩
  · obtain ⟨A, c, rfl, -, -⟩ := hv.rd.is
    have hz : (searchE (callsOf ts l) != 0) = true := by rw [bne_iff_ne]; exact hE
    have HE := Lib.hid (And.intro hb1 hE)
    clear hb1 hE HC hv
    generalize hEE : searchE (callsOf ts l) = E at hz HE ⊢
    have HEE := Lib.hid hEE
    clear hEE
    generalize (if E = 0 then calmsL l else []).length = m
    go_wp2_with fail
    go_ret3
    obtain ⟨q1, q2, -⟩ := fnd_bad (p := calmB (callsOf ts l).1) (ts := ts) (o := callsOf ts l) (by rw [HEE.out]; exact HE.out.2) []
    exact ⟨HE.out.1, _, by rw [q1, HEE.out]; rfl, by rw [q2]; exact TOwn.nil _ _⟩
end Go.Proofs.YtecpjeililiafaaDoor

/-
  Contracts of the reference's PeopleRel, CalmOf, CalmRel.
-/
namespace Go.Proofs.YtecpjeililiafaaDoor
open Go.RowKit
set_option maxRecDepth 20000

theorem upP_skip (p : Nat → Nat → Bool) (m k : Nat) : ∀ j, (∀ i, i < j → p k i = false) → upP p m k j = upP p m k 0
  | 0, _ => rfl
  | j + 1, h => by
    rw [upP_step, h j (by omega), if_neg (by decide)]
    exact upP_skip p m k j fun i hi => h i (by omega)
theorem ownB_at {l : List Cl} {i j : Nat} {x y : Cl} (hx : l[i]? = some x) (hy : l[j]? = some y) : ownB l i j = decide (i < j ∧ x.who = y.who) := by
  unfold ownB
  rw [List.getD_eq_getElem?_getD, List.getD_eq_getElem?_getD, hx, hy]
  rfl
set_option maxHeartbeats 4000000 in
theorem people_any {B : Nat} {v : Value} {l : List Cl} {w : World} (h : CRd w B v l) (hB : B ≤ w.heap.size) (hl : l.length ≤ 12) :
    Calls Tryd.prog 37 #[v] w fun e w' => e = .returned (relV l.length (relP (ownB l) l.length)) ∧ Below w.heap.size w w' := by
  obtain ⟨A, c, rfl, -, -⟩ := h.is
  have H := Lib.hid (And.intro h hB)
  obtain ⟨m, hm⟩ : ∃ m, m = l.length := ⟨_, rfl⟩
  rw [← hm]
  rw [← hm] at hl
  have HM := Lib.hid hm
  have hO : ORel w w.heap.size (w.heap.size + 1) m (upP (ownB l) m 0 0) ((w.alloc (.cells (relCs 0 fun _ => 0) 36)).alloc (.cells (relCs m fun _ => 0) 36)) := by
    rw [upP_none]
    have h2 := Lies.new (w.alloc (.cells (relCs 0 fun _ => 0) 36)) 36 (relCs m fun _ => 0)
    rw [World.size_alloc] at h2
    exact ⟨((Below.refl _ _).alloc (Nat.le_refl _) _).alloc (by simp) _, Lies.alloc (Lies.new _ _ _) _, h2, Nat.le_refl _, by omega⟩
  have HO := Lib.hid hO
  clear h hB hm hO
  go_enter Tryd.func37, Tryd.ntmps37
  go_wp2_with fail
  have hO := HO.out
  clear HO
  change Code.wp _ _ _ _ ((w.alloc (.cells (relCs 0 fun _ => 0) 36)).alloc (.cells (relCs m fun _ => 0) 36))
  generalize (w.alloc (.cells (relCs 0 fun _ => 0) 36)).alloc (.cells (relCs m fun _ => 0) 36) = W at hO ⊢
  obtain ⟨G, hG⟩ : ∃ G, G = w.heap.size + 1 := ⟨_, rfl⟩
  rw [← hG] at hO ⊢
  clear hG
  go_loopw [11] (fun i wr => ∃ k : Nat, k ≤ m ∧ i = .int .i64 k ∧ ORel w w.heap.size G m (upP (ownB l) m k 0) wr) (fun i _ => m - (intOf i).toNat)
  case atStart => exact ⟨0, by omega, rfl, hO⟩
  case round =>
    clear hO
    obtain ⟨k, hk, rfl, hO⟩ := hrel
    by_cases hkm : k < m
    · obtain ⟨x, hx⟩ : ∃ x, l[k]? = some x := ⟨_, List.getElem?_eq_getElem (by rw [← HM.out]; exact hkm)⟩
      rw [← upP_skip (ownB l) m k (k + 1) (fun i hi => by unfold ownB; exact decide_eq_false fun h => by omega)] at hO
      have HO := Lib.hid hO
      have HX := Lib.hid hx
      clear hO hx
      have i1 : (0 : Int) ≤ (k : Int) := by omega
      have i2 : (k : Int) < (m : Int) := by omega
      have k12 : (k : Int) < 12 := by omega
      go_wp2_with fail
      obtain ⟨wo, rfl⟩ : ∃ wo : World, wo = wr := ⟨_, rfl⟩
      go_loopw [5] (fun i wr => ∃ j : Nat, j ≤ m ∧ k < j ∧ i = .int .i64 j ∧ ORel w w.heap.size G m (upP (ownB l) m k j) wr) (fun i _ => m - (intOf i).toNat)
      case atStart => exact ⟨k + 1, by omega, by omega, by go_num, HO.out⟩
      case round =>
        clear HO
        obtain ⟨j, hj, hkj, rfl, hO⟩ := hrel
        by_cases hjm : j < m
        · obtain ⟨y, hy⟩ : ∃ y, l[j]? = some y := ⟨_, List.getElem?_eq_getElem (by rw [← HM.out]; exact hjm)⟩
          have hb := hO.below
          have h' := H.out.1.below (hb.mono H.out.2)
          rw [← HM.out] at h'
          obtain ⟨g, o, hA, -, d0, -⟩ := h'.cl HX.out
          obtain ⟨g', o', hA', -, c0, -⟩ := h'.cl hy
          subst hA
          injection hA' with hA'
          injection hA' with hA1 hA2
          subst hA1
          subst hA2
          clear h' hb
          have hst := upP_step (ownB l) m k j
          rw [ownB_at HX.out hy, show decide (k < j ∧ x.who = y.who) = (x.who == y.who) by rw [Bool.eq_iff_iff, decide_eq_true_iff, beq_iff_eq]; exact ⟨fun h => h.2, fun h => ⟨hkj, h⟩⟩] at hst
          have j1 : (0 : Int) ≤ (j : Int) := by omega
          have j2 : (j : Int) < (m : Int) := by omega
          have hk12 : k < 12 := by omega
          have HJ := Lib.hid (upP_row_lt (ownB l) m k j)
          have HO := Lib.hid hO
          generalize x.who = xw at d0 hst
          generalize y.who = yw at c0 hst
          generalize htt : (xw == yw) = tt at hst
          have HS := Lib.hid hst
          clear hst hy hO
          cases tt
          · have hs := HS.out
            rw [if_neg (by decide)] at hs
            have HS2 := Lib.hid hs
            clear hs HS
            go_wp2_with fail
            go_quiet (fail)
            go_wp2_with fail
            go_roundw
            case rel => exact ⟨j + 1, by omega, by omega, by go_num, by rw [HS2.out]; exact HO.out.drewN _⟩
            case measure => simp [intOf]; omega
          · have hs := HS.out
            rw [if_pos rfl] at hs
            have HS2 := Lib.hid hs
            clear hs HS
            go_wp2_with fail
            go_quiet (fail)
            have hO := HO.out.drewN nq
            clear d0 c0 htt HO
            generalize wr.drewN nq = w4 at hO ⊢
            have ck := hO.own.row' hk12
            have fk := hO.own.free (1 + k)
            have hlt := HJ.out
            have HOO := Lib.hid hO
            have hGl := hO.own.lt
            clear hO
            generalize hxx : upP (ownB l) m k j k = z at ck hlt HS2
            have HXX := Lib.hid hxx
            have ho := add_pow z j hlt (by omega)
            have hp := pow_u16 j (by omega)
            clear hxx
            go_wp2_with fail
            go_region
            have h1 : ORel w w.heap.size G m (upP (ownB l) m k (j + 1)) (w4.setCell ⟨G, 1 + k, none⟩ (.int .u16 ((z ||| 2 ^ j : Nat) : Int))).drew := by
              rw [HS2.out]
              exact (HOO.out.set_ hk12 _).drew
            clear ck fk ho hp
            generalize (w4.setCell ⟨G, 1 + k, none⟩ (.int .u16 ((z ||| 2 ^ j : Nat) : Int))).drew = w5 at h1 ⊢
            have HX2 := Lib.hid h1
            clear h1 hGl
            go_wp2_with fail
            go_roundw
            case rel => exact ⟨j + 1, by omega, by omega, by go_num, HX2.out⟩
            case measure => simp [intOf]; omega
        · obtain rfl : j = m := by omega
          rw [upP_end] at hO
          go_wp2_with fail
          go_roundw
          case rel => exact ⟨k + 1, by omega, by go_num, hO⟩
          case measure => simp [intOf]; omega
    · obtain rfl : k = m := by omega
      rw [upP_all] at hO
      have hr := hO.res.size
      obtain ⟨r0, r1, r2, r3, r4, r5, r6, r7, r8, r9, r10, r11⟩ := hO.res.rows
      have hc := hO.own.size
      obtain ⟨c0, c1, c2, c3, c4, c5, c6, c7, c8, c9, c10, c11⟩ := hO.own.rows
      have hf := hO.res.free
      go_wp2_with fail
      clear hr r0 r1 r2 r3 r4 r5 r6 r7 r8 r9 r10 r11 hc c0 c1 c2 c3 c4 c5 c6 c7 c8 c9 c10 c11 hf
      refine post_fill (W := wr) (g := w.heap.size) k (relP (ownB l) k) hO.res hO.below (by omega) ?_
      intro wz hz hbz
      have hs := hz.size
      obtain ⟨c0, c1, c2, c3, c4, c5, c6, c7, c8, c9, c10, c11⟩ := hz.rows
      exact bodyPost_ret (v := relV k (relP (ownB l) k))
        (by simp [results, Tryd.results37, go_sem, hs, c0, c1, c2, c3, c4, c5, c6, c7, c8, c9, c10, c11]) rfl ⟨rfl, hbz⟩
end Go.Proofs.YtecpjeililiafaaDoor

/-
  slices.Equal of two lists of integers.
-/
namespace Go.Proofs.YtecpjeililiafaaDoor
open Go.RowKit
set_option maxRecDepth 20000

theorem ext_eq {α : Type} {xs ys : List α} (hl : xs.length = ys.length) (h : ∀ (j : Nat) (x y : α), xs[j]? = some x → ys[j]? = some y → x = y) : xs = ys := by
  apply List.ext_getElem hl
  intro j h1 h2
  exact h j _ _ (List.getElem?_eq_getElem h1) (List.getElem?_eq_getElem h2)

set_option maxHeartbeats 2000000 in
theorem eqInt_any {B1 B2 : Nat} {v1 v2 : Value} {xs ys : List Int} {w : World} (h1 : NRd w B1 v1 xs) (h2 : NRd w B2 v2 ys) :
    Calls Tryd.prog 41 #[v1, v2] w fun e w' => e = .returned (.bool (decide (xs = ys))) ∧ Below w.heap.size w w' := by
  obtain ⟨A1, c1, rfl, m1, m2⟩ := h1.is
  obtain ⟨A2, c2, rfl, m3, m4⟩ := h2.is
  unfold maxLen at m2 m4
  have H1 := Lib.hid h1
  have H2 := Lib.hid h2
  clear h1 h2
  obtain ⟨n, hn⟩ : ∃ n, n = xs.length := ⟨_, rfl⟩
  obtain ⟨n', hn'⟩ : ∃ n, n = ys.length := ⟨_, rfl⟩
  rw [← hn, ← hn']
  rw [← hn] at m1
  rw [← hn'] at m3
  have HN := Lib.hid hn
  have HN' := Lib.hid hn'
  clear hn hn'
  by_cases hl : n = n'
  · subst hl
    go_enter Tryd.func41, Tryd.ntmps41
    go_wp2_with fail
    go_loopw [13] (fun i wr => ∃ k : Nat, k ≤ n ∧ i = .int .i64 k ∧ (∀ (j : Nat) (x y : Int), j < k → xs[j]? = some x → ys[j]? = some y → x = y) ∧ ∃ nq, wr = w.drewN nq) (fun i _ => n - (intOf i).toNat)
    case atStart => exact ⟨0, by omega, rfl, fun j x y hj => by omega, 0, rfl⟩
    case round =>
      obtain ⟨k, hk, rfl, ha, nq, rfl⟩ := hrel
      have HA := Lib.hid ha
      clear ha
      by_cases hkn : k < n
      · obtain ⟨x, hx⟩ : ∃ x, xs[k]? = some x := ⟨_, List.getElem?_eq_getElem (by rw [← HN.out]; exact hkn)⟩
        obtain ⟨y, hy⟩ : ∃ y, ys[k]? = some y := ⟨_, List.getElem?_eq_getElem (by rw [← HN'.out]; exact hkn)⟩
        have h1' := H1.out
        have h2' := H2.out
        rw [← HN.out] at h1'
        rw [← HN'.out] at h2'
        obtain ⟨g1, o1, rfl, -, b0⟩ := h1'.num hx
        obtain ⟨g2, o2, rfl, -, d0⟩ := h2'.num hy
        have HX := Lib.hid (And.intro hx hy)
        clear h1' h2' hx hy
        have i1 : (0 : Int) ≤ (k : Int) := by omega
        have i2 : (k : Int) < (n : Int) := by omega
        by_cases hxy : x = y
        · have HXY := Lib.hid hxy
          subst hxy
          go_wp2_with fail
          go_quiet (fail)
          go_wp2_with fail
          go_roundw
          case rel => exact ⟨k + 1, by omega, by go_num, fun j a b hj ha hb => by
            rcases Nat.lt_or_ge j k with h | h
            · exact HA.out j a b h ha hb
            · obtain rfl : j = k := by omega
              rw [HX.out.1] at ha
              rw [HX.out.2] at hb
              exact Option.some.inj (ha.symm.trans hb), _, rfl⟩
          case measure => simp [intOf]; omega
        · have hz : (x != y) = true := by rw [bne_iff_ne]; exact hxy
          have HXY := Lib.hid hxy
          clear hxy
          go_wp2_with fail
          go_quiet (fail)
          go_wp2_with fail
          go_ret
          exact ⟨ret_bool (decide_eq_false (fun e => HXY.out (by
              have h1 := HX.out.1
              rw [e, HX.out.2] at h1
              exact (Option.some.inj h1).symm))).symm, belowN (belowN (Below.refl _ _) _) _⟩
      · obtain rfl : k = n := by omega
        go_wp2_with fail
        go_ret
        exact ⟨ret_bool (decide_eq_true (ext_eq (HN.out.symm.trans HN'.out) (fun j x y hx hy => HA.out j x y (by rw [HN.out]; exact (List.getElem?_eq_some_iff.1 hx).1) hx hy))).symm, belowN (Below.refl _ _) _⟩
  · have hz : ((n : Int) != (n' : Int)) = true := by rw [bne_iff_ne]; omega
    have hne : decide (xs = ys) = false := decide_eq_false (fun e => hl (by rw [HN.out, HN'.out, e]))
    rw [hne]
    clear hne hl
    go_enter Tryd.func41, Tryd.ntmps41
    go_wp2_with fail
    go_ret
    exact ⟨rfl, Below.refl _ _⟩
theorem eqInt_same {B1 B2 : Nat} {v1 v2 : Value} {xs : List Int} {w : World} (h1 : NRd w B1 v1 xs) (h2 : NRd w B2 v2 xs) :
    Calls Tryd.prog 41 #[v1, v2] w fun e w' => e = .returned (.bool true) ∧ Below w.heap.size w w' := by
  have := eqInt_any h1 h2
  rwa [decide_eq_true rfl] at this
end Go.Proofs.YtecpjeililiafaaDoor
