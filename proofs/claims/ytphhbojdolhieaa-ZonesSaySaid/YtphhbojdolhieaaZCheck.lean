/-
  Contracts of zones.Zones and zones.Check.
-/
import Derived.Test.YtphhbojdolhieaaZOpen
import Derived.Test.YtphhbojdolhieaaZZones
import Derived.Test.YtphhbojdolhieaaZEarly
import Derived.Test.YtphhbojdolhieaaZInside
namespace Go.Proofs.Ytphhbojdolhieaa
open Go.RowKit Go.Maps
set_option maxRecDepth 20000

theorem RegH.keys_rng {n : Nat} {cs : List Cl} (h : RegH n cs) : ∀ x, (wOf cs x).isSome = true → 0 ≤ x ∧ x ≤ 1000 := by
  intro x hx
  obtain ⟨w, hw⟩ := Option.isSome_iff_exists.1 hx
  rcases h.wOf_some.1 hw with ⟨h1, _⟩ | ⟨_, i, c, h2, h3, _⟩
  · omega
  · have := isW_iff.1 h3
    rcases h.kind (List.mem_of_getElem? h2) with h4 | h4 <;> omega
/-- An answer is one that may be. -/
theorem step_gives2 {ts : List Int} {n : Nat} {cs cs' : List Cl} {x : Ev} (h : ∀ c ∈ cs, c.til ≠ -1 → givesB c.kind c.res = true) (hs : step ts n cs x = .inr cs') : ∀ c ∈ cs', c.til ≠ -1 → givesB c.kind c.res = true := by
  unfold step at hs
  split at hs
  · cases hs
  · split at hs
    · unfold respS at hs
      split at hs
      · cases hs
      · split at hs
        · cases hs
        · rename_i hg
          injection hs with hs
          subst hs
          intro c hc
          rcases List.mem_or_eq_of_mem_set hc with hc | rfl
          · exact h c hc
          · intro _
            exact Classical.byContradiction fun hn => hg (.inr (Bool.eq_false_iff.2 hn))
    · unfold invS at hs
      split at hs
      · cases hs
      · split at hs
        · cases hs
        · injection hs with hs
          subst hs
          intro c hc
          rcases List.mem_append.1 hc with hc | hc
          · exact h c hc
          · rw [List.mem_singleton] at hc
            subst hc
            intro ht
            exact absurd rfl ht
theorem calls_gives {ts : List Int} {l : List Ev} (h0 : (callsOf ts l).2.2 = 0) : ∀ c ∈ (callsOf ts l).1, c.til ≠ -1 → givesB c.kind c.res = true := by
  obtain ⟨_, _, e⟩ := calls_zero h0
  rw [e] at h0 ⊢
  have key : ∀ (r : List Ev) (n : Nat) (cs : List Cl), (∀ c ∈ cs, c.til ≠ -1 → givesB c.kind c.res = true) → (run ts n cs r).2.2 = 0 → ∀ c ∈ (run ts n cs r).1, c.til ≠ -1 → givesB c.kind c.res = true := by
    intro r
    induction r with
    | nil => intro n cs h _; exact h
    | cons x r ih =>
      intro n cs h h1
      rw [run] at h1 ⊢
      cases hs : step ts n cs x with
      | inl e => rw [hs] at h1; exact absurd h1 (step_err hs)
      | inr cs' =>
        rw [hs] at h1
        exact ih (n + 1) cs' (step_gives2 h hs) h1
  exact key l 0 [] (fun c hc => by simp at hc) h0
theorem rds_rng {l : List Ev} (h0 : (callsOf [1] l).2.2 = 0) : ∀ r ∈ rds 0 (callsOf [1] l).1, 0 ≤ r.value ∧ r.value ≤ 1000 := by
  intro r hr
  obtain ⟨i, c, h1, h2, rfl⟩ := (mem_rds _ 0).1 hr
  obtain ⟨h3, h4⟩ := isR_iff.1 h2
  have h5 := calls_gives h0 c (List.mem_of_getElem? h1) h4
  unfold givesB at h5
  rw [if_pos (.inl h3), btw_iff] at h5
  exact h5
theorem or_bad (cs : List Cl) : orL [strayZ cs (rds 0 cs), earlyZ cs (rds 0 cs), crossZ (zonesL cs), insideZ (zonesL cs) (zonesL cs)] = badZ cs := by
  have hc : ∀ (l : List Zn), crossZ l = noBz ∨ (crossZ l).kind ≠ 0 := by
    intro l
    induction l with
    | nil => exact .inl rfl
    | cons a l ih =>
      rw [crossZ]
      by_cases h : (crossRow a l).kind ≠ 0
      · rw [if_pos h]; exact .inr h
      · rw [if_neg h]; exact ih
  have hs : strayZ cs (rds 0 cs) = noBz ∨ (strayZ cs (rds 0 cs)).kind ≠ 0 := by
    rcases stray_kind (cs := cs) (rds 0 cs) with h | ⟨r, _, _, h⟩
    · exact .inl h.2
    · rw [h]; right; show (1 : Int) ≠ 0; decide
  have he : earlyZ cs (rds 0 cs) = noBz ∨ (earlyZ cs (rds 0 cs)).kind ≠ 0 := by
    rcases early_kind (cs := cs) (rds 0 cs) with h | ⟨r, _, w, _, _, h⟩
    · exact .inl h.2
    · rw [h]; right; show (3 : Int) ≠ 0; decide
  have hi : insideZ (zonesL cs) (zonesL cs) = noBz ∨ (insideZ (zonesL cs) (zonesL cs)).kind ≠ 0 := by
    rcases inside_kind (zonesL cs) (zonesL cs) with h | ⟨a, _, b, _, _, h⟩
    · exact .inl h.2
    · rw [h]; right; show (5 : Int) ≠ 0; decide
  have key : ∀ (x : Bz) (l : List Bz), (x = noBz ∨ x.kind ≠ 0) → orL (x :: l) = orZ x (orL l) := by
    intro x l hx
    rw [orL]
    unfold orZ
    rcases hx with rfl | hx
    · rfl
    · rw [if_neg (fun h => hx h.1), if_pos hx]
  have last : ∀ x : Bz, (x = noBz ∨ x.kind ≠ 0) → orL [x] = x := by
    intro x hx
    rw [key x [] hx]
    unfold orZ
    rcases hx with rfl | hx
    · rfl
    · rw [if_pos hx]
  rw [key _ _ hs, key _ _ he, key _ _ (hc _), last _ hi]
  rfl
def ZonesPost (w : World) (l : List Ev) (e : Ending) (w' : World) : Prop :=
  Below w.heap.size w w' ∧ ((zonesE l ≠ 0 ∧ e = .returned (.tuple #[.slice none 0 0, .int .i64 (zonesE l)])) ∨
    (zonesE l = 0 ∧ ∃ v, e = .returned (.tuple #[v, .int .i64 0]) ∧ ZnRd w' w'.heap.size v (zonesL (callsOf [1] l).1)))
set_option maxHeartbeats 4000000 in
theorem zonesF_any {lv : Value} {l : List Ev} {w : World} (hl : ERd w w.heap.size lv l) :
    Calls Try.prog 7 #[lv] w (ZonesPost w l) := by
  have HO := Lib.hid (zopen_any hl)
  obtain ⟨Al, capl, rfl, -, -⟩ := hl.is
  clear hl
  have hreg := @zonesE_reg l
  have hcal := fun h : zonesE l = 0 => (zonesE_calls h).1
  have hlen := fun h : zonesE l = 0 => calls_len (zonesE_calls h).1
  have HP := Lib.hid (And.intro @hreg (And.intro hcal hlen))
  clear hreg hcal hlen
  unfold ZonesPost
  unfold OpenZ at HO
  generalize l.length = L at HO HP ⊢
  generalize hE : zonesE l = E at HO HP ⊢
  have HEE := Lib.hid hE
  clear hE
  generalize callsOf [1] l = o at HO HP ⊢
  go_enter Try.func7, Try.ntmps7
  go_wp2_with fail
  refine HO.out.mono ?_
  rintro e w1 ⟨hb1, ⟨hE, rfl⟩ | ⟨hE, M, rv, m, rfl, hm, hmp, hrd⟩⟩
  · have hz : (E != 0) = true := by rw [bne_iff_ne]; exact hE
    have HE := Lib.hid (And.intro hE hb1)
    clear hE hb1
    go_wp2_with fail
    go_ret2
    exact ⟨HE.out.2.alloc HE.out.2.size _, .inl ⟨HE.out.1, rfl⟩⟩
  · subst hE
    obtain ⟨A, cap, rfl, -, hc9⟩ := hrd.is
    unfold maxLen at hc9
    have hal : Below w1.heap.size w1 (w1.alloc (.cells #[.map (some M), .slice A (rds 0 o.1).length cap] 59)) := (Below.refl _ _).alloc (Nat.le_refl _) _
    have hr1 := HP.out.1 rfl
    have hlen : (rds 0 o.1).length ≤ 2000 := Nat.le_trans (rds_len o.1 0) (Nat.le_trans (HP.out.2.2 rfl) (by omega))
    have HZ := Lib.hid (zzones_any (Lies.new w1 59 #[.map (some M), .slice A (rds 0 o.1).length cap]) (hmp.below hal hmp.lt) ((hrd.below hal).mono hal.size) hlen hm hr1.keys_rng)
    have HB := Lib.hid (And.intro (hb1.alloc hb1.size (.cells #[.map (some M), .slice A (rds 0 o.1).length cap] 59)) hr1)
    clear hb1 hmp hrd hal hlen hr1 hm
    generalize (rds 0 o.1).length = len at HZ HB ⊢
    go_wp2_with fail
    refine HZ.out.mono ?_
    rintro e w2 ⟨v, ks, rfl, hp, hin, _, hzr, hb2⟩
    have HV := Lib.hid (And.intro hzr (And.intro (HB.out.1.trans (hb2.mono HB.out.1.size)) (And.intro hp hin)))
    obtain ⟨Av, cv, rfl, -, -⟩ := hzr.is
    clear hp hin hzr hb2 HZ
    go_wp2_with fail
    go_ret2
    refine ⟨HV.out.2.1, _, rfl, ?_⟩
    have := HV.out.1
    have e := HB.out.2.zones_keys HV.out.2.2.1 HV.out.2.2.2
    unfold zonesF at this ⊢
    rw [e] at this ⊢
    exact this
def CheckZ (w : World) (l : List Ev) (e : Ending) (w' : World) : Prop :=
  Below w.heap.size w w' ∧ ((zonesE l ≠ 0 ∧ e = .returned (.tuple #[.bool false, bzV noBz, .int .i64 (zonesE l)])) ∨
    (zonesE l = 0 ∧ e = .returned (.tuple #[.bool ((badZ (callsOf [1] l).1).kind == 0), bzV (badZ (callsOf [1] l).1), .int .i64 0])))
/-- What Check keeps: the record, its map, its reads; its result's box. -/
structure CkR (w : World) (G M m : Nat) (F : Int → Option Zop) (A : Option Addr) (cap len : Nat) (R : List Zop) (wr : World) : Prop where
  below : Below w.heap.size w wr
  res : Lies wr w.heap.size 28 #[.int .i64 0, .int .i64 0, .int .i64 0]
  rcd : Lies wr G 59 #[.map (some M), .slice A len cap]
  map_ : ZMap wr M m F
  row : ZoRd wr wr.heap.size (.slice A len cap) R
theorem CkR.next {w : World} {G M m : Nat} {F : Int → Option Zop} {A : Option Addr} {cap len : Nat} {R : List Zop} {wr w' : World} (h : CkR w G M m F A cap len R wr) (hb : Below wr.heap.size wr w') : CkR w G M m F A cap len R w' :=
  ⟨h.below.trans (hb.mono h.below.size), Lies.below h.res hb h.res.lt, Lies.below h.rcd hb h.rcd.lt, h.map_.below hb h.map_.lt, (h.row.below hb).mono hb.size⟩
set_option maxHeartbeats 8000000 in
theorem zcheck_any {lv : Value} {l : List Ev} {w : World} (hl : ERd w w.heap.size lv l) :
    Calls Try.prog 8 #[lv] w (CheckZ w l) := by
  have hb0 : Below w.heap.size w (w.alloc (.cells #[.int .i64 0, .int .i64 0, .int .i64 0] 28)) := (Below.refl _ _).alloc (Nat.le_refl _) _
  have HO := Lib.hid (zopen_any ((hl.below hb0).mono hb0.size))
  obtain ⟨Al, capl, rfl, -, -⟩ := hl.is
  have H0 := Lib.hid (And.intro hb0 (Lies.new w 28 #[.int .i64 0, .int .i64 0, .int .i64 0]))
  clear hl hb0
  have hreg := @zonesE_reg l
  have hrng := fun h : zonesE l = 0 => rds_rng (zonesE_calls h).1
  have hlen := fun h : zonesE l = 0 => calls_len (zonesE_calls h).1
  have HP := Lib.hid (And.intro @hreg (And.intro hrng hlen))
  clear hreg hrng hlen
  unfold CheckZ
  unfold OpenZ at HO
  generalize l.length = L at HO HP ⊢
  generalize hE : zonesE l = E at HO HP ⊢
  clear hE
  generalize callsOf [1] l = o at HO HP ⊢
  go_enter Try.func8, Try.ntmps8
  go_wp2_with fail
  refine HO.out.mono ?_
  rintro e w1 ⟨hb1, hor⟩
  have hbw : Below w.heap.size w w1 := H0.out.1.trans (hb1.mono H0.out.1.size)
  have hres := Lies.below H0.out.2 hb1 H0.out.2.lt
  have H1 := Lib.hid (And.intro hbw hres)
  rcases hor with ⟨hE, rfl⟩ | ⟨hE, M, rv, m, rfl, hm, hmp, hrd⟩
  · have hz : (E != 0) = true := by rw [bne_iff_ne]; exact hE
    have HE := Lib.hid hE
    have r0 := Lies.cell (Lies.alloc hres (.cells #[.map none, .slice none 0 0] 59)) 0
    have r1 := Lies.cell (Lies.alloc hres (.cells #[.map none, .slice none 0 0] 59)) 1
    have r2 := Lies.cell (Lies.alloc hres (.cells #[.map none, .slice none 0 0] 59)) 2
    have rf : ∀ i, (w1.alloc (.cells #[.map none, .slice none 0 0] 59)).frozen? ⟨w.heap.size, i, none⟩ = false := fun i => Lies.frozen (Lies.alloc hres (.cells #[.map none, .slice none 0 0] 59)) i
    simp only [List.getElem?_toArray, List.getElem?_cons_zero, List.getElem?_cons_succ] at r0 r1 r2
    clear hE hb1 hbw hres HO H0
    go_wp2_with fail
    clear r0 r1 r2 rf
    have hl := fill3_lies (a := .int .i64 0) (b := .int .i64 0) (c := .int .i64 0) (Lies.alloc H1.out.2 (.cells #[.map none, .slice none 0 0] 59))
    have hb := fill3_below (a := .int .i64 0) (b := .int .i64 0) (c := .int .i64 0) (H1.out.1.alloc H1.out.1.size (.cells #[.map none, .slice none 0 0] 59)) (g := w.heap.size) (Nat.le_refl _)
    change bodyPost _ _ _ _ _ (fill3 (w1.alloc (.cells #[.map none, .slice none 0 0] 59)) w.heap.size (.int .i64 0) (.int .i64 0) (.int .i64 0))
    generalize fill3 (w1.alloc (.cells #[.map none, .slice none 0 0] 59)) w.heap.size (.int .i64 0) (.int .i64 0) (.int .i64 0) = wz at hl hb ⊢
    have q0 := Lies.cell hl 0
    have q1 := Lies.cell hl 1
    have q2 := Lies.cell hl 2
    simp only [List.getElem?_toArray, List.getElem?_cons_zero, List.getElem?_cons_succ] at q0 q1 q2
    exact bodyPost_ret (v := .tuple #[.bool false, bzV noBz, .int .i64 E]) (by simp [results, Try.results8, go_sem, q0, q1, q2, noBz]) rfl ⟨hb, .inl ⟨HE.out, rfl⟩⟩
  · subst hE
    obtain ⟨A, cap, rfl, -, hc9⟩ := hrd.is
    unfold maxLen at hc9
    have hal : Below w1.heap.size w1 (w1.alloc (.cells #[.map (some M), .slice A (rds 0 o.1).length cap] 59)) := (Below.refl _ _).alloc (Nat.le_refl _) _
    have hlen : (rds 0 o.1).length ≤ 2000 := Nat.le_trans (rds_len o.1 0) (Nat.le_trans (HP.out.2.2 rfl) (by omega))
    have hrg : ∀ r ∈ rds 0 o.1, -1000000 ≤ r.value ∧ r.value ≤ 1000000 := fun r hr => by have := HP.out.2.1 rfl r hr; omega
    have hr1 := HP.out.1 rfl
    have hC : CkR w w1.heap.size M m (wOf o.1) A cap (rds 0 o.1).length (rds 0 o.1) (w1.alloc (.cells #[.map (some M), .slice A (rds 0 o.1).length cap] 59)) :=
      ⟨hbw.alloc hbw.size _, Lies.alloc hres _, Lies.new _ _ _, hmp.below hal hmp.lt, (hrd.below hal).mono hal.size⟩
    have HQ := Lib.hid (And.intro hlen (And.intro hrg (And.intro hr1 hm)))
    have HC := Lib.hid hC
    obtain ⟨len, hln⟩ : ∃ len, len = (rds 0 o.1).length := ⟨_, rfl⟩
    rw [← hln] at HC ⊢
    clear hb1 hbw hres hmp hrd hal hlen hr1 hm hC HO H0 H1 hrg hln
    go_wp2_with fail
    have hC := HC.out
    clear HC
    change Calls _ _ _ (w1.alloc (.cells #[.map (some M), .slice A len cap] 59)) _
    generalize w1.alloc (.cells #[.map (some M), .slice A len cap] 59) = W2 at hC ⊢
    generalize w1.heap.size = G at hC ⊢
    refine (zzones_any hC.rcd hC.map_ hC.row HQ.out.1 HQ.out.2.2.2 HQ.out.2.2.1.keys_rng).mono ?_
    rintro e w3 ⟨v, ks, rfl, hp, hin, _, hzr, hb3⟩
    have e3 := HQ.out.2.2.1.zones_keys hp hin
    unfold zonesF at hzr
    rw [e3] at hzr
    obtain ⟨Az, cz, rfl, -, hcz⟩ := hzr.is
    unfold maxLen at hcz
    have hC3 := hC.next hb3
    have hzl : (zonesL o.1).length ≤ 2000 := Nat.le_trans (List.length_filterMap_le _ _) (by simp)
    have HZ := Lib.hid hzr
    have HZL := Lib.hid hzl
    have HC3 := Lib.hid hC3
    have HS := Lib.hid (zstray_any hC3.rcd hC3.map_ hC3.row HQ.out.1 HQ.out.2.1)
    clear hp hin hzr hb3 e3 hC hC3 hzl
    obtain ⟨zl, hzl⟩ : ∃ zl, zl = (zonesL o.1).length := ⟨_, rfl⟩
    rw [← hzl] at HZ ⊢
    have HLZ := Lib.hid hzl
    clear hzl
    go_wp2_with fail
    refine HS.out.mono ?_
    rintro e w4 ⟨rfl, hb4⟩
    have hC4 := HC3.out.next hb4
    have HC4 := Lib.hid hC4
    have HZ4 := Lib.hid ((HZ.out.below hb4).mono hb4.size)
    have HS4 := Lib.hid (zearly_any hC4.rcd hC4.map_ hC4.row HQ.out.1 HQ.out.2.1)
    clear HC3 HS hb4 hC4 HZ
    obtain ⟨b1, hb1⟩ : ∃ b1, b1 = strayZ o.1 (rds 0 o.1) := ⟨_, rfl⟩
    rw [← hb1]
    obtain ⟨s0, s1, s2⟩ := b1
    have HB1 := Lib.hid hb1
    clear hb1
    go_wp2_with fail
    refine HS4.out.mono ?_
    rintro e w5 ⟨rfl, hb5⟩
    have HC5 := Lib.hid (HC4.out.next hb5)
    have hz5 := (HZ4.out.below hb5).mono hb5.size
    have HZ5 := Lib.hid hz5
    have HS5 := Lib.hid (zcross_any (l := zonesL o.1) hz5 HZL.out)
    clear HC4 HS4 hb5 HZ4 hz5
    obtain ⟨b2, hb2⟩ : ∃ b2, b2 = earlyZ o.1 (rds 0 o.1) := ⟨_, rfl⟩
    rw [← hb2]
    obtain ⟨t0, t1, t2⟩ := b2
    have HB2 := Lib.hid hb2
    clear hb2
    go_wp2_with fail
    refine HS5.out.mono ?_
    rintro e w6 ⟨rfl, hb6⟩
    have HC6 := Lib.hid (HC5.out.next hb6)
    have hz6 := (HZ5.out.below hb6).mono hb6.size
    have HS6 := Lib.hid (zinside_any (l := zonesL o.1) hz6 HZL.out)
    clear HC5 HS5 hb6 HZ5 hz6
    obtain ⟨b3, hb3⟩ : ∃ b3, b3 = crossZ (zonesL o.1) := ⟨_, rfl⟩
    rw [← hb3]
    obtain ⟨u0, u1, u2⟩ := b3
    have HB3 := Lib.hid hb3
    clear hb3
    go_wp2_with fail
    refine HS6.out.mono ?_
    rintro e w7 ⟨rfl, hb7⟩
    have HC7 := Lib.hid (HC6.out.next hb7)
    clear HC6 HS6 hb7
    obtain ⟨b4, hb4⟩ : ∃ b4, b4 = insideZ (zonesL o.1) (zonesL o.1) := ⟨_, rfl⟩
    rw [← hb4]
    obtain ⟨v0, v1, v2⟩ := b4
    have HB4 := Lib.hid hb4
    clear hb4
    have hrow : BzRd (w7.alloc (.cells #[.int .i64 s0, .int .i64 s1, .int .i64 s2, .int .i64 t0, .int .i64 t1, .int .i64 t2, .int .i64 u0, .int .i64 u1, .int .i64 u2, .int .i64 v0, .int .i64 v1, .int .i64 v2] 28)) (w7.alloc (.cells #[.int .i64 s0, .int .i64 s1, .int .i64 s2, .int .i64 t0, .int .i64 t1, .int .i64 t2, .int .i64 u0, .int .i64 u1, .int .i64 u2, .int .i64 v0, .int .i64 v1, .int .i64 v2] 28)).heap.size (.slice (some ⟨w7.heap.size, 0, none⟩) 4 4) [⟨s0, s1, s2⟩, ⟨t0, t1, t2⟩, ⟨u0, u1, u2⟩, ⟨v0, v1, v2⟩] := by
      have := LRd.of_lit (f := bzCs) (s := 3) (w := w7) (l := [⟨s0, s1, s2⟩, ⟨t0, t1, t2⟩, ⟨u0, u1, u2⟩, ⟨v0, v1, v2⟩]) (fun _ => rfl) 28 (cs := #[.int .i64 s0, .int .i64 s1, .int .i64 s2, .int .i64 t0, .int .i64 t1, .int .i64 t2, .int .i64 u0, .int .i64 u1, .int .i64 u2, .int .i64 v0, .int .i64 v1, .int .i64 v2]) rfl (n := 4) rfl (by unfold maxLen; omega)
      simpa using this
    have HR := Lib.hid (or_any hrow (by simp))
    have HC8 := Lib.hid (HC7.out.next ((Below.refl _ _).alloc (Nat.le_refl _) (.cells #[.int .i64 s0, .int .i64 s1, .int .i64 s2, .int .i64 t0, .int .i64 t1, .int .i64 t2, .int .i64 u0, .int .i64 u1, .int .i64 u2, .int .i64 v0, .int .i64 v1, .int .i64 v2] 28)))
    clear hrow HC7
    go_wp2_with fail
    refine HR.out.mono ?_
    rintro e w9 ⟨rfl, hb9⟩
    rw [HB1.out, HB2.out, HB3.out, HB4.out, or_bad]
    have hC9 := HC8.out.next hb9
    obtain ⟨bz, hbz⟩ : ∃ bz, bz = badZ o.1 := ⟨_, rfl⟩
    rw [← hbz]
    have HBZ := Lib.hid hbz
    obtain ⟨k0, k1, k2⟩ := bz
    have HC9 := Lib.hid (And.intro (hC9.below.alloc hC9.below.size (.cells #[.int .i64 k0, .int .i64 k1, .int .i64 k2] 28)) (And.intro (Lies.alloc hC9.res (.cells #[.int .i64 k0, .int .i64 k1, .int .i64 k2] 28)) (Lies.new w9 28 #[.int .i64 k0, .int .i64 k1, .int .i64 k2])))
    have HYW := Lib.hid hC9.res.lt
    clear HC8 HR hb9 hC9 hbz HB1 HB2 HB3 HB4 HQ
    go_upto_region 6 with fail
    change Code.wp _ _ _ _ (w9.alloc (.cells #[.int .i64 k0, .int .i64 k1, .int .i64 k2] 28))
    generalize w9.alloc (.cells #[.int .i64 k0, .int .i64 k1, .int .i64 k2] 28) = WA at HC9 ⊢
    generalize w9.heap.size = Y at HC9 HYW ⊢
    have hs0 : Lies WA.drew Y 28 #[.int .i64 k0, .int .i64 k1, .int .i64 k2] ∧ (∃ x y z, Lies WA.drew w.heap.size 28 #[x, y, z]) ∧ Below w.heap.size w WA.drew := ⟨HC9.out.2.2, ⟨_, _, _, HC9.out.2.1⟩, HC9.out.1.drew⟩
    have hres := Lib.hid (show Lies WA.drew w.heap.size 28 #[.int .i64 0, .int .i64 0, .int .i64 0] from HC9.out.2.1)
    have HS := Lib.hid hs0
    refine wp_region_held_drew (S := fun W => Lies W Y 28 #[.int .i64 k0, .int .i64 k1, .int .i64 k2] ∧ (∃ x y z, Lies W w.heap.size 28 #[x, y, z]) ∧ Below w.heap.size w W) (by kernel_rfl) hs0 (fun hHeld => ?_)
    change wpAnyH _ _ _ _ _ 7 _ _ _
    clear hHeld hs0 HC9
    generalize WA.drew = WD at HS hres ⊢
    refine takeAt 0 27 (oi := _) (v := ?_) rfl rfl (by kernel_rfl) (by kernel_rfl) (by kernel_rfl) (fun _ _ _ h => h) (by rfl) ?_ HS.out ?_
    rotate_left
    · (intro w0 hSw; have g0 := Lies.cell hSw.1 0; have g1 := Lies.cell hSw.1 1; have g2 := Lies.cell hSw.1 2; simp only [List.getElem?_toArray, List.getElem?_cons_zero, List.getElem?_cons_succ] at g0 g1 g2; go_simp; try with_reducible rfl)
    simp only [Act.put, List.setIfInBounds_toArray, List.set_cons_zero, List.set_cons_succ]
    refine takeAt 1 28 (oi := _) (v := ?_) rfl rfl (by kernel_rfl) (by kernel_rfl) (by kernel_rfl) (fun _ _ _ h => h) (by rfl) ?_ HS.out ?_
    rotate_left
    · (intro w0 hSw; have g0 := Lies.cell hSw.1 0; have g1 := Lies.cell hSw.1 1; have g2 := Lies.cell hSw.1 2; simp only [List.getElem?_toArray, List.getElem?_cons_zero, List.getElem?_cons_succ] at g0 g1 g2; go_simp; try with_reducible rfl)
    simp only [Act.put, List.setIfInBounds_toArray, List.set_cons_zero, List.set_cons_succ]
    refine takeAt 2 29 (oi := _) (v := ?_) rfl rfl (by kernel_rfl) (by kernel_rfl) (by kernel_rfl) (fun _ _ _ h => h) (by rfl) ?_ HS.out ?_
    rotate_left
    · (intro w0 _; go_simp; try with_reducible rfl)
    simp only [Act.put, List.setIfInBounds_toArray, List.set_cons_zero, List.set_cons_succ]
    refine takeAt 3 30 (oi := _) (v := ?_) rfl rfl (by kernel_rfl) (by kernel_rfl) (by kernel_rfl) (fun _ _ _ h => h) (by rfl) ?_ HS.out ?_
    rotate_left
    · (intro w0 hSw; have g0 := Lies.cell hSw.1 0; have g1 := Lies.cell hSw.1 1; have g2 := Lies.cell hSw.1 2; simp only [List.getElem?_toArray, List.getElem?_cons_zero, List.getElem?_cons_succ] at g0 g1 g2; go_simp; try with_reducible rfl)
    simp only [Act.put, List.setIfInBounds_toArray, List.set_cons_zero, List.set_cons_succ]
    refine takeAt 4 2 (oi := _) (v := ?_) rfl rfl (by kernel_rfl) (by kernel_rfl) (by kernel_rfl) (fun _ _ _ h => h) (by rfl) ?_ HS.out ?_
    rotate_left
    · (intro w0 hSw; have g0 := Lies.cell hSw.1 0; have g1 := Lies.cell hSw.1 1; have g2 := Lies.cell hSw.1 2; simp only [List.getElem?_toArray, List.getElem?_cons_zero, List.getElem?_cons_succ] at g0 g1 g2; go_simp; try with_reducible rfl)
    simp only [Act.put, List.setIfInBounds_toArray, List.set_cons_zero, List.set_cons_succ]
    have r0 := Lies.cell hres.out 0
    have r1 := Lies.cell hres.out 1
    have r2 := Lies.cell hres.out 2
    have rf : ∀ i, WD.frozen? ⟨w.heap.size, i, none⟩ = false := fun i => Lies.frozen hres.out i
    simp only [List.getElem?_toArray, List.getElem?_cons_zero, List.getElem?_cons_succ] at r0 r1 r2
    refine wpAnyH_ready (rs := [5]) (by kernel_rfl) (by simp) ?_
    refine AllReadyH.cons (o := _) rfl (fun K hK => ?_) AllReadyH.nil
    go_simp
    have hl := fill3_lies (a := .int .i64 k0) (b := .int .i64 k1) (c := .int .i64 k2) hres.out
    have hb := fill3_below (a := .int .i64 k0) (b := .int .i64 k1) (c := .int .i64 k2) HS.out.2.2 (g := w.heap.size) (Nat.le_refl _)
    have hy : Lies (fill3 WD w.heap.size (.int .i64 k0) (.int .i64 k1) (.int .i64 k2)) Y 28 #[.int .i64 k0, .int .i64 k1, .int .i64 k2] :=
      Lies.far (Lies.far (Lies.far HS.out.1 (p := ⟨w.heap.size, 0, none⟩) (by have := HYW.out; simp; omega) _) (p := ⟨w.heap.size, 1, none⟩) (by have := HYW.out; simp; omega) _) (p := ⟨w.heap.size, 2, none⟩) (by have := HYW.out; simp; omega) _
    have HF := Lib.hid (And.intro hl (And.intro hb hy))
    clear hl hb hy r0 r1 r2 rf
    refine hK.out _ _ ⟨HF.out.2.2, ⟨_, _, _, HF.out.1⟩, HF.out.2.1⟩ (fun _ => ?_)
    clear hK K
    change wpAnyH _ _ _ _ _ _ _ _ (fill3 WD w.heap.size (.int .i64 k0) (.int .i64 k1) (.int .i64 k2))
    generalize fill3 WD w.heap.size (.int .i64 k0) (.int .i64 k1) (.int .i64 k2) = wz at HF ⊢
    refine wpAnyH_ready (rs := [6]) (by kernel_rfl) (by simp) ?_
    refine AllReadyH.cons (o := _) rfl (fun K hK => ?_) AllReadyH.nil
    go_simp
    refine hK.out _ _ ⟨HF.out.2.2, ⟨_, _, _, HF.out.1⟩, HF.out.2.1⟩ (fun _ => ?_)
    clear hK K
    refine wpAnyH_done (by kernel_rfl) ?_ _
    have q0 := Lies.cell HF.out.1 0
    have q1 := Lies.cell HF.out.1 1
    have q2 := Lies.cell HF.out.1 2
    simp only [List.getElem?_toArray, List.getElem?_cons_zero, List.getElem?_cons_succ] at q0 q1 q2
    go_wp2_with fail
    exact bodyPost_ret (v := .tuple #[.bool (k0 == 0), bzV ⟨k0, k1, k2⟩, .int .i64 0]) (by simp [results, Try.results8, go_sem, q0, q1, q2]) rfl ⟨HF.out.2.1, by rw [← HBZ.out]⟩
end Go.Proofs.Ytphhbojdolhieaa
