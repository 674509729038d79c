/-
  Joined by a program out of: CallsOf.
-/
import Derived.Test.YtfgangkpebkicaaDoorMgAV
import Derived.Test.YtfgangkpebkicaaDoorMgAD
import Derived.Deep.RegionHeld3

/-
  Contract of alibref.CallsOf.
-/
namespace Go.Proofs.YtfgangkpebkicaaDoor
open Go.RowKit
set_option maxRecDepth 20000
/-- The calls so far lie in a row of the call's own; each has a kind. -/
structure OutS (w0 : World) (v : Value) (cs : List Cl) (wr : World) : Prop where
  below : Below w0.heap.size w0 wr
  own : COwn wr w0.heap.size v cs
theorem OutS.next {w0 w w' : World} {v : Value} {cs : List Cl} (h : OutS w0 v cs w) (hb : Below w.heap.size w w') : OutS w0 v cs w' :=
  ⟨h.below.trans (hb.mono h.below.size), h.own.then_ hb⟩
/-- And the event at hand in block P. -/
structure OutE (w0 : World) (P : Nat) (x : Ev) (v : Value) (cs : List Cl) (wr : World) : Prop where
  o : OutS w0 v cs wr
  ev : Lies wr P 84 (evCs x).toArray
  far : w0.heap.size ≤ P
theorem OutE.next {w0 w w' : World} {P : Nat} {x : Ev} {v : Value} {cs : List Cl} (h : OutE w0 P x v cs w) (hb : Below w.heap.size w w') : OutE w0 P x v cs w' :=
  ⟨h.o.next hb, Lies.below h.ev hb h.ev.lt, h.far⟩
theorem OutE.drewN {w0 w : World} {P : Nat} {x : Ev} {v : Value} {cs : List Cl} (h : OutE w0 P x v cs w) (n : Nat) : OutE w0 P x v cs (w.drewN n) :=
  ⟨⟨belowN h.o.below n, h.o.own.drewN n⟩, h.ev, h.far⟩
theorem OutE.cells {w0 w : World} {P : Nat} {x : Ev} {v : Value} {cs : List Cl} (h : OutE w0 P x v cs w) : w.cell? ⟨P, 0, none⟩ = some (.int .i64 x.who) ∧ w.cell? ⟨P, 1, none⟩ = some (.int .i64 x.thing) ∧ w.cell? ⟨P, 2, none⟩ = some (.int .i64 x.kind) ∧ w.cell? ⟨P, 3, none⟩ = some (.int .i64 x.val) :=
  ⟨Lies.cell h.ev 0, Lies.cell h.ev 1, Lies.cell h.ev 2, Lies.cell h.ev 3⟩
theorem OutS.put {w0 w : World} {h' N cap : Nat} {cs : List Cl} (h : OutS w0 (.slice (some ⟨h', 0, none⟩) N cap) cs w) (hN : N = cs.length) {k j : Nat} {d y : Cl} (hk : cs[k]? = some d) (hj : j < 7) {u : Value} (he : (clCs d).set j u = clCs y) (h1 : w0.heap.size ≤ h') :
    OutS w0 (.slice (some ⟨h', 0, none⟩) N cap) (cs.set k y) (w.setCell ⟨h', k * 7 + j, none⟩ u) := by
  subst hN
  have := h.own.put hk hj he
  refine ⟨h.below.setCell h1 u, ?_⟩
  rw [List.length_set] at this
  exact this
theorem kindsL_len (t : Int) : (kindsL t).length ≤ 1000000 := by
  unfold kindsL
  (repeat' split) <;> simp
/-- What the test of a new call reads. -/
def InvO (P gt o : Nat) (q xk xv t : Int) (R : World → Prop) (w' : World) : Prop := w'.cell? ⟨P, 1, none⟩ = some (.int .i64 q) ∧ w'.cell? ⟨P, 2, none⟩ = some (.int .i64 xk) ∧ w'.cell? ⟨P, 3, none⟩ = some (.int .i64 xv) ∧ w'.cell? ⟨gt, o, none⟩ = some (.int .i64 t) ∧ R w'
/-- All kinds are kinds. -/
def KindsOk (cs : List Cl) : Prop := ∀ c ∈ cs, 1 ≤ c.kind ∧ c.kind ≤ 10
theorem step_kinds {ts : List Int} {n : Nat} {cs cs' : List Cl} {x : Ev} (h : KindsOk cs) (hs : step ts n cs x = .inr cs') : KindsOk cs' := by
  unfold step respS invS at hs
  repeat' split at hs
  all_goals (try cases hs)
  · rename_i h1 h2 h3 h4
    intro c hc
    rcases List.mem_or_eq_of_mem_set hc with hc | rfl
    · exact h c hc
    · obtain ⟨d, e1, _, _, e4⟩ := openOf_at (cs := cs) (who := x.who) (by omega)
      have : cs.getD (openOf cs x.who).toNat default = d := by rw [List.getD_eq_getElem?_getD, e1]; rfl
      simp only [this]
      exact h d (List.mem_of_getElem? e1)
  · rename_i h1 h2 h3 h4
    intro c hc
    rcases List.mem_append.1 hc with hc | hc
    · exact h c hc
    · rw [List.mem_singleton] at hc
      subst hc
      simp only
      have : fitsB (ts.getD x.thing.toNat 0) x.kind = true := by
        cases hf : fitsB (ts.getD x.thing.toNat 0) x.kind
        · exact absurd (Or.inl hf) h3
        · rfl
      have := fits_kind this
      omega
theorem openFrom_drop {cs : List Cl} {k : Nat} (hk : k < cs.length) (who a : Int) : openFrom who k a (cs.drop k) = openFrom who (k + 1) (if cs[k].who = who ∧ cs[k].til = -1 then (k : Int) else a) (cs.drop (k + 1)) := by
  rw [List.drop_eq_getElem_cons hk, openFrom]
set_option maxHeartbeats 8000000 in
theorem callsOf_any {tv lv : Value} {ts : List Int} {l : List Ev} {w : World} (ht : NRd w w.heap.size tv ts) (hl : ERd w w.heap.size lv l) :
    Calls Tryd.prog 21 #[tv, lv] w (CallsPost w (callsOf ts l)) := by
  have er : callsOf ts l = if typesB ts = false then ([], 0, 1) else if 200 < l.length then ([], 0, 2) else run ts 0 [] l := rfl
  generalize callsOf ts l = o at er ⊢
  obtain ⟨At, capt, rfl, m1, m2⟩ := ht.is
  obtain ⟨Al, capl, rfl, m3, m4⟩ := hl.is
  unfold maxLen at m2 m4
  have HT := Lib.hid ht
  have HL := Lib.hid hl
  have HE := Lib.hid er
  clear ht hl er
  obtain ⟨M, hM⟩ : ∃ M, M = ts.length := ⟨_, rfl⟩
  obtain ⟨L, hL⟩ : ∃ L, L = l.length := ⟨_, rfl⟩
  rw [← hM, ← hL]
  rw [← hM] at m1
  rw [← hL] at m3
  have HM := Lib.hid hM
  have HLL := Lib.hid hL
  clear hM hL
  go_enter Tryd.func21, Tryd.ntmps21
  go_wp2_with fail
  go_loopw [17] (fun i wr => ∃ k : Nat, k ≤ M ∧ i = .int .i64 k ∧ (∀ i x, i < k → ts[i]? = some x → btw 1 x 5 = true) ∧ w = wr) (fun i _ => M - (intOf i).toNat)
  case atStart => exact ⟨0, by omega, rfl, fun i x hi => by omega, rfl⟩
  case round =>
    obtain ⟨k, hk, rfl, ha, rfl⟩ := hrel
    have HA := Lib.hid ha
    clear ha
    by_cases hkn : k < M
    · obtain ⟨x, hx⟩ : ∃ x, ts[k]? = some x := ⟨_, List.getElem?_eq_getElem (by rw [← HM.out]; exact hkn)⟩
      have h' := HT.out
      rw [← HM.out] at h'
      obtain ⟨g, o', rfl, hg, d1⟩ := h'.num hx
      have HX := Lib.hid hx
      clear h' hx hg
      have i1 : (0 : Int) ≤ (k : Int) := by omega
      have i2 : (k : Int) < (M : Int) := by omega
      cases hb : btw 1 x 5
      · have HB := Lib.hid hb
        clear hb
        have hc := btwn_no w (btw_not.1 HB.out)
        go_wp2_with (go_at_call 13; (with_reducible refine (hc).mono ?_); rintro e w' ⟨rfl, rfl⟩)
        go_ret3
        have e := HE.out
        rw [if_pos (typesB_bad HX.out HB.out)] at e
        subst e
        exact ⟨_, rfl, Below.refl _ _, LRd.nil _ _⟩
      · have HB := Lib.hid hb
        clear hb
        have hc := btwn_yes w (btw_iff.1 HB.out)
        go_wp2_with (go_at_call 13; (with_reducible refine (hc).mono ?_); rintro e w' ⟨rfl, rfl⟩)
        go_roundw
        case rel => exact ⟨k + 1, by omega, by go_num, fun j y hj hy => by
          rcases Nat.lt_or_ge j k with h | h
          · exact HA.out j y h hy
          · obtain rfl : j = k := by omega
            rw [HX.out] at hy
            injection hy with hy
            subst hy
            exact HB.out, by trivial⟩
        case measure => simp [intOf]; omega
    · obtain rfl : k = M := by omega
      by_cases hl : (1 : Int) ≤ (k : Int) ∧ (k : Int) ≤ 4
      · have htb : typesB ts = true := typesB_ok (by rw [← HM.out]; omega) (by rw [← HM.out]; exact HA.out)
        have er := HE.out
        rw [if_neg (by rw [htb]; decide)] at er
        have HTB := Lib.hid htb
        clear htb
        by_cases hn : 200 < L
        · rw [if_pos (by rw [← HLL.out]; exact hn)] at er
          subst er
          have hn' : (200 : Int) < (L : Int) := by omega
          go_wp2_with (go_at_call 13; (with_reducible refine (btwn_yes _ hl).mono ?_); rintro e w' ⟨rfl, rfl⟩)
          go_ret3
          exact ⟨_, rfl, Below.refl _ _, LRd.nil _ _⟩
        · rw [if_neg (by rw [← HLL.out]; exact hn)] at er
          have HE := Lib.hid er
          clear er
          have hn' : ¬ (200 : Int) < (L : Int) := by omega
          go_wp2_with (go_at_call 13; (with_reducible refine (btwn_yes _ hl).mono ?_); rintro e w' ⟨rfl, rfl⟩)
          have hT4 : ts.length ≤ 4 := by rw [← HM.out]; omega
          have hwr : IntKind.i64.wrap ((k : Int) - 1) = (k : Int) - 1 := by rw [IntKind.wrap_i64]; omega
          clear HA
          go_loopw [9, 34] (fun v i wr => ∃ (j : Nat) (cs : List Cl) (v0 : Value), j ≤ L ∧ i = .int .i64 j ∧ v0 = v ∧ cs.length ≤ j ∧ KindsOk cs ∧ run ts 0 [] l = run ts j cs (l.drop j) ∧ OutS w v0 cs wr) (fun _ i _ => L - (intOf i).toNat)
          case atStart => exact ⟨0, [], _, by omega, rfl, rfl, by simp, fun c hc => by simp at hc, by simp, Below.refl _ _, World.ownsRow_nil _ _ _ _⟩
          case round =>
            obtain ⟨j, cs, v0, hj, rfl, rfl, hcj, hko, hrun, hO⟩ := hrel
            obtain ⟨Ac, capc, rfl, m5, m6⟩ := hO.own.rd.is
            unfold maxLen at m6
            have HA := Lib.hid (And.intro hrun (And.intro hO hko))
            by_cases hjL : j < L
            · have hjl : j < l.length := by rw [← HLL.out]; exact hjL
              obtain ⟨x, hx⟩ : ∃ x, l[j]? = some x := ⟨_, List.getElem?_eq_getElem hjl⟩
              have hxe : l[j] = x := (List.getElem?_eq_some_iff.1 hx).2
              have hL' := HL.out.below hO.below
              rw [← HLL.out] at hL'
              obtain ⟨gl, o', rfl, hgl, d0, d1, d2, d3⟩ := hL'.ev hx
              have hst := run_drop (ts := ts) hjl cs
              rw [hxe] at hst
              have i1 : (0 : Int) ≤ (j : Int) := by omega
              have i2 : (j : Int) < (L : Int) := by omega
              obtain ⟨xw, xt, xk, xv⟩ := x
              have hs : step ts j cs ⟨xw, xt, xk, xv⟩ = if ¬ (0 ≤ xw ∧ xw ≤ 7) ∨ ¬ (0 ≤ xt ∧ xt < ts.length) then .inl 3 else if xk = 0 then respS j cs ⟨xw, xt, xk, xv⟩ else invS ts j cs ⟨xw, xt, xk, xv⟩ := rfl
              have hkn := fun cs' (h : step ts j cs ⟨xw, xt, xk, xv⟩ = .inr cs') => And.intro (step_kinds HA.out.2.2 h) (step_len h)
              generalize hss : step ts j cs ⟨xw, xt, xk, xv⟩ = s at hst hs hkn
              have hE2 : OutE w wr.heap.size ⟨xw, xt, xk, xv⟩ (.slice Ac cs.length capc) cs (wr.alloc (.cells (evCs ⟨xw, xt, xk, xv⟩).toArray 84)) :=
                ⟨hO.next ((Below.refl _ _).alloc (Nat.le_refl _) _), Lies.new _ _ _, hO.below.size⟩
              have HX := Lib.hid (And.intro (hrun.trans hst) (And.intro hs hkn))
              have HP := Lib.hid hE2
              have HKO := Lib.hid hko
              clear hx hxe hL' hst hs hrun hO hko hE2 hkn hss HA
              go_wp2_with fail
              have hP := HP.out
              clear HP d0 d1 d2 d3
              generalize wr.heap.size = P at hP ⊢
              change Calls _ _ _ (wr.alloc (.cells (evCs ⟨xw, xt, xk, xv⟩).toArray 84)) _
              generalize wr.alloc (.cells (evCs ⟨xw, xt, xk, xv⟩).toArray 84) = W2 at hP ⊢
              obtain ⟨d0, d1, d2, d3⟩ := hP.cells
              have hPl := hP.ev.lt
              have HP := Lib.hid hP
              clear hP
              refine (btwn_any _ _ _ _).mono ?_
              rintro e w' ⟨rfl, rfl⟩
              cases c1 : btw 0 xw 7
              · go_wp2_with fail
                go_ret3
                have e := HX.out.2.1
                rw [if_pos (Or.inl (btw_not.1 c1))] at e
                subst e
                have e2 := HE.out
                rw [HX.out.1] at e2
                subst e2
                exact ⟨_, rfl, HP.out.o.below, LRd.nil _ _⟩
              · go_wp2_with fail
                refine (btwn_any _ _ _ _).mono ?_
                rintro e w' ⟨rfl, rfl⟩
                cases c2 : btw 0 xt ((k : Int) - 1)
                · go_wp2_with fail
                  go_ret3
                  have e := HX.out.2.1
                  have hc2 := btw_not.1 c2
                  have hMk := HM.out
                  rw [if_pos (Or.inr (by omega))] at e
                  subst e
                  have e2 := HE.out
                  rw [HX.out.1] at e2
                  subst e2
                  exact ⟨_, rfl, HP.out.o.below, LRd.nil _ _⟩
                · have hc1 := btw_iff.1 c1
                  have hc2 := btw_iff.1 c2
                  go_wp2_with fail
                  obtain ⟨p, rfl⟩ : ∃ p : Nat, xw = (p : Int) := ⟨xw.toNat, by omega⟩
                  obtain ⟨q, rfl⟩ : ∃ q : Nat, xt = (q : Int) := ⟨xt.toNat, by omega⟩
                  have hq : q < ts.length := by rw [← HM.out]; omega
                  have hs := HX.out.2.1
                  rw [if_neg (by rw [← HM.out]; omega)] at hs
                  have HS := Lib.hid hs
                  clear hs c1 c2
                  obtain ⟨N, hN⟩ : ∃ N, N = cs.length := ⟨_, rfl⟩
                  rw [← hN]
                  rw [← hN] at m5 hcj
                  have HN := Lib.hid hN
                  clear hN d0 d1 d2 d3 hPl
                  go_loopw [12, 55] (fun a i wr => ∃ (m : Nat) (A : Int), m ≤ N ∧ i = .int .i64 m ∧ a = .int .i64 A ∧ openOf cs (p : Int) = openFrom (p : Int) m A (cs.drop m) ∧ OutE w P ⟨p, q, xk, xv⟩ (.slice Ac N capc) cs wr) (fun _ i _ => N - (intOf i).toNat)
                  case atStart => exact ⟨0, -1, by omega, rfl, rfl, rfl, by rw [HN.out]; exact HP.out⟩
                  case round =>
                    clear HP W2
                    obtain ⟨m, A, hm, rfl, rfl, hop, hP⟩ := hrel
                    by_cases hmN : m < N
                    · have hml : m < cs.length := by rw [← HN.out]; exact hmN
                      obtain ⟨c, hc⟩ : ∃ c, cs[m]? = some c := ⟨_, List.getElem?_eq_getElem hml⟩
                      have hce : cs[m] = c := (List.getElem?_eq_some_iff.1 hc).2
                      rw [openFrom_drop hml, hce] at hop
                      have hr := hP.o.own.rd
                      obtain ⟨gc, oc, rfl, hgc, b0, b1, b2, b3, b4, b5, b6⟩ := hr.cl hc
                      have hP0 := hP.cells.1
                      have hPl := hP.ev.lt
                      have j1 : (0 : Int) ≤ (m : Int) := by omega
                      have j2 : (m : Int) < (N : Int) := by omega
                      obtain ⟨cw, ct, ck, ca, cr, cf, cl⟩ := c
                      have hP2 := hP.next ((Below.refl _ _).alloc (Nat.le_refl _) (.cells (clCs ⟨cw, ct, ck, ca, cr, cf, cl⟩).toArray 51))
                      have HO := Lib.hid (And.intro hop hP2)
                      clear hop hP hP2 hr hc hce hgc
                      by_cases t1 : cw = (p : Int)
                      · by_cases t2 : cl = -1
                        · subst t1 t2
                          go_wp2_with fail
                          go_roundw
                          case rel => exact ⟨m + 1, m, by omega, by go_num, rfl, by rw [HO.out.1, if_pos ⟨rfl, rfl⟩], HO.out.2⟩
                          case measure => simp [intOf]; omega
                        · have t3 : (cl == -1) = false := by rw [beq_eq_false_iff_ne]; exact t2
                          have T2 := Lib.hid t2
                          clear t2
                          subst t1
                          go_wp2_with fail
                          go_roundw
                          case rel => exact ⟨m + 1, A, by omega, by go_num, rfl, by rw [HO.out.1, if_neg (fun h => T2.out h.2)], HO.out.2⟩
                          case measure => simp [intOf]; omega
                      · have t3 : (cw == (p : Int)) = false := by rw [beq_eq_false_iff_ne]; exact t1
                        have T1 := Lib.hid t1
                        clear t1
                        go_wp2_with fail
                        go_roundw
                        case rel => exact ⟨m + 1, A, by omega, by go_num, rfl, by rw [HO.out.1, if_neg (fun h => T1.out h.1)], HO.out.2⟩
                        case measure => simp [intOf]; omega
                    · obtain rfl : m = N := by omega
                      have hop' : openOf cs (p : Int) = A := by rw [hop, HN.out, List.drop_length]; rfl
                      obtain ⟨d0, d1, d2, d3⟩ := hP.cells
                      have HO := Lib.hid (And.intro hop' hP)
                      clear hop hop' hP
                      by_cases hxk : xk = 0
                      · have hs := HS.out
                        rw [if_pos hxk] at hs
                        subst hxk
                        have HS := Lib.hid hs
                        clear hs
                        by_cases hA : A < 0
                        · go_wp2_with fail
                          go_ret3
                          have e := HS.out
                          rw [show respS j cs ⟨p, q, 0, xv⟩ = .inl 4 from if_pos (by show openOf cs (p : Int) < 0; rw [HO.out.1]; exact hA)] at e
                          subst e
                          have e2 := HE.out
                          rw [HX.out.1] at e2
                          subst e2
                          exact ⟨_, rfl, HO.out.2.o.below, LRd.nil _ _⟩
                        · obtain ⟨a, rfl⟩ : ∃ a : Nat, A = (a : Int) := ⟨A.toNat, by omega⟩
                          have h0 : 0 ≤ openOf cs (p : Int) := by rw [HO.out.1]; omega
                          obtain ⟨c, e1, e2, e3, e4⟩ := openOf_at h0
                          rw [HO.out.1, Int.toNat_natCast] at e1 e4
                          have hget : cs.getD a default = c := by rw [List.getD_eq_getElem?_getD, e1]; rfl
                          have er : respS j cs ⟨p, q, 0, xv⟩ = if c.thing ≠ (q : Int) ∨ givesB c.kind xv = false then .inl 3 else .inr (cs.set a { c with res := xv, til := j }) := by
                            unfold respS
                            simp only
                            rw [HO.out.1, Int.toNat_natCast, hget, if_neg (by omega)]
                          have hck := HX.out.2.2
                          rw [HS.out, er] at hck
                          have hs := HS.out
                          rw [er] at hs
                          have hkd : 1 ≤ c.kind ∧ c.kind ≤ 10 := HKO.out c (List.mem_of_getElem? e1)
                          obtain ⟨h', capc', hv, q1, q2, q3, q4, q5, q6⟩ := HO.out.2.o.own.at_ e1
                          injection hv with hv1 hv2 hv3
                          subst hv1
                          subst hv3
                          have ha : a < m := by rw [HN.out]; exact e4
                          have b1 := q6 1 _ rfl
                          have b2 := q6 2 _ rfl
                          have b4 := q6 4 _ rfl
                          have b6 := q6 6 _ rfl
                          have i3 : (0 : Int) ≤ (a : Int) := by omega
                          have i4 : (a : Int) < (m : Int) := by omega
                          have HQ := Lib.hid (And.intro e1 (And.intro e4 (And.intro hck hs)))
                          have hPl := HO.out.2.ev.lt
                          have hag : answersB c.kind xv = givesB c.kind xv := answers_gives hkd.1 hkd.2
                          obtain ⟨cw, ct, ck, ca, cr, cf, cl⟩ := c
                          simp only at b1 b2 b4 b6 hag
                          have HD := Lib.hid (HO.out.2)
                          clear h0 e1 e2 e3 e4 hget er hck hs hkd hv2 q6 q2
                          go_wp2_with fail
                          by_cases t1 : ct = (q : Int)
                          · subst t1
                            cases hgv : givesB ck xv
                            · have HC := Lib.hid (fun W => answers_any ck xv W)
                              rw [hag, hgv] at HC
                              have HG := Lib.hid hgv
                              clear hgv hag
                              go_quiet ((go_at_call 39; exact quiet_left (HC.out _)))
                              go_wp2_with fail
                              go_ret3
                              have e := HQ.out.2.2.2
                              rw [if_pos (Or.inr HG.out)] at e
                              subst e
                              have e2 := HE.out
                              rw [HX.out.1] at e2
                              subst e2
                              exact ⟨_, rfl, belowN HO.out.2.o.below _, LRd.nil _ _⟩
                            · have HC := Lib.hid (fun W => answers_any ck xv W)
                              rw [hag, hgv] at HC
                              have HG := Lib.hid hgv
                              clear hgv hag
                              go_quiet ((go_at_call 39; exact quiet_left (HC.out _)))
                              have e := HQ.out.2.2.2
                              rw [if_neg (fun h => h.elim (fun h => h rfl) (fun h => by rw [HG.out] at h; cases h))] at e
                              have HSE := Lib.hid e
                              clear e
                              go_wp2_with fail
                              go_roundw
                              case rel =>
                                have hk := HX.out.2.2
                                have hr := HX.out.1
                                rw [HSE.out] at hk hr
                                have hk2 := hk _ rfl
                                have ho1 := (OutS.put (j := 4) (y := ⟨cw, q, ck, ca, xv, cf, cl⟩) (u := .int .i64 xv) ((HO.out.2.drewN nq).o) HN.out HQ.out.1 (by decide) rfl q1)
                                have hk1 : (cs.set a ⟨cw, q, ck, ca, xv, cf, cl⟩)[a]? = some ⟨cw, q, ck, ca, xv, cf, cl⟩ := by rw [List.getElem?_set_self HQ.out.2.1]
                                have ho2 := OutS.put (j := 6) (y := ⟨cw, q, ck, ca, xv, cf, (j : Nat)⟩) (u := .int .i64 (j : Nat)) ho1 (by rw [List.length_set]; exact HN.out) hk1 (by decide) rfl q1
                                rw [List.set_set] at ho2
                                exact ⟨j + 1, cs.set a ⟨cw, q, ck, ca, xv, cf, j⟩, _, by omega, by go_num, rfl, by rw [List.length_set, ← HN.out]; omega, hk2.1, hr, ho2⟩
                              case measure => simp [intOf]; omega
                          · have t2 : (ct != (q : Int)) = true := by rw [bne_iff_ne]; exact t1
                            have T1 := Lib.hid t1
                            clear t1 hag
                            go_quiet (fail)
                            go_wp2_with fail
                            go_ret3
                            have e := HQ.out.2.2.2
                            rw [if_pos (Or.inl T1.out)] at e
                            subst e
                            have e2 := HE.out
                            rw [HX.out.1] at e2
                            subst e2
                            exact ⟨_, rfl, belowN HO.out.2.o.below _, LRd.nil _ _⟩
                      · have hs := HS.out
                        rw [if_neg hxk] at hs
                        have hz : (xk == 0) = false := by rw [beq_eq_false_iff_ne]; exact hxk
                        obtain ⟨t, ht⟩ : ∃ t, ts[q]? = some t := ⟨_, List.getElem?_eq_getElem hq⟩
                        have hget : ts.getD q 0 = t := by rw [List.getD_eq_getElem?_getD, ht]; rfl
                        have er : invS ts j cs ⟨p, q, xk, xv⟩ = if fitsB t xk = false ∨ takesB xk xv = false then .inl 3 else if 0 ≤ openOf cs (p : Int) then .inl 5 else .inr (cs ++ [⟨p, q, xk, xv, 0, j, -1⟩]) := by
                          unfold invS
                          simp only
                          rw [Int.toNat_natCast, hget]
                        rw [er, HO.out.1] at hs
                        have HS := Lib.hid hs
                        have hTT := HT.out.below HO.out.2.o.below
                        rw [← HM.out] at hTT
                        obtain ⟨gt, ot, rfl, hgt, rt⟩ := hTT.num ht
                        have i3 : (0 : Int) ≤ (q : Int) := by omega
                        have i4 : (q : Int) < (k : Int) := by rw [HM.out]; omega
                        have hkf := kinds_fit t xk
                        have hBW := HO.out.2.o.below.size
                        have hPl := HO.out.2.ev.lt
                        have HKS := Lib.hid (fun w' (h : OutE w P ⟨p, q, xk, xv⟩ (.slice Ac m capc) cs w') (hr : w'.cell? ⟨gt, ot + q, none⟩ = some (.int .i64 t)) => (⟨h.cells.2.1, h.cells.2.2.1, h.cells.2.2.2, hr, h⟩ : w'.cell? ⟨P, 1, none⟩ = some (.int .i64 q) ∧ w'.cell? ⟨P, 2, none⟩ = some (.int .i64 xk) ∧ w'.cell? ⟨P, 3, none⟩ = some (.int .i64 xv) ∧ w'.cell? ⟨gt, ot + q, none⟩ = some (.int .i64 t) ∧ OutE w P ⟨p, q, xk, xv⟩ (.slice Ac m capc) cs w'))
                        have HST := Lib.hid (fun (w1 w2 : World) (h : OutE w P ⟨p, q, xk, xv⟩ (.slice Ac m capc) cs w1 ∧ w1.cell? ⟨gt, ot + q, none⟩ = some (.int .i64 t)) (hb : Below w1.heap.size w1 w2) => (⟨h.1.next hb, (hb.cell (p := ⟨gt, ot + q, none⟩) (by have := h.1.o.below.size; show gt < w1.heap.size; omega)).trans h.2⟩ : OutE w P ⟨p, q, xk, xv⟩ (.slice Ac m capc) cs w2 ∧ w2.cell? ⟨gt, ot + q, none⟩ = some (.int .i64 t)))
                        have HD := Lib.hid (And.intro (HO.out.2.drewN 1) rt)
                        have HCN := Lib.hid (fun (w' : World) (v : Value) (h : IRd w' w'.heap.size v (kindsL t)) => contains_any h (kindsL_len t) xk)
                        clear hs er hget ht hTT hBW
                        cases hf : fitsB t xk
                        · have HF := Lib.hid hf
                          rw [hkf, hf] at HCN
                          clear hkf hf
                          go_wp2_with fail
                          refine wp_region_held_drew (S := InvO P gt (ot + q) q xk xv t (OutE w P ⟨p, q, xk, xv⟩ (.slice Ac m capc) cs)) (by kernel_rfl) (HKS.out _ HD.out.1 HD.out.2) (fun hHeld => ?_)
                          iterate 5 (
                            refine takeNext 18 109 (oi := _) (v := ?_) rfl rfl (by kernel_rfl) (by kernel_rfl) (by kernel_rfl) (fun _ _ _ h => h) (by rfl) ?_ hHeld ?_
                            rotate_left
                            · (intro w hSw; obtain ⟨s0, s1, s2, s3, s4⟩ := hSw; go_simp; try with_reducible rfl)
                            simp only [Act.put, List.setIfInBounds_toArray])
                          refine takeAt 6 115 (oi := _) (v := ?_) rfl rfl (by kernel_rfl) (by kernel_rfl) (by kernel_rfl) (fun _ _ _ h => h) (by rfl) ?_ hHeld ?_
                          rotate_left
                          · (intro w hSw; obtain ⟨s0, s1, s2, s3, s4⟩ := hSw; go_simp; try with_reducible rfl)
                          simp only [Act.put, List.setIfInBounds_toArray]
                          refine takeAt 7 116 (oi := _) (v := ?_) rfl rfl (by kernel_rfl) (by kernel_rfl) (by kernel_rfl) (fun _ _ _ h => h) (by rfl) ?_ hHeld ?_
                          rotate_left
                          · (intro w hSw; obtain ⟨s0, s1, s2, s3, s4⟩ := hSw; go_simp; try with_reducible rfl)
                          simp only [Act.put, List.setIfInBounds_toArray]
                          refine wpAnyH_ready (rs := [5]) (by kernel_rfl) (by simp) ?_
                          refine AllReadyH.cons (o := _) rfl (fun K hK => ?_) AllReadyH.nil
                          go_simp
                          refine (kinds_any _ _).mono ?_
                          rintro e w1 ⟨kv, rfl, hk1, hb1⟩
                          have HN1 := Lib.hid (And.intro hk1 (HST.out _ w1 HD.out hb1))
                          clear hk1 hb1
                          refine hK.out _ _ (HKS.out _ HN1.out.2.1 HN1.out.2.2) (fun hH1 => ?_)
                          clear hK K hHeld
                          refine wpAnyH_ready (rs := [8]) (by kernel_rfl) (by simp) ?_
                          refine AllReadyH.cons (o := _) rfl (fun K hK => ?_) AllReadyH.nil
                          go_simp
                          refine (HCN.out _ _ HN1.out.1).mono ?_
                          rintro e w2 ⟨rfl, hb2⟩
                          have HN2 := Lib.hid (HST.out _ w2 HN1.out.2 hb2)
                          clear hb2
                          refine hK.out _ _ (HKS.out _ HN2.out.1 HN2.out.2) (fun hH2 => ?_)
                          clear hK K hH1
                          iterate 2 (
                            refine takeNext 18 109 (oi := _) (v := ?_) rfl rfl (by kernel_rfl) (by kernel_rfl) (by kernel_rfl) (fun _ _ _ h => h) (by rfl) ?_ hH2 ?_
                            rotate_left
                            · (intro w hSw; obtain ⟨s0, s1, s2, s3, s4⟩ := hSw; go_simp; try with_reducible rfl)
                            simp only [Act.put, List.setIfInBounds_toArray])
                          iterate 6 (
                            refine skipNext 18 109 (oi := _) rfl rfl (by kernel_rfl) (by kernel_rfl) (by kernel_rfl) (fun _ _ _ h => h) (by kernel_rfl) hH2 ?_
                            simp only [Act.put, List.setIfInBounds_toArray])
                          iterate 1 (
                            refine takeNext 18 109 (oi := _) (v := ?_) rfl rfl (by kernel_rfl) (by kernel_rfl) (by kernel_rfl) (fun _ _ _ h => h) (by rfl) ?_ hH2 ?_
                            rotate_left
                            · (intro w hSw; obtain ⟨s0, s1, s2, s3, s4⟩ := hSw; go_simp; try with_reducible rfl)
                            simp only [Act.put, List.setIfInBounds_toArray])
                          refine wpAnyH_done (by kernel_rfl) ?_ _
                          clear hH2
                          go_wp2_with fail
                          go_ret3
                          have e := HS.out
                          rw [if_pos (Or.inl HF.out)] at e
                          subst e
                          have e2 := HE.out
                          rw [HX.out.1] at e2
                          subst e2
                          exact ⟨_, rfl, HN2.out.1.o.below, LRd.nil _ _⟩
                        · have HF := Lib.hid hf
                          rw [hkf, hf] at HCN
                          have hat : asksB xk xv = takesB xk xv := asks_takes hf
                          clear hkf hf
                          have HAS := Lib.hid (fun w' => asks_any xk xv w')
                          rw [hat] at HAS
                          clear hat
                          cases htk : takesB xk xv
                          · have HT2 := Lib.hid htk
                            rw [htk] at HAS
                            clear htk
                            go_wp2_with fail
                            refine wp_region_held_drew (S := InvO P gt (ot + q) q xk xv t (OutE w P ⟨p, q, xk, xv⟩ (.slice Ac m capc) cs)) (by kernel_rfl) (HKS.out _ HD.out.1 HD.out.2) (fun hHeld => ?_)
                            iterate 5 (
                              refine takeNext 18 109 (oi := _) (v := ?_) rfl rfl (by kernel_rfl) (by kernel_rfl) (by kernel_rfl) (fun _ _ _ h => h) (by rfl) ?_ hHeld ?_
                              rotate_left
                              · (intro w hSw; obtain ⟨s0, s1, s2, s3, s4⟩ := hSw; go_simp; try with_reducible rfl)
                              simp only [Act.put, List.setIfInBounds_toArray])
                            refine takeAt 6 115 (oi := _) (v := ?_) rfl rfl (by kernel_rfl) (by kernel_rfl) (by kernel_rfl) (fun _ _ _ h => h) (by rfl) ?_ hHeld ?_
                            rotate_left
                            · (intro w hSw; obtain ⟨s0, s1, s2, s3, s4⟩ := hSw; go_simp; try with_reducible rfl)
                            simp only [Act.put, List.setIfInBounds_toArray]
                            refine takeAt 7 116 (oi := _) (v := ?_) rfl rfl (by kernel_rfl) (by kernel_rfl) (by kernel_rfl) (fun _ _ _ h => h) (by rfl) ?_ hHeld ?_
                            rotate_left
                            · (intro w hSw; obtain ⟨s0, s1, s2, s3, s4⟩ := hSw; go_simp; try with_reducible rfl)
                            simp only [Act.put, List.setIfInBounds_toArray]
                            refine wpAnyH_ready (rs := [5]) (by kernel_rfl) (by simp) ?_
                            refine AllReadyH.cons (o := _) rfl (fun K hK => ?_) AllReadyH.nil
                            go_simp
                            refine (kinds_any _ _).mono ?_
                            rintro e w1 ⟨kv, rfl, hk1, hb1⟩
                            have HN1 := Lib.hid (And.intro hk1 (HST.out _ w1 HD.out hb1))
                            clear hk1 hb1
                            refine hK.out _ _ (HKS.out _ HN1.out.2.1 HN1.out.2.2) (fun hH1 => ?_)
                            clear hK K hHeld
                            refine wpAnyH_ready (rs := [8]) (by kernel_rfl) (by simp) ?_
                            refine AllReadyH.cons (o := _) rfl (fun K hK => ?_) AllReadyH.nil
                            go_simp
                            refine (HCN.out _ _ HN1.out.1).mono ?_
                            rintro e w2 ⟨rfl, hb2⟩
                            have HN2 := Lib.hid (HST.out _ w2 HN1.out.2 hb2)
                            clear hb2
                            refine hK.out _ _ (HKS.out _ HN2.out.1 HN2.out.2) (fun hH2 => ?_)
                            clear hK K hH1
                            iterate 2 (
                              refine takeNext 18 109 (oi := _) (v := ?_) rfl rfl (by kernel_rfl) (by kernel_rfl) (by kernel_rfl) (fun _ _ _ h => h) (by rfl) ?_ hH2 ?_
                              rotate_left
                              · (intro w hSw; obtain ⟨s0, s1, s2, s3, s4⟩ := hSw; go_simp; try with_reducible rfl)
                              simp only [Act.put, List.setIfInBounds_toArray])
                            iterate 4 (
                              refine takeNext 18 109 (oi := _) (v := ?_) rfl rfl (by kernel_rfl) (by kernel_rfl) (by kernel_rfl) (fun _ _ _ h => h) (by kernel_rfl) ?_ hH2 ?_
                              rotate_left
                              · (intro w hSw; obtain ⟨s0, s1, s2, s3, s4⟩ := hSw; go_simp; try with_reducible rfl)
                              simp only [Act.put, List.setIfInBounds_toArray])
                            refine wpAnyH_ready (rs := [15]) (by kernel_rfl) (by simp) ?_
                            refine AllReadyH.cons (o := _) rfl (fun K hK => ?_) AllReadyH.nil
                            go_simp
                            refine (HAS.out _).mono ?_
                            rintro e w3 ⟨rfl, hb3⟩
                            have HN3 := Lib.hid (HST.out _ w3 HN2.out hb3)
                            clear hb3
                            refine hK.out _ _ (HKS.out _ HN3.out.1 HN3.out.2) (fun hH3 => ?_)
                            clear hK K hH2
                            iterate 1 (
                              refine takeNext 18 109 (oi := _) (v := ?_) rfl rfl (by kernel_rfl) (by kernel_rfl) (by kernel_rfl) (fun _ _ _ h => h) (by kernel_rfl) ?_ hH3 ?_
                              rotate_left
                              · (intro w hSw; obtain ⟨s0, s1, s2, s3, s4⟩ := hSw; go_simp; try with_reducible rfl)
                              simp only [Act.put, List.setIfInBounds_toArray])
                            iterate 1 (
                              refine takeNext 18 109 (oi := _) (v := ?_) rfl rfl (by kernel_rfl) (by kernel_rfl) (by kernel_rfl) (fun _ _ _ h => h) (by rfl) ?_ hH3 ?_
                              rotate_left
                              · (intro w hSw; obtain ⟨s0, s1, s2, s3, s4⟩ := hSw; go_simp; try with_reducible rfl)
                              simp only [Act.put, List.setIfInBounds_toArray])
                            refine wpAnyH_done (by kernel_rfl) ?_ _
                            clear hH3
                            go_wp2_with fail
                            go_ret3
                            have e := HS.out
                            rw [if_pos (Or.inr HT2.out)] at e
                            subst e
                            have e2 := HE.out
                            rw [HX.out.1] at e2
                            subst e2
                            exact ⟨_, rfl, HN3.out.1.o.below, LRd.nil _ _⟩
                          · have HT2 := Lib.hid htk
                            rw [htk] at HAS
                            clear htk
                            go_wp2_with fail
                            refine wp_region_held_drew (S := InvO P gt (ot + q) q xk xv t (OutE w P ⟨p, q, xk, xv⟩ (.slice Ac m capc) cs)) (by kernel_rfl) (HKS.out _ HD.out.1 HD.out.2) (fun hHeld => ?_)
                            iterate 5 (
                              refine takeNext 18 109 (oi := _) (v := ?_) rfl rfl (by kernel_rfl) (by kernel_rfl) (by kernel_rfl) (fun _ _ _ h => h) (by rfl) ?_ hHeld ?_
                              rotate_left
                              · (intro w hSw; obtain ⟨s0, s1, s2, s3, s4⟩ := hSw; go_simp; try with_reducible rfl)
                              simp only [Act.put, List.setIfInBounds_toArray])
                            refine takeAt 6 115 (oi := _) (v := ?_) rfl rfl (by kernel_rfl) (by kernel_rfl) (by kernel_rfl) (fun _ _ _ h => h) (by rfl) ?_ hHeld ?_
                            rotate_left
                            · (intro w hSw; obtain ⟨s0, s1, s2, s3, s4⟩ := hSw; go_simp; try with_reducible rfl)
                            simp only [Act.put, List.setIfInBounds_toArray]
                            refine takeAt 7 116 (oi := _) (v := ?_) rfl rfl (by kernel_rfl) (by kernel_rfl) (by kernel_rfl) (fun _ _ _ h => h) (by rfl) ?_ hHeld ?_
                            rotate_left
                            · (intro w hSw; obtain ⟨s0, s1, s2, s3, s4⟩ := hSw; go_simp; try with_reducible rfl)
                            simp only [Act.put, List.setIfInBounds_toArray]
                            refine wpAnyH_ready (rs := [5]) (by kernel_rfl) (by simp) ?_
                            refine AllReadyH.cons (o := _) rfl (fun K hK => ?_) AllReadyH.nil
                            go_simp
                            refine (kinds_any _ _).mono ?_
                            rintro e w1 ⟨kv, rfl, hk1, hb1⟩
                            have HN1 := Lib.hid (And.intro hk1 (HST.out _ w1 HD.out hb1))
                            clear hk1 hb1
                            refine hK.out _ _ (HKS.out _ HN1.out.2.1 HN1.out.2.2) (fun hH1 => ?_)
                            clear hK K hHeld
                            refine wpAnyH_ready (rs := [8]) (by kernel_rfl) (by simp) ?_
                            refine AllReadyH.cons (o := _) rfl (fun K hK => ?_) AllReadyH.nil
                            go_simp
                            refine (HCN.out _ _ HN1.out.1).mono ?_
                            rintro e w2 ⟨rfl, hb2⟩
                            have HN2 := Lib.hid (HST.out _ w2 HN1.out.2 hb2)
                            clear hb2
                            refine hK.out _ _ (HKS.out _ HN2.out.1 HN2.out.2) (fun hH2 => ?_)
                            clear hK K hH1
                            iterate 2 (
                              refine takeNext 18 109 (oi := _) (v := ?_) rfl rfl (by kernel_rfl) (by kernel_rfl) (by kernel_rfl) (fun _ _ _ h => h) (by rfl) ?_ hH2 ?_
                              rotate_left
                              · (intro w hSw; obtain ⟨s0, s1, s2, s3, s4⟩ := hSw; go_simp; try with_reducible rfl)
                              simp only [Act.put, List.setIfInBounds_toArray])
                            iterate 4 (
                              refine takeNext 18 109 (oi := _) (v := ?_) rfl rfl (by kernel_rfl) (by kernel_rfl) (by kernel_rfl) (fun _ _ _ h => h) (by kernel_rfl) ?_ hH2 ?_
                              rotate_left
                              · (intro w hSw; obtain ⟨s0, s1, s2, s3, s4⟩ := hSw; go_simp; try with_reducible rfl)
                              simp only [Act.put, List.setIfInBounds_toArray])
                            refine wpAnyH_ready (rs := [15]) (by kernel_rfl) (by simp) ?_
                            refine AllReadyH.cons (o := _) rfl (fun K hK => ?_) AllReadyH.nil
                            go_simp
                            refine (HAS.out _).mono ?_
                            rintro e w3 ⟨rfl, hb3⟩
                            have HN3 := Lib.hid (HST.out _ w3 HN2.out hb3)
                            clear hb3
                            refine hK.out _ _ (HKS.out _ HN3.out.1 HN3.out.2) (fun hH3 => ?_)
                            clear hK K hH2
                            iterate 1 (
                              refine takeNext 18 109 (oi := _) (v := ?_) rfl rfl (by kernel_rfl) (by kernel_rfl) (by kernel_rfl) (fun _ _ _ h => h) (by kernel_rfl) ?_ hH3 ?_
                              rotate_left
                              · (intro w hSw; obtain ⟨s0, s1, s2, s3, s4⟩ := hSw; go_simp; try with_reducible rfl)
                              simp only [Act.put, List.setIfInBounds_toArray])
                            iterate 1 (
                              refine takeNext 18 109 (oi := _) (v := ?_) rfl rfl (by kernel_rfl) (by kernel_rfl) (by kernel_rfl) (fun _ _ _ h => h) (by rfl) ?_ hH3 ?_
                              rotate_left
                              · (intro w hSw; obtain ⟨s0, s1, s2, s3, s4⟩ := hSw; go_simp; try with_reducible rfl)
                              simp only [Act.put, List.setIfInBounds_toArray])
                            refine wpAnyH_done (by kernel_rfl) ?_ _
                            clear hH3
                            have hs := HS.out
                            rw [if_neg (fun h => h.elim (fun h => by rw [HF.out] at h; cases h) (fun h => by rw [HT2.out] at h; cases h))] at hs
                            have HS := Lib.hid hs
                            clear hs
                            by_cases hA : 0 ≤ A
                            · go_wp2_with fail
                              go_ret3
                              have e := HS.out
                              rw [if_pos hA] at e
                              subst e
                              have e2 := HE.out
                              rw [HX.out.1] at e2
                              subst e2
                              exact ⟨_, rfl, HN3.out.1.o.below, LRd.nil _ _⟩
                            · have hdo := HN3.out.1.cells
                              obtain ⟨d0, d1, d2, d3⟩ := hdo
                              have hs := HS.out
                              rw [if_neg hA] at hs
                              have hk := HX.out.2.2
                              have hr := HX.out.1
                              rw [hs] at hk hr
                              have hk2 := hk _ rfl
                              have HZ := Lib.hid (And.intro hk2 hr)
                              clear hs hk hr hk2
                              have h200 : cs.length ≤ 65536 := by rw [← HN.out]; omega
                              have hbs := HN3.out.1.o.below.size
                              have H200 := Lib.hid h200
                              have HD3 := Lib.hid (HN3.out.1.o.own.alloc (.cells (clCs ⟨p, q, xk, xv, 0, j, -1⟩).toArray 51))
                              have HB3 := Lib.hid (HN3.out.1.o.below.alloc hbs (.cells (clCs ⟨p, q, xk, xv, 0, j, -1⟩).toArray 51))
                              go_wp2_with (at_builtin; refine wpList_app_cl rfl (.tmp 131) (.tmp 142) rfl w.heap.size w3.heap.size _ cs ⟨p, q, xk, xv, 0, j, -1⟩ rfl rfl HD3.out (new_cells w3 51 (clCs ⟨p, q, xk, xv, 0, j, -1⟩)) H200.out HB3.out.size ?_; intro v' w5 ho5 hb5 hg5; have HO5 := Lib.hid (And.intro ho5 hb5); clear ho5 hb5 hg5)
                              go_roundw
                              case rel =>
                                refine ⟨j + 1, cs ++ [⟨p, q, xk, xv, 0, j, -1⟩], _, by omega, by go_num, rfl, ?_, HZ.out.1.1, HZ.out.2, HB3.out.trans HO5.out.2, HO5.out.1⟩
                                rw [List.length_append, ← HN.out]
                                show m + 1 ≤ j + 1
                                omega
                              case measure => simp [intOf]; omega
            · obtain rfl : j = L := by omega
              have hre : run ts 0 [] l = (cs, 0, 0) := by rw [hrun, HLL.out, List.drop_length]; rfl
              have HZ := Lib.hid hre
              clear hre hrun hO hko
              go_wp2_with fail
              go_ret3
              have e := HE.out
              rw [HZ.out] at e
              subst e
              exact ⟨_, rfl, HA.out.2.1.below, HA.out.2.1.own.rd⟩
      · go_wp2_with (go_at_call 13; (with_reducible refine (btwn_no _ hl).mono ?_); rintro e w' ⟨rfl, rfl⟩)
        go_ret3
        have e := HE.out
        rw [if_pos (typesB_len (by rw [← HM.out]; omega))] at e
        subst e
        exact ⟨_, rfl, Below.refl _ _, LRd.nil _ _⟩
end Go.Proofs.YtfgangkpebkicaaDoor
