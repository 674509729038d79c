/-
  alibkeep.ZonesNames answers true, whatever is handed in.
-/
import Derived.Test.YtphhbojdolhieaaZLives
import Derived.Test.YtphhbojdolhieaaZForms
import Derived.Test.YtphhbojdolhieaaZNamesQ
import Derived.Test.YtphhbojdolhieaaCloneEv
import Derived.Test.YtphhbojdolhieaaOwnEv
namespace Go.Proofs.Ytphhbojdolhieaa
open Go.RowKit Go.Maps
set_option maxRecDepth 20000

/-- The values of events that may be. -/
theorem step_val {ts : List Int} {n : Nat} {cs cs' : List Cl} {x : Ev} (hs : step ts n cs x = .inr cs') : -1 ≤ x.val ∧ x.val ≤ 1000 := by
  have hb : ∀ a b : Int, btw a x.val b = true → a ≤ x.val ∧ x.val ≤ b := fun a b h => btw_iff.1 h
  unfold step at hs
  split at hs
  · cases hs
  · split at hs
    · unfold respS at hs
      split at hs
      · cases hs
      · split at hs
        · cases hs
        · rename_i hg
          have h : givesB (cs.getD (openOf cs x.who).toNat default).kind x.val = true := Classical.byContradiction fun hn => hg (.inr (Bool.eq_false_iff.2 hn))
          unfold givesB at h
          repeat' split at h
          · have := hb _ _ h; omega
          · rw [Bool.or_eq_true, beq_iff_eq] at h
            rcases h with h | h
            · omega
            · have := hb _ _ h; omega
          · have := hb _ _ h; omega
          · rw [beq_iff_eq] at h; omega
    · unfold invS at hs
      split at hs
      · cases hs
      · rename_i hg
        have h : takesB x.kind x.val = true := Classical.byContradiction fun hn => hg (.inr (Bool.eq_false_iff.2 hn))
        unfold takesB at h
        split at h
        · have := hb _ _ h; omega
        · rw [beq_iff_eq] at h; omega
theorem calls_val {l : List Ev} (h : (callsOf [1] l).2.2 = 0) : ∀ x ∈ l, -1 ≤ x.val ∧ x.val ≤ 1000 := by
  intro x hx
  obtain ⟨i, hi, rfl⟩ := List.getElem_of_mem hx
  have e := (calls_zero h).2.2
  rw [e] at h
  have h1 := (front_ok (n := i + 1) hi h).1
  obtain ⟨_, h2⟩ := run_succ (List.getElem?_eq_getElem hi) h1
  exact step_val h2
theorem flat_val : ∀ (es : List Ev) (q : Nat) (v : Int), (es.flatMap evCs).set (q * 4 + 3) (.int .i64 v) = (es.modify q fun x => { x with val := v }).flatMap evCs
  | [], q, v => by simp
  | x :: r, 0, v => by simp [List.flatMap_cons]
  | x :: r, q + 1, v => by
    rw [List.modify_succ_cons, List.flatMap_cons, List.flatMap_cons, ← flat_val r q v, show (q + 1) * 4 + 3 = (evCs x).length + (q * 4 + 3) by simp; omega, List.set_append_right _ _ (by omega), Nat.add_sub_cancel_left]
theorem modify_val {es : List Ev} {q : Nat} {y : Ev} (hy : es[q]? = some y) (k : Int) : (es.modify q fun x => { x with val := y.val + k }) = es.modify q (addV k) := by
  apply List.ext_getElem?
  intro i
  rw [List.getElem?_modify, List.getElem?_modify]
  by_cases hi : q = i
  · subst hi
    rw [hy]
    rfl
  · simp [hi]
/-- What the loop of ZonesNames keeps. -/
structure ZmR (w : World) (B G : Nat) (bc : Array Value) (Ac : Option Addr) (cc n : Nat) (cs : List Cl) (A : Option Addr) (cap L : Nat) (es : List Ev) (wr : World) : Prop where
  below : Below w.heap.size w wr
  cls : CRd wr B (.slice Ac n cc) cs
  bad : Lies wr G 28 bc
  own : EOwn wr B (.slice A L cap) es
  sz : w.heap.size ≤ B ∧ B ≤ wr.heap.size ∧ G < B
section
variable {w : World} {B G : Nat} {bc : Array Value} {Ac : Option Addr} {cc n : Nat} {cs : List Cl} {A : Option Addr} {cap L : Nat} {es : List Ev} {wr w' : World}
theorem ZmR.next (h : ZmR w B G bc Ac cc n cs A cap L es wr) (hb : Below wr.heap.size wr w') : ZmR w B G bc Ac cc n cs A cap L es w' := by
  have h1 := h.sz
  exact ⟨h.below.trans (hb.mono h.below.size), h.cls.below (hb.mono h1.2.1), Lies.below h.bad hb h.bad.lt, h.own.then_ hb, by have := hb.size; omega⟩
/-- One value more. -/
theorem ZmR.put {g : Nat} (h : ZmR w B G bc Ac cc n cs (some ⟨g, 0, none⟩) cap L es wr) (hL : L = es.length) {q : Nat} {y : Ev} (hy : es[q]? = some y) (k : Int) : ZmR w B G bc Ac cc n cs (some ⟨g, 0, none⟩) cap L (es.modify q (addV k)) (wr.setCell ⟨g, q * 4 + 3, none⟩ (.int .i64 (y.val + k))) := by
  have h1 := h.sz
  have hg := own_at h.own
  have hb : Below B wr (wr.setCell ⟨g, q * 4 + 3, none⟩ (.int .i64 (y.val + k))) := (Below.refl _ _).setCell (p := ⟨g, q * 4 + 3, none⟩) hg _
  refine ⟨h.below.trans (hb.mono h1.1), h.cls.below hb, Lies.below h.bad hb h1.2.2, ?_, by have := hb.size; omega⟩
  subst hL
  unfold EOwn
  rw [List.length_modify, ← modify_val hy k, ← flat_val]
  exact own_set h.own _ _
theorem ZmR.at_ (h : ZmR w B G bc Ac cc n cs A cap L es wr) (hL : 0 < L) : ∃ g, A = some ⟨g, 0, none⟩ := by
  rcases h.own.2 with ⟨e, _⟩ | ⟨g, cap', cur, e, _⟩
  · injection e with _ e _
    omega
  · injection e with e _ _
    exact ⟨g, e⟩
end
theorem own_ne {w : World} {B g n cap X : Nat} {l : List Ev} {t : TypeId} {bc : Array Value} (h : EOwn w B (.slice (some ⟨g, 0, none⟩) n cap) l) (hX : Lies w X t bc) (ht : t ≠ 55 := by decide) : X ≠ g := by
  rcases h.2 with ⟨h', _⟩ | ⟨g', cap', cur, h', hB, hg, _⟩
  · simp at h'
  · simp only [Value.slice.injEq, Option.some.injEq, Addr.mk.injEq, and_true] at h'
    obtain ⟨rfl, -⟩ := h'
    intro e
    subst e
    change w.heap[X]? = some _ at hX
    rw [hX] at hg
    injection hg with hg
    injection hg with _ hg _
    exact ht hg
theorem calls_evf {l : List Ev} (h : (callsOf [1] l).2.2 = 0) : EvF l l.length (callsOf [1] l).1 := by
  have e := (calls_zero h).2.2
  rw [e] at h ⊢
  have := run_evf (ts := [1]) (l := l) l.length (Nat.le_refl _) (by rw [List.take_length]; exact h)
  rwa [List.take_length] at this
theorem shE_snoc {k : Int} {cs : List Cl} {l : List Ev} {j : Nat} {c : Cl} (hc : cs[j]? = some c) : shE k (cs.take (j + 1)) l = putZ k (shE k (cs.take j) l) c := by
  unfold shE
  rw [take_snoc hc, List.foldl_append]
  rfl
theorem rgv_of {l : List Ev} (h : zonesE l = 0) : RgV (callsOf [1] l).1 := by
  have hr := zonesE_reg h
  intro c hc
  rcases hr.kind hc with a | a
  · exact .inl ⟨a.1, a.2.1⟩
  · refine .inr ⟨a.1, fun ht => ?_⟩
    have h5 := calls_gives (zonesE_calls h).1 c hc ht
    unfold givesB at h5
    rw [if_pos (.inl a.1), btw_iff] at h5
    exact h5.1
/-- Where values one more may stand. -/
theorem shE_bound {k : Int} (hk : 0 ≤ k ∧ k ≤ 1000) {l : List Ev} (h : zonesE l = 0) {j q : Nat} {y : Ev} (hy : (shE k ((callsOf [1] l).1.take j) l)[q]? = some y) : -1 ≤ y.val ∧ y.val ≤ 201000 := by
  have h1 := (zonesE_calls h).1
  rw [shE_at] at hy
  cases hx : l[q]? with
  | none => rw [hx] at hy; cases hy
  | some x =>
    rw [hx] at hy
    injection hy with hy
    have hv := calls_val h1 x (List.mem_of_getElem? hx)
    have hc : ((callsOf [1] l).1.take j).countP (hitZ q) ≤ 200 := Nat.le_trans List.countP_le_length (Nat.le_trans (by rw [List.length_take]; omega) (calls_len h1))
    have hmul : k * (((callsOf [1] l).1.take j).countP (hitZ q) : Nat) ≤ 1000 * 200 := Int.mul_le_mul hk.2 (by omega) (by omega) (by omega)
    have hpos : 0 ≤ k * (((callsOf [1] l).1.take j).countP (hitZ q) : Nat) := Int.mul_nonneg hk.1 (by omega)
    rw [← hy]
    simp only
    omega
set_option maxHeartbeats 16000000 in
theorem znames_any {lv : Value} {l : List Ev} {w : World} (hl : ERd w w.heap.size lv l) (more : Int) :
    Calls Try.prog 6 #[lv, .int .i64 more] w fun e w' => e = .returned (.bool true) ∧ Below w.heap.size w w' := by
  have HC := Lib.hid (zcheck_any hl)
  have HL := Lib.hid hl
  have HNL := Lib.hid (fun W : World => LRd.of_lit (f := intCs) (s := 1) (w := W) (l := [1]) (fun _ => rfl) 3 (cs := #[.int .i64 1]) rfl (n := 1) rfl (by unfold maxLen; omega))
  obtain ⟨Al, capl, rfl, m1, m2⟩ := hl.is
  unfold maxLen at m2
  obtain ⟨L, hL⟩ : ∃ L, L = l.length := ⟨_, rfl⟩
  rw [← hL] at HC HL m1 ⊢
  have HLL := Lib.hid hL
  clear hl hL
  go_enter Try.func6, Try.ntmps6
  go_wp2_with fail
  refine HC.out.mono ?_
  intro e w1 hck
  obtain ⟨b, k, x, y, rfl, hb1, hok, -⟩ := hck.forms
  have HK := Lib.hid hok
  have hba := hb1.alloc hb1.size (.cells #[.int .i64 k, .int .i64 x, .int .i64 y] 28)
  have H1 := Lib.hid (And.intro hba (Lies.new w1 28 #[.int .i64 k, .int .i64 x, .int .i64 y]))
  obtain ⟨E, hE⟩ : ∃ E, E = zonesE l := ⟨_, rfl⟩
  rw [← hE]
  have HE := Lib.hid hE
  clear HC hok hb1 hck hE hba
  go_wp2_with fail
  change Calls _ _ _ (w1.alloc (.cells #[.int .i64 k, .int .i64 x, .int .i64 y] 28)) _
  generalize w1.alloc (.cells #[.int .i64 k, .int .i64 x, .int .i64 y] 28) = W2 at H1 ⊢
  generalize w1.heap.size = G at H1 ⊢
  refine (zlives_any W2).mono ?_
  rintro e w3 ⟨rfl, hb3⟩
  have H3 := Lib.hid (And.intro (H1.out.1.trans (hb3.mono H1.out.1.size)) (Lies.below H1.out.2 hb3 H1.out.2.lt))
  clear H1 hb3
  by_cases hE0 : E = 0
  · subst hE0
    by_cases hn0 : more < 0
    · go_wp2_with fail
      refine (zlives_any w3).mono ?_
      rintro e w4 ⟨rfl, hb4⟩
      have H4 := Lib.hid (H3.out.1.trans (hb4.mono H3.out.1.size))
      clear hb4
      go_wp2_with fail
      go_ret
      exact ⟨rfl, H4.out⟩
    · by_cases hnl : (1000 : Int) < more
      · go_wp2_with fail
        refine (zlives_any w3).mono ?_
        rintro e w4 ⟨rfl, hb4⟩
        have H4 := Lib.hid (H3.out.1.trans (hb4.mono H3.out.1.size))
        clear hb4
        go_wp2_with fail
        go_ret
        exact ⟨rfl, H4.out⟩
      · have hb4 : Below w.heap.size w (w3.alloc (.cells #[.int .i64 1] 3)) := H3.out.1.alloc H3.out.1.size _
        have hn4 := (HNL.out w3).mono (B' := (w3.alloc (.cells #[.int .i64 1] 3)).heap.size) (by simp)
        have HCA := Lib.hid (calls_any hn4 ((HL.out.below hb4).mono hb4.size))
        have H4 := Lib.hid (And.intro hb4 (Lies.alloc H3.out.2 (.cells #[.int .i64 1] 3)))
        have HMB := Lib.hid (And.intro hn0 hnl)
        clear hb4 hn4 H3
        go_wp2_with fail
        refine HCA.out.mono ?_
        rintro e w5 ⟨vc, rfl, hb5, hcr⟩
        have hf0 : (callsOf [1] l).2.2 = 0 := (zonesE_calls HE.out.symm).1
        rw [hf0]
        generalize (callsOf [1] l).2.1 = at1
        have hF : EvF l l.length (callsOf [1] l).1 := calls_evf hf0
        have hL2 : l.length ≤ 200 := (calls_zero hf0).2.1
        have HSB := Lib.hid (fun (j q : Nat) (y : Ev) (hy : (shE more ((callsOf [1] l).1.take j) l)[q]? = some y) => shE_bound (k := more) (by have := HMB.out; omega) HE.out.symm hy)
        have HSH := Lib.hid (fun (hm : zonesE (shE more (callsOf [1] l).1 l) = 0) => And.intro (calls_sh HE.out.symm hm) (sh_kind (k := more) (by have := HMB.out; omega) (rgv_of HE.out.symm) (zonesE_reg HE.out.symm) (by rw [← calls_sh HE.out.symm hm]; exact zonesE_reg hm)))
        have hbz := HK.out HE.out.symm
        obtain ⟨cs, hcs⟩ : ∃ cs, cs = (callsOf [1] l).1 := ⟨_, rfl⟩
        rw [← hcs] at hcr hF HSB HSH hbz
        obtain ⟨Ac, cc, rfl, c1, c2⟩ := hcr.is
        unfold maxLen at c2
        obtain ⟨n, hn⟩ : ∃ n, n = cs.length := ⟨_, rfl⟩
        rw [← hn] at hcr c1 ⊢
        have h5 := H4.out.1.trans (hb5.mono H4.out.1.size)
        have hbd5 := Lies.below H4.out.2 hb5 H4.out.2.lt
        have HCL := Lib.hid (cloneE_any ((HL.out.below h5).mono h5.size) (by omega))
        have H5 := Lib.hid (And.intro h5 (And.intro hbd5 hcr))
        have HCS := Lib.hid (And.intro hn (And.intro hF hbz))
        have HLE := Lib.hid hL2
        clear h5 hbd5 hcr H4 hb5 hF hbz hn hf0 HCA HNL hL2 hcs
        go_wp2_with fail
        refine HCL.out.mono ?_
        rintro e w6 ⟨mv, rfl, ho6, hb6⟩
        obtain ⟨Am, cm, rfl⟩ := own_sliceE ho6
        rw [← HLL.out] at ho6 ⊢
        have h0 : ZmR w w5.heap.size G #[.int .i64 k, .int .i64 x, .int .i64 y] Ac cc n cs Am cm L l w6 :=
          ⟨H5.out.1.trans (hb6.mono H5.out.1.size), H5.out.2.2.below hb6, Lies.below H5.out.2.1 hb6 H5.out.2.1.lt, ho6, H5.out.1.size, hb6.size, H5.out.2.1.lt⟩
        have H6 := Lib.hid h0
        clear h0 ho6 hb6 HCL
        go_wp2_with fail
        generalize w5.heap.size = BB at H6
        go_loopw [49] (fun t wr => ∃ j : Nat, j ≤ n ∧ t = .int .i64 j ∧ ZmR w BB G #[.int .i64 k, .int .i64 x, .int .i64 y] Ac cc n cs Am cm L (shE more (cs.take j) l) wr) (fun t _ => n - (intOf t).toNat)
        case atStart => exact ⟨0, by omega, rfl, by rw [List.take_zero]; exact H6.out⟩
        case round =>
          obtain ⟨j, hj, rfl, hO⟩ := hrel
          by_cases hjn : j < n
          · obtain ⟨c, hc⟩ : ∃ c, cs[j]? = some c := ⟨_, List.getElem?_eq_getElem (by rw [← HCS.out.1]; exact hjn)⟩
            have hsn := shE_snoc (k := more) (l := l) hc
            have hgood : (c.kind = 1 ∧ c.til = c.til) ∨ c.kind ≠ 1 := by by_cases h : c.kind = 1 <;> simp [h]
            have hi := HCS.out.2.1.inv j c hc
            have ht := HCS.out.2.1.res j c hc
            obtain ⟨ga, oa, rfl, hga, e0, e1, e2, e3, e4, e5, e6⟩ := hO.cls.cl hc
            obtain ⟨y0, y1, y2, y3, y4, y5, y6⟩ := c
            simp only at hi ht e0 e1 e2 e3 e4 e5 e6
            have i1 : (0 : Int) ≤ (j : Int) := by omega
            have i2 : (j : Int) < (n : Int) := by omega
            have hal : Below wr.heap.size wr (wr.alloc (.cells #[.int .i64 y0, .int .i64 y1, .int .i64 y2, .int .i64 y3, .int .i64 y4, .int .i64 y5, .int .i64 y6] 47)) := (Below.refl _ _).alloc (Nat.le_refl _) _
            have HO := Lib.hid (And.intro (hO.next hal) (Lies.new wr 47 #[.int .i64 y0, .int .i64 y1, .int .i64 y2, .int .i64 y3, .int .i64 y4, .int .i64 y5, .int .i64 y6]))
            have HX := Lib.hid (And.intro hsn (And.intro hi ht))
            clear hO hc hsn hal hi ht hgood
            go_upto_region 9 with fail
            clear e0 e1 e2 e3 e4 e5 e6
            change Code.wp _ _ _ _ (wr.alloc (.cells #[.int .i64 y0, .int .i64 y1, .int .i64 y2, .int .i64 y3, .int .i64 y4, .int .i64 y5, .int .i64 y6] 47))
            generalize wr.alloc (.cells #[.int .i64 y0, .int .i64 y1, .int .i64 y2, .int .i64 y3, .int .i64 y4, .int .i64 y5, .int .i64 y6] 47) = W2 at HO ⊢
            generalize wr.heap.size = X at HO ⊢
            have e2 := Lies.cell HO.out.2 2
            have e4 := Lies.cell HO.out.2 4
            have e5 := Lies.cell HO.out.2 5
            have e6 := Lies.cell HO.out.2 6
            simp only [List.getElem?_toArray, List.getElem?_cons_zero, List.getElem?_cons_succ] at e2 e4 e5 e6
            by_cases h1 : y2 = 1
            · subst h1
              obtain ⟨q0, q1, z, hz, hzk⟩ := HX.out.2.1
              obtain ⟨q, rfl⟩ : ∃ q : Nat, y5 = (q : Int) := ⟨y5.toNat, by omega⟩
              rw [Int.toNat_natCast] at hz
              have q2 : (q : Int) < (L : Int) := by rw [HLL.out]; exact q1
              obtain ⟨u, hu⟩ : ∃ u, (shE more (cs.take j) l)[q]? = some u := by rw [shE_at, hz]; exact ⟨_, rfl⟩
              have hub := HSB.out j q u hu
              obtain ⟨g, rfl⟩ := HO.out.1.at_ (by omega)
              obtain ⟨-, -, -, d3⟩ := own_ev HO.out.1.own hu
              have hfz := own_frozen HO.out.1.own
              have hwv : IntKind.i64.wrap (u.val + more) = u.val + more := by rw [IntKind.wrap_i64]; have := HMB.out; omega
              have hsh := HX.out.1
              rw [show putZ more (shE more (cs.take j) l) ⟨y0, y1, 1, y3, y4, (q : Int), y6⟩ = (shE more (cs.take j) l).modify q (addV more) by unfold putZ; rw [if_pos rfl]; simp only [Int.toNat_natCast]] at hsh
              have HP := Lib.hid (And.intro (HO.out.1.put (by rw [shE_len]; exact HLL.out) hu more) (Lies.far HO.out.2 (p := ⟨g, q * 4 + 3, none⟩) (own_ne HO.out.1.own HO.out.2) (.int .i64 (u.val + more))))
              have HSN := Lib.hid hsh
              obtain ⟨u0, u1, u2, u3⟩ := u
              simp only at d3 hwv hub HP
              clear hsh hub hz hzk hu q1
              go_upto_region 11 with fail
              clear d3 e2 e4 e5 e6 hfz hwv
              change Code.wp _ _ _ _ (W2.setCell ⟨g, q * 4 + 3, none⟩ (.int .i64 (u3 + more)))
              generalize W2.setCell ⟨g, q * 4 + 3, none⟩ (.int .i64 (u3 + more)) = W3 at HP ⊢
              have e2 := Lies.cell HP.out.2 2
              simp only [List.getElem?_toArray, List.getElem?_cons_zero, List.getElem?_cons_succ] at e2
              go_wp2_with fail
              go_roundw
              case rel => exact ⟨j + 1, by omega, by go_num, by rw [HSN.out]; exact HP.out.1⟩
              case measure => simp [intOf]; omega
            · have b1 : (y2 == 1) = false := beq_eq_false_iff_ne.2 h1
              by_cases h2 : y2 = 2
              · subst h2
                by_cases h3 : y6 = -1
                · subst h3
                  have hsh := HX.out.1
                  rw [show putZ more (shE more (cs.take j) l) ⟨y0, y1, 2, y3, y4, y5, -1⟩ = shE more (cs.take j) l by unfold putZ; rw [if_neg (show ¬ ((2 : Int) = 1) by decide), if_neg (fun h => h.2.1 rfl)]] at hsh
                  have HSN := Lib.hid hsh
                  clear hsh
                  go_wp2_with fail
                  go_roundw
                  case rel => exact ⟨j + 1, by omega, by go_num, by rw [HSN.out]; exact HO.out.1⟩
                  case measure => simp [intOf]; omega
                · have b3 : (y6 != -1) = true := by rw [bne_iff_ne]; exact h3
                  by_cases h4 : y4 = 0
                  · subst h4
                    have hsh := HX.out.1
                    rw [show putZ more (shE more (cs.take j) l) ⟨y0, y1, 2, y3, 0, y5, y6⟩ = shE more (cs.take j) l by unfold putZ; rw [if_neg (show ¬ ((2 : Int) = 1) by decide), if_neg (fun h => h.2.2 rfl)]] at hsh
                    have HSN := Lib.hid hsh
                    clear hsh h3
                    go_wp2_with fail
                    go_roundw
                    case rel => exact ⟨j + 1, by omega, by go_num, by rw [HSN.out]; exact HO.out.1⟩
                    case measure => simp [intOf]; omega
                  · have b4 : (y4 != 0) = true := by rw [bne_iff_ne]; exact h4
                    obtain ⟨q0, q1, z, hz, hzk⟩ := HX.out.2.2 h3
                    obtain ⟨q, rfl⟩ : ∃ q : Nat, y6 = (q : Int) := ⟨y6.toNat, by omega⟩
                    rw [Int.toNat_natCast] at hz
                    have q2 : (q : Int) < (L : Int) := by rw [HLL.out]; exact q1
                    obtain ⟨u, hu⟩ : ∃ u, (shE more (cs.take j) l)[q]? = some u := by rw [shE_at, hz]; exact ⟨_, rfl⟩
                    have hub := HSB.out j q u hu
                    obtain ⟨g, rfl⟩ := HO.out.1.at_ (by omega)
                    obtain ⟨-, -, -, d3⟩ := own_ev HO.out.1.own hu
                    have hfz := own_frozen HO.out.1.own
                    have hwv : IntKind.i64.wrap (u.val + more) = u.val + more := by rw [IntKind.wrap_i64]; have := HMB.out; omega
                    have hsh := HX.out.1
                    rw [show putZ more (shE more (cs.take j) l) ⟨y0, y1, 2, y3, y4, y5, (q : Int)⟩ = (shE more (cs.take j) l).modify q (addV more) by unfold putZ; rw [if_neg (show ¬ ((2 : Int) = 1) by decide), if_pos ⟨rfl, h3, h4⟩]; simp only [Int.toNat_natCast]] at hsh
                    have HP := Lib.hid (HO.out.1.put (by rw [shE_len]; exact HLL.out) hu more)
                    have HSN := Lib.hid hsh
                    obtain ⟨u0, u1, u2, u3⟩ := u
                    simp only at d3 hwv hub HP
                    clear hsh hub hz hzk hu q1 h3 h4
                    go_upto_region 13 with fail
                    clear d3 e2 e4 e5 e6 hfz hwv
                    change Code.wp _ _ _ _ (W2.setCell ⟨g, q * 4 + 3, none⟩ (.int .i64 (u3 + more)))
                    generalize W2.setCell ⟨g, q * 4 + 3, none⟩ (.int .i64 (u3 + more)) = W3 at HP ⊢
                    go_wp2_with fail
                    go_roundw
                    case rel => exact ⟨j + 1, by omega, by go_num, by rw [HSN.out]; exact HP.out⟩
                    case measure => simp [intOf]; omega
              · have b2 : (y2 == 2) = false := beq_eq_false_iff_ne.2 h2
                have hsh := HX.out.1
                rw [show putZ more (shE more (cs.take j) l) ⟨y0, y1, y2, y3, y4, y5, y6⟩ = shE more (cs.take j) l by unfold putZ; rw [if_neg h1, if_neg (fun h => h2 h.1)]] at hsh
                have HSN := Lib.hid hsh
                clear hsh h1 h2
                go_wp2_with fail
                go_roundw
                case rel => exact ⟨j + 1, by omega, by go_num, by rw [HSN.out]; exact HO.out.1⟩
                case measure => simp [intOf]; omega
          · obtain rfl : n = j := by omega
            rw [List.take_of_length_le (by rw [← HCS.out.1]; exact Nat.le_refl _)] at hO
            have hbb := hO.below
            have HC2 := Lib.hid (zcheck_any hO.own.rd)
            have HBD := Lib.hid (And.intro hbb hO.bad)
            clear hO hbb
            go_wp2_with fail
            refine HC2.out.mono ?_
            intro e w8 hck
            obtain ⟨b2, k2, x2, y2, rfl, hb8, hok, -⟩ := hck.forms
            have h9 := HBD.out.1.trans (hb8.mono HBD.out.1.size)
            have hbd := Lies.below HBD.out.2 hb8 HBD.out.2.lt
            have hal : Below w8.heap.size w8 (w8.alloc (.cells #[.int .i64 k2, .int .i64 x2, .int .i64 y2] 28)) := (Below.refl _ _).alloc (Nat.le_refl _) _
            have HW := Lib.hid (And.intro (h9.trans (hal.mono h9.size)) (And.intro (Lies.below hbd hal hbd.lt) (Lies.new w8 28 #[.int .i64 k2, .int .i64 x2, .int .i64 y2])))
            have HOK := Lib.hid (fun (hm : zonesE (shE more cs l) = 0) => show k2 = k ∧ b2 = b by
              obtain ⟨p1, p2⟩ := hok hm
              obtain ⟨p3, p4⟩ := HSH.out hm
              rw [p3] at p2
              rw [p2, HCS.out.2.2.2] at p4
              have p5 : k2 = k := p4
              exact ⟨p5, by rw [p1, HCS.out.2.2.1, p5]⟩)
            obtain ⟨E2, hE2⟩ : ∃ E2, E2 = zonesE (shE more cs l) := ⟨_, rfl⟩
            rw [← hE2] at HOK ⊢
            clear hE2 hok h9 hbd hal hck hb8 HC2 HBD
            go_upto_region 15 with fail
            change Code.wp _ _ _ _ (w8.alloc (.cells #[.int .i64 k2, .int .i64 x2, .int .i64 y2] 28))
            generalize w8.alloc (.cells #[.int .i64 k2, .int .i64 x2, .int .i64 y2] 28) = W9 at HW ⊢
            generalize w8.heap.size = X9 at HW ⊢
            have c0 := Lies.cell HW.out.2.1 0
            have d0 := Lies.cell HW.out.2.2 0
            simp only [List.getElem?_toArray, List.getElem?_cons_zero] at c0 d0
            by_cases hm : E2 = 0
            · obtain ⟨p1, p2⟩ := HOK.out hm
              subst hm p1 p2
              go_wp2_with fail
              go_ret
              exact ⟨rfl, HW.out.1⟩
            · have bm : (E2 != 0) = true := by rw [bne_iff_ne]; exact hm
              clear hm
              go_wp2_with fail
              go_ret
              exact ⟨rfl, HW.out.1⟩
  · have hz : (E != 0) = true := by rw [bne_iff_ne]; exact hE0
    clear hE0
    go_wp2_with fail
    refine (zlives_any w3).mono ?_
    rintro e w4 ⟨rfl, hb4⟩
    have H4 := Lib.hid (H3.out.1.trans (hb4.mono H3.out.1.size))
    clear hb4
    go_wp2_with fail
    go_ret
    exact ⟨rfl, H4.out⟩
end Go.Proofs.Ytphhbojdolhieaa
