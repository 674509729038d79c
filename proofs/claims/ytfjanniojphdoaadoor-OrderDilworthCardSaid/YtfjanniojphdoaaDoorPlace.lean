/-
  Contract of (*order.partition).place.
-/
import Derived.Test.YtfjanniojphdoaaDoorTab
import Derived.Test.YtfjanniojphdoaaDoorCount
import Derived.Test.YtfjanniojphdoaaDoorPlacePure
namespace Go.Proofs.YtfjanniojphdoaaDoor
open Go.RowKit
set_option maxRecDepth 20000

/-- A table of sets in a block. -/
def setCs (N : Nat) (f : Nat → Nat) : Array Value := (Array.range N).map fun i => .int .u16 (f i : Nat)
def UTab (w : World) (g N : Nat) (f : Nat → Nat) : Prop := Lies w g 22 (setCs N f)
theorem setCs_get (N : Nat) (f : Nat → Nat) (i : Nat) (h : i < N) : (setCs N f)[i]? = some (.int .u16 (f i : Nat)) := by
  simp [setCs, h]
theorem setCs_set (N : Nat) (f : Nat → Nat) (i : Nat) (x : Nat) : (setCs N f).setIfInBounds i (.int .u16 (x : Nat)) = setCs N (updN f i x) := by
  apply Array.ext_getElem?
  intro j
  rw [Array.getElem?_setIfInBounds]
  by_cases h : i = j
  · subst h
    by_cases hi : i < N <;> simp [setCs, hi, updN]
  · rw [if_neg h]
    by_cases hj : j < N <;> simp [setCs, hj, updN, show ¬ j = i from fun e => h e.symm]
section
variable {w : World} {g N : Nat} {f : Nat → Nat}
theorem UTab.cell (h : UTab w g N f) {i : Nat} (hi : i < N) : w.cell? ⟨g, i, none⟩ = some (.int .u16 (f i : Nat)) := by
  rw [Lies.cell h, setCs_get N f i hi]
theorem UTab.free (h : UTab w g N f) (i : Nat) : w.frozen? ⟨g, i, none⟩ = false := Lies.frozen h i
theorem UTab.set_ (h : UTab w g N f) (i : Nat) (x : Nat) : UTab (w.setCell ⟨g, i, none⟩ (.int .u16 (x : Nat))) g N (updN f i x) :=
  Lies.cast (Lies.set_ h i (.int .u16 (x : Nat))) (setCs_set N f i x)
end

/-- The cells of a partition: twelve sets, the chains' slice, the numbers' slice. -/
abbrev partCs (rel : Nat → Nat) (C K M n : Nat) : Array Value := #[.int .u16 (rel 0), .int .u16 (rel 1), .int .u16 (rel 2), .int .u16 (rel 3), .int .u16 (rel 4), .int .u16 (rel 5), .int .u16 (rel 6), .int .u16 (rel 7), .int .u16 (rel 8), .int .u16 (rel 9), .int .u16 (rel 10), .int .u16 (rel 11), .slice (some ⟨C, 0, none⟩) K K, .slice (some ⟨M, 0, none⟩) n n]

structure PSt (B P C M K n : Nat) (rel : Nat → Nat) (ch : Nat → Nat) (nu : Nat → Int) (w0 w : World) : Prop where
  below : Below B w0 w
  part : Lies w P 69 (partCs rel C K M n)
  chs : UTab w C K ch
  nums : ITab w M n nu
  pc : P ≠ C
  pm : P ≠ M
  cm : C ≠ M
  bp : B ≤ P
  bc : B ≤ C
  bm : B ≤ M
  lt : ∀ k, ch k < 65536
section
variable {B P C M K n : Nat} {rel ch : Nat → Nat} {nu : Nat → Int} {w0 w : World}
theorem PSt.row (h : PSt B P C M K n rel ch nu w0 w) {k : Nat} (hk : k < 12) : w.cell? ⟨P, k, none⟩ = some (.int .u16 (rel k)) := by
  rw [Lies.cell h.part]
  rcases nat12 hk with rfl | rfl | rfl | rfl | rfl | rfl | rfl | rfl | rfl | rfl | rfl | rfl <;> rfl
theorem PSt.chains (h : PSt B P C M K n rel ch nu w0 w) : w.cell? ⟨P, 12, none⟩ = some (.slice (some ⟨C, 0, none⟩) K K) := Lies.cell h.part 12
theorem PSt.numbers (h : PSt B P C M K n rel ch nu w0 w) : w.cell? ⟨P, 13, none⟩ = some (.slice (some ⟨M, 0, none⟩) n n) := Lies.cell h.part 13
theorem PSt.setN (h : PSt B P C M K n rel ch nu w0 w) (i : Nat) (x : Int) : PSt B P C M K n rel ch (upd nu i x) w0 (w.setCell ⟨M, i, none⟩ (.int .i64 x)) :=
  ⟨h.below.setCell h.bm _, Lies.far h.part h.pm _, Lies.far h.chs h.cm _, h.nums.set_ i x, h.pc, h.pm, h.cm, h.bp, h.bc, h.bm, h.lt⟩
theorem PSt.setC (h : PSt B P C M K n rel ch nu w0 w) (i : Nat) (x : Nat) (hx : x < 65536) : PSt B P C M K n rel (updN ch i x) nu w0 (w.setCell ⟨C, i, none⟩ (.int .u16 (x : Nat))) :=
  ⟨h.below.setCell h.bc _, Lies.far h.part h.pc _, h.chs.set_ i x, Lies.far h.nums (fun e => h.cm e.symm) _, h.pc, h.pm, h.cm, h.bp, h.bc, h.bm, fun k => by unfold updN; split; exact hx; exact h.lt k⟩
theorem PSt.drew (h : PSt B P C M K n rel ch nu w0 w) : PSt B P C M K n rel ch nu w0 w.drew :=
  ⟨h.below.drew, h.part, h.chs, h.nums, h.pc, h.pm, h.cm, h.bp, h.bc, h.bm, h.lt⟩
theorem PSt.base (h : PSt B P C M K n rel ch nu w0 w) : PSt B P C M K n rel ch nu w w := ⟨Below.refl _ _, h.part, h.chs, h.nums, h.pc, h.pm, h.cm, h.bp, h.bc, h.bm, h.lt⟩
theorem PSt.after {w1 : World} {ch' : Nat → Nat} {nu' : Nat → Int} (h : PSt B P C M K n rel ch nu w0 w) (k : PSt B P C M K n rel ch' nu' w w1) : PSt B P C M K n rel ch' nu' w0 w1 :=
  ⟨h.below.trans k.below, k.part, k.chs, k.nums, k.pc, k.pm, k.cm, k.bp, k.bc, k.bm, k.lt⟩
end

set_option maxHeartbeats 2000000 in
theorem place_any (B P C M K n : Nat) (rel : Nat → Nat) (hn : n ≤ 12) (hK : K ≤ 16) (hrel : ∀ i, i < 12 → rel i < 65536) (f : Nat) : ∀ (item : Nat) (ch : Nat → Nat) (nu : Nat → Int) (w : World), item + f = n → PSt B P C M K n rel ch nu w w →
    Calls Tryd.prog 41 #[.pointer (some ⟨P, 0, none⟩), .int .i64 item] w fun e w' => e = .returned (.bool (placeM rel K n f ch nu).ok) ∧ PSt B P C M K n rel (placeM rel K n f ch nu).ch (placeM rel K n f ch nu).nu w w' := by
  induction f with
  | zero =>
    intro item ch nu w hi h
    obtain rfl : item = n := by omega
    have c13 := h.numbers
    have H := Lib.hid h
    clear h
    go_enter Tryd.func41, Tryd.ntmps41
    go_wp2_with fail
    go_ret
    exact ⟨rfl, H.out⟩
  | succ f ih =>
    intro item ch nu w hi h
    have hin : item < n := by omega
    have hif : n - (f + 1) = item := by omega
    have IH := Lib.hid ih
    have hR : placeM rel K n (f + 1) ch nu = tryK (placeM rel K n f) rel item K 0 ch nu := by show tryK _ _ (n - (f + 1)) _ _ _ _ = _; rw [hif]
    generalize placeM rel K n (f + 1) ch nu = R at hR ⊢
    have HR := Lib.hid hR.symm
    clear ih hR hif
    have c13 := h.numbers
    have c12 := h.chains
    have H := Lib.hid h
    have hne : ((item : Int) == (n : Int)) = false := by rw [beq_eq_false_iff_ne]; omega
    clear h
    go_enter Tryd.func41, Tryd.ntmps41
    go_wp2_with fail
    clear c13 c12
    go_loopw [19] (fun i wr => ∃ k ch' nu', k ≤ K ∧ i = .int .i64 (k : Nat) ∧ tryK (placeM rel K n f) rel item (K - k) k ch' nu' = R ∧ PSt B P C M K n rel ch' nu' w wr) (fun i _ => K - (intOf i).toNat)
    case atStart => exact ⟨0, ch, nu, by omega, rfl, HR.out, H.out⟩
    case round =>
      clear H HR
      obtain ⟨k, ch', nu', hk, rfl, ht, h⟩ := hrel
      by_cases hkK : k < K
      · have c13 := h.numbers
        have c12 := h.chains
        have ck := h.chs.cell hkK
        have cr := h.row (show item < 12 by omega)
        have cn := h.nums.cell hin
        have fn := h.nums.free item
        have fc := h.chs.free k
        have hlk := h.lt k
        have hv := u16_andNot_nat (ch' k) (rel item) hlk (hrel item (by omega))
        have hz := nat_ne0 (ch' k &&& (65535 - rel item))
        have hpc := h.pc
        have hpm := h.pm
        have hcm := h.cm
        have H := Lib.hid h
        have HT := Lib.hid ht
        clear h ht
        by_cases hq : ch' k &&& (65535 - rel item) = 0
        · rw [decide_eq_false (by simpa using hq)] at hz
          have ho := or_pow (ch' k) item hlk (by omega)
          have hp := pow_u16 item (by omega)
          have HQ := Lib.hid hq
          clear hq
          go_wp2_with fail
          have h1 := H.out.setN item k
          clear c13 c12 ck cr cn fn fc
          generalize wr.setCell ⟨M, item, none⟩ (.int .i64 (k : Int)) = w1 at h1 ⊢
          have c12 := h1.chains
          have ck := h1.chs.cell hkK
          have fc := h1.chs.free k
          have h2 := (h1.setC k (ch' k ||| 2 ^ item) (Nat.or_lt_two_pow (n := 16) hlk (pow_lt item (by omega)))).drew
          have H2 := Lib.hid h2
          clear h1 h2 H
          go_region
          clear c12 ck fc
          have hii : (item : Int) + 1 = ((item + 1 : Nat) : Int) := by omega
          have HII := Lib.hid hii
          clear hii
          go_wp2_with fail
          rw [HII.out]
          refine (IH.out (item + 1) (updN ch' k (ch' k ||| 2 ^ item)) (upd nu' item k) _ (by omega) H2.out.base).mono ?_
          rintro e w3 ⟨rfl, h3⟩
          have h4 := H2.out.after h3
          have ht := HT.out
          rw [show K - k = (K - (k + 1)) + 1 by omega, tryK, if_pos HQ.out] at ht
          clear h3 H2 HT HQ IH HII hz hv ho hp
          generalize placeM rel K n f (updN ch' k (ch' k ||| 2 ^ item)) (upd nu' item k) = r at h4 ht ⊢
          cases hok : r.ok
          · rw [hok, if_neg (by decide)] at ht
            have c12 := h4.chains
            have ck := h4.chs.cell hkK
            have fc := h4.chs.free k
            have h5 := h4.setC k (ch' k) hlk
            have hz0 := nat_eq0 (ch' k)
            by_cases hc0 : ch' k = 0
            · rw [decide_eq_true hc0] at hz0
              rw [if_pos hc0] at ht
              have H5 := Lib.hid h5
              have HT := Lib.hid ht
              clear h4 h5 ht hc0 hok
              go_wp2_with fail
              go_ret
              have ht := HT.out
              subst ht
              exact ⟨rfl, H5.out⟩
            · rw [decide_eq_false hc0] at hz0
              rw [if_neg hc0] at ht
              have H5 := Lib.hid h5
              have HT := Lib.hid ht
              clear h4 h5 ht hc0 hok
              go_wp2_with fail
              go_roundw
              case rel => exact ⟨k + 1, _, _, by omega, by go_num, HT.out, H5.out⟩
              case measure => simp [intOf]; omega
          · rw [hok, if_pos rfl] at ht
            have H4 := Lib.hid h4
            have HT := Lib.hid ht
            clear h4 ht hok
            go_wp2_with fail
            go_ret
            have ht := HT.out
            subst ht
            exact ⟨rfl, H4.out⟩
        · rw [decide_eq_true hq] at hz
          have HQ := Lib.hid hq
          clear hq
          go_wp2_with fail
          go_roundw
          case rel => exact ⟨k + 1, ch', nu', by omega, by go_num, by
            have := HT.out
            rw [show K - k = (K - (k + 1)) + 1 by omega, tryK, if_neg HQ.out] at this
            exact this, H.out⟩
          case measure => simp [intOf]; omega
      · have hkK' : k = K := by omega
        subst hkK'
        have H := Lib.hid h
        have HT := Lib.hid ht
        clear h ht
        go_wp2_with fail
        go_ret
        have ht := HT.out
        rw [Nat.sub_self, tryK] at ht
        subst ht
        exact ⟨rfl, H.out⟩
end Go.Proofs.YtfjanniojphdoaaDoor
