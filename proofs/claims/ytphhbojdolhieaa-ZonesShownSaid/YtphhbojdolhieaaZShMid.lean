/-
  The closures within ahead of ZonesShown.
-/
import Derived.Test.YtphhbojdolhieaaZShHas
import Derived.Lib.SliceRun
namespace Go.Proofs.Ytphhbojdolhieaa
open Go.RowKit
set_option maxRecDepth 20000

/-- Is it a call of a that is answered ahead of f? -/
def befT (a f : Int) (c : Cl) : Bool := hasV a c && (c.til != -1 && decide (c.til < f))
set_option maxHeartbeats 2000000 in
theorem zin_any (c : Cl) {H Pa Y : Nat} {a f : Int} {W : World} (hH : W.cell? ⟨H, 0, none⟩ = some (.func (.func 16) #[] #[])) (ha : W.cell? ⟨Pa, 0, none⟩ = some (.int .i64 a)) (hy : W.cell? ⟨Y, 5, none⟩ = some (.int .i64 f)) (hYl : Y < W.heap.size) :
    Calls Try.prog 20 #[clA c, .pointer (some ⟨H, 0, none⟩), .pointer (some ⟨Pa, 0, none⟩), .pointer (some ⟨Y, 0, none⟩)] W fun e w' => e = .returned (.bool (befT a f c)) ∧ Below W.heap.size W w' := by
  have hR : befT a f c = (hasV a c && (c.til != -1 && decide (c.til < f))) := rfl
  obtain ⟨r, hr⟩ : ∃ r, r = befT a f c := ⟨_, rfl⟩
  rw [← hr] at hR ⊢
  have HV := Lib.hid (fun W => zhas_any a c W)
  obtain ⟨z, hz⟩ : ∃ z, z = hasV a c := ⟨_, rfl⟩
  rw [← hz] at HV hR
  clear hz hr
  obtain ⟨y0, y1, y2, y3, y4, y5, y6⟩ := c
  simp only [clA] at HV hR
  have HR := Lib.hid hR
  clear hR
  have b1 := (Below.refl W.heap.size W).alloc (Nat.le_refl _) (.cells #[.int .i64 y0, .int .i64 y1, .int .i64 y2, .int .i64 y3, .int .i64 y4, .int .i64 y5, .int .i64 y6] 47)
  have H1 := Lib.hid (And.intro b1 (And.intro (Lies.new W 47 #[.int .i64 y0, .int .i64 y1, .int .i64 y2, .int .i64 y3, .int .i64 y4, .int .i64 y5, .int .i64 y6]) ((b1.cell (p := ⟨Y, 5, none⟩) hYl).trans hy)))
  have c0 : ∀ o, (W.alloc o).cell? ⟨H, 0, none⟩ = some (.func (.func 16) #[] #[]) := fun o => Lib.cell?_alloc_some _ hH
  have c1 : ∀ o, (W.alloc o).cell? ⟨Pa, 0, none⟩ = some (.int .i64 a) := fun o => Lib.cell?_alloc_some _ ha
  have hYl' : Y < (W.alloc (.cells #[.int .i64 y0, .int .i64 y1, .int .i64 y2, .int .i64 y3, .int .i64 y4, .int .i64 y5, .int .i64 y6] 47)).heap.size := by simp; omega
  have HYL := Lib.hid hYl'
  clear hH ha hy hYl b1 hYl'
  go_enter Try.func20, Try.ntmps20
  go_wp2_with fail
  refine (HV.out _).mono ?_
  rintro e w2 ⟨rfl, hb2⟩
  have h2 := Lies.below H1.out.2.1 hb2 H1.out.2.1.lt
  have e6 := Lies.cell h2 6
  simp only [List.getElem?_toArray, List.getElem?_cons_zero, List.getElem?_cons_succ] at e6
  have f5 := (hb2.cell (p := ⟨Y, 5, none⟩) HYL.out).trans H1.out.2.2
  have H2 := Lib.hid (H1.out.1.trans (hb2.mono H1.out.1.size))
  clear h2 hb2 c0 c1
  cases z
  · obtain rfl : r = false := HR.out
    go_wp2_with fail
    go_ret
    exact ⟨rfl, H2.out⟩
  · by_cases h3 : y6 = -1
    · subst h3
      obtain rfl : r = false := HR.out
      go_wp2_with fail
      go_ret
      exact ⟨rfl, H2.out⟩
    · have b3 : (y6 != -1) = true := by rw [bne_iff_ne]; exact h3
      have hrr := HR.out
      rw [b3, Bool.true_and, Bool.true_and] at hrr
      clear h3 HR
      subst hrr
      go_wp2_with fail
      go_ret
      exact ⟨rfl, H2.out⟩
/-- Is it a call of b, with one of a answered ahead of it? -/
def befU (cs : List Cl) (a b : Int) (y : Cl) : Bool := hasV b y && (a == 0 || cs.any (befT a y.frm))
set_option maxHeartbeats 2000000 in
theorem zmid_any (c : Cl) {H Pa Pb Pc : Nat} {a b : Int} {vc : Value} {cs : List Cl} {W : World} (hH : W.cell? ⟨H, 0, none⟩ = some (.func (.func 16) #[] #[])) (ha : W.cell? ⟨Pa, 0, none⟩ = some (.int .i64 a)) (hb : W.cell? ⟨Pb, 0, none⟩ = some (.int .i64 b)) (hc : W.cell? ⟨Pc, 0, none⟩ = some vc) (hl : H < W.heap.size ∧ Pa < W.heap.size ∧ Pc < W.heap.size) (hcs : CRd W W.heap.size vc cs) :
    Calls Try.prog 19 #[clA c, .pointer (some ⟨H, 0, none⟩), .pointer (some ⟨Pb, 0, none⟩), .pointer (some ⟨Pa, 0, none⟩), .pointer (some ⟨Pc, 0, none⟩)] W fun e w' => e = .returned (.bool (befU cs a b c)) ∧ Below W.heap.size W w' := by
  have hmf : ∀ (fn : Fn) (first cap : Array Value) (w : World), (Instr.makeFunc fn first cap).run Try.prog w = .ok (.func fn first cap) w := fun _ _ _ _ => rfl
  have hR : befU cs a b c = (hasV b c && (a == 0 || cs.any (befT a c.frm))) := rfl
  obtain ⟨r, hr⟩ : ∃ r, r = befU cs a b c := ⟨_, rfl⟩
  rw [← hr] at hR ⊢
  have HV := Lib.hid (fun W => zhas_any b c W)
  obtain ⟨z, hz⟩ : ∃ z, z = hasV b c := ⟨_, rfl⟩
  rw [← hz] at HV hR
  clear hz hr
  obtain ⟨y0, y1, y2, y3, y4, y5, y6⟩ := c
  simp only [clA] at HV hR
  have HR := Lib.hid hR
  clear hR
  have b1 := (Below.refl W.heap.size W).alloc (Nat.le_refl _) (.cells #[.int .i64 y0, .int .i64 y1, .int .i64 y2, .int .i64 y3, .int .i64 y4, .int .i64 y5, .int .i64 y6] 47)
  have c0 : ∀ o, (W.alloc o).cell? ⟨H, 0, none⟩ = some (.func (.func 16) #[] #[]) := fun o => Lib.cell?_alloc_some _ hH
  have c1 : ∀ o, (W.alloc o).cell? ⟨Pb, 0, none⟩ = some (.int .i64 b) := fun o => Lib.cell?_alloc_some _ hb
  have hlt : W.heap.size ≤ (W.alloc (.cells #[.int .i64 y0, .int .i64 y1, .int .i64 y2, .int .i64 y3, .int .i64 y4, .int .i64 y5, .int .i64 y6] 47)).heap.size := b1.size
  have H1 := Lib.hid (And.intro b1 (And.intro (Lies.new W 47 #[.int .i64 y0, .int .i64 y1, .int .i64 y2, .int .i64 y3, .int .i64 y4, .int .i64 y5, .int .i64 y6]) (And.intro hlt ((hcs.below b1).mono hlt))))
  have HC := Lib.hid (And.intro ((b1.cell (p := ⟨H, 0, none⟩) hl.1).trans hH) (And.intro ((b1.cell (p := ⟨Pa, 0, none⟩) hl.2.1).trans ha) (And.intro ((b1.cell (p := ⟨Pc, 0, none⟩) hl.2.2).trans hc) hl)))
  clear hH ha hb hc hl hcs b1 hlt
  go_enter Try.func19, Try.ntmps19
  go_wp2_with fail
  change Calls _ _ _ (W.alloc (.cells #[.int .i64 y0, .int .i64 y1, .int .i64 y2, .int .i64 y3, .int .i64 y4, .int .i64 y5, .int .i64 y6] 47)) _
  generalize W.alloc (.cells #[.int .i64 y0, .int .i64 y1, .int .i64 y2, .int .i64 y3, .int .i64 y4, .int .i64 y5, .int .i64 y6] 47) = W1 at H1 HC ⊢
  obtain ⟨X, hX⟩ : ∃ X, X = W.heap.size := ⟨_, rfl⟩
  have HXE := Lib.hid hX
  rw [← hX] at H1 HC ⊢
  clear hX
  refine (HV.out _).mono ?_
  rintro e w2 ⟨rfl, hb2⟩
  have HB := Lib.hid hb2
  have h2 := Lies.below H1.out.2.1 hb2 H1.out.2.1.lt
  have H2 := Lib.hid (And.intro (H1.out.1.trans (hb2.mono H1.out.2.2.1)) (And.intro h2 ((H1.out.2.2.2.below hb2).mono hb2.size)))
  have d0 := (hb2.cell (p := ⟨H, 0, none⟩) (Nat.lt_of_lt_of_le HC.out.2.2.2.1 H1.out.2.2.1)).trans HC.out.1
  have d1 := (hb2.cell (p := ⟨Pa, 0, none⟩) (Nat.lt_of_lt_of_le HC.out.2.2.2.2.1 H1.out.2.2.1)).trans HC.out.2.1
  have d2 := (hb2.cell (p := ⟨Pc, 0, none⟩) (Nat.lt_of_lt_of_le HC.out.2.2.2.2.2 H1.out.2.2.1)).trans HC.out.2.2.1
  have e5 := Lies.cell h2 5
  simp only [List.getElem?_toArray, List.getElem?_cons_zero, List.getElem?_cons_succ] at e5
  have HD := Lib.hid (And.intro d0 (And.intro d1 e5))
  clear h2 hb2 c0 c1 d0 e5
  cases z
  · obtain rfl : r = false := HR.out
    go_wp2_with fail
    go_ret
    exact ⟨rfl, HXE.out ▸ H2.out.1⟩
  · by_cases h3 : a = 0
    · subst h3
      obtain rfl : r = true := HR.out
      go_wp2_with fail
      go_ret
      exact ⟨rfl, HXE.out ▸ H2.out.1⟩
    · have b3 : (a == 0) = false := beq_eq_false_iff_ne.2 h3
      have hrr := HR.out
      rw [b3, Bool.true_and, Bool.false_or] at hrr
      have HT := Lib.hid (zcontb_any (P0 := H) (P1 := Pa) (P2 := X) (q := befT a y5) H2.out.2.2 (fun c hc W' hb' => by
        have hs := HB.out.size
        have hx := H1.out.2.1.lt
        exact zin_any c ((hb'.cell (p := ⟨H, 0, none⟩) (by have := HC.out.2.2.2.1; have := H1.out.2.2.1; show H < _; omega)).trans HD.out.1) ((hb'.cell (p := ⟨Pa, 0, none⟩) (by have := HC.out.2.2.2.2.1; have := H1.out.2.2.1; show Pa < _; omega)).trans HD.out.2.1) ((hb'.cell (p := ⟨X, 5, none⟩) (by show X < _; omega)).trans HD.out.2.2) (by have := hb'.size; omega)))
      rw [← hrr] at HT
      clear h3 hrr
      go_wp2_with fail
      refine HT.out.mono ?_
      rintro e w3 ⟨rfl, hb3⟩
      have H3 := Lib.hid (H2.out.1.trans (hb3.mono (HXE.out ▸ H2.out.1.size)))
      clear hb3
      go_wp2_with fail
      go_ret
      exact ⟨rfl, HXE.out ▸ H3.out⟩
end Go.Proofs.Ytphhbojdolhieaa
