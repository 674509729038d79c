/-
  The closures of ZonesShown: ahead, and a write of what is read.
-/
import Derived.Test.YtphhbojdolhieaaZShMid
import Derived.Deep.QuietTactic
import Derived.BigQuiet
import Derived.Deep.CutRange
namespace Go.Proofs.Ytphhbojdolhieaa
open Go.RowKit
set_option maxRecDepth 20000

set_option maxHeartbeats 2000000 in
theorem zahead_any (a b : Int) {H Pc : Nat} {vc : Value} {cs : List Cl} {W : World} (hH : W.cell? ⟨H, 0, none⟩ = some (.func (.func 16) #[] #[])) (hc : W.cell? ⟨Pc, 0, none⟩ = some vc) (hl : H < W.heap.size ∧ Pc < W.heap.size) (hcs : CRd W W.heap.size vc cs) :
    Calls Try.prog 17 #[.int .i64 a, .int .i64 b, .pointer (some ⟨Pc, 0, none⟩), .pointer (some ⟨H, 0, none⟩)] W fun e w' => e = .returned (.bool (cs.any (befU cs a b))) ∧ Below W.heap.size W w' := by
  have hmf : ∀ (fn : Fn) (first cap : Array Value) (w : World), (Instr.makeFunc fn first cap).run Try.prog w = .ok (.func fn first cap) w := fun _ _ _ _ => rfl
  obtain ⟨r, hr⟩ : ∃ r, r = cs.any (befU cs a b) := ⟨_, rfl⟩
  rw [← hr]
  have HR := Lib.hid hr
  clear hr
  have b0 : Below W.heap.size W (W.alloc (.cells #[.int .i64 a] 3)) := (Below.refl W.heap.size W).alloc (Nat.le_refl _) _
  have b1 : Below W.heap.size W ((W.alloc (.cells #[.int .i64 a] 3)).alloc (.cells #[.int .i64 b] 3)) := b0.alloc b0.size _
  have la := Lies.new W 3 #[.int .i64 a]
  have lb := Lies.new (W.alloc (.cells #[.int .i64 a] 3)) 3 #[.int .i64 b]
  have c2 : ((W.alloc (.cells #[.int .i64 a] 3)).alloc (.cells #[.int .i64 b] 3)).cell? ⟨Pc, 0, none⟩ = some vc := (b1.cell (p := ⟨Pc, 0, none⟩) hl.2).trans hc
  have k2' : ((W.alloc (.cells #[.int .i64 a] 3)).alloc (.cells #[.int .i64 b] 3)).cell? ⟨W.heap.size + 1, 0, none⟩ = some (.int .i64 b) := by
    have h := Lies.cell lb 0
    rw [show (W.alloc (.cells #[.int .i64 a] 3)).heap.size = W.heap.size + 1 by simp] at h
    exact h
  have H1 := Lib.hid (And.intro b1 (And.intro (Lies.cell (Lies.alloc la (.cells #[.int .i64 b] 3)) 0) (And.intro k2' (And.intro ((b1.cell (p := ⟨H, 0, none⟩) hl.1).trans hH) (And.intro c2 (And.intro hl ((hcs.below b1).mono b1.size)))))))
  clear hH hc hl hcs b0 b1 la lb k2'
  go_enter Try.func17, Try.ntmps17
  go_wp2_with fail
  have HT := Lib.hid (zconta_any (P0 := H) (P1 := W.heap.size + 1) (P2 := W.heap.size) (P3 := Pc) (q := befU cs a b) H1.out.2.2.2.2.2.2 (fun c hc W' hb' => by
    have hs := hb'.size
    simp at hs
    obtain ⟨_, k1, k2, k3, k4, k5, k6⟩ := H1.out
    have e1 := (hb'.cell (p := ⟨H, 0, none⟩) (by simp; omega)).trans k3
    have e2 : W'.cell? ⟨W.heap.size, 0, none⟩ = some (.int .i64 a) := (hb'.cell (p := ⟨W.heap.size, 0, none⟩) (by simp; omega)).trans (by simp)
    have e3 : W'.cell? ⟨W.heap.size + 1, 0, none⟩ = some (.int .i64 b) := (hb'.cell (p := ⟨W.heap.size + 1, 0, none⟩) (by simp)).trans k2
    have e4 := (hb'.cell (p := ⟨Pc, 0, none⟩) (by simp; omega)).trans k4
    exact zmid_any c e1 e2 e3 e4 (by omega) ((k6.below hb').mono hb'.size)))
  refine HT.out.mono ?_
  rintro e w3 ⟨rfl, hb3⟩
  have H3 := Lib.hid (H1.out.1.trans (hb3.mono H1.out.1.size))
  rw [← HR.out]
  clear hb3
  go_wp2_with fail
  go_ret
  exact ⟨rfl, H3.out⟩
set_option maxHeartbeats 2000000 in
theorem zwr_any (c : Cl) {Pc Pb : Nat} {A : Option Addr} {n cap : Nat} {cs : List Cl} {i : Nat} {d : Cl} {W : World} (hc : W.cell? ⟨Pc, 0, none⟩ = some (.slice A n cap)) (hb : W.cell? ⟨Pb, 1, none⟩ = some (.int .i64 i)) (hl : Pc < W.heap.size ∧ Pb < W.heap.size) (hcs : CRd W W.heap.size (.slice A n cap) cs) (hd : cs[i]? = some d) (hn : n = cs.length) :
    Calls Try.prog 21 #[clA c, .pointer (some ⟨Pc, 0, none⟩), .pointer (some ⟨Pb, 0, none⟩)] W fun e w' => e = .returned (.bool (isW d.res c)) ∧ Below W.heap.size W w' := by
  have hi := isW_iff (v := d.res) (c := c)
  obtain ⟨r, hr⟩ : ∃ r, r = isW d.res c := ⟨_, rfl⟩
  rw [← hr] at hi ⊢
  have HR := Lib.hid hi
  clear hr hi
  obtain ⟨y0, y1, y2, y3, y4, y5, y6⟩ := c
  simp only at HR
  have b1 := (Below.refl W.heap.size W).alloc (Nat.le_refl _) (.cells #[.int .i64 y0, .int .i64 y1, .int .i64 y2, .int .i64 y3, .int .i64 y4, .int .i64 y5, .int .i64 y6] 47)
  have H1 := Lib.hid b1
  have hlx := Lies.new W 47 #[.int .i64 y0, .int .i64 y1, .int .i64 y2, .int .i64 y3, .int .i64 y4, .int .i64 y5, .int .i64 y6]
  have e2 := Lies.cell hlx 2
  have e3 := Lies.cell hlx 3
  simp only [List.getElem?_toArray, List.getElem?_cons_zero, List.getElem?_cons_succ] at e2 e3
  have c1 := (b1.cell (p := ⟨Pc, 0, none⟩) hl.1).trans hc
  have c2 := (b1.cell (p := ⟨Pb, 1, none⟩) hl.2).trans hb
  obtain ⟨g, o, rfl, -, -, -, -, -, d4, -, -⟩ := (hcs.below b1).cl hd
  have i1 : (0 : Int) ≤ (i : Int) := by omega
  have i2 : (i : Int) < (n : Int) := by have := (List.getElem?_eq_some_iff.1 hd).1; omega
  generalize d.res = z at d4 HR
  clear hc hb hl hcs hd hn b1 hlx
  go_enter Try.func21, Try.ntmps21
  go_upto_region 1 with fail
  change Code.wp _ _ _ _ (W.alloc (.cells #[.int .i64 y0, .int .i64 y1, .int .i64 y2, .int .i64 y3, .int .i64 y4, .int .i64 y5, .int .i64 y6] 47))
  generalize W.alloc (.cells #[.int .i64 y0, .int .i64 y1, .int .i64 y2, .int .i64 y3, .int .i64 y4, .int .i64 y5, .int .i64 y6] 47) = W1 at H1 e2 e3 c1 c2 d4 ⊢
  generalize W.heap.size = X at e2 e3 ⊢
  by_cases h1 : y2 = 1
  · subst h1
    by_cases h2 : y3 = z
    · subst h2
      obtain rfl : r = true := HR.out.2 ⟨rfl, rfl⟩
      go_quiet (fail)
      go_wp2_with fail
      go_ret
      exact ⟨rfl, belowN H1.out _⟩
    · obtain rfl : r = false := Bool.eq_false_iff.2 fun h => h2 (HR.out.1 h).2
      have b2 : (y3 == z) = false := beq_eq_false_iff_ne.2 h2
      clear h2
      go_quiet (fail)
      go_wp2_with fail
      go_ret
      exact ⟨rfl, belowN H1.out _⟩
  · obtain rfl : r = false := Bool.eq_false_iff.2 fun h => h1 (HR.out.1 h).1
    have b1 : (y2 == 1) = false := beq_eq_false_iff_ne.2 h1
    clear h1
    go_quiet (fail)
    go_wp2_with fail
    go_ret
    exact ⟨rfl, belowN H1.out _⟩
end Go.Proofs.Ytphhbojdolhieaa
