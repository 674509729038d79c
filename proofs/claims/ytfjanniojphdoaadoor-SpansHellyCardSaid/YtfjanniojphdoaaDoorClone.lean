/-
  slices.Clone over sets; spans.distinct.
-/
import Derived.Test.YtfjanniojphdoaaDoorCompact
import Derived.Test.YtfjanniojphdoaaDoorSortF
import Derived.WideShapes
namespace Go.Proofs.YtfjanniojphdoaaDoor
open Go.RowKit
set_option maxRecDepth 20000

theorem info_su16 : (Tryd.prog.info? 22).map (fun i => (i.zero, i.size, i.bytes)) = some (some (.int .u16 0), 1, 2) := by kernel_rfl

/-- append(s, xs...), s empty. -/
theorem app_row {W : World} {ops : Array Oper} {rest : List Oper} {o : Oper} {a : Act} {Q : Exit → Act → World → Prop} (hgd : o.guard = none) (s x : Operand)
    (ho : o.op = .call { callee := .builtin .append, args := #[s, x], argTypes := #[67, 67] })
    (B : Nat) (v : Value) (hs : a.eval s = v) (hown : W.ownsRow B 22 1 v 0 []) (g n cap : Nat) (b : Nat → Nat) (hx : a.eval x = .slice (some ⟨g, 0, none⟩) n cap)
    (hc : ∀ j, j < n → W.cell? ⟨g, j, none⟩ = some (.int .u16 (b j : Nat))) (hn : n ≤ 12) (hB : B ≤ W.heap.size)
    (k : ∀ v' w', w'.ownsRow B 22 1 v' n ((List.range n).map fun j => .int .u16 (b j : Nat)) → (v' = .slice none 0 0 → v = .slice none 0 0) → Below B W w' → wpList Tryd.prog ops Q rest (a.put o.dst v') w') :
    wpList Tryd.prog ops Q (o :: rest) a W := by
  obtain ⟨i0, hi, hz0, hz1, hz2⟩ := info_parts info_su16
  refine wpList_append_own _ hgd s x 67 ho B 22 i0 (.int .u16 0) 1 2 Tryd.underlying67 hi hz0 hz1 hz2 rfl (by decide) v 0 [] hs hown
    ⟨g, 0, none⟩ n cap ((List.range n).map fun j => .int .u16 (b j : Nat)) hx (by simp) ?_ ?_ (by unfold maxLen; omega) (by omega) hB ?_
  · intro j u hu
    rw [List.getElem?_map] at hu
    rcases Nat.lt_or_ge j n with h | h
    · rw [List.getElem?_range h] at hu
      injection hu with hu
      subst hu
      rw [WideShapes.add_plain, Nat.zero_add]
      exact hc j h
    · rw [List.getElem?_eq_none (by simpa using h)] at hu
      cases hu
  · intro u hu
    rw [List.mem_map] at hu
    obtain ⟨j, _, rfl⟩ := hu
    rfl
  · intro v' w' h1 h2 h3
    refine k v' w' ?_ ?_ ?_
    · simpa using h1
    · intro e
      exact (h3.1 e).1
    · have hl := World.ownsRow.lt hown
      exact (Below.refl B W).grown h2 hB (fun k hk => (hl k hk).1)

theorem row_of_owned {w : World} {B n : Nat} {v : Value} {b : Nat → Nat} (h : w.ownsRow B 22 1 v n ((List.range n).map fun j => .int .u16 (b j : Nat))) (hne : v ≠ .slice none 0 0) :
    ∃ g cap, v = .slice (some ⟨g, 0, none⟩) n cap ∧ B ≤ g ∧ n ≤ cap ∧ URow w g n b := by
  rcases h.2 with ⟨h1, _⟩ | ⟨g, cap, cur, h1, h2, h3, h4, h5, h6, h7⟩
  · exact absurd h1 hne
  · refine ⟨g, cap, h1, h2, h4, cur, h3, by omega, fun j hj => ?_⟩
    have h8 := congrArg (fun l => l[j]?) h7
    simp only [List.getElem?_map, List.getElem?_range hj, List.getElem?_take, Nat.mul_one, if_pos hj, Option.map_some] at h8
    rw [Array.getElem?_toList] at h8
    exact h8

set_option maxHeartbeats 1000000 in
theorem clone_any (g n cap : Nat) (b : Nat → Nat) (w : World) (hn : n ≤ 12) (hc : ∀ j, j < n → w.cell? ⟨g, j, none⟩ = some (.int .u16 (b j : Nat))) :
    Calls Tryd.prog 55 #[.slice (some ⟨g, 0, none⟩) n cap] w fun e w' => ∃ g' c', e = .returned (.slice (some ⟨g', 0, none⟩) n c') ∧ w.heap.size ≤ g' ∧ n ≤ c' ∧ URow w' g' n b ∧ Below w.heap.size w w' := by
  have hq := fun W : World => Lib.run_eql_slice_nil (P := Tryd.prog) W 67 22 (some ⟨g, 0, none⟩) n cap 0 0 Tryd.underlying67
  have HC := Lib.hid hc
  clear hc
  have hown : (w.alloc (.cells #[] 22)).ownsRow w.heap.size 22 1 (.slice (some ⟨w.heap.size, 0, none⟩) 0 0) 0 [] :=
    ⟨rfl, .inr ⟨w.heap.size, 0, #[], rfl, Nat.le_refl _, heap_alloc_new w _, Nat.le_refl _, by unfold maxLen; omega, rfl, rfl⟩⟩
  have HO := Lib.hid hown
  clear hown
  go_enter Tryd.func55, Tryd.ntmps55
  go_wp2_with (at_builtin; refine app_row rfl (.tmp 5) (.tmp 6) rfl w.heap.size _ rfl HO.out g n cap b rfl (fun j hj => Lib.cell?_alloc_some _ (HC.out j hj)) hn (by simp) ?_; intro v' w5 ho5 hne hb5)
  obtain ⟨g', c', rfl, hB, hcap, hU⟩ := row_of_owned ho5 (fun e => by cases hne e)
  have HX := Lib.hid (And.intro hU (((Below.refl w.heap.size w).alloc (Nat.le_refl _) (.cells #[] 22)).trans hb5))
  have HY := Lib.hid (And.intro hB hcap)
  clear ho5 hne hb5 hU hB hcap hq
  go_wp2_with fail
  go_ret
  exact ⟨g', c', rfl, HY.out.1, HY.out.2, HX.out⟩

/-- What distinct hands back: the values of the first n of b, each once, by their sizes. -/
structure Dist (w : World) (n : Nat) (b : Nat → Nat) (g k : Nat) (h : Nat → Nat) (w' : World) : Prop where
  below : Below w.heap.size w w'
  far : w.heap.size ≤ g
  row : URow w' g k h
  le : k ≤ n
  vals : Vals n b k h
  srt : Srt pop h k

theorem dist_any (g n cap : Nat) (b : Nat → Nat) (w : World) (hn : n ≤ 12) (hb : ∀ i, i < n → b i < 65536) (hc : ∀ j, j < n → w.cell? ⟨g, j, none⟩ = some (.int .u16 (b j : Nat))) :
    Calls Tryd.prog 50 #[.slice (some ⟨g, 0, none⟩) n cap] w fun e w' => ∃ g' k c' h, e = .returned (.slice (some ⟨g', 0, none⟩) k c') ∧ Dist w n b g' k h w' := by
  have hcl := clone_any g n cap b w hn hc
  have HB := Lib.hid hb
  clear hc hb
  go_enter Tryd.func50, Tryd.ntmps50
  go_wp2_with fail
  refine hcl.mono ?_
  rintro e w1 ⟨g1, c1, rfl, hg1, hc1, hU1, hb1⟩
  clear hcl
  have H1 := Lib.hid (And.intro hg1 (And.intro hc1 (And.intro hU1 hb1)))
  clear hg1 hc1 hU1 hb1
  go_wp2_with fail
  refine (sort_any g1 n c1 b w1 hn H1.out.2.2.1).mono ?_
  rintro e w2 ⟨rfl, f2, hS2, hO2⟩
  have H2 := Lib.hid (And.intro hS2 hO2)
  clear hS2 hO2
  go_wp2_with fail
  have hX : Calls Tryd.prog 57 #[.slice (some ⟨g1, 0, none⟩) n c1] w2 fun e w' => ∃ k h, e = .returned (.slice (some ⟨g1, 0, none⟩) k c1) ∧ CRes w2 g1 n f2 k h w' := by
    by_cases hf : n < 2
    · refine (compact_few (some ⟨g1, 0, none⟩) n c1 w2 hf).mono ?_
      rintro e w' ⟨rfl, rfl⟩
      exact ⟨n, f2, rfl, Below.refl _ _, H2.out.1.row, Nat.le_refl _, fun p q hpq hq => by omega, Vals.of_strict fun p q hpq hq => by omega⟩
    · refine (compact_any g1 n c1 f2 w2 (by omega) hn H1.out.2.1 H2.out.1.row H2.out.2).mono ?_
      rintro e w' ⟨k, h, rfl, _, hR⟩
      exact ⟨k, h, rfl, hR⟩
  refine hX.mono ?_
  rintro e w3 ⟨k, h, rfl, hR⟩
  have H3 := Lib.hid hR
  clear hX hR
  go_wp2_with fail
  refine (sortF_any g1 k c1 h w3 (by have := H3.out.le; omega) (fun i hi => ?_) H3.out.row).mono ?_
  · obtain ⟨j, hj, e⟩ := H3.out.vals.to i hi
    obtain ⟨l, hl, e'⟩ := H2.out.1.same.to j hj
    rw [e, e']
    exact HB.out l hl
  rintro e w4 ⟨rfl, h4, hS4, hO4⟩
  have H4 := Lib.hid (And.intro hS4 hO4)
  clear hS4 hO4
  go_wp2_with fail
  go_ret
  have hg := H1.out.1
  exact ⟨g1, k, c1, h4, rfl, ((H1.out.2.2.2.trans (H2.out.1.below.mono hg)).trans (H3.out.below.mono hg)).trans (H4.out.1.below.mono hg), hg, H4.out.1.row, H3.out.le, (Vals.before H2.out.1.same H3.out.vals).same H4.out.1.same, H4.out.2⟩
end Go.Proofs.YtfjanniojphdoaaDoor
