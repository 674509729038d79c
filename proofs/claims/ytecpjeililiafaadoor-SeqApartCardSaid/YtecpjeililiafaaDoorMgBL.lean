/-
  Joined by a program out of: LoAll.
-/
import Derived.Test.YtecpjeililiafaaDoorMgBK

/-
  Contract of the reference's LeastOrder, from any legal begin on.
-/
namespace Go.Proofs.YtecpjeililiafaaDoor
open Go.RowKit
set_option maxRecDepth 20000

theorem tryG_none {b : Nat → Nat} {ts : List Int} {cs : List Cl} {p : Pt} : ∀ m k, tryG b (fun _ => none) ts cs p m k = none
  | 0, k => rfl
  | m + 1, k => by
    rw [tryG, tryG_none m (k + 1)]
    split <;> rfl
theorem lo_any {ts : List Int} {cs : List Cl} {r b : Nat → Nat} (hn : cs.length ≤ 12) (hirr : ∀ i, (r i).testBit i = false) (hty : ∀ t ∈ ts, 1 ≤ t ∧ t ≤ 5) (hok : ∀ c ∈ cs, CallOk ts c)
    (hb : ∀ k, k < cs.length → ∀ i, i < cs.length → ((b k).testBit i = (r i).testBit k)) (hb2 : ∀ k i, cs.length ≤ i → (b k).testBit i = false) :
    ∀ (f : Nat) (ws : List (Int × Int)) (p : Pt), Legal ts cs r ws p → cs.length ≤ ws.length + f → ∀ {w : World} {tv cv : Value} {a : Addr} {M c : Nat}, NRd w w.heap.size tv ts → CRd w w.heap.size cv cs → SRd w w.heap.size (.slice (some a) M c) ws →
      Calls Tryd.prog 26 #[tv, cv, relV cs.length r, .slice (some a) M c] w (LoPost w (findG b ts cs f p) ws)
  | 0, ws, p, hleg, hlen, w, tv, cv, a, M, c, ht, hc, hw => by
    have h := lo_core hn hirr hty hok hb hb2 hleg (go := fun _ => none) (fun k hk hm => by
      exfalso
      have h1 := (mayG_iff hleg.small (by omega) (hb k hk) (hb2 k)).1 hm
      have hnm : ¬ (k : Int) ∈ ws.map (·.1) := fun hmm => by rw [(hleg.done k hk).2 hmm] at h1; cases h1.1
      have h2 := nodup_lt cs.length (l := (k : Int) :: ws.map (·.1)) (List.nodup_cons.2 ⟨hnm, hleg.once⟩) (fun z hz => by
        rcases List.mem_cons.1 hz with rfl | hz
        · exact ⟨by omega, by omega⟩
        · obtain ⟨x, hx, rfl⟩ := List.mem_map.1 hz
          exact hleg.rng x hx)
      rw [List.length_cons, List.length_map] at h2
      omega) ht hc hw
    rw [tryG_none] at h
    exact h
  | f + 1, ws, p, hleg, hlen, w, tv, cv, a, M, c, ht, hc, hw =>
    lo_core hn hirr hty hok hb hb2 hleg (go := findG b ts cs f) (fun k hk hm => by
      intro w tv cv a N c h1 h2 h3
      obtain ⟨m1, m2, m3, m4⟩ := (mayG_iff hleg.small (by omega) (hb k hk) (hb2 k)).1 hm
      exact lo_any hn hirr hty hok hb hb2 f _ _ (hleg.next hk (by omega) (hirr k) (hok _ (List.mem_of_getElem? (getD_some hk))).thing m1 m2 m3 m4) (by rw [List.length_append]; simp; omega) h1 h2 h3) ht hc hw
theorem riteP_congr {ts : List Int} {cs : List Cl} {p q : Nat → Nat → Bool} {ws : List (Int × Int)} (h : ∀ i j, i < cs.length → j < cs.length → p i j = q i j) : RiteP ts cs p ws ↔ RiteP ts cs q ws :=
  ⟨fun k => ⟨k.rng, k.once, k.res, k.all, fun i j hi hj hp => k.ord i j hi hj (by rw [h i j hi hj]; exact hp), k.goes⟩, fun k => ⟨k.rng, k.once, k.res, k.all, fun i j hi hj hp => k.ord i j hi hj (by rw [← h i j hi hj]; exact hp), k.goes⟩⟩
end Go.Proofs.YtecpjeililiafaaDoor
