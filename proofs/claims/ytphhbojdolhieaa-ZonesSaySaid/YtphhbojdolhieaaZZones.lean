/-
  Contract of (*zones.record).zones.
-/
import Derived.Test.YtphhbojdolhieaaZZone
import Derived.Test.YtphhbojdolhieaaZKeys
namespace Go.Proofs.Ytphhbojdolhieaa
open Go.RowKit
set_option maxRecDepth 20000

theorem ZnOwn.then_ {w w' : World} {B : Nat} {v : Value} {l : List Zn} (h : ZnOwn w B v l) (hb : Below w.heap.size w w') : ZnOwn w' B v l :=
  World.ownsRow.kept h (row := none) ⟨hb.os, hb.tape, hb.output, hb.size, fun i hi _ => hb.block i hi⟩ (by cases v.ownBlock <;> simp)
/-- What the loop of zones keeps. -/
structure ZsR (w : World) (G b m : Nat) (Fn : Int → Option Zop) (rv : Value) (R : List Zop) (B : Nat) (A : Option Addr) (cap n : Nat) (ks : List Int) (v : Value) (acc : List Zn) (wr : World) : Prop where
  below : Below w.heap.size w wr
  row : ZoRd wr w.heap.size rv R
  rec_ : Lies wr G 59 #[.map (some b), rv]
  map_ : ZMap wr b m Fn
  keys : NRd wr B (.slice A n cap) ks
  own : ZnOwn wr B v acc
  sz : B ≤ wr.heap.size
  lt : w.heap.size ≤ B ∧ G < w.heap.size ∧ b < w.heap.size
section
variable {w : World} {G b m : Nat} {Fn : Int → Option Zop} {rv : Value} {R : List Zop} {B : Nat} {A : Option Addr} {cap n : Nat} {ks : List Int} {v v' : Value} {acc acc' : List Zn} {wr w' : World}
theorem ZsR.next (h : ZsR w G b m Fn rv R B A cap n ks v acc wr) (hb : Below wr.heap.size wr w') : ZsR w G b m Fn rv R B A cap n ks v acc w' := by
  have h1 := h.sz; have h2 := h.lt
  exact ⟨h.below.trans (hb.mono h.below.size), h.row.below (hb.mono h.below.size), Lies.below h.rec_ hb h.rec_.lt, h.map_.below hb h.map_.lt, h.keys.below (hb.mono h1), h.own.then_ hb, Nat.le_trans h1 hb.size, h2⟩
theorem ZsR.app (h : ZsR w G b m Fn rv R B A cap n ks v acc wr) (hb : Below B wr w') (ho : ZnOwn w' B v' acc') : ZsR w G b m Fn rv R B A cap n ks v' acc' w' := by
  have h1 := h.sz; have h2 := h.lt
  exact ⟨h.below.trans (hb.mono h2.1), h.row.below (hb.mono h2.1), Lies.below h.rec_ hb (by omega), h.map_.below hb (by omega), h.keys.below hb, ho, Nat.le_trans h1 hb.size, h2⟩
end
/-- The zones of these keys. -/
def zonesF (cs : List Cl) (ks : List Int) : List Zn := ks.filterMap (zoneV cs)
theorem zonesF_cons (cs : List Cl) (k : Int) (ks : List Int) {w : Zop} (hw : wOf cs k = some w) : zonesF cs (k :: ks) = if countsZ w (rds 0 cs) = true then zoneOf w (rds 0 cs) :: zonesF cs ks else zonesF cs ks := by
  have e : zoneV cs k = if countsZ w (rds 0 cs) = true then some (zoneOf w (rds 0 cs)) else none := by
    unfold zoneV
    rw [hw]
  unfold zonesF
  rw [List.filterMap_cons, e]
  split
  · rename_i h; split at h
    · cases h
    · rename_i h2; rw [if_neg h2]
  · rename_i z h; split at h
    · rename_i h2; injection h with h; rw [if_pos h2, h]
    · cases h
set_option maxHeartbeats 8000000 in
theorem zzones_any {G b m : Nat} {cs : List Cl} {rv : Value} {w : World} (hr : Lies w G 59 #[.map (some b), rv]) (hmp : ZMap w b m (wOf cs)) (h : ZoRd w w.heap.size rv (rds 0 cs)) (hm : (rds 0 cs).length ≤ 2000) (hmm : m ≤ 2000) (hv : ∀ x, (wOf cs x).isSome = true → 0 ≤ x ∧ x ≤ 1000) :
    Calls Try.prog 24 #[.pointer (some ⟨G, 0, none⟩)] w fun e w' => ∃ v ks, e = .returned v ∧ ks.Pairwise (· < ·) ∧ (∀ x, x ∈ ks ↔ (wOf cs x).isSome = true) ∧ ks.length ≤ 2000 ∧ ZnRd w' w'.heap.size v (zonesF cs ks) ∧ Below w.heap.size w w' := by
  have hr0 := Lies.cell hr 0
  simp only [List.getElem?_toArray, List.getElem?_cons_zero] at hr0
  have HK := Lib.hid (zkeys_any b w)
  have HS := Lib.hid (zsorted_any hmp (by omega))
  have H0 := Lib.hid (And.intro hr (And.intro hmp h))
  have HM := Lib.hid (And.intro hm (And.intro hmm hv))
  clear hr hmp h hm hmm hv
  go_enter Try.func24, Try.ntmps24
  go_wp2_with fail
  refine HK.out.mono ?_
  rintro e w1 ⟨rfl, rfl⟩
  clear HK hr0
  go_wp2_with fail
  refine HS.out.mono ?_
  rintro e w2 ⟨v, ks, rfl, hks, hp, hin, hlen, hb2⟩
  obtain ⟨A, cap, rfl, m1, m2⟩ := hks.is
  unfold maxLen at m2
  obtain ⟨n, hn⟩ : ∃ n, n = ks.length := ⟨_, rfl⟩
  rw [← hn] at hks hlen m1 ⊢
  have hn2 : n ≤ 2000 := Nat.le_trans hlen HM.out.2.1
  have h0 : ZsR w G b m (wOf cs) rv (rds 0 cs) w2.heap.size A cap n ks (.slice none 0 0) [] w2 :=
    ⟨hb2, H0.out.2.2.below hb2, Lies.below H0.out.1 hb2 H0.out.1.lt, H0.out.2.1.below hb2 H0.out.2.1.lt, hks, ZnOwn.nil _ _, Nat.le_refl _, hb2.size, H0.out.1.lt, H0.out.2.1.lt⟩
  have HKS := Lib.hid (And.intro hp (And.intro hin hn))
  clear HS H0 hks hp hin hb2 hn hlen
  go_wp2_with fail
  generalize w2.heap.size = B at h0
  go_loopw [3, 15] (fun v i wr => ∃ (k : Nat) (acc : List Zn), k ≤ n ∧ i = .int .i64 k ∧ acc.length ≤ k ∧ acc ++ zonesF cs (ks.drop k) = zonesF cs ks ∧ ZsR w G b m (wOf cs) rv (rds 0 cs) B A cap n ks v acc wr) (fun _ i _ => n - (intOf i).toNat)
  case atStart => exact ⟨0, [], by omega, rfl, by simp, by rw [List.drop_zero, List.nil_append], h0⟩
  case round =>
    clear h0
    obtain ⟨k, acc, hk, rfl, hal, hac, hO⟩ := hrel
    by_cases hkn : k < n
    · obtain ⟨x, hx⟩ : ∃ x, ks[k]? = some x := ⟨_, List.getElem?_eq_getElem (by rw [← HKS.out.2.2]; exact hkn)⟩
      have hdrop : ks.drop k = x :: ks.drop (k + 1) := by
        obtain ⟨h2, h3⟩ := List.getElem?_eq_some_iff.1 hx
        rw [List.drop_eq_getElem_cons h2, h3]
      have hso := (HKS.out.2.1 x).1 (List.mem_of_getElem? hx)
      have hxr := HM.out.2.2 x hso
      obtain ⟨Z, hZ⟩ := Option.isSome_iff_exists.1 hso
      rw [hdrop, zonesF_cons cs x _ hZ] at hac
      obtain ⟨g, o, rfl, -, d0⟩ := hO.keys.num hx
      have hlk := (hO.map_.val x (by omega) (by omega)).2
      rw [hZ, Option.getD_some] at hlk
      have r0 := Lies.cell hO.rec_ 0
      simp only [List.getElem?_toArray, List.getElem?_cons_zero] at r0
      have i1 : (0 : Int) ≤ (k : Int) := by omega
      have i2 : (k : Int) < (n : Int) := by omega
      have HZ := Lib.hid (zzone_any (x := Z) hO.rec_ (hO.row.mono hO.below.size) HM.out.1)
      have HO := Lib.hid (And.intro hO (And.intro hac hal))
      clear hO hac hdrop hso hxr hZ hx hal
      go_wp2_with fail
      refine HZ.out.mono ?_
      rintro e w3 ⟨rfl, hb3⟩
      have hO3 := HO.out.1.next hb3
      have hac := HO.out.2.1
      have hal := HO.out.2.2
      clear HZ HO hb3 d0 hlk r0
      obtain ⟨zo, hzo⟩ : ∃ zo, zo = zoneOf Z (rds 0 cs) := ⟨_, rfl⟩
      obtain ⟨ct, hct⟩ : ∃ ct, ct = countsZ Z (rds 0 cs) := ⟨_, rfl⟩
      rw [← hzo, ← hct] at hac ⊢
      obtain ⟨q0, q1, q2, q3⟩ := zo
      have hal3 : Below w3.heap.size w3 (w3.alloc (.cells #[.int .i64 q0, .int .i64 q1, .int .i64 q2, .bool q3] 35)) := (Below.refl _ _).alloc (Nat.le_refl _) _
      have HO := Lib.hid (And.intro (hO3.next hal3) (And.intro (Lies.new w3 35 #[.int .i64 q0, .int .i64 q1, .int .i64 q2, .bool q3]) (And.intro hac hal)))
      clear hO3 hal3 hac hzo hct hal
      go_upto_region 6 with fail
      change Code.wp _ _ _ _ (w3.alloc (.cells #[.int .i64 q0, .int .i64 q1, .int .i64 q2, .bool q3] 35))
      generalize w3.alloc (.cells #[.int .i64 q0, .int .i64 q1, .int .i64 q2, .bool q3] 35) = W3 at HO ⊢
      generalize w3.heap.size = X at HO ⊢
      have e0 := Lies.cell HO.out.2.1 0
      have e1 := Lies.cell HO.out.2.1 1
      have e2 := Lies.cell HO.out.2.1 2
      have e3 := Lies.cell HO.out.2.1 3
      simp only [List.getElem?_toArray, List.getElem?_cons_zero, List.getElem?_cons_succ] at e0 e1 e2 e3
      cases ct
      · have hac := HO.out.2.2.1
        rw [if_neg (by decide)] at hac
        have HZ := Lib.hid hac
        clear hac e0 e1 e2 e3
        go_wp2_with fail
        go_roundw
        case rel => exact ⟨k + 1, acc, by omega, by go_num, by have := HO.out.2.2.2; omega, HZ.out, HO.out.1⟩
        case measure => simp [intOf]; omega
      · have hac := HO.out.2.2.1
        rw [if_pos rfl] at hac
        have HZ := Lib.hid hac
        clear hac
        have hO4 := HO.out.1.next ((Below.refl _ _).alloc (Nat.le_refl _) (.cells #[.int .i64 q0, .int .i64 q1, .int .i64 q2, .bool q3] 35))
        have hown := hO4.own
        have hsz := hO4.sz
        have hnew := new_cells W3 35 (znCs ⟨q0, q1, q2, q3⟩)
        obtain ⟨Av, cv, hvv⟩ := own_slice_zn hO4.own
        have hal := HO.out.2.2.2
        rw [hvv] at hown ⊢
        have HO4 := Lib.hid hO4
        clear hO4
        go_wp2_with (at_builtin; refine wpList_app_zn rfl (.tmp 31) (.tmp 33) rfl B W3.heap.size _ acc ⟨q0, q1, q2, q3⟩ rfl rfl hown hnew (by omega) hsz ?_; intro v' w5 ho5 hb5 _)
        go_roundw
        case rel => exact ⟨k + 1, acc ++ [⟨q0, q1, q2, q3⟩], by omega, by go_num, by rw [List.length_append]; simp; omega, by rw [List.append_assoc]; exact HZ.out, HO4.out.app hb5 ho5⟩
        case measure => simp [intOf]; omega
    · obtain rfl : n = k := by omega
      have hnil : ks.drop n = [] := List.drop_eq_nil_of_le (by rw [← HKS.out.2.2]; exact Nat.le_refl _)
      rw [hnil, show zonesF cs [] = [] from rfl, List.append_nil] at hac
      have HO := Lib.hid (And.intro hO hac)
      clear hO hac hnil
      go_wp2_with fail
      go_ret
      refine ⟨_, ks, rfl, HKS.out.1, HKS.out.2.1, by rw [← HKS.out.2.2]; exact hn2, ?_, HO.out.1.below⟩
      rw [← HO.out.2]
      exact HO.out.1.own.rd
end Go.Proofs.Ytphhbojdolhieaa
