/-
  alibkeep.OrderMirsky answers true: nothing is round.
-/
import Derived.Test.YtbcgjebdodaaoaaDoorMir
import Derived.Deep.RegionHeld3
import Derived.Test.YtbcgjebdodaaoaaDoorChains
namespace Go.Proofs.YtbcgjebdodaaoaaDoor
open Go.RowKit

/-- The relation, its closure, the ranks, the chain. -/
structure MirR (w0 : World) (n : Nat) (a c : Nat → Nat) (C : Nat) (K L : Value) (ks ls : List Int) (w : World) : Prop where
  two : TwoR w0 n n a c w0.heap.size C w
  rk : IRd w w.heap.size K ks
  rl : IRd w w.heap.size L ls
theorem MirR.next {w0 w w' : World} {n : Nat} {a c : Nat → Nat} {C : Nat} {K L : Value} {ks ls : List Int} (h : MirR w0 n a c C K L ks ls w) (hb : Below w.heap.size w w') : MirR w0 n a c C K L ks ls w' :=
  ⟨h.two.next hb, (h.rk.below hb).mono hb.size, (h.rl.below hb).mono hb.size⟩
theorem IRd.at_ {w : World} {B n cap : Nat} {A : Option Addr} {xs : List Int} (h : IRd w B (.slice A n cap) xs) (hn : xs.length = n) (h0 : 0 < n) : ∃ g, A = some ⟨g, 0, none⟩ ∧ ∀ j, j < n → w.cell? ⟨g, j, none⟩ = some (.int .i64 (xs.getD j 0)) := by
  obtain ⟨A', cap', e, h2⟩ := h
  injection e with e1 _ _
  subst e1
  obtain ⟨g, hA, _, hc⟩ := h2 (by omega)
  exact ⟨g, hA, fun j hj => hc j (by omega)⟩
theorem listed_at {n : Nat} {f : Nat → Int} {j : Nat} (hj : j < n) : (listed n f).getD j 0 = f j := by
  simp [listed, hj]
theorem listed_len (n : Nat) (f : Nat → Int) : (listed n f).length = n := by simp [listed]

theorem IRd.cells {w : World} {B n cap g : Nat} {xs : List Int} (h : IRd w B (.slice (some ⟨g, 0, none⟩) n cap) xs) (hn : xs.length = n) {j : Nat} (hj : j < n) : w.cell? ⟨g, j, none⟩ = some (.int .i64 (xs.getD j 0)) := by
  obtain ⟨g', e, hc⟩ := h.at_ hn (by omega)
  injection e with e
  injection e with e
  subst e
  exact hc j hj

/-- The values that the region of the inner loop has yielded. -/
def fillsM (a : Act) (u : Nat → Value) : Act := (((((((((((((((a.put (some 71) (u 0)).put (some 72) (u 1)).put (some 73) (u 2)).put (some 74) (u 3)).put (some 75) (u 4)).put (some 76) (u 5)).put (some 77) (u 6)).put (some 78) (u 7)).put (some 79) (u 8)).put (some 80) (u 9)).put (some 81) (u 10)).put (some 82) (u 11)).put (some 83) (u 12)).put (some 84) (u 13)).put (some 85) (u 14))
theorem fillsM_lit (x0 x1 x2 x3 x4 x5 x6 x7 x8 x9 x10 x11 x12 x13 x14 x15 x16 x17 x18 x19 x20 x21 x22 x23 x24 x25 x26 x27 x28 x29 x30 x31 x32 x33 x34 x35 x36 x37 x38 x39 x40 x41 x42 x43 x44 x45 x46 x47 x48 x49 x50 x51 x52 x53 x54 x55 x56 x57 x58 x59 x60 x61 x62 x63 x64 x65 x66 x67 x68 x69 x70 x71 x72 x73 x74 x75 x76 x77 x78 x79 x80 x81 x82 x83 x84 x85 x86 x87 x88 x89 x90 x91 x92 x93 x94 x95 x96 x97 x98 x99 x100 x101 x102 x103 x104 x105 x106 x107 x108 x109 x110 x111 x112 x113 x114 x115 x116 x117 x118 x119 x120 x121 x122 x123 x124 x125 x126 x127 x128 x129 x130 x131 x132 x133 x134 x135 x136 x137 x138 x139 x140 x141 x142 x143 x144 : Value) (u : Nat → Value) : fillsM { tmps := #[x0, x1, x2, x3, x4, x5, x6, x7, x8, x9, x10, x11, x12, x13, x14, x15, x16, x17, x18, x19, x20, x21, x22, x23, x24, x25, x26, x27, x28, x29, x30, x31, x32, x33, x34, x35, x36, x37, x38, x39, x40, x41, x42, x43, x44, x45, x46, x47, x48, x49, x50, x51, x52, x53, x54, x55, x56, x57, x58, x59, x60, x61, x62, x63, x64, x65, x66, x67, x68, x69, x70, x71, x72, x73, x74, x75, x76, x77, x78, x79, x80, x81, x82, x83, x84, x85, x86, x87, x88, x89, x90, x91, x92, x93, x94, x95, x96, x97, x98, x99, x100, x101, x102, x103, x104, x105, x106, x107, x108, x109, x110, x111, x112, x113, x114, x115, x116, x117, x118, x119, x120, x121, x122, x123, x124, x125, x126, x127, x128, x129, x130, x131, x132, x133, x134, x135, x136, x137, x138, x139, x140, x141, x142, x143, x144], defers := [] } u = { tmps := #[x0, x1, x2, x3, x4, x5, x6, x7, x8, x9, x10, x11, x12, x13, x14, x15, x16, x17, x18, x19, x20, x21, x22, x23, x24, x25, x26, x27, x28, x29, x30, x31, x32, x33, x34, x35, x36, x37, x38, x39, x40, x41, x42, x43, x44, x45, x46, x47, x48, x49, x50, x51, x52, x53, x54, x55, x56, x57, x58, x59, x60, x61, x62, x63, x64, x65, x66, x67, x68, x69, x70, u 0, u 1, u 2, u 3, u 4, u 5, u 6, u 7, u 8, u 9, u 10, u 11, u 12, u 13, u 14, x86, x87, x88, x89, x90, x91, x92, x93, x94, x95, x96, x97, x98, x99, x100, x101, x102, x103, x104, x105, x106, x107, x108, x109, x110, x111, x112, x113, x114, x115, x116, x117, x118, x119, x120, x121, x122, x123, x124, x125, x126, x127, x128, x129, x130, x131, x132, x133, x134, x135, x136, x137, x138, x139, x140, x141, x142, x143, x144], defers := [] } := by kernel_rfl
theorem fillsM_self (x0 x1 x2 x3 x4 x5 x6 x7 x8 x9 x10 x11 x12 x13 x14 x15 x16 x17 x18 x19 x20 x21 x22 x23 x24 x25 x26 x27 x28 x29 x30 x31 x32 x33 x34 x35 x36 x37 x38 x39 x40 x41 x42 x43 x44 x45 x46 x47 x48 x49 x50 x51 x52 x53 x54 x55 x56 x57 x58 x59 x60 x61 x62 x63 x64 x65 x66 x67 x68 x69 x70 x71 x72 x73 x74 x75 x76 x77 x78 x79 x80 x81 x82 x83 x84 x85 x86 x87 x88 x89 x90 x91 x92 x93 x94 x95 x96 x97 x98 x99 x100 x101 x102 x103 x104 x105 x106 x107 x108 x109 x110 x111 x112 x113 x114 x115 x116 x117 x118 x119 x120 x121 x122 x123 x124 x125 x126 x127 x128 x129 x130 x131 x132 x133 x134 x135 x136 x137 x138 x139 x140 x141 x142 x143 x144 : Value) : ({ tmps := #[x0, x1, x2, x3, x4, x5, x6, x7, x8, x9, x10, x11, x12, x13, x14, x15, x16, x17, x18, x19, x20, x21, x22, x23, x24, x25, x26, x27, x28, x29, x30, x31, x32, x33, x34, x35, x36, x37, x38, x39, x40, x41, x42, x43, x44, x45, x46, x47, x48, x49, x50, x51, x52, x53, x54, x55, x56, x57, x58, x59, x60, x61, x62, x63, x64, x65, x66, x67, x68, x69, x70, x71, x72, x73, x74, x75, x76, x77, x78, x79, x80, x81, x82, x83, x84, x85, x86, x87, x88, x89, x90, x91, x92, x93, x94, x95, x96, x97, x98, x99, x100, x101, x102, x103, x104, x105, x106, x107, x108, x109, x110, x111, x112, x113, x114, x115, x116, x117, x118, x119, x120, x121, x122, x123, x124, x125, x126, x127, x128, x129, x130, x131, x132, x133, x134, x135, x136, x137, x138, x139, x140, x141, x142, x143, x144], defers := [] } : Act) = fillsM { tmps := #[x0, x1, x2, x3, x4, x5, x6, x7, x8, x9, x10, x11, x12, x13, x14, x15, x16, x17, x18, x19, x20, x21, x22, x23, x24, x25, x26, x27, x28, x29, x30, x31, x32, x33, x34, x35, x36, x37, x38, x39, x40, x41, x42, x43, x44, x45, x46, x47, x48, x49, x50, x51, x52, x53, x54, x55, x56, x57, x58, x59, x60, x61, x62, x63, x64, x65, x66, x67, x68, x69, x70, x71, x72, x73, x74, x75, x76, x77, x78, x79, x80, x81, x82, x83, x84, x85, x86, x87, x88, x89, x90, x91, x92, x93, x94, x95, x96, x97, x98, x99, x100, x101, x102, x103, x104, x105, x106, x107, x108, x109, x110, x111, x112, x113, x114, x115, x116, x117, x118, x119, x120, x121, x122, x123, x124, x125, x126, x127, x128, x129, x130, x131, x132, x133, x134, x135, x136, x137, x138, x139, x140, x141, x142, x143, x144], defers := [] } (fun j => #[x71, x72, x73, x74, x75, x76, x77, x78, x79, x80, x81, x82, x83, x84, x85].getD j undef) := by kernel_rfl

/-- What each operation yields. -/
def mirV (b : Bool) (n : Nat) (c : Nat → Nat) (k m g k1 : Nat) (xk xm : Int) : Nat → Value
  | 0 => relV n c
  | 1 => .int .i64 k
  | 2 => .int .i64 m
  | 3 => .bool b
  | 4 => .bool b
  | 5 => if b = true then .slice (some ⟨g, 0, none⟩) n k1 else undef
  | 6 => if b = true then .int .i64 k else undef
  | 7 => if b = true then .pointer (some ⟨g, k, none⟩) else undef
  | 8 => if b = true then .int .i64 xk else undef
  | 9 => if b = true then .slice (some ⟨g, 0, none⟩) n k1 else undef
  | 10 => if b = true then .int .i64 m else undef
  | 11 => if b = true then .pointer (some ⟨g, m, none⟩) else undef
  | 12 => if b = true then .int .i64 xm else undef
  | 13 => if b = true then .bool (decide (xm ≤ xk)) else undef
  | _ => .bool false

structure MInv (w0 : World) (n : Nat) (a c : Nat → Nat) (C : Nat) (KV LV : Value) (ks ls : List Int) (V : Nat → Value) (a0 : Act) (l : Array Bool) (act : Act) (w : World) : Prop where
  size : l.size = 15
  mir : MirR w0 n a c C KV LV ks ls w
  vals : ∃ u, act = fillsM a0 u ∧ ∀ j, j < 15 → l.getD j false = true → u j = V j
theorem MInv.next {w0 w' : World} {n : Nat} {a c : Nat → Nat} {C : Nat} {KV LV : Value} {ks ls : List Int} {V : Nat → Value} {a0 act : Act} {l : Array Bool} {u : Nat → Value} {i : Nat} {v : Value} (hs : l.size = 15) (hm : MirR w0 n a c C KV LV ks ls w')
    (hu : ∀ j, j < 15 → l.getD j false = true → u j = V j) (hv : v = V i) (ha : act = fillsM a0 (updV u i v)) : MInv w0 n a c C KV LV ks ls V a0 (l.setIfInBounds i true) act w' := by
  refine ⟨by simpa using hs, hm, _, ha, fun j hj hl => ?_⟩
  unfold updV
  by_cases e : j = i
  · subst e; rw [if_pos rfl]; exact hv
  · rw [if_neg e]
    rw [getD_set e] at hl
    exact hu j hj hl

set_option maxRecDepth 10000 in
set_option maxHeartbeats 40000000 in
theorem mir_no (n : Nat) (a : Nat → Nat) (w : World) (h : Good n a) (hy : cyc (clo n a) n = false) (hT : Tab w) (hpos : 0 < w.heap.size) :
    Calls Tryd.prog 8 #[relV n a] w fun e w' => e = .returned (.bool true) ∧ Below w.heap.size w w' := by
  have HT := Lib.hid (And.intro hT hpos)
  clear hT hpos
  have hs := strict_clo h hy
  have hlk := chain_links hs
  have hbo := long_both hs
  have hle := h.le
  have hcl := h.clo.lt
  have hR12 : maxUp (len (clo n a) n) n ≤ 12 := maxUp_le fun j hj => Nat.le_trans (len_le hs hj) hle
  have hrk := fun w => ranks_no n a w h hy
  have hch := fun w => chain_no n a w h hy
  have hclo := fun w => close_no n a w h hy
  generalize chL (clo n a) (rnd (clo n a) n n) n (maxUp (len (clo n a) n) n) (2 ^ n - 1) = ls at hlk hch
  generalize hRR : maxUp (len (clo n a) n) n = R at hlk hbo hR12
  generalize clo n a = c at hs hcl hrk hclo hlk hbo
  have HC := Lib.hid (And.intro hrk (And.intro hch hclo))
  have HS := Lib.hid (And.intro hs (And.intro hlk (And.intro hbo hcl)))
  clear hrk hch hclo hs hlk hbo hcl hRR h hy
  go_enter Tryd.func8, Tryd.ntmps8
  have H := Lib.hid (OneR.start w n a)
  go_wp2_with fail
  refine (HC.out.1 _).mono ?_
  rintro e w1 ⟨v1, rfl, ho1, hb1⟩
  obtain ⟨A1, k1, rfl, hr1⟩ := ho1.rd.len (listed_len n _)
  have h1 := H.out.next hb1
  clear H hb1 ho1
  have hlt := h1.one.lt
  have c0 := h1.one.size
  obtain ⟨c1, c2, c3, c4, c5, c6, c7, c8, c9, c10, c11, c12⟩ := h1.one.rows
  have H := Lib.hid (And.intro h1 hr1)
  clear h1 hr1
  go_wp2_with fail
  clear hlt c0 c1 c2 c3 c4 c5 c6 c7 c8 c9 c10 c11 c12
  refine (HC.out.2.1 _).mono ?_
  rintro e w2 ⟨v2, rfl, ho2, hb2⟩
  obtain ⟨A2, k2, rfl, hr2⟩ := ho2.rd.len HS.out.2.1.length
  have h2 := H.out.1.next hb2
  have hr1 := (H.out.2.below hb2).mono hb2.size
  clear H hb2 ho2
  have hlt := h2.one.lt
  have c0 := h2.one.size
  obtain ⟨c1, c2, c3, c4, c5, c6, c7, c8, c9, c10, c11, c12⟩ := h2.one.rows
  have H := Lib.hid (And.intro h2 (And.intro hr1 hr2))
  clear h2 hr1 hr2
  go_wp2_with fail
  clear hlt c0 c1 c2 c3 c4 c5 c6 c7 c8 c9 c10 c11 c12
  refine (HC.out.2.2 _).mono ?_
  rintro e w3 ⟨rfl, hb3⟩
  have h3 := H.out.1.next hb3
  have hr1 := (H.out.2.1.below hb3).mono hb3.size
  have hr2 := (H.out.2.2.below hb3).mono hb3.size
  clear H hb3
  have H := Lib.hid (And.intro h3 (And.intro hr1 hr2))
  clear h3 hr1 hr2
  go_wp2_with fail
  have hb := (Below.refl w3.heap.size w3).alloc (Nat.le_refl _) (.cells (relCs n c) 25)
  have h4 : MirR w n a c w3.heap.size (.slice A1 n k1) (.slice A2 R k2) (listed n (rankOf n c)) ls (w3.alloc (.cells (relCs n c) 25)) :=
    ⟨⟨H.out.1.below.alloc H.out.1.below.size _, Lies.alloc H.out.1.one _, Lies.new _ _ _⟩, (H.out.2.1.below hb).mono hb.size, (H.out.2.2.below hb).mono hb.size⟩
  clear H hb
  change Calls _ _ _ (w3.alloc (.cells (relCs n c) 25)) _
  generalize w3.alloc (.cells (relCs n c) 25) = W4 at h4 ⊢
  generalize w3.heap.size = C at h4 ⊢
  refine (lives_true W4 (h4.two.tab HT.out) (h4.two.pos HT.out)).mono ?_
  rintro e w4 ⟨rfl, hb4⟩
  have h5 := h4.next hb4
  clear h4 hb4
  have H := Lib.hid h5
  clear h5
  go_wp2_with fail
  refine (ok_zero (IRd.fresh w4 26 [0, 0, 0] _ rfl _ rfl) (by decide) (by decide)).mono ?_
  rintro e w5 ⟨rfl, rfl⟩
  have h5 := H.out.next ((Below.refl w4.heap.size w4).alloc (Nat.le_refl _) (.cells #[.int .i64 0, .int .i64 0, .int .i64 0] 26))
  clear H
  have c0 := h5.two.one.size
  have hlt := h5.two.one.lt
  have H := Lib.hid h5
  clear h5
  go_wp2_with fail
  clear c0 hlt
  go_loopw [10, 57] (fun m i wr => ∃ k : Nat, k ≤ n ∧ i = .int .i64 k ∧ m = .int .i64 (((maxUp (len (rev n c) n) k : Nat) : Int) - 1) ∧ MirR w n a c C (.slice A1 n k1) (.slice A2 R k2) (listed n (rankOf n c)) ls wr) (fun _ i _ => n - (intOf i).toNat)
  case atStart => exact ⟨0, by omega, rfl, rfl, H.out⟩
  case round =>
    clear H
    obtain ⟨k, hk, rfl, rfl, hR⟩ := hrel
    have HSt := HS.out.1.turn
    by_cases hkn : k < n
    · obtain ⟨g, rfl, -⟩ := hR.rk.at_ (listed_len n _) (by omega)
      have ki := hR.rk.cells (listed_len n _) hkn
      rw [listed_at hkn] at ki
      have c0 := hR.two.one.size
      have hkb : len (rev n c) n k ≤ 12 := Nat.le_trans (len_le HSt hkn) hle
      have hmb : maxUp (len (rev n c) n) k ≤ 12 := maxUp_le fun j hj => Nat.le_trans (len_le HSt (by omega)) hle
      have hst : ((maxUp (len (rev n c) n) (k + 1) : Nat) : Int) - 1 = if ((maxUp (len (rev n c) n) k : Nat) : Int) - 1 < rankOf n c k then rankOf n c k else ((maxUp (len (rev n c) n) k : Nat) : Int) - 1 := (by
        unfold rankOf
        rw [maxUp, Nat.max_def]; split <;> split <;> omega)
      generalize hM : ((maxUp (len (rev n c) n) k : Nat) : Int) - 1 = M at hst
      have hxb : rankOf n c k ≤ 12 := (by unfold rankOf; omega)
      obtain ⟨M2, hM2⟩ : ∃ M2 : Int, M2 = ((maxUp (len (rev n c) n) (k + 1) : Nat) : Int) - 1 := ⟨_, rfl⟩
      have hmx : (if M < rankOf n c k then rankOf n c k else M) = M2 := (by rw [hM2, hst])
      have HST := Lib.hid (And.intro hM2 (And.intro hM hxb))
      clear hM2
      have H := Lib.hid hR
      clear hst hM hR hkb hmb hxb
      go_wp2_with fail
      · clear ki c0 hmx
        obtain ⟨wo, rfl⟩ : ∃ wo : World, wo = wr := ⟨_, rfl⟩
        go_loopw [68] (fun i wz => ∃ m : Nat, m ≤ n ∧ i = .int .i64 m ∧ MirR w n a c C (.slice (some ⟨g, 0, none⟩) n k1) (.slice A2 R k2) (listed n (rankOf n c)) ls wz) (fun i _ => n - (intOf i).toNat)
        case atStart => exact ⟨0, by omega, rfl, H.out⟩
        case round =>
          clear H
          obtain ⟨m, hm, rfl, hR⟩ := hrel
          by_cases hmn : m < n
          · have hm15 : m ≤ 15 := by omega
            have hk12 : k < 12 := by omega
            have hD : MirR w n a c C (.slice (some ⟨g, 0, none⟩) n k1) (.slice A2 R k2) (listed n (rankOf n c)) ls wr.drew := hR.next (Below.refl _ _).drew
            have HD := Lib.hid hD
            have d0 := hR.two.two.size
            obtain ⟨d1, d2, d3, d4, d5, d6, d7, d8, d9, d10, d11, d12⟩ := hR.two.two.rows
            have HR := Lib.hid hR
            clear hR hD
            cases hb : (c k).testBit m
            · have Hb := Lib.hid hb
              clear hb
              go_wp2_with fail
              refine region_of_act (fun A => MInv w n a c C (.slice (some ⟨g, 0, none⟩) n k1) (.slice A2 R k2) (listed n (rankOf n c)) ls (mirV false n c k m g k1 (rankOf n c k) (rankOf n c m)) A) rfl ?h0 (fun l a w h => h.size) ?hs ?hq
              case h0 => exact ⟨by kernel_rfl, HD.out, _, fillsM_self .., fun j hj hl => absurd hl (by rw [none_listed]; decide)⟩
              case hs =>
                rintro l A w3 ⟨hls, hM, u, rfl, hu⟩ q hq
                obtain ⟨hin, hp⟩ := List.mem_filter.1 hq
                have hq15 : q < 15 := List.mem_range.1 hin
                clear hq hin
                rw [Bool.and_eq_true, Bool.not_eq_true'] at hp
                obtain ⟨hp1, hp2⟩ := hp
                rcases (by omega : q = 0 ∨ q = 1 ∨ q = 2 ∨ q = 3 ∨ q = 4 ∨ q = 5 ∨ q = 6 ∨ q = 7 ∨ q = 8 ∨ q = 9 ∨ q = 10 ∨ q = 11 ∨ q = 12 ∨ q = 13 ∨ q = 14) with rfl | rfl | rfl | rfl | rfl | rfl | rfl | rfl | rfl | rfl | rfl | rfl | rfl | rfl | rfl
                · have q0 := hM.two.two.size
                  obtain ⟨q1, q2, q3, q4, q5, q6, q7, q8, q9, q10, q11, q12⟩ := hM.two.two.rows
                  rw [fillsM_lit]
                  refine wpOp_step rfl (fun K hK => ?_)
                  go_simp
                  refine hK _ _ ?_
                  exact MInv.next (i := 0) hls hM hu (v := mirV false n c k m g k1 (rankOf n c k) (rankOf n c m) 0) rfl (by kernel_rfl)
                · rw [fillsM_lit]
                  refine wpOp_step rfl (fun K hK => ?_)
                  go_simp
                  refine hK _ _ ?_
                  exact MInv.next (i := 1) hls hM hu (v := mirV false n c k m g k1 (rankOf n c k) (rankOf n c m) 1) rfl (by kernel_rfl)
                · rw [fillsM_lit]
                  refine wpOp_step rfl (fun K hK => ?_)
                  go_simp
                  refine hK _ _ ?_
                  exact MInv.next (i := 2) hls hM hu (v := mirV false n c k m g k1 (rankOf n c k) (rankOf n c m) 2) rfl (by kernel_rfl)
                · have hdep : l.getD 0 false = true ∧ l.getD 1 false = true ∧ l.getD 2 false = true := (by simp [Region.binds] at hp2; simp [hp2])
                  obtain ⟨f0, f1, f2⟩ := hdep
                  have e0 := hu 0 (by decide) f0
                  have e1 := hu 1 (by decide) f1
                  have e2 := hu 2 (by decide) f2
                  simp only [mirV] at e0
                  simp only [mirV] at e1
                  simp only [mirV] at e2
                  rw [fillsM_lit]
                  refine wpOp_step rfl (fun K hK => ?_)
                  go_simp
                  refine (ahead_no n c k m _ hk12 hm15 Hb.out).mono ?_
                  rintro e w' ⟨rfl, hb'⟩
                  refine hK _ _ ?_
                  exact MInv.next hls (hM.next hb') hu rfl (by rw [same_upd e0, same_upd e1, same_upd e2]; kernel_rfl)
                · have hdep : l.getD 3 false = true := (by simp [Region.binds] at hp2; simp [hp2])
                  have e3 := hu 3 (by decide) hdep
                  simp only [mirV] at e3
                  rw [fillsM_lit]
                  refine wpOp_step rfl (fun K hK => ?_)
                  go_simp
                  refine hK _ _ ?_
                  exact MInv.next (i := 4) hls hM hu (v := mirV false n c k m g k1 (rankOf n c k) (rankOf n c m) 4) rfl (by rw [same_upd e3]; kernel_rfl)
                · have hdep : l.getD 4 false = true := (by simp [Region.binds] at hp2; simp [hp2])
                  have e4 := hu 4 (by decide) hdep
                  simp only [mirV] at e4
                  rw [fillsM_lit]
                  refine wpOp_step rfl (fun K hK => ?_)
                  split
                  · next hw => exact absurd (hw.symm.trans (show _ = false from (by rw [same_upd e4]; kernel_rfl))) (by decide)
                  · next hw => clear hw; refine hK _ _ ?_; exact MInv.next (i := 5) hls hM hu (v := mirV false n c k m g k1 (rankOf n c k) (rankOf n c m) 5) rfl (by rw [same_upd e4]; kernel_rfl)
                · have hdep : l.getD 4 false = true := (by simp [Region.binds] at hp2; simp [hp2])
                  have e4 := hu 4 (by decide) hdep
                  simp only [mirV] at e4
                  rw [fillsM_lit]
                  refine wpOp_step rfl (fun K hK => ?_)
                  split
                  · next hw => exact absurd (hw.symm.trans (show _ = false from (by rw [same_upd e4]; kernel_rfl))) (by decide)
                  · next hw => clear hw; refine hK _ _ ?_; exact MInv.next (i := 6) hls hM hu (v := mirV false n c k m g k1 (rankOf n c k) (rankOf n c m) 6) rfl (by rw [same_upd e4]; kernel_rfl)
                · have hdep : l.getD 4 false = true := (by simp [Region.binds] at hp2; simp [hp2])
                  have e4 := hu 4 (by decide) hdep
                  simp only [mirV] at e4
                  rw [fillsM_lit]
                  refine wpOp_step rfl (fun K hK => ?_)
                  split
                  · next hw => exact absurd (hw.symm.trans (show _ = false from (by rw [same_upd e4]; kernel_rfl))) (by decide)
                  · next hw => clear hw; refine hK _ _ ?_; exact MInv.next (i := 7) hls hM hu (v := mirV false n c k m g k1 (rankOf n c k) (rankOf n c m) 7) rfl (by rw [same_upd e4]; kernel_rfl)
                · have hdep : l.getD 4 false = true := (by simp [Region.binds] at hp2; simp [hp2])
                  have e4 := hu 4 (by decide) hdep
                  simp only [mirV] at e4
                  rw [fillsM_lit]
                  refine wpOp_step rfl (fun K hK => ?_)
                  split
                  · next hw => exact absurd (hw.symm.trans (show _ = false from (by rw [same_upd e4]; kernel_rfl))) (by decide)
                  · next hw => clear hw; refine hK _ _ ?_; exact MInv.next (i := 8) hls hM hu (v := mirV false n c k m g k1 (rankOf n c k) (rankOf n c m) 8) rfl (by rw [same_upd e4]; kernel_rfl)
                · have hdep : l.getD 4 false = true := (by simp [Region.binds] at hp2; simp [hp2])
                  have e4 := hu 4 (by decide) hdep
                  simp only [mirV] at e4
                  rw [fillsM_lit]
                  refine wpOp_step rfl (fun K hK => ?_)
                  split
                  · next hw => exact absurd (hw.symm.trans (show _ = false from (by rw [same_upd e4]; kernel_rfl))) (by decide)
                  · next hw => clear hw; refine hK _ _ ?_; exact MInv.next (i := 9) hls hM hu (v := mirV false n c k m g k1 (rankOf n c k) (rankOf n c m) 9) rfl (by rw [same_upd e4]; kernel_rfl)
                · have hdep : l.getD 4 false = true := (by simp [Region.binds] at hp2; simp [hp2])
                  have e4 := hu 4 (by decide) hdep
                  simp only [mirV] at e4
                  rw [fillsM_lit]
                  refine wpOp_step rfl (fun K hK => ?_)
                  split
                  · next hw => exact absurd (hw.symm.trans (show _ = false from (by rw [same_upd e4]; kernel_rfl))) (by decide)
                  · next hw => clear hw; refine hK _ _ ?_; exact MInv.next (i := 10) hls hM hu (v := mirV false n c k m g k1 (rankOf n c k) (rankOf n c m) 10) rfl (by rw [same_upd e4]; kernel_rfl)
                · have hdep : l.getD 4 false = true := (by simp [Region.binds] at hp2; simp [hp2])
                  have e4 := hu 4 (by decide) hdep
                  simp only [mirV] at e4
                  rw [fillsM_lit]
                  refine wpOp_step rfl (fun K hK => ?_)
                  split
                  · next hw => exact absurd (hw.symm.trans (show _ = false from (by rw [same_upd e4]; kernel_rfl))) (by decide)
                  · next hw => clear hw; refine hK _ _ ?_; exact MInv.next (i := 11) hls hM hu (v := mirV false n c k m g k1 (rankOf n c k) (rankOf n c m) 11) rfl (by rw [same_upd e4]; kernel_rfl)
                · have hdep : l.getD 4 false = true := (by simp [Region.binds] at hp2; simp [hp2])
                  have e4 := hu 4 (by decide) hdep
                  simp only [mirV] at e4
                  rw [fillsM_lit]
                  refine wpOp_step rfl (fun K hK => ?_)
                  split
                  · next hw => exact absurd (hw.symm.trans (show _ = false from (by rw [same_upd e4]; kernel_rfl))) (by decide)
                  · next hw => clear hw; refine hK _ _ ?_; exact MInv.next (i := 12) hls hM hu (v := mirV false n c k m g k1 (rankOf n c k) (rankOf n c m) 12) rfl (by rw [same_upd e4]; kernel_rfl)
                · have hdep : l.getD 4 false = true := (by simp [Region.binds] at hp2; simp [hp2])
                  have e4 := hu 4 (by decide) hdep
                  simp only [mirV] at e4
                  rw [fillsM_lit]
                  refine wpOp_step rfl (fun K hK => ?_)
                  split
                  · next hw => exact absurd (hw.symm.trans (show _ = false from (by rw [same_upd e4]; kernel_rfl))) (by decide)
                  · next hw => clear hw; refine hK _ _ ?_; exact MInv.next (i := 13) hls hM hu (v := mirV false n c k m g k1 (rankOf n c k) (rankOf n c m) 13) rfl (by rw [same_upd e4]; kernel_rfl)
                · have hdep : l.getD 4 false = true := (by simp [Region.binds] at hp2; simp [hp2])
                  have e4 := hu 4 (by decide) hdep
                  simp only [mirV] at e4
                  rw [fillsM_lit]
                  refine wpOp_step rfl (fun K hK => ?_)
                  go_simp
                  refine hK _ _ ?_
                  exact MInv.next (i := 14) hls hM hu (v := mirV false n c k m g k1 (rankOf n c k) (rankOf n c m) 14) rfl (by rw [same_upd e4]; kernel_rfl)
              case hq =>
                rintro l A w3 ⟨hls, hM, u, rfl, hu⟩ hr
                unfold Region.ready at hr
                rw [List.filter_eq_nil_iff] at hr
                have r0 := hr 0 (List.mem_range.2 (by decide))
                have r1 := hr 1 (List.mem_range.2 (by decide))
                have r2 := hr 2 (List.mem_range.2 (by decide))
                have r3 := hr 3 (List.mem_range.2 (by decide))
                have r4 := hr 4 (List.mem_range.2 (by decide))
                have r5 := hr 5 (List.mem_range.2 (by decide))
                have r6 := hr 6 (List.mem_range.2 (by decide))
                have r7 := hr 7 (List.mem_range.2 (by decide))
                have r8 := hr 8 (List.mem_range.2 (by decide))
                have r9 := hr 9 (List.mem_range.2 (by decide))
                have r10 := hr 10 (List.mem_range.2 (by decide))
                have r11 := hr 11 (List.mem_range.2 (by decide))
                have r12 := hr 12 (List.mem_range.2 (by decide))
                have r13 := hr 13 (List.mem_range.2 (by decide))
                have r14 := hr 14 (List.mem_range.2 (by decide))
                clear hr
                simp only [List.getElem?_toArray, List.getElem?_cons_zero, List.getElem?_cons_succ, Option.map_some, Option.getD_some, Region.binds] at r0 r1 r2 r3 r4 r5 r6 r7 r8 r9 r10 r11 r12 r13 r14
                simp at r0 r1 r2 r3 r4 r5 r6 r7 r8 r9 r10 r11 r12 r13 r14
                have no : ∀ {x : Bool}, x = true → x = false → False := fun h h' => by rw [h] at h'; cases h'
                have up : ∀ j, j < 15 → (l[j]?.getD true = false → False) → l[j]?.getD false = true := fun j hj h => by
                  have h1 : l[j]?.getD true = true := by
                    cases e : l[j]?.getD true
                    · exact (h e).elim
                    · rfl
                  rw [Array.getElem?_eq_getElem (by omega)] at h1 ⊢
                  exact h1
                have f0 := up 0 (by decide) (no r0)
                have f1 := up 1 (by decide) (no r1)
                have f2 := up 2 (by decide) (no r2)
                simp [f0, f1, f2] at r3
                have f3 := up 3 (by decide) (no r3)
                simp [f3] at r4
                have f4 := up 4 (by decide) (no r4)
                simp [f4] at r5
                have f5 := up 5 (by decide) (no r5)
                simp [f4] at r6
                have f6 := up 6 (by decide) (no r6)
                simp [f4, f5, f6] at r7
                have f7 := up 7 (by decide) (no r7)
                simp [f4, f7] at r8
                have f8 := up 8 (by decide) (no r8)
                simp [f4] at r9
                have f9 := up 9 (by decide) (no r9)
                simp [f4] at r10
                have f10 := up 10 (by decide) (no r10)
                simp [f4, f9, f10] at r11
                have f11 := up 11 (by decide) (no r11)
                simp [f4, f11] at r12
                have f12 := up 12 (by decide) (no r12)
                simp [f4, f8, f12] at r13
                have f13 := up 13 (by decide) (no r13)
                simp [f4, f13] at r14
                have f14 := up 14 (by decide) (no r14)
                have e14 := hu 14 (by decide) (by rw [Array.getD_eq_getD_getElem?]; exact f14)
                simp only [mirV] at e14
                clear hu hls r0 f0 r1 f1 r2 f2 r3 f3 r4 f4 r5 f5 r6 f6 r7 f7 r8 f8 r9 f9 r10 f10 r11 f11 r12 f12 r13 f13 r14 f14 no up
                rw [fillsM_lit, e14]
                generalize u 0 = y0
                generalize u 1 = y1
                generalize u 2 = y2
                generalize u 3 = y3
                generalize u 4 = y4
                generalize u 5 = y5
                generalize u 6 = y6
                generalize u 7 = y7
                generalize u 8 = y8
                generalize u 9 = y9
                generalize u 10 = y10
                generalize u 11 = y11
                generalize u 12 = y12
                generalize u 13 = y13
                clear e14 u
                have hN := Lib.hid hM
                clear hM
                go_wp2_with fail
                go_roundw
                case rel => exact ⟨m + 1, by omega, by go_num, hN.out⟩
                case measure => simp [intOf]; omega
            · have Hb := Lib.hid hb
              have hlt : ¬ rankOf n c m ≤ rankOf n c k := (by
                have := len_less HSt hmn (rev_at.2 ⟨hkn, hmn, hb⟩)
                unfold rankOf
                omega)
              have HLT := Lib.hid hlt
              clear hb hlt
              have hF : ∀ w', MirR w n a c C (.slice (some ⟨g, 0, none⟩) n k1) (.slice A2 R k2) (listed n (rankOf n c)) ls w' → (w'.cell? ⟨C, 0, none⟩ = some (.int .i64 (n : Int)) ∧ w'.cell? ⟨C, 1, none⟩ = some (.int .u16 (c 0 : Nat)) ∧ w'.cell? ⟨C, 2, none⟩ = some (.int .u16 (c 1 : Nat)) ∧ w'.cell? ⟨C, 3, none⟩ = some (.int .u16 (c 2 : Nat)) ∧ w'.cell? ⟨C, 4, none⟩ = some (.int .u16 (c 3 : Nat)) ∧ w'.cell? ⟨C, 5, none⟩ = some (.int .u16 (c 4 : Nat)) ∧ w'.cell? ⟨C, 6, none⟩ = some (.int .u16 (c 5 : Nat)) ∧ w'.cell? ⟨C, 7, none⟩ = some (.int .u16 (c 6 : Nat)) ∧ w'.cell? ⟨C, 8, none⟩ = some (.int .u16 (c 7 : Nat)) ∧ w'.cell? ⟨C, 9, none⟩ = some (.int .u16 (c 8 : Nat)) ∧ w'.cell? ⟨C, 10, none⟩ = some (.int .u16 (c 9 : Nat)) ∧ w'.cell? ⟨C, 11, none⟩ = some (.int .u16 (c 10 : Nat)) ∧ w'.cell? ⟨C, 12, none⟩ = some (.int .u16 (c 11 : Nat)) ∧ w'.cell? ⟨g, k, none⟩ = some (.int .i64 (rankOf n c k)) ∧ w'.cell? ⟨g, m, none⟩ = some (.int .i64 (rankOf n c m)) ∧ MirR w n a c C (.slice (some ⟨g, 0, none⟩) n k1) (.slice A2 R k2) (listed n (rankOf n c)) ls w') := fun w' h => by
                obtain ⟨q1, q2, q3, q4, q5, q6, q7, q8, q9, q10, q11, q12⟩ := h.two.two.rows
                have z1 := h.rk.cells (listed_len n _) hkn
                have z2 := h.rk.cells (listed_len n _) hmn
                rw [listed_at hkn] at z1
                rw [listed_at hmn] at z2
                exact ⟨h.two.two.size, q1, q2, q3, q4, q5, q6, q7, q8, q9, q10, q11, q12, z1, z2, h⟩
              have HF := Lib.hid hF
              clear hF d0 d1 d2 d3 d4 d5 d6 d7 d8 d9 d10 d11 d12
              go_wp2_with fail
              have s1 : ¬ rankOf n c m ≤ rankOf n c k := by have := HLT.out; omega
              have i1 : (0 : Int) ≤ (k : Int) := by omega
              have i2 : (k : Int) < (n : Int) := by omega
              have i3 : (0 : Int) ≤ (m : Int) := by omega
              have i4 : (m : Int) < (n : Int) := by omega
              go_region_held3 (fun w' => w'.cell? ⟨C, 0, none⟩ = some (.int .i64 (n : Int)) ∧ w'.cell? ⟨C, 1, none⟩ = some (.int .u16 (c 0 : Nat)) ∧ w'.cell? ⟨C, 2, none⟩ = some (.int .u16 (c 1 : Nat)) ∧ w'.cell? ⟨C, 3, none⟩ = some (.int .u16 (c 2 : Nat)) ∧ w'.cell? ⟨C, 4, none⟩ = some (.int .u16 (c 3 : Nat)) ∧ w'.cell? ⟨C, 5, none⟩ = some (.int .u16 (c 4 : Nat)) ∧ w'.cell? ⟨C, 6, none⟩ = some (.int .u16 (c 5 : Nat)) ∧ w'.cell? ⟨C, 7, none⟩ = some (.int .u16 (c 6 : Nat)) ∧ w'.cell? ⟨C, 8, none⟩ = some (.int .u16 (c 7 : Nat)) ∧ w'.cell? ⟨C, 9, none⟩ = some (.int .u16 (c 8 : Nat)) ∧ w'.cell? ⟨C, 10, none⟩ = some (.int .u16 (c 9 : Nat)) ∧ w'.cell? ⟨C, 11, none⟩ = some (.int .u16 (c 10 : Nat)) ∧ w'.cell? ⟨C, 12, none⟩ = some (.int .u16 (c 11 : Nat)) ∧ w'.cell? ⟨g, k, none⟩ = some (.int .i64 (rankOf n c k)) ∧ w'.cell? ⟨g, m, none⟩ = some (.int .i64 (rankOf n c m)) ∧ MirR w n a c C (.slice (some ⟨g, 0, none⟩) n k1) (.slice A2 R k2) (listed n (rankOf n c)) ls w') ((refine HF.out _ ?_; first | exact HR.out | exact HD.out | exact hN.out | exact (hN.out).next (Below.refl _ _).drew)) (first
                | (go_at_call 26; refine (ahead_yes n c k m _ hk12 hm15 Hb.out).mono ?_; rintro e w' ⟨rfl, hb'⟩; have hN := Lib.hid ((HD.out).next hb'); clear hb'))
              have s5 : decide (rankOf n c m ≤ rankOf n c k) = false := decide_eq_false (by omega)
              rw [s5]
              clear s1 s5 i1 i2 i3 i4
              go_wp2_with fail
              go_roundw
              case rel => exact ⟨m + 1, by omega, by go_num, hN.out⟩
              case measure => simp [intOf]; omega
          · have hmn' : m = n := by omega
            subst hmn'
            have H := Lib.hid hR
            clear hR
            go_wp2_with fail
            go_roundw
            case rel => exact ⟨k + 1, by omega, by go_num, congrArg (Value.int .i64) HST.out.1, H.out⟩
            case measure => simp [intOf]; omega
    · have hkn' : k = n := by omega
      subst hkn'
      have c0 := hR.two.one.size
      have H := Lib.hid hR
      clear hR
      go_wp2_with fail
      clear c0
      have hbo := HS.out.2.2.1
      rw [← hbo]
      clear hbo
      obtain ⟨wo, rfl⟩ : ∃ wo : World, wo = wr := ⟨_, rfl⟩
      go_loopw [13] (fun i wz => ∃ t : Nat, i = .int .i64 ((t : Int) + 1) ∧ t ≤ 12 ∧ MirR w k a c C (.slice A1 k k1) (.slice A2 R k2) (listed k (rankOf k c)) ls wz) (fun i _ => 14 - (intOf i).toNat)
      case atStart => exact ⟨0, rfl, by omega, H.out⟩
      case round =>
        clear H
        obtain ⟨t, rfl, ht, hR⟩ := hrel
        by_cases htR : (t : Int) + 1 < (R : Int)
        · have hlen := HS.out.2.1.length
          obtain ⟨p, q, hp, hq, e1, e2, hpq⟩ := HS.out.2.1.next t (by omega)
          obtain ⟨g2, rfl, -⟩ := hR.rl.at_ hlen (by omega)
          obtain ⟨P, hP⟩ : ∃ P : Int, P = p := ⟨_, rfl⟩
          obtain ⟨Q, hQ⟩ : ∃ Q : Int, Q = q := ⟨_, rfl⟩
          have hAh : ∀ w, Calls Tryd.prog 26 #[relV k c, .int .i64 P, .int .i64 Q] w fun e w' => e = .returned (.bool true) ∧ Below w.heap.size w w' := fun w => by
            rw [hP, hQ]
            exact ahead_yes k c p q w (by omega) (by omega) hpq
          have hF : ∀ w', MirR w k a c C (.slice A1 k k1) (.slice (some ⟨g2, 0, none⟩) R k2) (listed k (rankOf k c)) ls w' → (w'.cell? ⟨C, 0, none⟩ = some (.int .i64 (k : Int)) ∧ w'.cell? ⟨C, 1, none⟩ = some (.int .u16 (c 0 : Nat)) ∧ w'.cell? ⟨C, 2, none⟩ = some (.int .u16 (c 1 : Nat)) ∧ w'.cell? ⟨C, 3, none⟩ = some (.int .u16 (c 2 : Nat)) ∧ w'.cell? ⟨C, 4, none⟩ = some (.int .u16 (c 3 : Nat)) ∧ w'.cell? ⟨C, 5, none⟩ = some (.int .u16 (c 4 : Nat)) ∧ w'.cell? ⟨C, 6, none⟩ = some (.int .u16 (c 5 : Nat)) ∧ w'.cell? ⟨C, 7, none⟩ = some (.int .u16 (c 6 : Nat)) ∧ w'.cell? ⟨C, 8, none⟩ = some (.int .u16 (c 7 : Nat)) ∧ w'.cell? ⟨C, 9, none⟩ = some (.int .u16 (c 8 : Nat)) ∧ w'.cell? ⟨C, 10, none⟩ = some (.int .u16 (c 9 : Nat)) ∧ w'.cell? ⟨C, 11, none⟩ = some (.int .u16 (c 10 : Nat)) ∧ w'.cell? ⟨C, 12, none⟩ = some (.int .u16 (c 11 : Nat)) ∧ w'.cell? ⟨w.heap.size, 0, none⟩ = some (.int .i64 (k : Int)) ∧ w'.cell? ⟨g2, t, none⟩ = some (.int .i64 P) ∧ w'.cell? ⟨g2, t + 1, none⟩ = some (.int .i64 Q) ∧ MirR w k a c C (.slice A1 k k1) (.slice (some ⟨g2, 0, none⟩) R k2) (listed k (rankOf k c)) ls w') := fun w' h => by
            obtain ⟨q1, q2, q3, q4, q5, q6, q7, q8, q9, q10, q11, q12⟩ := h.two.two.rows
            have z1 := h.rl.cells hlen (show t < R by omega)
            have z2 := h.rl.cells hlen (show t + 1 < R by omega)
            rw [e1, ← hP] at z1
            rw [e2, ← hQ] at z2
            exact ⟨h.two.two.size, q1, q2, q3, q4, q5, q6, q7, q8, q9, q10, q11, q12, h.two.one.size, z1, z2, h⟩
          have p1 : ¬ P < 0 := by omega
          have p2 : ¬ Q < 0 := by omega
          have p3 : ¬ (k : Int) ≤ P := by omega
          have p4 : ¬ (k : Int) ≤ Q := by omega
          have HTR := Lib.hid htR
          have HF := Lib.hid hF
          have HR := Lib.hid hR
          have HA := Lib.hid hAh
          have HD := Lib.hid (hR.next (Below.refl _ _).drew)
          have HPP := Lib.hid (And.intro p1 (And.intro p2 (And.intro p3 p4)))
          clear hF hR hAh hP hQ e1 e2 hpq hp hq hlen p1 p2 p3 p4
          go_wp2_with fail
          obtain ⟨p1, p2, p3, p4⟩ := HPP.out
          have s1 : ¬ P < 0 := by omega
          have s2 : ¬ Q < 0 := by omega
          have s3 : ¬ (k : Int) ≤ P := by omega
          have s4 : ¬ (k : Int) ≤ Q := by omega
          clear p1 p2 p3 p4
          have i0 := HTR.out
          have i1 : (0 : Int) ≤ (t : Int) := by omega
          have i2 : (t : Int) < (R : Int) := by omega
          have i3 : (0 : Int) ≤ (t : Int) + 1 := by omega
          have w1 : IntKind.i64.wrap (t : Int) = (t : Int) := (by rw [IntKind.wrap_i64]; omega)
          have w2 : IntKind.i64.wrap ((t : Int) + 1 - 1) = (t : Int) := (by rw [Int.add_sub_cancel]; exact w1)
          have w3 : wrap64 ((t : Int) + 1 - 1) = (t : Int) := (by unfold wrap64; omega)
          have w4 : wrap64 (t : Int) = (t : Int) := (by unfold wrap64; omega)
          go_region_held3 (fun w' => w'.cell? ⟨C, 0, none⟩ = some (.int .i64 (k : Int)) ∧ w'.cell? ⟨C, 1, none⟩ = some (.int .u16 (c 0 : Nat)) ∧ w'.cell? ⟨C, 2, none⟩ = some (.int .u16 (c 1 : Nat)) ∧ w'.cell? ⟨C, 3, none⟩ = some (.int .u16 (c 2 : Nat)) ∧ w'.cell? ⟨C, 4, none⟩ = some (.int .u16 (c 3 : Nat)) ∧ w'.cell? ⟨C, 5, none⟩ = some (.int .u16 (c 4 : Nat)) ∧ w'.cell? ⟨C, 6, none⟩ = some (.int .u16 (c 5 : Nat)) ∧ w'.cell? ⟨C, 7, none⟩ = some (.int .u16 (c 6 : Nat)) ∧ w'.cell? ⟨C, 8, none⟩ = some (.int .u16 (c 7 : Nat)) ∧ w'.cell? ⟨C, 9, none⟩ = some (.int .u16 (c 8 : Nat)) ∧ w'.cell? ⟨C, 10, none⟩ = some (.int .u16 (c 9 : Nat)) ∧ w'.cell? ⟨C, 11, none⟩ = some (.int .u16 (c 10 : Nat)) ∧ w'.cell? ⟨C, 12, none⟩ = some (.int .u16 (c 11 : Nat)) ∧ w'.cell? ⟨w.heap.size, 0, none⟩ = some (.int .i64 (k : Int)) ∧ w'.cell? ⟨g2, t, none⟩ = some (.int .i64 P) ∧ w'.cell? ⟨g2, t + 1, none⟩ = some (.int .i64 Q) ∧ MirR w k a c C (.slice A1 k k1) (.slice (some ⟨g2, 0, none⟩) R k2) (listed k (rankOf k c)) ls w') ((refine HF.out _ ?_; first | exact HR.out | exact HD.out | exact hN.out | exact (hN.out).next (Below.refl _ _).drew)) (first
            | (go_at_call 26; refine (HA.out _).mono ?_; rintro e w' ⟨rfl, hb'⟩; have hN := Lib.hid ((HD.out).next hb'); clear hb'))
          clear s1 s2 s3 s4 i0 i1 i2 i3 w1 w2 w3 w4
          go_wp2_with fail
          go_roundw
          case rel => exact ⟨t + 1, by go_num, by omega, hN.out⟩
          case measure => simp [intOf]; omega
        · have H := Lib.hid hR
          clear hR
          have hz : ((R : Int) == (R : Int) - 1 + 1) = true := (by rw [beq_iff_eq]; omega)
          go_wp2_with fail
          go_ret
          exact ⟨rfl, H.out.two.below⟩

theorem mir_all (n : Int) (a : Nat → Nat) (w : World) (ha : ∀ i, a i < 65536) (hT : Tab w) (hpos : 0 < w.heap.size) :
    Calls Tryd.prog 8 #[relV n a] w fun e w' => e = .returned (.bool true) ∧ Below w.heap.size w w' := by
  rcases check_ways n a ha with ⟨E, hE, _, hc⟩ | ⟨m, rfl, h⟩
  · exact mir_err n a 0 (fun _ => 0) false E E w hE (fails_check hE hc) (fun w => close_err n a E w hE hc) hT hpos
  · cases hy : cyc (clo m a) m with
    | true => exact mir_err m a m (clo m a) true 4 0 w rfl (fails_round h hy) (fun w => close_yes m a w h hy) hT hpos
    | false => exact mir_no m a w h hy hT hpos
end Go.Proofs.YtbcgjebdodaaoaaDoor
