/-
  Joined by a program out of: LinKeyC.
-/
import Derived.Test.YtfgangkpebkicaaDoorMgAK
import Derived.Test.YtfgangkpebkicaaDoorMgAL
import Derived.Lib.ItoaLen

/-
  Contract of (*point).key.
-/
namespace Go.Proofs.YtfgangkpebkicaaDoor
open Go.RowKit
set_option maxRecDepth 20000
theorem rowB8_len : ∀ (l : List Int), (∀ x, x ∈ l → -1000000 ≤ x ∧ x ≤ 1000000) → (rowB8 l).length ≤ 22 * l.length
  | [], _ => Nat.le_refl _
  | y :: r, h => by
    have h1 := rowB8_len r (fun x hx => h x (List.mem_cons_of_mem _ hx))
    have h2 := h y (List.mem_cons_self ..)
    have h3 := Lib.itoa_length_le y (by omega) (by omega)
    rw [rowB8, List.length_cons, List.length_append, List.length_cons]
    omega
theorem rowsB8_len {st : Nat → List Int} (h : ∀ i, i < 4 → (st i).length ≤ 50 ∧ ∀ x, x ∈ st i → -1000000 ≤ x ∧ x ≤ 1000000) : ∀ m, m ≤ 4 → (rowsB8 st m).length ≤ 1101 * m
  | 0, _ => Nat.le_refl _
  | m + 1, hm => by
    have h1 := rowsB8_len h m (by omega)
    have h2 := rowB8_len (st m) (h m (by omega)).2
    have h3 := (h m (by omega)).1
    rw [rowsB8, List.length_append, List.length_cons]
    omega
theorem dec_len {d : Nat} (hd : d < 65536) : (Lib.decDigits d).length ≤ 21 := by
  rw [← Lib.itoa_nonneg]
  exact Lib.itoa_length_le _ (by omega) (by omega)
theorem rowB8_take {l : List Int} {j : Nat} {x : Int} (h : l[j]? = some x) : rowB8 (l.take (j + 1)) = rowB8 (l.take j) ++ 32 :: Lib.itoa x := by
  rw [List.take_add_one, h]
  exact rowB8_snoc _ _
theorem byte_59 (W : World) : (W.alloc (.cells #[.int .u8 59] 5)).cell? ⟨W.heap.size, 0, none⟩ = some (.int .u8 ((59 : UInt8).toNat : Int)) := Lies.cell (Lies.new W 5 #[.int .u8 59]) 0
theorem byte_32 (W : World) : (W.alloc (.cells #[.int .u8 32] 5)).cell? ⟨W.heap.size, 0, none⟩ = some (.int .u8 ((32 : UInt8).toNat : Int)) := Lies.cell (Lies.new W 5 #[.int .u8 32]) 0
theorem idx_0 (a b c e : Value) (w : World) : (Instr.index 115 (.agg #[a, b, c, e]) (.int .i64 0)).run Tryd.prog w = .ok a w := by kernel_rfl
theorem idx_1 (a b c e : Value) (w : World) : (Instr.index 115 (.agg #[a, b, c, e]) (.int .i64 1)).run Tryd.prog w = .ok b w := by kernel_rfl
theorem idx_2 (a b c e : Value) (w : World) : (Instr.index 115 (.agg #[a, b, c, e]) (.int .i64 2)).run Tryd.prog w = .ok c w := by kernel_rfl
theorem idx_3 (a b c e : Value) (w : World) : (Instr.index 115 (.agg #[a, b, c, e]) (.int .i64 3)).run Tryd.prog w = .ok e w := by kernel_rfl
set_option maxHeartbeats 8000000 in
theorem key_core {w : World} {g d : Nat} {st : Nat → List Int} (B0 B1 B2 B3 : Option Addr) (k0 k1 k2 k3 : Nat) (hp : PtB w g d (four (.slice B0 (st 0).length k0) (.slice B1 (st 1).length k1) (.slice B2 (st 2).length k2) (.slice B3 (st 3).length k3))) (hd : d < 65536)
    (hs : ∀ i, i < 4 → NRd w w.heap.size ((four (.slice B0 (st 0).length k0) (.slice B1 (st 1).length k1) (.slice B2 (st 2).length k2) (.slice B3 (st 3).length k3)) i) (st i)) (hst : ∀ i, i < 4 → (st i).length ≤ 50 ∧ ∀ x, x ∈ st i → -1000000 ≤ x ∧ x ≤ 1000000) (ht : Pow10 w.heap.size w) :
    Calls Tryd.prog 74 #[.pointer (some ⟨g, 0, none⟩)] w fun e w' => e = .returned (.string ⟨(keyB ⟨d, st⟩).toArray⟩) ∧ Below w.heap.size w w' := by
  have d0 : w.cell? ⟨g, 0, none⟩ = some (.int .u16 (d : Nat)) := hp.cells.1
  have hcv : IntKind.u64.wrap (d : Int) = (d : Int) := by
    have : (d : Int) < 65536 := by omega
    unfold IntKind.wrap
    simp [IntKind.bits, IntKind.signed]
    omega
  have HP := Lib.hid hp
  have HS := Lib.hid hs
  have HT := Lib.hid ht
  have HST := Lib.hid hst
  have HCV := Lib.hid hcv
  have hd16 : (d : Int) < 65536 := by omega
  clear hp hs hst ht hcv
  go_enter Tryd.func74, Tryd.ntmps74
  go_wp2_with fail
  refine (appuint_any d (by omega) (BOwn.nil w w.heap.size) (Nat.le_refl _) (by simp) HT.out).mono ?_
  rintro e w1 ⟨v1, rfl, ho1, hb1⟩
  have hp1 : PtB w1 g d (four (.slice B0 (st 0).length k0) (.slice B1 (st 1).length k1) (.slice B2 (st 2).length k2) (.slice B3 (st 3).length k3)) := Lies.below HP.out hb1 HP.out.lt
  have p1 : w1.cell? ⟨g, 1, none⟩ = some (.slice B0 (st 0).length k0) := hp1.cells.2.1
  have p2 : w1.cell? ⟨g, 2, none⟩ = some (.slice B1 (st 1).length k1) := hp1.cells.2.2.1
  have p3 : w1.cell? ⟨g, 3, none⟩ = some (.slice B2 (st 2).length k2) := hp1.cells.2.2.2.1
  have p4 : w1.cell? ⟨g, 4, none⟩ = some (.slice B3 (st 3).length k3) := hp1.cells.2.2.2.2
  have HK := Lib.hid (And.intro ho1 hb1)
  clear hp1 ho1 hb1 d0 hd16
  go_wp2_with fail
  have hK := HK.out
  clear HK p1 p2 p3 p4
  go_loopw [3, 18] (fun v t wr => ∃ i : Nat, i ≤ 4 ∧ t = .int .i64 i ∧ BOwn wr w.heap.size v (Lib.decDigits d ++ rowsB8 st i) ∧ Below w.heap.size w wr) (fun _ t _ => 4 - (intOf t).toNat)
  case atStart => exact ⟨0, by omega, rfl, by simpa [rowsB8] using hK.1, hK.2⟩
  case round =>
    clear hK
    obtain ⟨i, hi, rfl, ho, hb⟩ := hrel
    by_cases hi4 : i < 4
    · have hln : (Lib.decDigits d ++ rowsB8 st i).length ≤ 5000 := by
        have h1 := dec_len hd
        have h2 := rowsB8_len HST.out i (by omega)
        rw [List.length_append]
        omega
      have hend : Lib.decDigits d ++ rowsB8 st (i + 1) = (Lib.decDigits d ++ rowsB8 st i) ++ 59 :: rowB8 (st i) := by rw [rowsB8, List.append_assoc]
      generalize Lib.decDigits d ++ rowsB8 st i = pre at ho hln hend
      have HE := Lib.hid hend
      have HO := Lib.hid (And.intro ho hb)
      have HLN := Lib.hid hln
      have HI := Lib.hid (HST.out i hi4)
      clear ho hb hln hend hi
      rcases nat4 hi4 with rfl | rfl | rfl | rfl
      · have hsi : NRd w w.heap.size (.slice B0 (st 0).length k0) (st 0) := HS.out 0 (by omega)
        obtain ⟨L, hL⟩ : ∃ L, L = (st 0).length := ⟨_, rfl⟩
        have HSI := Lib.hid (And.intro hsi hL)
        clear hsi
        rw [← hL]
        clear hL
        have hL50 : L ≤ 50 := by have h1 := HI.out.1; have h2 := HSI.out.2; omega
        have hix := idx_0
        go_wp2_with (at_builtin; refine wpList_app_byte rfl (.tmp 21) (.tmp 22) rfl w.heap.size wr.heap.size _ _ 59 rfl rfl (BOwn.below HO.out.1 ((Below.refl _ _).alloc (Nat.le_refl _) _)) (byte_59 wr) (Nat.le_trans HLN.out (by decide)) (Nat.le_trans HO.out.2.size (by simp)) ?_; intro v5 w5 ho5 hb5; have HN := Lib.hid (And.intro ho5 (((HO.out.2.alloc HO.out.2.size _)).trans hb5)); clear ho5 hb5)
        clear hix
        have hN := HN.out
        clear HN HO
        go_loopw [3, 26] (fun v t wr => ∃ j : Nat, j ≤ L ∧ t = .int .i64 j ∧ BOwn wr w.heap.size v (pre ++ 59 :: rowB8 ((st 0).take j)) ∧ Below w.heap.size w wr) (fun _ t _ => L - (intOf t).toNat)
        case atStart => exact ⟨0, by omega, rfl, by simpa [rowB8] using hN.1, hN.2⟩
        case round =>
          clear hN
          obtain ⟨j, hj, rfl, ho, hb⟩ := hrel
          by_cases hjL : j < L
          · obtain ⟨x, hx⟩ : ∃ x, (st 0)[j]? = some x := ⟨_, List.getElem?_eq_getElem (by rw [← HSI.out.2]; exact hjL)⟩
            have hsi := HSI.out.1.below hb
            rw [← HSI.out.2] at hsi
            obtain ⟨g', o', hA, -, d1⟩ := hsi.num hx
            have hxr := HI.out.2 x (List.mem_of_getElem? hx)
            have htk := rowB8_take hx
            have hlr : (pre ++ 59 :: rowB8 ((st 0).take j)).length ≤ 65000 := by
              have h1 := HLN.out
              have h2 := rowB8_len ((st 0).take j) (fun y hy => HI.out.2 y (List.mem_of_mem_take hy))
              have h3 := HI.out.1
              rw [List.length_append, List.length_cons]
              rw [List.length_take] at h2
              omega
            have j1 : (0 : Int) ≤ (j : Int) := by omega
            have j2 : (j : Int) < (L : Int) := by omega
            subst hA
            have HTK := Lib.hid (And.intro htk (And.intro hlr hxr))
            have HO := Lib.hid (And.intro ho hb)
            clear ho hb hsi hx htk hlr hxr
            go_wp2_with (at_builtin; refine wpList_app_byte rfl (.tmp 30) (.tmp 31) rfl w.heap.size wr.heap.size _ _ 32 rfl rfl (BOwn.below HO.out.1 ((Below.refl _ _).alloc (Nat.le_refl _) _)) (byte_32 wr) (Nat.le_trans HTK.out.2.1 (by decide)) (Nat.le_trans HO.out.2.size (by simp)) ?_; intro v5 w5 ho5 hb5; have HN := Lib.hid (And.intro ho5 (((HO.out.2.alloc HO.out.2.size _)).trans hb5)); clear ho5 hb5)
            refine (appint_any x (by have := HTK.out.2.2; omega) (by have := HTK.out.2.2; omega) HN.out.1 HN.out.2.size (by have := HTK.out.2.1; rw [List.length_append]; simp only [List.length_cons, List.length_nil]; omega) (HT.out.on HN.out.2)).mono ?_
            rintro e w6 ⟨v6, rfl, ho6, hb6⟩
            have HM := Lib.hid (And.intro ho6 (HN.out.2.trans hb6))
            clear ho6 hb6 HN
            go_wp2_with fail
            go_roundw
            case rel => exact ⟨j + 1, by omega, by go_num, by rw [HTK.out.1]; have := HM.out.1; simpa using this, HM.out.2⟩
            case measure => simp [intOf]; omega
          · obtain rfl : L = j := by omega
            rw [show (st 0).take L = st 0 by rw [HSI.out.2, List.take_length]] at ho
            have HM := Lib.hid (And.intro ho hb)
            clear ho hb
            go_wp2_with fail
            go_roundw
            case rel => exact ⟨0 + 1, by omega, by go_num, by rw [HE.out]; exact HM.out.1, HM.out.2⟩
            case measure => simp [intOf]
      · have hsi : NRd w w.heap.size (.slice B1 (st 1).length k1) (st 1) := HS.out 1 (by omega)
        obtain ⟨L, hL⟩ : ∃ L, L = (st 1).length := ⟨_, rfl⟩
        have HSI := Lib.hid (And.intro hsi hL)
        clear hsi
        rw [← hL]
        clear hL
        have hL50 : L ≤ 50 := by have h1 := HI.out.1; have h2 := HSI.out.2; omega
        have hix := idx_1
        go_wp2_with (at_builtin; refine wpList_app_byte rfl (.tmp 21) (.tmp 22) rfl w.heap.size wr.heap.size _ _ 59 rfl rfl (BOwn.below HO.out.1 ((Below.refl _ _).alloc (Nat.le_refl _) _)) (byte_59 wr) (Nat.le_trans HLN.out (by decide)) (Nat.le_trans HO.out.2.size (by simp)) ?_; intro v5 w5 ho5 hb5; have HN := Lib.hid (And.intro ho5 (((HO.out.2.alloc HO.out.2.size _)).trans hb5)); clear ho5 hb5)
        clear hix
        have hN := HN.out
        clear HN HO
        go_loopw [3, 26] (fun v t wr => ∃ j : Nat, j ≤ L ∧ t = .int .i64 j ∧ BOwn wr w.heap.size v (pre ++ 59 :: rowB8 ((st 1).take j)) ∧ Below w.heap.size w wr) (fun _ t _ => L - (intOf t).toNat)
        case atStart => exact ⟨0, by omega, rfl, by simpa [rowB8] using hN.1, hN.2⟩
        case round =>
          clear hN
          obtain ⟨j, hj, rfl, ho, hb⟩ := hrel
          by_cases hjL : j < L
          · obtain ⟨x, hx⟩ : ∃ x, (st 1)[j]? = some x := ⟨_, List.getElem?_eq_getElem (by rw [← HSI.out.2]; exact hjL)⟩
            have hsi := HSI.out.1.below hb
            rw [← HSI.out.2] at hsi
            obtain ⟨g', o', hA, -, d1⟩ := hsi.num hx
            have hxr := HI.out.2 x (List.mem_of_getElem? hx)
            have htk := rowB8_take hx
            have hlr : (pre ++ 59 :: rowB8 ((st 1).take j)).length ≤ 65000 := by
              have h1 := HLN.out
              have h2 := rowB8_len ((st 1).take j) (fun y hy => HI.out.2 y (List.mem_of_mem_take hy))
              have h3 := HI.out.1
              rw [List.length_append, List.length_cons]
              rw [List.length_take] at h2
              omega
            have j1 : (0 : Int) ≤ (j : Int) := by omega
            have j2 : (j : Int) < (L : Int) := by omega
            subst hA
            have HTK := Lib.hid (And.intro htk (And.intro hlr hxr))
            have HO := Lib.hid (And.intro ho hb)
            clear ho hb hsi hx htk hlr hxr
            go_wp2_with (at_builtin; refine wpList_app_byte rfl (.tmp 30) (.tmp 31) rfl w.heap.size wr.heap.size _ _ 32 rfl rfl (BOwn.below HO.out.1 ((Below.refl _ _).alloc (Nat.le_refl _) _)) (byte_32 wr) (Nat.le_trans HTK.out.2.1 (by decide)) (Nat.le_trans HO.out.2.size (by simp)) ?_; intro v5 w5 ho5 hb5; have HN := Lib.hid (And.intro ho5 (((HO.out.2.alloc HO.out.2.size _)).trans hb5)); clear ho5 hb5)
            refine (appint_any x (by have := HTK.out.2.2; omega) (by have := HTK.out.2.2; omega) HN.out.1 HN.out.2.size (by have := HTK.out.2.1; rw [List.length_append]; simp only [List.length_cons, List.length_nil]; omega) (HT.out.on HN.out.2)).mono ?_
            rintro e w6 ⟨v6, rfl, ho6, hb6⟩
            have HM := Lib.hid (And.intro ho6 (HN.out.2.trans hb6))
            clear ho6 hb6 HN
            go_wp2_with fail
            go_roundw
            case rel => exact ⟨j + 1, by omega, by go_num, by rw [HTK.out.1]; have := HM.out.1; simpa using this, HM.out.2⟩
            case measure => simp [intOf]; omega
          · obtain rfl : L = j := by omega
            rw [show (st 1).take L = st 1 by rw [HSI.out.2, List.take_length]] at ho
            have HM := Lib.hid (And.intro ho hb)
            clear ho hb
            go_wp2_with fail
            go_roundw
            case rel => exact ⟨1 + 1, by omega, by go_num, by rw [HE.out]; exact HM.out.1, HM.out.2⟩
            case measure => simp [intOf]
      · have hsi : NRd w w.heap.size (.slice B2 (st 2).length k2) (st 2) := HS.out 2 (by omega)
        obtain ⟨L, hL⟩ : ∃ L, L = (st 2).length := ⟨_, rfl⟩
        have HSI := Lib.hid (And.intro hsi hL)
        clear hsi
        rw [← hL]
        clear hL
        have hL50 : L ≤ 50 := by have h1 := HI.out.1; have h2 := HSI.out.2; omega
        have hix := idx_2
        go_wp2_with (at_builtin; refine wpList_app_byte rfl (.tmp 21) (.tmp 22) rfl w.heap.size wr.heap.size _ _ 59 rfl rfl (BOwn.below HO.out.1 ((Below.refl _ _).alloc (Nat.le_refl _) _)) (byte_59 wr) (Nat.le_trans HLN.out (by decide)) (Nat.le_trans HO.out.2.size (by simp)) ?_; intro v5 w5 ho5 hb5; have HN := Lib.hid (And.intro ho5 (((HO.out.2.alloc HO.out.2.size _)).trans hb5)); clear ho5 hb5)
        clear hix
        have hN := HN.out
        clear HN HO
        go_loopw [3, 26] (fun v t wr => ∃ j : Nat, j ≤ L ∧ t = .int .i64 j ∧ BOwn wr w.heap.size v (pre ++ 59 :: rowB8 ((st 2).take j)) ∧ Below w.heap.size w wr) (fun _ t _ => L - (intOf t).toNat)
        case atStart => exact ⟨0, by omega, rfl, by simpa [rowB8] using hN.1, hN.2⟩
        case round =>
          clear hN
          obtain ⟨j, hj, rfl, ho, hb⟩ := hrel
          by_cases hjL : j < L
          · obtain ⟨x, hx⟩ : ∃ x, (st 2)[j]? = some x := ⟨_, List.getElem?_eq_getElem (by rw [← HSI.out.2]; exact hjL)⟩
            have hsi := HSI.out.1.below hb
            rw [← HSI.out.2] at hsi
            obtain ⟨g', o', hA, -, d1⟩ := hsi.num hx
            have hxr := HI.out.2 x (List.mem_of_getElem? hx)
            have htk := rowB8_take hx
            have hlr : (pre ++ 59 :: rowB8 ((st 2).take j)).length ≤ 65000 := by
              have h1 := HLN.out
              have h2 := rowB8_len ((st 2).take j) (fun y hy => HI.out.2 y (List.mem_of_mem_take hy))
              have h3 := HI.out.1
              rw [List.length_append, List.length_cons]
              rw [List.length_take] at h2
              omega
            have j1 : (0 : Int) ≤ (j : Int) := by omega
            have j2 : (j : Int) < (L : Int) := by omega
            subst hA
            have HTK := Lib.hid (And.intro htk (And.intro hlr hxr))
            have HO := Lib.hid (And.intro ho hb)
            clear ho hb hsi hx htk hlr hxr
            go_wp2_with (at_builtin; refine wpList_app_byte rfl (.tmp 30) (.tmp 31) rfl w.heap.size wr.heap.size _ _ 32 rfl rfl (BOwn.below HO.out.1 ((Below.refl _ _).alloc (Nat.le_refl _) _)) (byte_32 wr) (Nat.le_trans HTK.out.2.1 (by decide)) (Nat.le_trans HO.out.2.size (by simp)) ?_; intro v5 w5 ho5 hb5; have HN := Lib.hid (And.intro ho5 (((HO.out.2.alloc HO.out.2.size _)).trans hb5)); clear ho5 hb5)
            refine (appint_any x (by have := HTK.out.2.2; omega) (by have := HTK.out.2.2; omega) HN.out.1 HN.out.2.size (by have := HTK.out.2.1; rw [List.length_append]; simp only [List.length_cons, List.length_nil]; omega) (HT.out.on HN.out.2)).mono ?_
            rintro e w6 ⟨v6, rfl, ho6, hb6⟩
            have HM := Lib.hid (And.intro ho6 (HN.out.2.trans hb6))
            clear ho6 hb6 HN
            go_wp2_with fail
            go_roundw
            case rel => exact ⟨j + 1, by omega, by go_num, by rw [HTK.out.1]; have := HM.out.1; simpa using this, HM.out.2⟩
            case measure => simp [intOf]; omega
          · obtain rfl : L = j := by omega
            rw [show (st 2).take L = st 2 by rw [HSI.out.2, List.take_length]] at ho
            have HM := Lib.hid (And.intro ho hb)
            clear ho hb
            go_wp2_with fail
            go_roundw
            case rel => exact ⟨2 + 1, by omega, by go_num, by rw [HE.out]; exact HM.out.1, HM.out.2⟩
            case measure => simp [intOf]
      · have hsi : NRd w w.heap.size (.slice B3 (st 3).length k3) (st 3) := HS.out 3 (by omega)
        obtain ⟨L, hL⟩ : ∃ L, L = (st 3).length := ⟨_, rfl⟩
        have HSI := Lib.hid (And.intro hsi hL)
        clear hsi
        rw [← hL]
        clear hL
        have hL50 : L ≤ 50 := by have h1 := HI.out.1; have h2 := HSI.out.2; omega
        have hix := idx_3
        go_wp2_with (at_builtin; refine wpList_app_byte rfl (.tmp 21) (.tmp 22) rfl w.heap.size wr.heap.size _ _ 59 rfl rfl (BOwn.below HO.out.1 ((Below.refl _ _).alloc (Nat.le_refl _) _)) (byte_59 wr) (Nat.le_trans HLN.out (by decide)) (Nat.le_trans HO.out.2.size (by simp)) ?_; intro v5 w5 ho5 hb5; have HN := Lib.hid (And.intro ho5 (((HO.out.2.alloc HO.out.2.size _)).trans hb5)); clear ho5 hb5)
        clear hix
        have hN := HN.out
        clear HN HO
        go_loopw [3, 26] (fun v t wr => ∃ j : Nat, j ≤ L ∧ t = .int .i64 j ∧ BOwn wr w.heap.size v (pre ++ 59 :: rowB8 ((st 3).take j)) ∧ Below w.heap.size w wr) (fun _ t _ => L - (intOf t).toNat)
        case atStart => exact ⟨0, by omega, rfl, by simpa [rowB8] using hN.1, hN.2⟩
        case round =>
          clear hN
          obtain ⟨j, hj, rfl, ho, hb⟩ := hrel
          by_cases hjL : j < L
          · obtain ⟨x, hx⟩ : ∃ x, (st 3)[j]? = some x := ⟨_, List.getElem?_eq_getElem (by rw [← HSI.out.2]; exact hjL)⟩
            have hsi := HSI.out.1.below hb
            rw [← HSI.out.2] at hsi
            obtain ⟨g', o', hA, -, d1⟩ := hsi.num hx
            have hxr := HI.out.2 x (List.mem_of_getElem? hx)
            have htk := rowB8_take hx
            have hlr : (pre ++ 59 :: rowB8 ((st 3).take j)).length ≤ 65000 := by
              have h1 := HLN.out
              have h2 := rowB8_len ((st 3).take j) (fun y hy => HI.out.2 y (List.mem_of_mem_take hy))
              have h3 := HI.out.1
              rw [List.length_append, List.length_cons]
              rw [List.length_take] at h2
              omega
            have j1 : (0 : Int) ≤ (j : Int) := by omega
            have j2 : (j : Int) < (L : Int) := by omega
            subst hA
            have HTK := Lib.hid (And.intro htk (And.intro hlr hxr))
            have HO := Lib.hid (And.intro ho hb)
            clear ho hb hsi hx htk hlr hxr
            go_wp2_with (at_builtin; refine wpList_app_byte rfl (.tmp 30) (.tmp 31) rfl w.heap.size wr.heap.size _ _ 32 rfl rfl (BOwn.below HO.out.1 ((Below.refl _ _).alloc (Nat.le_refl _) _)) (byte_32 wr) (Nat.le_trans HTK.out.2.1 (by decide)) (Nat.le_trans HO.out.2.size (by simp)) ?_; intro v5 w5 ho5 hb5; have HN := Lib.hid (And.intro ho5 (((HO.out.2.alloc HO.out.2.size _)).trans hb5)); clear ho5 hb5)
            refine (appint_any x (by have := HTK.out.2.2; omega) (by have := HTK.out.2.2; omega) HN.out.1 HN.out.2.size (by have := HTK.out.2.1; rw [List.length_append]; simp only [List.length_cons, List.length_nil]; omega) (HT.out.on HN.out.2)).mono ?_
            rintro e w6 ⟨v6, rfl, ho6, hb6⟩
            have HM := Lib.hid (And.intro ho6 (HN.out.2.trans hb6))
            clear ho6 hb6 HN
            go_wp2_with fail
            go_roundw
            case rel => exact ⟨j + 1, by omega, by go_num, by rw [HTK.out.1]; have := HM.out.1; simpa using this, HM.out.2⟩
            case measure => simp [intOf]; omega
          · obtain rfl : L = j := by omega
            rw [show (st 3).take L = st 3 by rw [HSI.out.2, List.take_length]] at ho
            have HM := Lib.hid (And.intro ho hb)
            clear ho hb
            go_wp2_with fail
            go_roundw
            case rel => exact ⟨3 + 1, by omega, by go_num, by rw [HE.out]; exact HM.out.1, HM.out.2⟩
            case measure => simp [intOf]
    · obtain rfl : i = 4 := by omega
      have hne : Lib.decDigits d ++ rowsB8 st 4 ≠ [] := by simp [dec_ne]
      have hcs := bytes_string ho hne
      have HB := Lib.hid hb
      clear hb ho hne
      go_wp2_with fail
      go_ret
      exact ⟨rfl, HB.out⟩
end Go.Proofs.YtfgangkpebkicaaDoor
