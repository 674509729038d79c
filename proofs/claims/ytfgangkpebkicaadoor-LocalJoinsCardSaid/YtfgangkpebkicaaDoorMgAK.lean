/-
  Joined by a program out of: LinShelf, LinBytes, Pure, Answered, U16, RelMem.
-/
import Derived.Test.YtfgangkpebkicaaDoorProg
import Derived.Shelf.Strconv.AppendIntPublic10
import Derived.Test.YtfgangkpebkicaaDoorMgAJ
import Derived.Test.YtfgangkpebkicaaDoorMgAD
import Derived.Laws.IdiomStrings
import Derived.WalkKit
import Derived.Test.YtfgangkpebkicaaDoorMgAB
import Derived.Test.YtfgangkpebkicaaDoorMgAA

/-
  The library's contracts of strconv.AppendInt and AppendUint, laid at this program.
-/
namespace Go.Proofs.YtfgangkpebkicaaDoor
open Go.RowKit Go.Shelf
set_option maxRecDepth 20000
def strRen : Go.Shelf.Ren := ⟨fun | 129 => 91 | 176 => 93 | 249 => 107 | 283 => 113 | 284 => 114 | 285 => 115 | 286 => 116 | 288 => 106 | 317 => 117 | 318 => 118 | 319 => 119 | 320 => 120 | 337 => 121 | 338 => 122 | n => n,
  fun | 0 => 0 | 2 => 2 | 3 => 3 | 4 => 4 | 5 => 5 | 9 => 9 | 20 => 20 | 37 => 157 | 46 => 135 | 51 => 134 | 53 => 155 | 171 => 197 | 173 => 199 | 212 => 202 | 213 => 203 | 232 => 133 | 233 => 204 | n => n, fun | 17 => 1 | 18 => 0 | 19 => 2 | n => n⟩
theorem laysStr176 : LaysM.n176 Tryd.prog strRen := {
  mixed := by kernel_rfl
  f129 := Tryd.func91.trans (congrArg some (by kernel_rfl))
  f176 := Tryd.func93.trans (congrArg some (by kernel_rfl))
  f249 := Tryd.func107.trans (congrArg some (by kernel_rfl))
  f283 := Tryd.func113.trans (congrArg some (by kernel_rfl))
  f284 := Tryd.func114.trans (congrArg some (by kernel_rfl))
  f285 := Tryd.func115.trans (congrArg some (by kernel_rfl))
  f286 := Tryd.func116.trans (congrArg some (by kernel_rfl))
  f288 := Tryd.func106.trans (congrArg some (by kernel_rfl))
  f317 := Tryd.func117.trans (congrArg some (by kernel_rfl))
  f318 := Tryd.func118.trans (congrArg some (by kernel_rfl))
  f319 := Tryd.func119.trans (congrArg some (by kernel_rfl))
  f320 := Tryd.func120.trans (congrArg some (by kernel_rfl))
  f337 := Tryd.func121.trans (congrArg some (by kernel_rfl))
  f338 := Tryd.func122.trans (congrArg some (by kernel_rfl))
  t0 := Tryd.underlying0
  a0 := Tryd.isAgg0
  z0 := Tryd.sizeOf0
  v0 := Tryd.zeroValue0
  t2 := Tryd.underlying2
  a2 := Tryd.isAgg2
  z2 := Tryd.sizeOf2
  v2 := Tryd.zeroValue2
  t3 := Tryd.underlying3
  a3 := Tryd.isAgg3
  z3 := Tryd.sizeOf3
  v3 := Tryd.zeroValue3
  t4 := Tryd.underlying4
  a4 := Tryd.isAgg4
  z4 := Tryd.sizeOf4
  v4 := Tryd.zeroValue4
  t5 := Tryd.underlying5
  a5 := Tryd.isAgg5
  z5 := Tryd.sizeOf5
  v5 := Tryd.zeroValue5
  t9 := Tryd.underlying9
  a9 := Tryd.isAgg9
  z9 := Tryd.sizeOf9
  v9 := Tryd.zeroValue9
  t20 := Tryd.underlying20
  a20 := Tryd.isAgg20
  z20 := Tryd.sizeOf20
  v20 := Tryd.zeroValue20
  t37 := Tryd.underlying157
  a37 := Tryd.isAgg157
  z37 := Tryd.sizeOf157
  v37 := Tryd.zeroValue157
  t46 := Tryd.underlying135
  a46 := Tryd.isAgg135
  z46 := Tryd.sizeOf135
  v46 := Tryd.zeroValue135
  t51 := Tryd.underlying134
  a51 := Tryd.isAgg134
  z51 := Tryd.sizeOf134
  v51 := Tryd.zeroValue134
  t53 := Tryd.underlying155
  a53 := Tryd.isAgg155
  z53 := Tryd.sizeOf155
  v53 := Tryd.zeroValue155
  t171 := Tryd.underlying197
  a171 := Tryd.isAgg197
  z171 := Tryd.sizeOf197
  v171 := Tryd.zeroValue197
  t173 := Tryd.underlying199
  a173 := Tryd.isAgg199
  z173 := Tryd.sizeOf199
  v173 := Tryd.zeroValue199
  t212 := Tryd.underlying202
  a212 := Tryd.isAgg202
  z212 := Tryd.sizeOf202
  v212 := Tryd.zeroValue202
  t213 := Tryd.underlying203
  a213 := Tryd.isAgg203
  z213 := Tryd.sizeOf203
  t232 := Tryd.underlying133
  a232 := Tryd.isAgg133
  z232 := Tryd.sizeOf133
  v232 := Tryd.zeroValue133
  t233 := Tryd.underlying204
  a233 := Tryd.isAgg204
  z233 := Tryd.sizeOf204
  v233 := Tryd.zeroValue204
  g17 := by kernel_rfl
  g18 := by kernel_rfl
  g19 := by kernel_rfl
  i0 := by kernel_rfl
  i2 := by kernel_rfl
  i3 := by kernel_rfl
  i4 := by kernel_rfl
  i5 := by kernel_rfl
  i9 := by kernel_rfl
  i20 := by kernel_rfl
  i37 := by kernel_rfl
  i46 := by kernel_rfl
  i51 := by kernel_rfl
  i53 := by kernel_rfl
  i171 := by kernel_rfl
  i173 := by kernel_rfl
  i212 := by kernel_rfl
  i232 := by kernel_rfl
  i233 := by kernel_rfl
  m17 := by kernel_rfl
  m18 := by kernel_rfl
  m19 := by kernel_rfl
  }
theorem laysStr288 : LaysM.n288 Tryd.prog strRen := {
  mixed := by kernel_rfl
  f129 := Tryd.func91.trans (congrArg some (by kernel_rfl))
  f283 := Tryd.func113.trans (congrArg some (by kernel_rfl))
  f284 := Tryd.func114.trans (congrArg some (by kernel_rfl))
  f285 := Tryd.func115.trans (congrArg some (by kernel_rfl))
  f286 := Tryd.func116.trans (congrArg some (by kernel_rfl))
  f288 := Tryd.func106.trans (congrArg some (by kernel_rfl))
  f317 := Tryd.func117.trans (congrArg some (by kernel_rfl))
  f318 := Tryd.func118.trans (congrArg some (by kernel_rfl))
  f319 := Tryd.func119.trans (congrArg some (by kernel_rfl))
  f320 := Tryd.func120.trans (congrArg some (by kernel_rfl))
  f337 := Tryd.func121.trans (congrArg some (by kernel_rfl))
  f338 := Tryd.func122.trans (congrArg some (by kernel_rfl))
  t0 := Tryd.underlying0
  a0 := Tryd.isAgg0
  z0 := Tryd.sizeOf0
  v0 := Tryd.zeroValue0
  t3 := Tryd.underlying3
  a3 := Tryd.isAgg3
  z3 := Tryd.sizeOf3
  v3 := Tryd.zeroValue3
  t4 := Tryd.underlying4
  a4 := Tryd.isAgg4
  z4 := Tryd.sizeOf4
  v4 := Tryd.zeroValue4
  t5 := Tryd.underlying5
  a5 := Tryd.isAgg5
  z5 := Tryd.sizeOf5
  v5 := Tryd.zeroValue5
  t9 := Tryd.underlying9
  a9 := Tryd.isAgg9
  z9 := Tryd.sizeOf9
  v9 := Tryd.zeroValue9
  t20 := Tryd.underlying20
  a20 := Tryd.isAgg20
  z20 := Tryd.sizeOf20
  v20 := Tryd.zeroValue20
  t37 := Tryd.underlying157
  a37 := Tryd.isAgg157
  z37 := Tryd.sizeOf157
  v37 := Tryd.zeroValue157
  t46 := Tryd.underlying135
  a46 := Tryd.isAgg135
  z46 := Tryd.sizeOf135
  v46 := Tryd.zeroValue135
  t51 := Tryd.underlying134
  a51 := Tryd.isAgg134
  z51 := Tryd.sizeOf134
  v51 := Tryd.zeroValue134
  t53 := Tryd.underlying155
  a53 := Tryd.isAgg155
  z53 := Tryd.sizeOf155
  v53 := Tryd.zeroValue155
  t171 := Tryd.underlying197
  a171 := Tryd.isAgg197
  z171 := Tryd.sizeOf197
  v171 := Tryd.zeroValue197
  t173 := Tryd.underlying199
  a173 := Tryd.isAgg199
  z173 := Tryd.sizeOf199
  v173 := Tryd.zeroValue199
  t212 := Tryd.underlying202
  a212 := Tryd.isAgg202
  z212 := Tryd.sizeOf202
  v212 := Tryd.zeroValue202
  t213 := Tryd.underlying203
  a213 := Tryd.isAgg203
  z213 := Tryd.sizeOf203
  t232 := Tryd.underlying133
  a232 := Tryd.isAgg133
  z232 := Tryd.sizeOf133
  v232 := Tryd.zeroValue133
  t233 := Tryd.underlying204
  a233 := Tryd.isAgg204
  z233 := Tryd.sizeOf204
  v233 := Tryd.zeroValue204
  g17 := by kernel_rfl
  g18 := by kernel_rfl
  g19 := by kernel_rfl
  i0 := by kernel_rfl
  i3 := by kernel_rfl
  i4 := by kernel_rfl
  i5 := by kernel_rfl
  i9 := by kernel_rfl
  i20 := by kernel_rfl
  i37 := by kernel_rfl
  i46 := by kernel_rfl
  i51 := by kernel_rfl
  i53 := by kernel_rfl
  i171 := by kernel_rfl
  i173 := by kernel_rfl
  i212 := by kernel_rfl
  i232 := by kernel_rfl
  i233 := by kernel_rfl
  m17 := by kernel_rfl
  m18 := by kernel_rfl
  m19 := by kernel_rfl
  }
end Go.Proofs.YtfgangkpebkicaaDoor

/-
  Rows of bytes of the call's own: one more byte; a number's digits; the string of them.
-/
namespace Go.Proofs.YtfgangkpebkicaaDoor
open Go.RowKit
set_option maxRecDepth 20000
/-- A slice of the call's own (in blocks from B on) that holds these bytes. -/
def BOwn (w : World) (B : Nat) (v : Value) (l : List UInt8) : Prop := w.ownsRow B 5 1 v l.length (Lib.byteCells l)
theorem BOwn.nil (w : World) (B : Nat) : BOwn w B (.slice none 0 0) [] := World.ownsRow_nil _ _ _ _
theorem BOwn.below {w w' : World} {B : Nat} {v : Value} {l : List UInt8} (h : BOwn w B v l) (hb : Below w.heap.size w w') : BOwn w' B v l := by
  refine ⟨h.1, h.2.elim (fun h => .inl h) fun ⟨g, cap, cur, h1, h2, h3, h4, h5, h6, h7⟩ => .inr ⟨g, cap, cur, h1, h2, ?_, h4, h5, h6, h7⟩⟩
  rw [hb.block g (Array.getElem?_eq_some_iff.1 h3).1]
  exact h3
theorem info_byte : (Tryd.prog.info? 5).map (fun i => (i.zero, i.size, i.bytes)) = some (some (.int .u8 0), 1, 1) := by kernel_rfl
theorem byteCells_one (y : UInt8) : Lib.byteCells [y] = [.int .u8 (y.toNat : Int)] := rfl
theorem byteCells_app (a b : List UInt8) : Lib.byteCells (a ++ b) = Lib.byteCells a ++ Lib.byteCells b := by unfold Lib.byteCells; exact List.map_append ..
theorem run_app_byte {W : World} {base G : Nat} {v : Value} {l : List UInt8} (y : UInt8) (ty : TypeId) (hown : BOwn W base v l) (hG : W.cell? ⟨G, 0, none⟩ = some (.int .u8 (y.toNat : Int))) (hlen : l.length ≤ 65536) (hbase : base ≤ W.heap.size) :
    ∃ v' w', (Builtin.append_ #[157, 157] ty #[v, .slice (some ⟨G, 0, none⟩) 1 1]).run Tryd.prog W = .ok v' w' ∧ BOwn w' base v' (l ++ [y]) ∧ Below base W w' := by
  obtain ⟨i0, hi, hz0, hz1, hz2⟩ := info_of info_byte
  have hl := World.ownsRow.lt hown
  obtain ⟨v', w', hr, h2, h3, _⟩ := run_append_own (P := Tryd.prog) W base 157 ty 5 i0 (.int .u8 0) 1 1 Tryd.underlying157 hi hz0 hz1 hz2 rfl (by decide) v l.length (Lib.byteCells l) hown
    ⟨G, 0, none⟩ 1 1 (Lib.byteCells [y]) rfl (fun j u hu => by
      rw [Addr.add_lit, Nat.zero_add]
      have hj : j = 0 := by
        have := (List.getElem?_eq_some_iff.1 hu).1
        simp [Lib.byteCells] at this
        omega
      subst hj
      rw [byteCells_one] at hu
      simp only [List.getElem?_cons_zero, Option.some.injEq] at hu
      subst hu
      exact hG) (fun u hu => by
      rw [byteCells_one] at hu
      simp only [List.mem_cons, List.not_mem_nil, or_false] at hu
      subst hu
      rfl) (by unfold maxLen; omega) (by omega) hbase
  refine ⟨v', w', hr, ?_, (Below.refl base W).grown h3 hbase (fun k hk => (hl k hk).1)⟩
  unfold BOwn
  rw [List.length_append, byteCells_app]
  exact h2
theorem wp_app_byte {W : World} {o : Oper} {a : Act} {K : Act → World → Prop} {Q : Exit → Act → World → Prop} (s x : Operand)
    (ho : o.op = .call { callee := .builtin .append, args := #[s, x], argTypes := #[157, 157] })
    (base G : Nat) (v : Value) (l : List UInt8) (y : UInt8) (hs : a.eval s = v) (hx : a.eval x = .slice (some ⟨G, 0, none⟩) 1 1) (hown : BOwn W base v l) (hG : W.cell? ⟨G, 0, none⟩ = some (.int .u8 (y.toNat : Int))) (hlen : l.length ≤ 65536) (hbase : base ≤ W.heap.size)
    (h : ∀ v' w', BOwn w' base v' (l ++ [y]) → Below base W w' → K (a.put o.dst v') w') : Oper.wp Tryd.prog o a W K Q := by
  obtain ⟨v', w', hrun, r1, r2⟩ := run_app_byte y o.type hown hG hlen hbase
  unfold Oper.wp
  simp [execOp, ho, resolve, invoke, builtin, hs, hx, hrun, Result.andThen]
  exact h v' w' r1 r2
theorem wpList_app_byte {W : World} {ops : Array Oper} {rest : List Oper} {o : Oper} {a : Act} {Q : Exit → Act → World → Prop} (hgd : o.guard = none) (s x : Operand)
    (ho : o.op = .call { callee := .builtin .append, args := #[s, x], argTypes := #[157, 157] })
    (base G : Nat) (v : Value) (l : List UInt8) (y : UInt8) (hs : a.eval s = v) (hx : a.eval x = .slice (some ⟨G, 0, none⟩) 1 1) (hown : BOwn W base v l) (hG : W.cell? ⟨G, 0, none⟩ = some (.int .u8 (y.toNat : Int))) (hlen : l.length ≤ 65536) (hbase : base ≤ W.heap.size)
    (h : ∀ v' w', BOwn w' base v' (l ++ [y]) → Below base W w' → wpList Tryd.prog ops Q rest (a.put o.dst v') w') : wpList Tryd.prog ops Q (o :: rest) a W :=
  wpList_plain hgd fun _ hK => wp_app_byte s x ho base G v l y hs hx hown hG hlen hbase fun v' w' h1 h2 => hK _ _ (h v' w' h1 h2)
/-- The table of powers of ten, below B. -/
def Pow10 (B : Nat) (w : World) : Prop := Lib.TabBelow Tryd.prog B w "internal/strconv.uint64pow10" .u64 Lib.pow10Tab
theorem Pow10.mono {B B' : Nat} {w : World} (h : Pow10 B w) (hB : B ≤ B') : Pow10 B' w := fun w' hb => h w' (hb.mono hB)
theorem Pow10.on {B : Nat} {w w' : World} (h : Pow10 B w) (hb : Below B w w') : Pow10 B w' := Lib.TabBelow.on h hb
/-- strconv.AppendUint behind bytes of one's own. -/
theorem appuint_any {w : World} {B : Nat} {v : Value} {l : List UInt8} (u : Nat) (hu : u < 18446744073709551616) (h : BOwn w B v l) (hB : B ≤ w.heap.size) (hl : l.length ≤ 65536) (ht : Pow10 B w) :
    Calls Tryd.prog 92 #[v, .int .u64 u, .int .i64 10] w fun e w' => ∃ v', e = .returned v' ∧ BOwn w' B v' (l ++ Lib.decDigits u) ∧ Below B w w' := by
  have hc := Any.internal_strconv_AppendUint_10 laysStr288 B l.length u hu v (Lib.byteCells l) w h hB (by omega) (Lib.TabBelow.here ht)
  have hc' : Calls Tryd.prog 106 #[v, .int .u64 u, .int .i64 10] w fun e w' => ∃ v', e = .returned v' ∧ BOwn w' B v' (l ++ Lib.decDigits u) ∧ Below B w w' := by
    refine Calls.mono (show Calls Tryd.prog 106 _ _ _ from hc) ?_
    rintro e w' ⟨v', rfl, h1, h2, _⟩
    refine ⟨v', rfl, ?_, h2⟩
    unfold BOwn
    rw [List.length_append, byteCells_app]
    exact h1
  have HC := Lib.hid hc'
  clear hc hc' h ht
  go_enter Tryd.func92, Tryd.ntmps92
  go_wp2_with fail
  refine HC.out.mono ?_
  rintro e w' ⟨v', rfl, h1, h2⟩
  have HH := Lib.hid (And.intro h1 h2)
  clear h1 h2
  go_wp2_with fail
  go_ret
  exact ⟨_, rfl, HH.out.1, HH.out.2⟩
/-- strconv.AppendInt behind bytes of one's own. -/
theorem appint_any {w : World} {B : Nat} {v : Value} {l : List UInt8} (i : Int) (h0 : -9223372036854775808 ≤ i) (h1 : i ≤ 9223372036854775807) (h : BOwn w B v l) (hB : B ≤ w.heap.size) (hl : l.length ≤ 65536) (ht : Pow10 B w) :
    Calls Tryd.prog 93 #[v, .int .i64 i, .int .i64 10] w fun e w' => ∃ v', e = .returned v' ∧ BOwn w' B v' (l ++ Lib.itoa i) ∧ Below B w w' := by
  have hc := Any.strconv_AppendInt_10 laysStr176 B l.length i h0 h1 v (Lib.byteCells l) w h hB (by omega) ht
  refine Calls.mono (show Calls Tryd.prog 93 _ _ _ from hc) ?_
  rintro e w' ⟨v', rfl, h1, h2, _⟩
  refine ⟨v', rfl, ?_, h2⟩
  unfold BOwn
  rw [List.length_append, byteCells_app]
  exact h1
/-- Bytes of one's own as a string. -/
theorem bytes_string {w : World} {B : Nat} {v : Value} {l : List UInt8} (h : BOwn w B v l) (hn : l ≠ []) : (convert 157 9 v).run Tryd.prog w = .ok (.string ⟨l.toArray⟩) w := by
  rcases h.2 with ⟨rfl, h0⟩ | ⟨g, cap, cur, rfl, h1, h2, h3⟩
  · exact absurd (List.length_eq_zero_iff.1 h0) hn
  · refine run_convert_bytes_back w 157 9 5 ⟨g, 0, none⟩ cap l Tryd.underlying157 Tryd.underlying5 Tryd.underlying9 (fun j hj => ?_)
    rw [Addr.add_lit, Nat.zero_add, World.ownsRow.cellAt h j (by omega)]
    simp [Lib.byteCells, hj]
end Go.Proofs.YtfgangkpebkicaaDoor

/-
  Plain mathematics for package order: sets as numbers, relations as functions, the closure by Warshall's rounds. No Go, no program.
-/
namespace Go.Proofs.YtfgangkpebkicaaDoor
open Go.RowKit
set_option maxRecDepth 20000
/-- One round of the closure, over the items below m alone. -/
def stepV (m : Nat) (a : Nat → Nat) (v : Nat) : Nat → Nat := fun i => if i < m ∧ (a i).testBit v = true then a i ||| a v else a i
/-- k rounds of the closure on n items. -/
def warsh (n : Nat) (a : Nat → Nat) : Nat → Nat → Nat
  | 0 => a
  | k + 1 => stepV n (warsh n a k) k
/-- Does one of the first m items come back to itself? -/
def cyc (c : Nat → Nat) : Nat → Bool
  | 0 => false
  | m + 1 => cyc c m || (c m).testBit m
theorem stepV_zero (a : Nat → Nat) (v : Nat) : stepV 0 a v = a := by funext i; simp [stepV]
theorem stepV_lt {m : Nat} {a : Nat → Nat} {v B : Nat} (hB : ∀ i, i < 12 → a i < 2 ^ B) (hv : v < 12) : ∀ i, i < 12 → stepV m a v i < 2 ^ B := by
  intro i hi
  unfold stepV
  split
  · exact Nat.or_lt_two_pow (hB i hi) (hB v hv)
  · exact hB i hi
theorem warsh_lt {n : Nat} {a : Nat → Nat} {B : Nat} (hB : ∀ i, i < 12 → a i < 2 ^ B) : ∀ k, k ≤ 12 → ∀ i, i < 12 → warsh n a k i < 2 ^ B
  | 0, _ => hB
  | k + 1, hk => stepV_lt (warsh_lt hB k (by omega)) (by omega)
/-- One step of a round: item m's row. -/
theorem stepV_succ (m : Nat) (a : Nat → Nat) (v : Nat) :
    stepV (m + 1) a v = fun i => if i = m then (if (a m).testBit v = true then a m ||| a v else a m) else stepV m a v i := by
  funext i
  unfold stepV
  by_cases h : i = m
  · subst h; simp
  · simp [h, show i < m + 1 ↔ i < m by omega]
/-- In the midst of a round row m and row v are as they were. -/
theorem stepV_at (m : Nat) (a : Nat → Nat) (v : Nat) : stepV m a v m = a m := by simp [stepV]
theorem stepV_via (m : Nat) (a : Nat → Nat) (v : Nat) : stepV m a v v = a v := by
  unfold stepV; split <;> simp
def stepR (m : Nat) (a : Nat → Nat) (i : Nat) (r : Nat → Nat) : Nat → Nat := fun j => if j < m ∧ (a i).testBit j = true then r j ||| 2 ^ i else r j
def revs (n : Nat) (a : Nat → Nat) : Nat → Nat → Nat
  | 0 => fun _ => 0
  | k + 1 => stepR n a k (revs n a k)
/-- Bit i of row j, where bit j of row i was. -/
def rev (n : Nat) (a : Nat → Nat) : Nat → Nat := revs n a n
theorem stepR_zero (a : Nat → Nat) (i : Nat) (r : Nat → Nat) : stepR 0 a i r = r := by funext j; simp [stepR]
theorem stepR_succ (m : Nat) (a : Nat → Nat) (i : Nat) (r : Nat → Nat) :
    stepR (m + 1) a i r = fun j => if j = m then (if (a i).testBit m = true then r m ||| 2 ^ i else r m) else stepR m a i r j := by
  funext j
  unfold stepR
  by_cases h : j = m
  · subst h; simp
  · simp [h, show j < m + 1 ↔ j < m by omega]
theorem stepR_at (m : Nat) (a : Nat → Nat) (i : Nat) (r : Nat → Nat) : stepR m a i r m = r m := by simp [stepR]
theorem stepR_lt {m : Nat} {a : Nat → Nat} {i : Nat} {r : Nat → Nat} {j B : Nat} (h : r j < 2 ^ B) (hi : i < B) : stepR m a i r j < 2 ^ B := by
  unfold stepR
  split
  · exact Nat.or_lt_two_pow h (Nat.pow_lt_pow_right (by omega) hi)
  · exact h
theorem revs_lt (n : Nat) (a : Nat → Nat) (B j : Nat) : ∀ k, k ≤ B → revs n a k j < 2 ^ B
  | 0, _ => Nat.two_pow_pos B
  | k + 1, hk => stepR_lt (revs_lt n a B j k (by omega)) (by omega)
def rdyUp (b : Nat → Nat) (d : Nat) : Nat → Nat
  | 0 => 0
  | m + 1 => if d.testBit m = false ∧ b m &&& (65535 - d) = 0 then rdyUp b d m ||| 2 ^ m else rdyUp b d m
theorem rdyUp_lt (b : Nat → Nat) (d B : Nat) : ∀ m, m ≤ B → rdyUp b d m < 2 ^ B
  | 0, _ => Nat.two_pow_pos B
  | m + 1, hm => by
    unfold rdyUp
    split
    · exact Nat.or_lt_two_pow (rdyUp_lt b d B m (by omega)) (Nat.pow_lt_pow_right (by omega) (by omega))
    · exact rdyUp_lt b d B m (by omega)
theorem revs_bit (n : Nat) (a : Nat → Nat) (x t : Nat) : ∀ k, (revs n a k x).testBit t = (decide (t < k) && decide (x < n) && (a t).testBit x)
  | 0 => by simp [revs]
  | k + 1 => by
    show (stepR n a k (revs n a k) x).testBit t = _
    have ih := revs_bit n a x t k
    unfold stepR
    by_cases hc : x < n ∧ (a k).testBit x = true
    · rw [if_pos hc, Nat.testBit_or, ih, Nat.testBit_two_pow]
      by_cases e : k = t
      · subst e; simp [hc]
      · simp [e, show t < k + 1 ↔ t < k by omega]
    · rw [if_neg hc, ih]
      by_cases e : k = t
      · subst e
        by_cases hx : x < n
        · have : (a k).testBit x = false := by
            cases h : (a k).testBit x
            · rfl
            · exact absurd ⟨hx, h⟩ hc
          simp [this]
        · simp [hx]
      · simp [show t < k + 1 ↔ t < k by omega]
theorem rev_bit (n : Nat) (a : Nat → Nat) (x t : Nat) : (rev n a x).testBit t = (decide (t < n) && decide (x < n) && (a t).testBit x) := revs_bit n a x t n
theorem rev_at {n : Nat} {a : Nat → Nat} {x t : Nat} : (rev n a x).testBit t = true ↔ t < n ∧ x < n ∧ (a t).testBit x = true := by
  rw [rev_bit]; simp [and_assoc]
theorem cyc_iff (c : Nat → Nat) : ∀ m, cyc c m = true ↔ ∃ v, v < m ∧ (c v).testBit v = true
  | 0 => by simp [cyc]
  | m + 1 => by
    rw [cyc, Bool.or_eq_true, cyc_iff c m]
    constructor
    · rintro (⟨v, hv, h⟩ | h)
      · exact ⟨v, by omega, h⟩
      · exact ⟨m, by omega, h⟩
    · rintro ⟨v, hv, h⟩
      rcases Nat.lt_or_ge v m with h' | h'
      · exact .inl ⟨v, h', h⟩
      · obtain rfl : v = m := by omega
        exact .inr h
def sumUp (f : Nat → Nat) : Nat → Nat
  | 0 => 0
  | m + 1 => sumUp f m + f m
def card (n S : Nat) : Nat := sumUp (fun i => if S.testBit i = true then 1 else 0) n
end Go.Proofs.YtfgangkpebkicaaDoor

/-
  Contract of history.answered.
-/
namespace Go.Proofs.YtfgangkpebkicaaDoor
open Go.RowKit
set_option maxRecDepth 20000
theorem answered_any (c : Cl) (w : World) : Calls Tryd.prog 66 #[clV c] w fun e w' => e = .returned (.bool (c.til != -1)) ∧ Below w.heap.size w w' := by
  generalize hv : (c.til != -1) = d
  go_enter Tryd.func66, Tryd.ntmps66
  go_wp2
  go_ret
  exact ⟨rfl, (Below.refl _ _).alloc (Nat.le_refl _) _⟩
end Go.Proofs.YtfgangkpebkicaaDoor

/-
  Facts of uint16; no function of a program.
-/
namespace Go.Proofs.YtfgangkpebkicaaDoor
open Go.RowKit
set_option maxRecDepth 20000
theorem wrap_u16_nat (n : Nat) (h : n < 65536) : IntKind.u16.wrap (n : Int) = n := by rw [IntKind.wrap_u16]; omega
theorem pow_u16 (i : Nat) (h : i ≤ 15) : IntKind.u16.wrap (2 ^ i) = ((2 ^ i : Nat) : Int) := by
  have h2 : 2 ^ i < 65536 := Nat.lt_of_le_of_lt (Nat.pow_le_pow_right (by omega) h) (by decide)
  rw [show ((2 : Int) ^ i) = ((2 ^ i : Nat) : Int) from by simp]
  exact wrap_u16_nat _ h2
theorem pow_lt (i : Nat) (h : i ≤ 15) : 2 ^ i < 65536 := Nat.lt_of_le_of_lt (Nat.pow_le_pow_right (by omega) h) (by decide)
theorem or_pow (x k : Nat) (hx : x < 65536) (hk : k ≤ 15) : bits BinOp.or IntKind.u16 (x : Int) ((2 : Int) ^ k) = ((x ||| 2 ^ k : Nat) : Int) := by
  rw [show ((2 : Int) ^ k) = ((2 ^ k : Nat) : Int) from by simp]
  exact u16_or_nat x (2 ^ k) hx (pow_lt k hk)
theorem nat_eq0 (x : Nat) : ((x : Int) == 0) = decide (x = 0) := by rw [Bool.eq_iff_iff, beq_iff_eq, decide_eq_true_iff]; omega
theorem add_or (x j : Nat) (hx : x < 2 ^ j) : x + 2 ^ j = x ||| 2 ^ j := by
  have := Nat.two_pow_add_eq_or_of_lt hx 1
  rw [Nat.mul_one] at this
  rw [Nat.or_comm, ← this, Nat.add_comm]
theorem add_pow (x j : Nat) (hx : x < 2 ^ j) (hj : j ≤ 15) : IntKind.u16.wrap ((x : Int) + (2 : Int) ^ j) = ((x ||| 2 ^ j : Nat) : Int) := by
  have h2 : 2 ^ (j + 1) ≤ 65536 := Nat.le_trans (Nat.pow_le_pow_right (by omega) (by omega : j + 1 ≤ 16)) (by decide)
  rw [show ((2 : Int) ^ j) = ((2 ^ j : Nat) : Int) from by simp, ← Int.natCast_add, add_or x j hx]
  refine wrap_u16_nat _ (Nat.lt_of_lt_of_le (Nat.or_lt_two_pow (Nat.lt_trans hx (Nat.pow_lt_pow_right (by omega) (by omega))) (Nat.pow_lt_pow_right (by omega) (by omega))) h2)
end Go.Proofs.YtfgangkpebkicaaDoor

/-
  A relation as a value and in a block; no function of a program.
-/
namespace Go.Proofs.YtfgangkpebkicaaDoor
open Go.RowKit
set_option maxRecDepth 20000
/-- A relation as a value: the number of items, and a set for each of twelve. -/
abbrev relV (n : Int) (a : Nat → Nat) : Value := .agg #[.int .i64 n, .int .u16 (a 0), .int .u16 (a 1), .int .u16 (a 2), .int .u16 (a 3), .int .u16 (a 4), .int .u16 (a 5), .int .u16 (a 6), .int .u16 (a 7), .int .u16 (a 8), .int .u16 (a 9), .int .u16 (a 10), .int .u16 (a 11)]
abbrev rowsV (a : Nat → Nat) : Value := .agg #[.int .u16 (a 0), .int .u16 (a 1), .int .u16 (a 2), .int .u16 (a 3), .int .u16 (a 4), .int .u16 (a 5), .int .u16 (a 6), .int .u16 (a 7), .int .u16 (a 8), .int .u16 (a 9), .int .u16 (a 10), .int .u16 (a 11)]
/-- The cells of a relation. -/
abbrev relCs (n : Int) (a : Nat → Nat) : Array Value := #[.int .i64 n, .int .u16 (a 0), .int .u16 (a 1), .int .u16 (a 2), .int .u16 (a 3), .int .u16 (a 4), .int .u16 (a 5), .int .u16 (a 6), .int .u16 (a 7), .int .u16 (a 8), .int .u16 (a 9), .int .u16 (a 10), .int .u16 (a 11)]
def RelB (w : World) (g : Nat) (n : Int) (a : Nat → Nat) : Prop := Lies w g 46 (relCs n a)
theorem nat12 {k : Nat} (hk : k < 12) : k = 0 ∨ k = 1 ∨ k = 2 ∨ k = 3 ∨ k = 4 ∨ k = 5 ∨ k = 6 ∨ k = 7 ∨ k = 8 ∨ k = 9 ∨ k = 10 ∨ k = 11 := by omega
section
variable {w w' : World} {g : Nat} {n : Int} {a : Nat → Nat}
theorem RelB.size (h : RelB w g n a) : w.cell? ⟨g, 0, none⟩ = some (.int .i64 n) := Lies.cell h 0
theorem RelB.row (h : RelB w g n a) {k : Nat} (hk : k < 12) : w.cell? ⟨g, k + 1, none⟩ = some (.int .u16 (a k)) := by
  rw [Lies.cell h]
  rcases nat12 hk with rfl | rfl | rfl | rfl | rfl | rfl | rfl | rfl | rfl | rfl | rfl | rfl <;> rfl
theorem RelB.row' (h : RelB w g n a) {k : Nat} (hk : k < 12) : w.cell? ⟨g, 1 + k, none⟩ = some (.int .u16 (a k)) := by
  rw [Nat.add_comm]; exact h.row hk
theorem RelB.rows (h : RelB w g n a) : w.cell? ⟨g, 1, none⟩ = some (.int .u16 (a 0)) ∧ w.cell? ⟨g, 2, none⟩ = some (.int .u16 (a 1)) ∧ w.cell? ⟨g, 3, none⟩ = some (.int .u16 (a 2)) ∧ w.cell? ⟨g, 4, none⟩ = some (.int .u16 (a 3)) ∧ w.cell? ⟨g, 5, none⟩ = some (.int .u16 (a 4)) ∧ w.cell? ⟨g, 6, none⟩ = some (.int .u16 (a 5)) ∧ w.cell? ⟨g, 7, none⟩ = some (.int .u16 (a 6)) ∧ w.cell? ⟨g, 8, none⟩ = some (.int .u16 (a 7)) ∧ w.cell? ⟨g, 9, none⟩ = some (.int .u16 (a 8)) ∧ w.cell? ⟨g, 10, none⟩ = some (.int .u16 (a 9)) ∧ w.cell? ⟨g, 11, none⟩ = some (.int .u16 (a 10)) ∧ w.cell? ⟨g, 12, none⟩ = some (.int .u16 (a 11)) :=
  ⟨h.row (k := 0) (by omega), h.row (k := 1) (by omega), h.row (k := 2) (by omega), h.row (k := 3) (by omega), h.row (k := 4) (by omega), h.row (k := 5) (by omega), h.row (k := 6) (by omega), h.row (k := 7) (by omega), h.row (k := 8) (by omega), h.row (k := 9) (by omega), h.row (k := 10) (by omega), h.row (k := 11) (by omega)⟩
theorem RelB.set' (h : RelB w g n a) {k : Nat} (hk : k < 12) (x : Nat) : RelB (w.setCell ⟨g, 1 + k, none⟩ (.int .u16 x)) g n (fun i => if i = k then x else a i) := by
  refine Lies.cast (Lies.set_ h (1 + k) (.int .u16 x)) ?_
  rcases nat12 hk with rfl | rfl | rfl | rfl | rfl | rfl | rfl | rfl | rfl | rfl | rfl | rfl <;> simp [relCs]
theorem RelB.free (h : RelB w g n a) (i : Nat) : w.frozen? ⟨g, i, none⟩ = false := Lies.frozen h i
theorem RelB.set_ (h : RelB w g n a) {k : Nat} (hk : k < 12) (x : Nat) : RelB (w.setCell ⟨g, k + 1, none⟩ (.int .u16 x)) g n (fun i => if i = k then x else a i) := by
  refine Lies.cast (Lies.set_ h (k + 1) (.int .u16 x)) ?_
  rcases nat12 hk with rfl | rfl | rfl | rfl | rfl | rfl | rfl | rfl | rfl | rfl | rfl | rfl <;> simp [relCs]
theorem RelB.congr {b : Nat → Nat} (h : RelB w g n a) (e : ∀ i, i < 12 → a i = b i) : RelB w g n b := by
  refine Lies.cast h ?_
  simp [relCs, e 0, e 1, e 2, e 3, e 4, e 5, e 6, e 7, e 8, e 9, e 10, e 11]
end
/-- The world behind thirteen stores. -/
abbrev fillW (w : World) (g : Nat) (m : Int) (b : Nat → Nat) : World := (((((((((((((w.setCell ⟨g, 0, none⟩ (.int .i64 m)).setCell ⟨g, 1, none⟩ (.int .u16 (b 0))).setCell ⟨g, 2, none⟩ (.int .u16 (b 1))).setCell ⟨g, 3, none⟩ (.int .u16 (b 2))).setCell ⟨g, 4, none⟩ (.int .u16 (b 3))).setCell ⟨g, 5, none⟩ (.int .u16 (b 4))).setCell ⟨g, 6, none⟩ (.int .u16 (b 5))).setCell ⟨g, 7, none⟩ (.int .u16 (b 6))).setCell ⟨g, 8, none⟩ (.int .u16 (b 7))).setCell ⟨g, 9, none⟩ (.int .u16 (b 8))).setCell ⟨g, 10, none⟩ (.int .u16 (b 9))).setCell ⟨g, 11, none⟩ (.int .u16 (b 10))).setCell ⟨g, 12, none⟩ (.int .u16 (b 11)))
theorem RelB.fill {w : World} {g : Nat} {n : Int} {a : Nat → Nat} (h : RelB w g n a) (m : Int) (b : Nat → Nat) : RelB (fillW w g m b) g m b := by
  have h0 := Lies.set_ h 0 (.int .i64 m)
  have h1 := Lies.set_ h0 1 (.int .u16 (b 0))
  have h2 := Lies.set_ h1 2 (.int .u16 (b 1))
  have h3 := Lies.set_ h2 3 (.int .u16 (b 2))
  have h4 := Lies.set_ h3 4 (.int .u16 (b 3))
  have h5 := Lies.set_ h4 5 (.int .u16 (b 4))
  have h6 := Lies.set_ h5 6 (.int .u16 (b 5))
  have h7 := Lies.set_ h6 7 (.int .u16 (b 6))
  have h8 := Lies.set_ h7 8 (.int .u16 (b 7))
  have h9 := Lies.set_ h8 9 (.int .u16 (b 8))
  have h10 := Lies.set_ h9 10 (.int .u16 (b 9))
  have h11 := Lies.set_ h10 11 (.int .u16 (b 10))
  have h12 := Lies.set_ h11 12 (.int .u16 (b 11))
  exact Lies.cast h12 (by simp [relCs])
theorem fillW_below {B : Nat} {w0 w : World} {g : Nat} (h : Below B w0 w) (hg : B ≤ g) (m : Int) (b : Nat → Nat) : Below B w0 (fillW w g m b) :=
  ((((((((((((h.setCell (p := ⟨g, 0, none⟩) hg _).setCell (p := ⟨g, 1, none⟩) hg _).setCell (p := ⟨g, 2, none⟩) hg _).setCell (p := ⟨g, 3, none⟩) hg _).setCell (p := ⟨g, 4, none⟩) hg _).setCell (p := ⟨g, 5, none⟩) hg _).setCell (p := ⟨g, 6, none⟩) hg _).setCell (p := ⟨g, 7, none⟩) hg _).setCell (p := ⟨g, 8, none⟩) hg _).setCell (p := ⟨g, 9, none⟩) hg _).setCell (p := ⟨g, 10, none⟩) hg _).setCell (p := ⟨g, 11, none⟩) hg _).setCell (p := ⟨g, 12, none⟩) hg _
theorem post_fill {P : Program} {fn : Func} {R : Ending → World → Prop} {act : Act} {w W : World} {B g : Nat} {n0 : Int} {a0 : Nat → Nat} (n : Int) (a : Nat → Nat)
    (hB : RelB W g n0 a0) (hb : Below B w W) (hg : B ≤ g) (k : ∀ wz, RelB wz g n a → Below B w wz → bodyPost P fn R .ret act wz) : bodyPost P fn R .ret act (fillW W g n a) :=
  k _ (hB.fill n a) (fillW_below hb hg n a)
theorem post_fill1 {P : Program} {fn : Func} {R : Ending → World → Prop} {act : Act} {w W : World} {B g : Nat} {n0 : Int} {a0 : Nat → Nat} {o : Obj} (n : Int) (a : Nat → Nat)
    (hB : RelB W g n0 a0) (hb : Below B w W) (hg : B ≤ g) (hs : B ≤ W.heap.size) (k : ∀ wz, RelB wz g n a → Below B w wz → bodyPost P fn R .ret act wz) : bodyPost P fn R .ret act ((fillW W g n a).alloc o) :=
  k _ (Lies.alloc (hB.fill n a) _) ((fillW_below hb hg n a).alloc (Nat.le_trans hs (fillW_below (Below.refl 0 W) (Nat.zero_le g) n a).size) _)
structure ORel (w : World) (R G m : Nat) (c : Nat → Nat) (wr : World) : Prop where
  below : Below w.heap.size w wr
  res : RelB wr R 0 (fun _ => 0)
  own : RelB wr G m c
  ge : w.heap.size ≤ R
  far : R < G
theorem ORel.far' {w wr : World} {R G m : Nat} {c : Nat → Nat} (h : ORel w R G m c wr) : w.heap.size ≤ G := by
  have := h.ge
  have := h.far
  omega
theorem ORel.set_ {w wr : World} {R G m : Nat} {c : Nat → Nat} (h : ORel w R G m c wr) {k : Nat} (hk : k < 12) (x : Nat) :
    ORel w R G m (fun i => if i = k then x else c i) (wr.setCell ⟨G, 1 + k, none⟩ (.int .u16 x)) :=
  ⟨h.below.setCell h.far' _, Lies.far h.res (by have := h.far; show R ≠ G; omega) _, h.own.set' hk x, h.ge, h.far⟩
theorem ORel.drew {w wr : World} {R G m : Nat} {c : Nat → Nat} (h : ORel w R G m c wr) : ORel w R G m c wr.drew := ⟨h.below.drew, h.res, h.own, h.ge, h.far⟩
theorem ORel.drewN {w wr : World} {R G m : Nat} {c : Nat → Nat} (h : ORel w R G m c wr) (n : Nat) : ORel w R G m c (wr.drewN n) := ⟨belowN h.below n, Lies.drewN h.res n, Lies.drewN h.own n, h.ge, h.far⟩
theorem ORel.alloc {w wr : World} {R G m : Nat} {c : Nat → Nat} (h : ORel w R G m c wr) (o : Obj) : ORel w R G m c (wr.alloc o) := ⟨h.below.alloc h.below.size _, Lies.alloc h.res _, Lies.alloc h.own _, h.ge, h.far⟩
theorem ORel.congr {w wr : World} {R G m : Nat} {c d : Nat → Nat} (h : ORel w R G m c wr) (e : ∀ i, i < 12 → c i = d i) : ORel w R G m d wr := ⟨h.below, h.res, h.own.congr e, h.ge, h.far⟩
theorem ORel.next {w wr wr' : World} {R G m : Nat} {c : Nat → Nat} (h : ORel w R G m c wr) (hb : Below wr.heap.size wr wr') : ORel w R G m c wr' :=
  ⟨h.below.trans (hb.mono h.below.size), Lies.below h.res hb h.res.lt, Lies.below h.own hb h.own.lt, h.ge, h.far⟩
end Go.Proofs.YtfgangkpebkicaaDoor
