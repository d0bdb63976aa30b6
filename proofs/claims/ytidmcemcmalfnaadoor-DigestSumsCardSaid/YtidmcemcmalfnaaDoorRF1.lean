
/- The document's tables, words and rotations. -/
import Derived.Test.YtidmcemcmalfnaaDoorSRun
import Derived.Test.YtidmcemcmalfnaaDoorSNumb
import Derived.Deep.WholeRow
import Derived.Laws.Tables
namespace Go.Proofs.YtidmcemcmalfnaaDoor
open Go.RowKit
set_option linter.unusedVariables false

theorem info8 : (Tryd.prog.info? 41).map (·.size) = some 8 := by kernel_rfl
theorem info64 : (Tryd.prog.info? 49).map (·.size) = some 64 := by kernel_rfl
theorem results_cell_at {P : Program} {fn : Func} {p : Tmp} {ty : TypeId} (h : fn.results = #[.cell p ty]) (tmps : Array Value) (w : World) (ad : Addr) (hp : tmps.getD p undef = .pointer (some ad)) (v : Value) (hl : (loadVar ty ad).run P w = .ok v w) :
    (results fn tmps).run P w = .ok v w := by
  rw [results_cell h, hp]
  simp [asAddr, Result.andThen, hl]
theorem hsCells_all : HsCells.all (·.oneCell') = true := by kernel_rfl
theorem ksCells_all : KsCells.all (·.oneCell') = true := by kernel_rfl
theorem ksCells_size : KsCells.size = 64 := by rfl
theorem hsCells_size : HsCells.size = 8 := by rfl
theorem wpList_build_is {P : Program} {ops : Array Oper} {rest : List Oper} {o : Oper} {a : Act} {w : World} {Q : Exit → Act → World → Prop} (hg : o.guard = none) (t : TypeId) (parts : Array (Nat × Operand)) (ho : o.op = .build t parts) (T : Array Value)
    (hf : P.built t (parts.map fun (i, x) => (i, a.eval x)).toList = some T) (h : wpList P ops Q rest (a.put o.dst (.agg T)) w) : wpList P ops Q (o :: rest) a w :=
  wpList_build hg t parts ho (by rw [hf]; rfl) (by rw [hf]; exact h)
theorem built_ks : Tryd.prog.built 49 (Sha.Ks.zipIdx.map fun xi => (xi.2, Value.int .u32 xi.1)) = some KsCells := by kernel_rfl
def ksParts : Array (Nat × Operand) := #[(0, .const (.int .u32 1116352408)), (1, .const (.int .u32 1899447441)), (2, .const (.int .u32 3049323471)), (3, .const (.int .u32 3921009573)), (4, .const (.int .u32 961987163)), (5, .const (.int .u32 1508970993)), (6, .const (.int .u32 2453635748)), (7, .const (.int .u32 2870763221)), (8, .const (.int .u32 3624381080)), (9, .const (.int .u32 310598401)), (10, .const (.int .u32 607225278)), (11, .const (.int .u32 1426881987)), (12, .const (.int .u32 1925078388)), (13, .const (.int .u32 2162078206)), (14, .const (.int .u32 2614888103)), (15, .const (.int .u32 3248222580)), (16, .const (.int .u32 3835390401)), (17, .const (.int .u32 4022224774)), (18, .const (.int .u32 264347078)), (19, .const (.int .u32 604807628)), (20, .const (.int .u32 770255983)), (21, .const (.int .u32 1249150122)), (22, .const (.int .u32 1555081692)), (23, .const (.int .u32 1996064986)), (24, .const (.int .u32 2554220882)), (25, .const (.int .u32 2821834349)), (26, .const (.int .u32 2952996808)), (27, .const (.int .u32 3210313671)), (28, .const (.int .u32 3336571891)), (29, .const (.int .u32 3584528711)), (30, .const (.int .u32 113926993)), (31, .const (.int .u32 338241895)), (32, .const (.int .u32 666307205)), (33, .const (.int .u32 773529912)), (34, .const (.int .u32 1294757372)), (35, .const (.int .u32 1396182291)), (36, .const (.int .u32 1695183700)), (37, .const (.int .u32 1986661051)), (38, .const (.int .u32 2177026350)), (39, .const (.int .u32 2456956037)), (40, .const (.int .u32 2730485921)), (41, .const (.int .u32 2820302411)), (42, .const (.int .u32 3259730800)), (43, .const (.int .u32 3345764771)), (44, .const (.int .u32 3516065817)), (45, .const (.int .u32 3600352804)), (46, .const (.int .u32 4094571909)), (47, .const (.int .u32 275423344)), (48, .const (.int .u32 430227734)), (49, .const (.int .u32 506948616)), (50, .const (.int .u32 659060556)), (51, .const (.int .u32 883997877)), (52, .const (.int .u32 958139571)), (53, .const (.int .u32 1322822218)), (54, .const (.int .u32 1537002063)), (55, .const (.int .u32 1747873779)), (56, .const (.int .u32 1955562222)), (57, .const (.int .u32 2024104815)), (58, .const (.int .u32 2227730452)), (59, .const (.int .u32 2361852424)), (60, .const (.int .u32 2428436474)), (61, .const (.int .u32 2756734187)), (62, .const (.int .u32 3204031479)), (63, .const (.int .u32 3329325298))]
theorem hf_ks (a : Act) : Tryd.prog.built 49 (ksParts.map fun (i, x) => (i, a.eval x)).toList = some KsCells := by
  have e : (ksParts.map fun (i, x) => (i, a.eval x)).toList = (Sha.Ks.zipIdx.map fun xi => (xi.2, Value.int .u32 xi.1)) := by
    unfold ksParts
    simp only [List.map_toArray]
    rfl
  rw [e]
  exact built_ks
/-- The tables, with their sizes, as values that the walk does not look into. -/
structure Tab8 (cs : Array Value) : Prop where
  size : cs.size = 8
  all : cs.all (·.oneCell') = true
structure Tab64 (cs : Array Value) : Prop where
  size : cs.size = 64
  all : cs.all (·.oneCell') = true
set_option maxRecDepth 100000 in
set_option maxHeartbeats 4000000 in
theorem first_any (w : World) : Calls Tryd.prog 26 #[] w fun e w' => e = .returned (.agg HsCells) ∧ Below w.heap.size w w' := by
  obtain ⟨T, hT⟩ : ∃ T, HsCells = T := ⟨_, rfl⟩
  have hall : T.all (·.oneCell') = true := by rw [← hT]; exact hsCells_all
  have hsz : T.size = 8 := by rw [← hT]; exact hsCells_size
  have HTT := Lib.hid hT
  go_enter Tryd.func26, Tryd.ntmps26
  go_wp2_with (first
    | (refine wpList_build_is rfl 41 _ rfl T (by rw [← HTT.out]; kernel_rfl) ?_)
    | (refine wpList_store_row rfl 41 (.tmp 0) (.tmp 1) rfl w.heap.size T rfl rfl 41 _ (heap_alloc_new _ _) (by rw [hsz]; exact info8) (by rw [hsz]; rfl) hall ?_))
  rw [World.setRow_alloc_new]
  refine bodyPost_ret (v := .agg T) ?_ rfl ⟨by rw [HTT.out], (Below.refl _ _).alloc (Nat.le_refl _) _⟩
  rw [results_cell rfl]
  exact run_loadVar_row (P := Tryd.prog) (w.alloc (.cells T 41)) w.heap.size 41 41 T (0, 0) _ (heap_alloc_new _ _) Tryd.underlying41 rfl (by rw [hsz]; exact info8)
set_option maxRecDepth 100000 in
set_option maxHeartbeats 4000000 in
theorem constants_any (w : World) : Calls Tryd.prog 27 #[] w fun e w' => e = .returned (.agg KsCells) ∧ Below w.heap.size w w' := by
  obtain ⟨T, hT⟩ : ∃ T, KsCells = T := ⟨_, rfl⟩
  have hall : T.all (·.oneCell') = true := by rw [← hT]; exact ksCells_all
  have hsz : T.size = 64 := by rw [← hT]; exact ksCells_size
  have HTT := Lib.hid hT
  rw [hT]
  clear hT
  go_enter Tryd.func27, Tryd.ntmps27
  go_wp2_with (first
    | (refine wpList_build_is rfl 49 ksParts rfl T (by rw [← HTT.out]; exact hf_ks _) ?_)
    | (refine wpList_store_row rfl 49 (.tmp 0) (.tmp 1) rfl w.heap.size T rfl rfl 49 zeros64 (heap_alloc_new _ _) (by rw [hsz]; exact info64) (by rw [hsz]; rfl) hall ?_))
  rw [World.setRow_alloc_new]
  have hb : Below w.heap.size w (w.alloc (.cells T 49)) := (Below.refl _ _).alloc (Nat.le_refl _) _
  have hld := run_loadVar_row (P := Tryd.prog) (w.alloc (.cells T 49)) w.heap.size 49 49 T (0, 0) _ (heap_alloc_new _ _) Tryd.underlying49 rfl (by rw [hsz]; exact info64)
  exact bodyPost_ret (results_cell_at rfl _ _ _ rfl _ hld) rfl ⟨rfl, hb⟩
theorem word_eq (a b c d : Int) (ha : 0 ≤ a ∧ a < 256) (hb : 0 ≤ b ∧ b < 256) (hc : 0 ≤ c ∧ c < 256) (hd : 0 ≤ d ∧ d < 256) :
    bits .or .u32 (bits .or .u32 (bits .or .u32 (IntKind.u32.wrap (IntKind.u32.wrap a * 16777216)) (IntKind.u32.wrap (IntKind.u32.wrap b * 65536))) (IntKind.u32.wrap (IntKind.u32.wrap c * 256))) (IntKind.u32.wrap d) = ((a * 256 + b) * 256 + c) * 256 + d := by
  obtain ⟨A, rfl⟩ := Int.eq_ofNat_of_zero_le ha.1
  obtain ⟨B, rfl⟩ := Int.eq_ofNat_of_zero_le hb.1
  obtain ⟨C, rfl⟩ := Int.eq_ofNat_of_zero_le hc.1
  obtain ⟨D, rfl⟩ := Int.eq_ofNat_of_zero_le hd.1
  have hA : A < 256 := by omega
  have hB : B < 256 := by omega
  have hC : C < 256 := by omega
  have hD : D < 256 := by omega
  simp only [IntKind.wrap_u32']
  have eA : ((A : Int) % 4294967296 * 16777216 % 4294967296) = ((2 ^ 24 * A : Nat) : Int) := by omega
  have eB : ((B : Int) % 4294967296 * 65536 % 4294967296) = ((B * 65536 : Nat) : Int) := by omega
  have eC : ((C : Int) % 4294967296 * 256 % 4294967296) = ((C * 256 : Nat) : Int) := by omega
  have eD : ((D : Int) % 4294967296) = ((D : Nat) : Int) := by omega
  rw [eA, eB, eC, eD, u32_or_nat _ _ (by omega) (by omega), ← Nat.two_pow_add_eq_or_of_lt (i := 24) (by omega)]
  have e2 : 2 ^ 24 * A + B * 65536 = 2 ^ 16 * (A * 256 + B) := by omega
  rw [e2, u32_or_nat _ _ (by omega) (by omega), ← Nat.two_pow_add_eq_or_of_lt (i := 16) (by omega)]
  have e3 : 2 ^ 16 * (A * 256 + B) + C * 256 = 2 ^ 8 * ((A * 256 + B) * 256 + C) := by omega
  rw [e3, u32_or_nat _ _ (by omega) (by omega), ← Nat.two_pow_add_eq_or_of_lt (i := 8) (by omega)]
  omega
set_option maxHeartbeats 1000000 in
theorem word_any (s : ByteArray) (w : World) (hs : 4 ≤ s.size) : Calls Tryd.prog 39 #[.string s] w fun e w' => e = .returned (.int .u32 (Sha.wd s.data.toList 0)) ∧ ∃ q, w' = w.drewN q := by
  have hmx : Tryd.prog.follows .mixedOrders = true := by kernel_rfl
  go_enter Tryd.func39, Tryd.ntmps39
  go_wp2
  have i0 : ∀ w, (Instr.index 9 (.string s) (.int .i64 0)).run Tryd.prog w = .ok (.int .u8 (Sha.bt s.data.toList 0)) w := fun w => index_str s 0 (by omega) w
  have i1 : ∀ w, (Instr.index 9 (.string s) (.int .i64 1)).run Tryd.prog w = .ok (.int .u8 (Sha.bt s.data.toList 1)) w := fun w => index_str s 1 (by omega) w
  have i2 : ∀ w, (Instr.index 9 (.string s) (.int .i64 2)).run Tryd.prog w = .ok (.int .u8 (Sha.bt s.data.toList 2)) w := fun w => index_str s 2 (by omega) w
  have i3 : ∀ w, (Instr.index 9 (.string s) (.int .i64 3)).run Tryd.prog w = .ok (.int .u8 (Sha.bt s.data.toList 3)) w := fun w => index_str s 3 (by omega) w
  have b0 := Sha.bt_in s.data.toList 0
  have b1 := Sha.bt_in s.data.toList 1
  have b2 := Sha.bt_in s.data.toList 2
  have b3 := Sha.bt_in s.data.toList 3
  go_still hmx
  go_wp2
  go_ret
  refine ⟨?_, 1, rfl⟩
  show Ending.returned (Value.int .u32 _) = _
  congr 2
  exact word_eq _ _ _ _ b0 b1 b2 b3
end Go.Proofs.YtidmcemcmalfnaaDoor
