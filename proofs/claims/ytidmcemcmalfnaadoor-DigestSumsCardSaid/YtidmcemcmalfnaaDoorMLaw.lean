
/- The walk of DigestSums. -/
import Derived.Test.YtidmcemcmalfnaaDoorRHex
import Derived.Test.YtidmcemcmalfnaaDoorRLst
import Derived.Test.YtidmcemcmalfnaaDoorSAwk
namespace Go.Proofs.YtidmcemcmalfnaaDoor
open Go.RowKit
set_option linter.unusedVariables false

/-- A string of zero bytes. -/
def zs (m : Nat) : ByteArray := ⟨(List.replicate m 0).toArray⟩
theorem zs_size (m : Nat) : (zs m).size = m := by rw [Lib.size_eq]; simp [zs]
theorem made_zero (m : Nat) (hm : m ≤ 1000) (w : World) : (Instr.makeSlice 24 (.int .u16 (m : Int)) (.int .u16 (m : Int))).run Tryd.prog w = .ok (.slice (some ⟨w.heap.size, 0, none⟩) m m) (w.alloc (.cells (madeCells #[.int .u8 0] m) 5)) := by
  obtain ⟨i, hi, hzz⟩ := Option.map_eq_some_iff.1 infoU8
  simp only [Prod.mk.injEq] at hzz
  obtain ⟨hz, hs, hb⟩ := hzz
  have hr := run_make (P := Tryd.prog) w 24 5 i (.int .u8 0) Tryd.underlying24 hi hz .u16 .u16 (m : Int) (m : Int) (by omega) (by omega) (by rw [hb]; omega) (by omega)
  simp only [Int.toNat_natCast, hs, Nat.mul_one] at hr
  exact hr
theorem conv_zero {W : World} {g m : Nat} {fr : Nat × Nat} (h : W.heap[g]? = some (.cells (madeCells #[.int .u8 0] m) 5 fr)) : (convert 24 9 (.slice (some ⟨g, 0, none⟩) m m)).run Tryd.prog W = .ok (.string (zs m)) W := by
  have hr := run_convert_bytes_back (P := Tryd.prog) W 24 9 5 ⟨g, 0, none⟩ m (List.replicate m 0) Tryd.underlying24 Tryd.underlying5 Tryd.underlying9 (fun j hj => by
    have ha : (⟨g, 0, none⟩ : Addr).add j = ⟨g, j, none⟩ := by unfold Addr.add; split <;> simp_all
    rw [ha]
    simp only [List.length_replicate] at hj
    show (match W.heap[g]? with | some (.cells c _ _) => c[j]? | _ => none) = _
    rw [h]
    simp [madeCells, hj]
    rw [Nat.mod_one]
    rfl)
  rw [List.length_replicate] at hr
  exact hr
theorem alloc_size (w : World) (o : Obj) : (w.alloc o).heap.size = w.heap.size + 1 := by
  show (w.heap.push _).size = _
  rw [Array.size_push]
theorem below_alloc2 (w : World) (o p : Obj) : Below w.heap.size w ((w.alloc o).alloc p) := ((Below.refl _ _).alloc (Nat.le_refl _) _).alloc (by rw [alloc_size]; omega) _

/-- A made slice of three strings. -/
theorem three_made {g gf : Nat} {w W : World} (b : Below g w W) (hg : w.heap.size = g) (hf : W.heap.size = gf) (s x z : ByteArray) : Below g w (W.alloc (.cells #[.string s, .string x, .string z] 9)) ∧ gf < (W.alloc (.cells #[.string s, .string x, .string z] 9)).heap.size ∧
    ∀ i, i < 3 → (W.alloc (.cells #[.string s, .string x, .string z] 9)).cell? ⟨gf, i, none⟩ = some (.string ([s, x, z].getD i ByteArray.empty)) := by
  subst hf
  refine ⟨b.alloc (by have := b.size; omega) _, by rw [alloc_size]; omega, fun i hi => ?_⟩
  have hc := heap_alloc_new W (.cells #[.string s, .string x, .string z] 9)
  show (match (W.alloc (.cells #[.string s, .string x, .string z] 9)).heap[W.heap.size]? with | some (.cells c _ _) => c[i]? | _ => none) = _
  rw [hc]
  have : i = 0 ∨ i = 1 ∨ i = 2 := by omega
  rcases this with rfl | rfl | rfl <;> rfl
theorem three_size {s x z : ByteArray} {n : Nat} (h1 : s.size ≤ n) (h2 : x.size ≤ n) (h3 : z.size ≤ n) (i : Nat) : ([s, x, z].getD i ByteArray.empty).size ≤ n := by
  match i with
  | 0 => exact h1
  | 1 => exact h2
  | 2 => exact h3
  | i + 3 => exact Nat.zero_le _

set_option maxRecDepth 100000 in
set_option maxHeartbeats 8000000 in
theorem digestSums_walk (s : ByteArray) (n : Nat) (w : World) (ht : Tabs w) (hn : n < 65536) :
    Calls Tryd.prog 3 #[.string s, .int .u16 n] w fun e w' => e = .returned (.bool true) ∧ Below w.heap.size w w' := by
  have hmx : Tryd.prog.follows .mixedOrders = true := by kernel_rfl
  have hT := ht.size
  have HT := Lib.hid ht
  clear ht
  by_cases hsz : s.size ≤ 1000
  · have hszd : decide ((1000 : Int) < (s.size : Int)) = false := decide_eq_false (by omega)
    obtain ⟨m1, hm1⟩ : ∃ m : Nat, m = n % 300 := ⟨_, rfl⟩
    obtain ⟨q, hq⟩ : ∃ q : Nat, q = n % 20 := ⟨_, rfl⟩
    obtain ⟨m2, hm2⟩ : ∃ m : Nat, m = 50 + q := ⟨_, rfl⟩
    have e1 : (n : Int).tmod 300 = (m1 : Int) := by rw [Int.tmod_eq_emod_of_nonneg (by omega)]; omega
    have e2 : (n : Int).tmod 20 = (q : Int) := by rw [Int.tmod_eq_emod_of_nonneg (by omega)]; omega
    have e3 : IntKind.u16.wrap (50 + (q : Int)) = (m2 : Int) := by rw [IntKind.wrap_u16]; omega
    have hm1b : m1 < 300 := by omega
    have hm2b : m2 < 100 := by omega
    obtain ⟨g, hg⟩ : ∃ g, w.heap.size = g := ⟨_, rfl⟩
    have k1 := made_zero m1 (by omega) w.drew
    have k2 := made_zero m2 (by omega) w.drew
    have hgd : w.drew.heap.size = g := hg
    have b12 := below_alloc2 w.drew (.cells (madeCells #[.int .u8 0] m1) 5) (.cells (madeCells #[.int .u8 0] m2) 5)
    have b21 := below_alloc2 w.drew (.cells (madeCells #[.int .u8 0] m2) 5) (.cells (madeCells #[.int .u8 0] m1) 5)
    have a1 : (w.drew.alloc (.cells (madeCells #[.int .u8 0] m1) 5)).heap[g]? = some (.cells (madeCells #[.int .u8 0] m1) 5 (0, 0)) := by rw [← hgd]; exact heap_alloc_new _ _
    have a2 : (w.drew.alloc (.cells (madeCells #[.int .u8 0] m2) 5)).heap[g]? = some (.cells (madeCells #[.int .u8 0] m2) 5 (0, 0)) := by rw [← hgd]; exact heap_alloc_new _ _
    have s1 := alloc_size w.drew (.cells (madeCells #[.int .u8 0] m1) 5)
    have s2 := alloc_size w.drew (.cells (madeCells #[.int .u8 0] m2) 5)
    rw [hgd] at k1 k2 b12 b21 s1 s2
    generalize w.drew.alloc (.cells (madeCells #[.int .u8 0] m1) 5) = W1 at *
    generalize w.drew.alloc (.cells (madeCells #[.int .u8 0] m2) 5) = W2 at *
    have k12 := made_zero m2 (by omega) W1
    have k21 := made_zero m1 (by omega) W2
    have x12 : (W1.alloc (.cells (madeCells #[.int .u8 0] m2) 5)).heap[g]? = some (.cells (madeCells #[.int .u8 0] m1) 5 (0, 0)) := by
      rw [← a1]
      exact ((Below.refl (g + 1) W1).alloc (by omega) _).block g (by omega)
    have y12 : (W1.alloc (.cells (madeCells #[.int .u8 0] m2) 5)).heap[g + 1]? = some (.cells (madeCells #[.int .u8 0] m2) 5 (0, 0)) := by rw [← s1]; exact heap_alloc_new _ _
    have x21 : (W2.alloc (.cells (madeCells #[.int .u8 0] m1) 5)).heap[g]? = some (.cells (madeCells #[.int .u8 0] m2) 5 (0, 0)) := by
      rw [← a2]
      exact ((Below.refl (g + 1) W2).alloc (by omega) _).block g (by omega)
    have y21 : (W2.alloc (.cells (madeCells #[.int .u8 0] m1) 5)).heap[g + 1]? = some (.cells (madeCells #[.int .u8 0] m1) 5 (0, 0)) := by rw [← s2]; exact heap_alloc_new _ _
    have s12 := alloc_size W1 (.cells (madeCells #[.int .u8 0] m2) 5)
    have s21 := alloc_size W2 (.cells (madeCells #[.int .u8 0] m1) 5)
    rw [s1] at k12 s12
    rw [s2] at k21 s21
    generalize W1.alloc (.cells (madeCells #[.int .u8 0] m2) 5) = W12 at *
    generalize W2.alloc (.cells (madeCells #[.int .u8 0] m1) 5) = W21 at *
    have c1a := conv_zero a1
    have c1b := conv_zero x12
    have c1c := conv_zero y21
    have c2a := conv_zero a2
    have c2b := conv_zero x21
    have c2c := conv_zero y12
    have hZ1 := zs_size m1
    have hZ2 := zs_size m2
    generalize zs m1 = Z1 at *
    generalize zs m2 = Z2 at *
    have hZ1b : Z1.size < 300 := by omega
    have hZ2b : Z2.size < 100 := by omega
    have hd0 : Below g w w.drew := (Below.refl _ _).drew
    have B12 := Lib.hid (hd0.trans b12)
    have B21 := Lib.hid (hd0.trans b21)
    have HG := Lib.hid hg
    have HZ1 := Lib.hid hZ1
    have HZ2 := Lib.hid hZ2
    have S12 := Lib.hid s12
    have S21 := Lib.hid s21
    obtain ⟨g1, hg1⟩ : ∃ g1, g + 1 = g1 := ⟨_, rfl⟩
    rw [hg1] at k12 k21 c1c c2c
    have HG1 := Lib.hid hg1
    rw [hg]
    clear hd0 hgd hg b12 b21 a1 a2 s1 s2 x12 y12 x21 y21 s12 s21 hm1 hm2 hq hZ1 hZ2 hg1
    go_enter Tryd.func3, Tryd.ntmps3
    go_wp2_with fail
    go_region
    all_goals first
      | (
        obtain ⟨gf, hgf⟩ : ∃ gf, W12.heap.size = gf := ⟨_, rfl⟩
        obtain ⟨hbf, hlf, hcf⟩ := three_made B12.out HG.out hgf s (s ++ Z1) Z2
        rw [hgf]
        generalize W12.alloc (.cells #[.string s, .string (s ++ Z1), .string Z2] 9) = Wf at *)
      | (
        obtain ⟨gf, hgf⟩ : ∃ gf, W21.heap.size = gf := ⟨_, rfl⟩
        obtain ⟨hbf, hlf, hcf⟩ := three_made B21.out HG.out hgf s (s ++ Z1) Z2
        rw [hgf]
        generalize W21.alloc (.cells #[.string s, .string (s ++ Z1), .string Z2] 9) = Wf at *)
    all_goals
      have HL : Hid (∀ i, ([s, s ++ Z1, Z2].getD i ByteArray.empty).size ≤ 2000) := three_size (by omega) (by rw [ByteArray.size_append]; omega) (by omega)
      obtain ⟨L, hL⟩ : ∃ L : Nat → ByteArray, (fun i => [s, s ++ Z1, Z2].getD i ByteArray.empty) = L := ⟨_, rfl⟩
      have HL2 : Hid (∀ i, (L i).size ≤ 2000) := fun i => by rw [← hL]; exact HL.out i
      have HCF : Hid (∀ i, i < 3 → Wf.cell? ⟨gf, i, none⟩ = some (.string (L i))) := fun i hi => by rw [← hL]; exact hcf i hi
      have HBF := Lib.hid hbf
      have HLF := Lib.hid hlf
      have hTg : 2 ≤ g := by have := HG.out; omega
      clear hbf hlf hcf hL HL k1 k2 k12 k21 c1a c1b c1c c2a c2b c2c hgf e1 e2 e3 hszd hm1b hm2b hZ1b hZ2b hsz
      go_wp2_with fail
      go_loopw [6, 25] (fun _ i wr => ∃ k : Nat, k ≤ 3 ∧ i = .int .i64 k ∧ Hid (∀ i, i < 3 → wr.cell? ⟨gf, i, none⟩ = some (.string (L i))) ∧ Hid (gf < wr.heap.size) ∧ Hid (Below g w wr)) (fun _ i _ => 3 - (intOf i).toNat)
      case atStart => exact ⟨0, by omega, rfl, HCF, HLF, HBF⟩
      case round =>
        obtain ⟨k, hk, rfl, HC, HGW, HB⟩ := hrel
        have HTr := Lib.hid (HT.out.below (w' := wr) (by rw [HG.out]; exact HB.out) hT)
        have hgr : g ≤ wr.heap.size := by have := HB.out.size; have := HG.out; omega
        by_cases hlt : k < 3
        · have hcl := HC.out k hlt
          have hx := HL2.out k
          obtain ⟨x, hxx⟩ : ∃ x, L k = x := ⟨_, rfl⟩
          rw [hxx] at hcl hx
          have HX := Lib.hid hx
          have H1 := Lib.hid (fun w (ht : Tabs w) => sum_any x w ht (by omega))
          have H2 := Lib.hid (fun w => refSum_any x w (by omega))
          have H3 := Lib.hid (fun w => hex_any x w (by omega))
          have H4 := Lib.hid (fun w => refHex_any x w (by omega))
          obtain ⟨V, hV⟩ : ∃ V : ByteArray, (⟨(Sha.sum x.data.toList).toArray⟩ : ByteArray) = V := ⟨_, rfl⟩
          obtain ⟨U, hU⟩ : ∃ U : ByteArray, (⟨(hexL x.data.toList).toArray⟩ : ByteArray) = U := ⟨_, rfl⟩
          rw [hV] at H1 H2
          rw [hU] at H3 H4
          clear hV hU hx hxx
          go_wp2_with fail
          refine (H1.out wr HTr.out).mono ?_
          rintro e w1 ⟨rfl, hb1⟩
          have HB1 := Lib.hid hb1
          have hs1 := hb1.size
          clear hb1
          go_wp2_with fail
          refine (H2.out w1).mono ?_
          rintro e w2 ⟨rfl, hb2⟩
          have HB2 := Lib.hid (HB1.out.trans (hb2.mono hs1))
          have hs2 : wr.heap.size ≤ w2.heap.size := HB2.out.size
          clear hb2 HB1
          go_wp2_with fail
          refine (H3.out w2).mono ?_
          rintro e w3 ⟨rfl, hb3⟩
          have HB3 := Lib.hid (HB2.out.trans (hb3.mono hs2))
          have hs3 : wr.heap.size ≤ w3.heap.size := HB3.out.size
          clear hb3 HB2
          go_wp2_with fail
          refine (H4.out w3).mono ?_
          rintro e w4 ⟨rfl, hb4⟩
          have HB4 := Lib.hid (HB3.out.trans (hb4.mono hs3))
          clear hb4 HB3
          have HC4 : Hid (∀ i, i < 3 → w4.cell? ⟨gf, i, none⟩ = some (.string (L i))) := fun i hi => by
            rw [HB4.out.cell (p := ⟨gf, i, none⟩) HGW.out]
            exact HC.out i hi
          have HG4 : Hid (gf < w4.heap.size) := Nat.lt_of_lt_of_le HGW.out HB4.out.size
          have HB5 := Lib.hid (HB.out.trans (HB4.out.mono hgr))
          clear HB HC HGW HB4 hcl
          go_wp2
          exact ⟨⟨k + 1, by omega, by go_num, HC4, HG4, HB5⟩, by simp [intOf]; omega⟩
        · go_wp2_with (go_at_call 7; refine (awake3_any _ HTr.out).mono ?_; rintro e w6 ⟨rfl, hb6⟩)
          go_ret
          exact ⟨rfl, HB.out.trans (hb6.mono hgr)⟩
  · have hszd : decide ((1000 : Int) < (s.size : Int)) = true := decide_eq_true (by omega)
    clear hsz
    go_enter Tryd.func3, Tryd.ntmps3
    go_wp2_with (go_at_call 7; refine (awake3_any _ HT.out).mono ?_; rintro e w' ⟨rfl, hbe⟩)
    go_ret
    exact ⟨rfl, hbe⟩
end Go.Proofs.YtidmcemcmalfnaaDoor
