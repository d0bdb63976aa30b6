
/- The walk through RewriteOrder. -/
import Derived.Test.YtmegmgcfnihhiaaDoorUAw
import Derived.Test.YtmegmgcfnihhiaaDoorUOr
namespace Go.Proofs.YtmegmgcfnihhiaaDoor
open Go.RowKit Go.Shelf
set_option linter.unusedVariables false
set_option linter.unusedSimpArgs false

set_option maxRecDepth 100000 in
set_option maxHeartbeats 4000000 in
theorem word_any (b : Nat) (s : Value) (l : List Int) (q n c : Nat) (ws : List ByteArray) (w : World) (hd : DiceAt w b s l) (hq : q ≠ b) (hn : ws.length = n) (h1 : 1 ≤ n) (h2 : n ≤ 1000) (hc : ∀ j, j < n → w.cell? ⟨q, j, none⟩ = some (.string (ws.getD j ⟨#[]⟩))) :
    Calls Tryd.prog 21 #[.pointer (some ⟨b, 0, none⟩), .slice (some ⟨q, 0, none⟩) n c] w fun e w' => ∃ j, j < n ∧ e = .returned (.string (ws.getD j ⟨#[]⟩)) ∧ DiceAt w' b s l ∧ But b w w' := by
  have HN := Lib.hid (next_any b s l n w hd (by omega) (by omega))
  have HC := Lib.hid hc
  have HQ : Hid (q ≠ b) := hq
  have HZ : Hid (q < w.heap.size) := cell_lt (hc 0 (by omega))
  clear hd hc hn hq
  go_enter Tryd.func21, Tryd.ntmps21
  go_wp2_with fail
  refine HN.out.mono ?_
  rintro e w2 ⟨r, r0, r1, rfl, hd2, hb2⟩
  obtain ⟨j, rfl⟩ := Int.eq_ofNat_of_zero_le r0
  have hj : j < n := by omega
  have HJ : Hid (j < n) := hj
  have hcj : w2.cell? ⟨q, j, none⟩ = some (.string (ws.getD j ⟨#[]⟩)) := by rw [hb2.cell (p := ⟨q, j, none⟩) HZ.out HQ.out]; exact HC.out j hj
  have hjI : (j : Int) < (n : Int) := by omega
  have HD2 := Lib.hid hd2
  have HB2 := Lib.hid hb2
  obtain ⟨x, hx⟩ : ∃ x, ws.getD j ⟨#[]⟩ = x := ⟨_, rfl⟩
  rw [hx] at hcj
  have HX := Lib.hid hx
  clear hd2 hb2 r0 r1 hx hj
  go_wp2
  go_ret
  exact ⟨j, HJ.out, by rw [HX.out]; rfl, HD2.out, HB2.out⟩

theorem RuleAt.but {w w' : World} {g b : Nat} {F T : ByteArray} {p : Int} (h : RuleAt w g F T p) (hb : But b w w') (hne : g ≠ b) : RuleAt w' g F T p := by
  obtain ⟨t, fr, h⟩ := h
  exact ⟨t, fr, by rw [hb.block g (Array.getElem?_eq_some_iff.1 h).1 hne]; exact h⟩
theorem RuleAt.lt {w : World} {g : Nat} {F T : ByteArray} {p : Int} (h : RuleAt w g F T p) : g < w.heap.size := by
  obtain ⟨t, fr, h⟩ := h
  exact (Array.getElem?_eq_some_iff.1 h).1
def ordW : List ByteArray := [⟨#[112]⟩, ⟨#[104]⟩, ⟨#[122]⟩, ⟨#[115]⟩, ⟨#[32]⟩, ⟨#[120]⟩]
theorem ordW_len : ∀ j, j < 6 → (ordW.getD j ⟨#[]⟩).size = 1 := by decide
theorem ord_valid : ∀ i j : Fin 3, validRs [rulA i.val, rulB j.val] = true ∧ validRs [rulB j.val, rulA i.val] = true := by decide +kernel
theorem rule_cells (i : Nat) (hi : i < 3) : rulA i = [rulA 0, rulA 1, rulA 2].getD i noRul ∧ rulB i = [rulB 0, rulB 1, rulB 2].getD i noRul := by
  have : i = 0 ∨ i = 1 ∨ i = 2 := by omega
  rcases this with rfl | rfl | rfl <;> exact ⟨rfl, rfl⟩

/-- Apply, for two rules that have just been written into a slice. -/
theorem apply_two (A B : Rul) (F1 T1 F2 T2 : ByteArray) (p1 p2 : Int) (w : World) (S : ByteArray) (hT : Tbw w) (hv : validRs [A, B] = true) (hA : (⟨A.f.toArray⟩ : ByteArray) = F1 ∧ (⟨A.t.toArray⟩ : ByteArray) = T1 ∧ A.p = p1) (hB : (⟨B.f.toArray⟩ : ByteArray) = F2 ∧ (⟨B.t.toArray⟩ : ByteArray) = T2 ∧ B.p = p2) (hS : S.size ≤ 256) :
    Calls Tryd.prog 18 #[.slice (some ⟨w.heap.size, 0, none⟩) 2 2, .string S] (w.alloc (.cells #[.string F1, .string T1, .int .i64 p1, .string F2, .string T2, .int .i64 p2] 38)) fun e w' => ∃ T : List UInt8, e = .returned (.tuple #[.string ⟨T.toArray⟩, .int .i64 0]) ∧ Ends [A, B] (foldL S.data.toList) T ∧ Below w.heap.size w w' := by
  have hr := rules_new w [A, B] 38 2 (by simp) (by simp) (by omega)
  rw [show (flatR [A, B]).toArray = #[.string F1, .string T1, .int .i64 p1, .string F2, .string T2, .int .i64 p2] from by rw [← hA.1, ← hA.2.1, ← hA.2.2, ← hB.1, ← hB.2.1, ← hB.2.2]; rfl] at hr
  have hb : Below w.heap.size w (w.alloc (.cells #[.string F1, .string T1, .int .i64 p1, .string F2, .string T2, .int .i64 p2] 38)) := (Below.refl _ _).alloc (Nat.le_refl _) _
  refine (apply_any S _ [A, B] _ (hT.below hb) (mild_of hv) hr (by omega)).mono ?_
  rintro e w' ⟨T, c, rfl, h, hb2⟩
  rw [hv, if_neg (by simp), if_neg (by omega)] at h
  obtain ⟨h1, rfl⟩ := h
  exact ⟨T, rfl, h1, hb.trans (hb2.mono hb.size)⟩

set_option maxRecDepth 100000 in
set_option maxHeartbeats 4000000 in
theorem rewriteOrder_walk (s : Value) (l : List Int) (n0 : Nat) (w : World) (T : Tbw w) (hs : Ints w s l) (h0 : n0 < 256) :
    Calls Tryd.prog 8 #[s, .int .u8 n0] w fun e w' => e = .returned (.bool true) ∧ Below w.heap.size w w' := by
  have HL := Lib.hid (light_any s l w hs)
  have HRO := Lib.hid (roll_any s w (by obtain ⟨a, c, h, _⟩ := hs; exact ⟨a, _, c, h⟩))
  obtain ⟨bl, hbl⟩ : ∃ b, decide ((l.length : Int) ≤ 500) = b := ⟨_, rfl⟩
  rw [hbl] at HL
  have HT := Lib.hid T
  have HAW := Lib.hid (fun W (k : Below w.heap.size w W) => awake12_any W (HT.out.below k))
  cases bl with
  | false =>
    clear hs T hbl
    go_enter Tryd.func8, Tryd.ntmps8
    go_wp2_with fail
    refine HL.out.mono ?_
    rintro e w' ⟨rfl, rfl⟩
    go_wp2_with fail
    refine (HAW.out w (Below.refl _ _)).mono ?_
    rintro e w1 ⟨rfl, hb⟩
    have HB := Lib.hid hb
    clear hb
    go_wp2
    go_ret
    exact ⟨rfl, HB.out⟩
  | true =>
    obtain ⟨g, hg⟩ : ∃ g, w.heap.size = g := ⟨_, rfl⟩
    have hal : Below g w (w.alloc (.cells #[s, .int .i64 0] 49)) := by rw [← hg]; exact (Below.refl _ w).alloc (Nat.le_refl _) _
    have hd0 : DiceAt (w.alloc (.cells #[s, .int .i64 0] 49)) g s l := by
      rw [← hg]
      exact dice_new hs
    have HD0 := Lib.hid hd0
    have HB0 := Lib.hid hal
    have HGG := Lib.hid hg
    obtain ⟨i, hi⟩ : ∃ i, n0 % 3 = i := ⟨_, rfl⟩
    obtain ⟨j, hj⟩ : ∃ j, n0 / 3 % 3 = j := ⟨_, rfl⟩
    have hi3 : i < 3 := by omega
    have hj3 : j < 3 := by omega
    have t1 : ((n0 : Int)).tmod 3 = (i : Int) := by rw [Int.tmod_eq_emod_of_nonneg (by omega)]; omega
    have t2 : ((n0 : Int)).tdiv 3 = ((n0 / 3 : Nat) : Int) := by rw [Int.tdiv_eq_ediv_of_nonneg (by omega)]; omega
    have t3 : (((n0 / 3 : Nat) : Int)).tmod 3 = (j : Int) := by rw [Int.tmod_eq_emod_of_nonneg (by omega)]; omega
    have u1 : (n0 : Int) % 3 = (i : Int) := by omega
    have u2 : (n0 : Int) / 3 = ((n0 / 3 : Nat) : Int) := by omega
    have u3 : ((n0 / 3 : Nat) : Int) % 3 = (j : Int) := by omega
    obtain ⟨n3, hn3⟩ : ∃ n3, n0 / 3 = n3 := ⟨_, rfl⟩
    rw [hn3] at t2 t3 u2 u3
    have hn3b : n3 < 256 := by omega
    rw [hg] at HAW ⊢
    clear hs T hbl hal hd0 hg hi hj hn3
    go_enter Tryd.func8, Tryd.ntmps8
    go_wp2_with fail
    refine HL.out.mono ?_
    rintro e w' ⟨rfl, rfl⟩
    go_wp2_with fail
    refine HRO.out.mono ?_
    rintro e w2 ⟨rfl, rfl⟩
    rw [HGG.out]
    generalize w.alloc (.cells #[s, .int .i64 0] 49) = w2 at *
    clear HRO HL
    obtain ⟨FA, hFA⟩ : ∃ F : ByteArray, (⟨(rulA i).f.toArray⟩ : ByteArray) = F := ⟨_, rfl⟩
    obtain ⟨TA, hTA⟩ : ∃ F : ByteArray, (⟨(rulA i).t.toArray⟩ : ByteArray) = F := ⟨_, rfl⟩
    obtain ⟨pA, hpA⟩ : ∃ p, (rulA i).p = p := ⟨_, rfl⟩
    obtain ⟨FB, hFB⟩ : ∃ F : ByteArray, (⟨(rulB j).f.toArray⟩ : ByteArray) = F := ⟨_, rfl⟩
    obtain ⟨TB, hTB⟩ : ∃ F : ByteArray, (⟨(rulB j).t.toArray⟩ : ByteArray) = F := ⟨_, rfl⟩
    obtain ⟨pB, hpB⟩ : ∃ p, (rulB j).p = p := ⟨_, rfl⟩
    have HAB : Hid ((⟨(rulA i).f.toArray⟩ : ByteArray) = FA ∧ (⟨(rulA i).t.toArray⟩ : ByteArray) = TA ∧ (rulA i).p = pA ∧ (⟨(rulB j).f.toArray⟩ : ByteArray) = FB ∧ (⟨(rulB j).t.toArray⟩ : ByteArray) = TB ∧ (rulB j).p = pB) := ⟨hFA, hTA, hpA, hFB, hTB, hpB⟩
    have HIJ : Hid (i < 3 ∧ j < 3) := ⟨hi3, hj3⟩
    have hcA : ∀ d x, (cellsR (rulA i))[d]? = some x → (w2.alloc (.cells #[.string ⟨#[112, 104]⟩, .string ⟨#[104]⟩, .int .i64 0, .string ⟨#[112, 112]⟩, .string ⟨#[112]⟩, .int .i64 0, .string ⟨#[104, 112]⟩, .string ⟨#[112]⟩, .int .i64 2] 38)).cell? ⟨w2.heap.size, i * 3 + d, none⟩ = some x := fun d x hx => by
      rw [cell_new]
      have : i = 0 ∨ i = 1 ∨ i = 2 := by omega
      have hd : d = 0 ∨ d = 1 ∨ d = 2 := by
        have := (List.getElem?_eq_some_iff.1 hx).1
        simp [cellsR] at this
        omega
      rcases this with rfl | rfl | rfl <;> rcases hd with rfl | rfl | rfl <;> exact hx
    have a0 := hcA 0 (.string FA) (by rw [← hFA]; rfl)
    have a1 := hcA 1 (.string TA) (by rw [← hTA]; rfl)
    have a2 := hcA 2 (.int .i64 pA) (by rw [← hpA]; rfl)
    rw [Nat.add_zero] at a0
    have hiI : (i : Int) < 3 := by omega
    have hjI : (j : Int) < 3 := by omega
    have hb3 := HB0.out.alloc (Nat.le_of_lt HD0.out.size) (.cells #[.string ⟨#[112, 104]⟩, .string ⟨#[104]⟩, .int .i64 0, .string ⟨#[112, 112]⟩, .string ⟨#[112]⟩, .int .i64 0, .string ⟨#[104, 112]⟩, .string ⟨#[112]⟩, .int .i64 2] 38)
    have hd3 := HD0.out.below ((Below.refl _ w2).alloc (Nat.le_refl _) (.cells #[.string ⟨#[112, 104]⟩, .string ⟨#[104]⟩, .int .i64 0, .string ⟨#[112, 112]⟩, .string ⟨#[112]⟩, .int .i64 0, .string ⟨#[104, 112]⟩, .string ⟨#[112]⟩, .int .i64 2] 38)) HD0.out.size
    have HB3 := Lib.hid hb3
    have HD3 := Lib.hid hd3
    clear hcA hFA hTA hpA hFB hTB hpB hb3 hd3 HB0 HD0
    go_upto_region 5 with fail
    obtain ⟨w3, hw3⟩ : ∃ w3, w2.alloc (.cells #[.string ⟨#[112, 104]⟩, .string ⟨#[104]⟩, .int .i64 0, .string ⟨#[112, 112]⟩, .string ⟨#[112]⟩, .int .i64 0, .string ⟨#[104, 112]⟩, .string ⟨#[112]⟩, .int .i64 2] 38) = w3 := ⟨_, rfl⟩
    obtain ⟨q6, hq6⟩ : ∃ q, w2.heap.size + 1 = q := ⟨_, rfl⟩
    have hz3 : w3.heap.size = q6 := by rw [← hw3, ← hq6]; simp
    have hgq : g < q6 := by rw [← hq6]; have := HD3.out.size; rw [hw3, hz3] at this; omega
    rw [hw3, hq6]
    rw [hw3] at HB3 HD3
    obtain ⟨w4, hw4⟩ : ∃ w4, w3.alloc (.cells #[.string FA, .string TA, .int .i64 pA] 38) = w4 := ⟨_, rfl⟩
    rw [hw4]
    have hR6 : RuleAt w4 q6 FA TA pA := by rw [← hw4, ← hz3]; exact ruleAt_new _ _ _ _ _
    have hal4 : Below w3.heap.size w3 w4 := by rw [← hw4]; exact (Below.refl _ _).alloc (Nat.le_refl _) _
    have HB4 := Lib.hid (HB3.out.trans (hal4.mono (by omega)))
    have HD4 := Lib.hid (HD3.out.below hal4 (by omega))
    have HZ4 : Hid (q6 < w4.heap.size) := by show _ < _; rw [← hw4]; simp; omega
    have HR6 := Lib.hid hR6
    have HGQ : Hid (g < q6) := hgq
    clear a0 a1 a2 hw3 hq6 hz3 hgq hw4 hR6 hal4 HB3 HD3
    have hcB : ∀ d x, (cellsR (rulB j))[d]? = some x → (w4.alloc (.cells #[.string ⟨#[122, 122]⟩, .string ⟨#[122]⟩, .int .i64 0, .string ⟨#[115, 122]⟩, .string ⟨#[115]⟩, .int .i64 3, .string ⟨#[122]⟩, .string ⟨#[115]⟩, .int .i64 0] 38)).cell? ⟨w4.heap.size, j * 3 + d, none⟩ = some x := fun d x hx => by
      rw [cell_new]
      have : j = 0 ∨ j = 1 ∨ j = 2 := by omega
      have hd : d = 0 ∨ d = 1 ∨ d = 2 := by
        have := (List.getElem?_eq_some_iff.1 hx).1
        simp [cellsR] at this
        omega
      rcases this with rfl | rfl | rfl <;> rcases hd with rfl | rfl | rfl <;> exact hx
    have a0 := hcB 0 (.string FB) (by rw [← HAB.out.2.2.2.1]; rfl)
    have a1 := hcB 1 (.string TB) (by rw [← HAB.out.2.2.2.2.1]; rfl)
    have a2 := hcB 2 (.int .i64 pB) (by rw [← HAB.out.2.2.2.2.2]; rfl)
    rw [Nat.add_zero] at a0
    clear hcB
    go_upto_region 6 with fail
    obtain ⟨w5, hw5⟩ : ∃ w5, w4.alloc (.cells #[.string ⟨#[122, 122]⟩, .string ⟨#[122]⟩, .int .i64 0, .string ⟨#[115, 122]⟩, .string ⟨#[115]⟩, .int .i64 3, .string ⟨#[122]⟩, .string ⟨#[115]⟩, .int .i64 0] 38) = w5 := ⟨_, rfl⟩
    obtain ⟨q7, hq7⟩ : ∃ q, w4.heap.size + 1 = q := ⟨_, rfl⟩
    have hz5 : w5.heap.size = q7 := by rw [← hw5, ← hq7]; simp
    have hal5 : Below w4.heap.size w4 w5 := by rw [← hw5]; exact (Below.refl _ _).alloc (Nat.le_refl _) _
    have HB5 := Lib.hid (HB4.out.trans (hal5.mono (by have := HZ4.out; have := HGQ.out; omega)))
    have HD5 := Lib.hid (HD4.out.below hal5 (by have := HZ4.out; have := HGQ.out; omega))
    have HR6b := Lib.hid (HR6.out.below HZ4.out hal5)
    have HQ67 : Hid (q6 < q7) := by have := HZ4.out; show _ < _; omega
    clear HB4 HD4 HR6 hal5
    rw [hw5, hq7]
    obtain ⟨w6, hw6⟩ : ∃ w6, w5.alloc (.cells #[.string FB, .string TB, .int .i64 pB] 38) = w6 := ⟨_, rfl⟩
    rw [hw6]
    have hR7 : RuleAt w6 q7 FB TB pB := by rw [← hw6, ← hz5]; exact ruleAt_new _ _ _ _ _
    have hal6 : Below w5.heap.size w5 w6 := by rw [← hw6]; exact (Below.refl _ _).alloc (Nat.le_refl _) _
    have hgq7 : g < q7 := Nat.lt_trans HGQ.out HQ67.out
    have HB6 := Lib.hid (HB5.out.trans (hal6.mono (by rw [hz5]; exact Nat.le_of_lt hgq7)))
    have HD6 := Lib.hid (HD5.out.below hal6 (by rw [hz5]; exact hgq7))
    have HR6 := Lib.hid (HR6b.out.below (by rw [hz5]; exact HQ67.out) hal6)
    have HR7 := Lib.hid hR7
    have HZ6 : Hid (q7 < w6.heap.size) := by show _ < _; rw [← hw6]; simp; omega
    have HGQ7 : Hid (g < q7) := hgq7
    clear a0 a1 a2 hw5 hq7 hz5 hw6 hR7 hal6 HR6b hgq7 HB5 HD5 HZ4 t1 t2 t3 u1 u2 u3 hn3b hiI hjI h0
    have HK6 : Hid (DiceAt w6 g s l ∧ Below g w w6 ∧ RuleAt w6 q6 FA TA pA ∧ RuleAt w6 q7 FB TB pB) := ⟨HD6.out, HB6.out, HR6.out, HR7.out⟩
    clear HD6 HB6 HR6 HR7 HZ6
    go_wp2_with fail
    refine (next_any g s l 20 w6 HK6.out.1 (by omega) (by omega)).mono ?_
    rintro e w7 ⟨r, r0, r1, rfl, hd7, hb7⟩
    obtain ⟨n, rfl⟩ := Int.eq_ofNat_of_zero_le r0
    have hn20 : n ≤ 20 := by omega
    have HK7 : Hid (DiceAt w7 g s l ∧ Below g w w7 ∧ RuleAt w7 q6 FA TA pA ∧ RuleAt w7 q7 FB TB pB) := ⟨hd7, HK6.out.2.1.trans (hb7.below (Nat.le_refl _) (Nat.le_of_lt HK6.out.1.size)), HK6.out.2.2.1.but hb7 (Nat.ne_of_gt HGQ.out), HK6.out.2.2.2.but hb7 (Nat.ne_of_gt HGQ7.out)⟩
    clear r0 r1 hd7 hb7 HK6
    go_wp2_with fail
    go_loopw [8, 38] (fun v i wr => ∃ (k : Nat) (S : ByteArray), k ≤ n ∧ v = .string S ∧ i = .int .i64 k ∧ Hid (S.size = k) ∧ Hid (DiceAt wr g s l ∧ Below g w wr ∧ RuleAt wr q6 FA TA pA ∧ RuleAt wr q7 FB TB pB)) (fun _ i _ => n - (intOf i).toNat)
    case atStart => exact ⟨0, ⟨#[]⟩, Nat.zero_le _, rfl, rfl, rfl, HK7⟩
    case round =>
      obtain ⟨k, S, hk, rfl, rfl, HS, HK⟩ := hrel
      clear HK7
      by_cases hlt : k < n
      · have hltI : (k : Int) < (n : Int) := by omega
        have hal : Below wr.heap.size wr (wr.alloc (.cells #[.string ⟨#[112]⟩, .string ⟨#[104]⟩, .string ⟨#[122]⟩, .string ⟨#[115]⟩, .string ⟨#[32]⟩, .string ⟨#[120]⟩] 9)) := (Below.refl _ _).alloc (Nat.le_refl _) _
        have hwd := word_any g s l wr.heap.size 6 6 ordW (wr.alloc (.cells #[.string ⟨#[112]⟩, .string ⟨#[104]⟩, .string ⟨#[122]⟩, .string ⟨#[115]⟩, .string ⟨#[32]⟩, .string ⟨#[120]⟩] 9)) (HK.out.1.below hal HK.out.1.size) (Nat.ne_of_gt HK.out.1.size) rfl (by omega) (by omega) (fun j hj => by
          rw [cell_new]
          have : j = 0 ∨ j = 1 ∨ j = 2 ∨ j = 3 ∨ j = 4 ∨ j = 5 := by omega
          rcases this with rfl | rfl | rfl | rfl | rfl | rfl <;> rfl)
        have HWD := Lib.hid hwd
        have HK2 : Hid (∀ W, But g (wr.alloc (.cells #[.string ⟨#[112]⟩, .string ⟨#[104]⟩, .string ⟨#[122]⟩, .string ⟨#[115]⟩, .string ⟨#[32]⟩, .string ⟨#[120]⟩] 9)) W → DiceAt W g s l → DiceAt W g s l ∧ Below g w W ∧ RuleAt W q6 FA TA pA ∧ RuleAt W q7 FB TB pB) := fun W hb hd => by
          have hz : g < wr.heap.size := HK.out.1.size
          have hb1 := hal.mono (Nat.le_of_lt hz)
          exact ⟨hd, (HK.out.2.1.trans hb1).trans (hb.below (Nat.le_refl _) (by simp; omega)), (HK.out.2.2.1.below HK.out.2.2.1.lt hal).but hb (Nat.ne_of_gt HGQ.out), (HK.out.2.2.2.below HK.out.2.2.2.lt hal).but hb (Nat.ne_of_gt HGQ7.out)⟩
        clear hal hwd HK
        go_wp2_with fail
        refine HWD.out.mono ?_
        rintro e w8 ⟨j', hj', rfl, hd8, hb8⟩
        have HK8 := Lib.hid (HK2.out w8 hb8 hd8)
        have hxz := ordW_len j' hj'
        obtain ⟨x, hx⟩ : ∃ x, ordW.getD j' ⟨#[]⟩ = x := ⟨_, rfl⟩
        rw [hx] at hxz ⊢
        have hsz : S.size ≤ 20 := by have := HS.out; omega
        have HS2 : Hid ((S ++ x).size = k + 1) := by show _ = _; rw [ByteArray.size_append, HS.out, hxz]
        clear hd8 hb8 HK2 HWD hx hj'
        go_wp2_with fail
        go_roundw
        case rel => exact ⟨k + 1, S ++ x, by omega, rfl, by go_num, HS2, HK8⟩
        case measure => simp [intOf]; omega
      · obtain rfl : k = n := by omega
        obtain ⟨hv1, hv2⟩ := ord_valid ⟨i, HIJ.out.1⟩ ⟨j, HIJ.out.2⟩
        have hk20 : S.size ≤ 256 := by have := HS.out; omega
        have hz : Hid (g ≤ wr.heap.size) := Nat.le_of_lt HK.out.1.size
        have HA1 := Lib.hid (apply_two (rulA i) (rulB j) FA TA FB TB pA pB wr S (HT.out.below (by rw [HGG.out]; exact HK.out.2.1)) hv1 ⟨HAB.out.1, HAB.out.2.1, HAB.out.2.2.1⟩ HAB.out.2.2.2 hk20)
        have HA2 := Lib.hid (fun W (hW : Below g w W) => apply_two (rulB j) (rulA i) FB TB FA TA pB pA W S (HT.out.below (by rw [HGG.out]; exact hW)) hv2 HAB.out.2.2.2 ⟨HAB.out.1, HAB.out.2.1, HAB.out.2.2.1⟩ hk20)
        have a0 := HK.out.2.2.1.c0
        have a1 := HK.out.2.2.1.c1
        have a2 := HK.out.2.2.1.c2
        have b0 := HK.out.2.2.2.c0
        have b1 := HK.out.2.2.2.c1
        have b2 := HK.out.2.2.2.c2
        clear hv1 hv2 hk20 hlt
        go_wp2_with fail
        refine HA1.out.mono ?_
        rintro e w9 ⟨T1, rfl, hE1, hb9⟩
        have HE1 := Lib.hid hE1
        have HB9 := Lib.hid (HK.out.2.1.trans (hb9.mono hz.out))
        have HR6 := Lib.hid (HK.out.2.2.1.below HK.out.2.2.1.lt hb9)
        have HR7 := Lib.hid (HK.out.2.2.2.below HK.out.2.2.2.lt hb9)
        have HZ9 : Hid (g ≤ w9.heap.size) := Nat.le_trans hz.out hb9.size
        clear a0 a1 a2 b0 b1 b2 hE1 hb9 HA1 HK
        have a0 := HR6.out.c0
        have a1 := HR6.out.c1
        have a2 := HR6.out.c2
        have b0 := HR7.out.c0
        have b1 := HR7.out.c1
        have b2 := HR7.out.c2
        have HA3 := Lib.hid (HA2.out w9 HB9.out)
        clear HA2
        go_wp2_with fail
        refine HA3.out.mono ?_
        rintro e w10 ⟨T2, rfl, hE2, hb10⟩
        obtain rfl := order_same i j HE1.out hE2
        have HB10 := Lib.hid (HB9.out.trans (hb10.mono HZ9.out))
        obtain ⟨X, hX⟩ : ∃ X : ByteArray, (⟨T1.toArray⟩ : ByteArray) = X := ⟨_, rfl⟩
        rw [hX]
        have heq : (X.toList == X.toList) = true := by simp
        have HAW2 := Lib.hid (HAW.out w10 HB10.out)
        have HZ10 : Hid (g ≤ w10.heap.size) := Nat.le_trans HZ9.out hb10.size
        clear a0 a1 a2 b0 b1 b2 hE2 hb10 HA3 hX HE1
        go_wp2_with fail
        refine HAW2.out.mono ?_
        rintro e w11 ⟨rfl, hb11⟩
        have HB11 := Lib.hid (HB10.out.trans (hb11.mono HZ10.out))
        clear hb11
        go_wp2
        go_ret
        exact ⟨rfl, HB11.out⟩
end Go.Proofs.YtmegmgcfnihhiaaDoor
