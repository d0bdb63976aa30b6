
/- The words of a block: the program's schedule. -/
import Derived.Test.YtidmcemcmalfnaaDoorSRot
import Derived.Test.YtidmcemcmalfnaaDoorDice
import Derived.Deep.OwnRows
import Derived.Test.YtidmcemcmalfnaaDoorRound
namespace Go.Proofs.YtidmcemcmalfnaaDoor
open Go.RowKit
set_option linter.unusedVariables false

theorem results_cell {P : Program} {fn : Func} {p : Tmp} {ty : TypeId} (h : fn.results = #[.cell p ty]) (tmps : Array Value) (w : World) :
    (results fn tmps).run P w = ((asAddr (tmps.getD p undef)).run P w).andThen fun a w₁ => (loadVar ty a).run P w₁ := by
  simp only [results, h]
  simp [Sem.run_bind, Result.andThen]
  try (cases ((asAddr (tmps.getD p undef)).run P w) <;> simp)
theorem below_setRow {B : Nat} {w w' : World} (h : Below B w w') {g : Nat} (hg : B ≤ g) (c : Array Value) : Below B w (w'.setRow g c) :=
  ⟨h.os, h.tape, h.output, by simp [World.setRow]; exact h.size, fun k hk => by
    rw [← h.block k hk]
    simp only [World.setRow, Array.getElem?_modify]
    rw [if_neg (by omega)]⟩
def zeros64 : Array Value := Array.replicate 64 (.int .u32 0)
theorem rowIs_zeros (w : World) (c : Array Value) (t : TypeId) (h : c = zeros64) : (w.alloc (.cells c t)).rowIs w.heap.size t 64 (fun _ => .int .u32 0) := by
  subst h
  exact World.rowIs_alloc w zeros64 t _ (fun i hi => by
    have hi' : i < 64 := by simpa [zeros64] using hi
    simp [zeros64, hi'])
def row1 (l : List UInt8) (k j : Nat) : Value := .int .u32 (Sha.pw l k j)
theorem row1_step (l : List UInt8) (k j : Nat) : (if j = k / 4 then Value.int .u32 (Sha.pw l (k + 1) (k / 4)) else row1 l k j) = row1 l (k + 1) j := by
  unfold row1
  by_cases h : j = k / 4
  · rw [if_pos h, h]
  · rw [if_neg h, Sha.pw_other l k j h]

def row2 (V : Nat → Int) (k j : Nat) : Value := .int .u32 (if j < 16 + k then V j else 0)
theorem row2_zero (l : List UInt8) (j : Nat) : row1 l 64 j = row2 (Sha.W l) 0 j := by
  unfold row1 row2
  rw [Sha.pw_end]
  by_cases h : j < 16
  · rw [if_pos h, if_pos (by omega), Sha.W_first l j h]
  · rw [if_neg h, if_neg (by omega)]
theorem row2_old (V : Nat → Int) (k j : Nat) (h : j < 16 + k) : row2 V k j = .int .u32 (V j) := by
  unfold row2; rw [if_pos h]
theorem row2_step (V : Nat → Int) (k t : Nat) (x : Int) (ht : t = 16 + k) (hx : V t = x) (j : Nat) : (if j = t then Value.int .u32 x else row2 V k j) = row2 V (k + 1) j := by
  subst hx ht
  unfold row2
  by_cases h : j = 16 + k
  · rw [if_pos h, if_pos (by omega), h]
  · rw [if_neg h]
    by_cases h2 : j < 16 + k
    · rw [if_pos h2, if_pos (by omega)]
    · rw [if_neg h2, if_neg (by omega)]
def Rec (V : Nat → Int) : Prop := ∀ t j2 j7 j15 j16 : Nat, 16 ≤ t → t < 64 → t = j2 + 2 → t = j7 + 7 → t = j15 + 15 → t = j16 + 16 →
    V t = Sha.ad (Sha.ad (Sha.ad (Sha.s1 (V j2)) (V j7)) (Sha.s0 (V j15))) (V j16)
theorem W_rec (l : List UInt8) : Rec (Sha.W l) := fun t j2 j7 j15 j16 h h2 e2 e7 e15 e16 => by
  obtain rfl : j2 = 14 + j16 := by omega
  obtain rfl : j7 = 9 + j16 := by omega
  obtain rfl : j15 = 1 + j16 := by omega
  obtain rfl : t = 16 + j16 := by omega
  exact Sha.W_next l j16 (by omega)

set_option maxHeartbeats 1000000 in
theorem schedule_any (b : Nat) (l : List UInt8) (w : World) (hl : l.length = 64) (hb : ∀ i, i < 64 → w.cell? ⟨b, 8 + i, none⟩ = some (.int .u8 (Sha.bt l i))) :
    Calls Tryd.prog 42 #[.pointer (some ⟨b, 8, none⟩)] w fun e w' => ∃ cs, e = .returned (.agg cs) ∧ cs.size = 64 ∧ (∀ j, j < 64 → cs[j]? = some (.int .u32 (Sha.W l j))) ∧ Below w.heap.size w w' := by
  have hbs : b < w.heap.size := cell_lt (hb 0 (by omega))
  obtain ⟨n0, hn0⟩ : ∃ n, w.heap.size = n := ⟨_, rfl⟩
  have HB := Lib.hid hb
  clear hb
  obtain ⟨V, hV⟩ : ∃ V, Sha.W l = V := ⟨_, rfl⟩
  have HV : Hid (Rec V) := by rw [← hV]; exact W_rec l
  have HVE := Lib.hid hV
  rw [hV]
  clear hV
  have hmx : Tryd.prog.follows .mixedOrders = true := by kernel_rfl
  go_enter Tryd.func42, Tryd.ntmps42
  go_wp2
  go_loopw [4, 5, 12] (fun _ _ i wr => ∃ k : Nat, k ≤ 64 ∧ i = .int .i64 k ∧ Hid (wr.rowIs (n0 + 1) 49 64 (row1 l k)) ∧ Hid (wr.rowIs n0 49 64 (fun _ => .int .u32 0)) ∧ Hid (Below n0 w wr)) (fun _ _ i _ => 64 - (intOf i).toNat)
  case atStart =>
    have h0 := rowIs_zeros w _ 49 rfl
    have h1 := rowIs_zeros (w.alloc (.cells zeros64 49)) _ 49 rfl
    refine ⟨0, Nat.zero_le _, rfl, Lib.hid ?_, Lib.hid ?_, Lib.hid ?_⟩
    · have e : (w.alloc (.cells zeros64 49)).heap.size = n0 + 1 := by simp [hn0]
      rw [e] at h1
      exact h1.congr (fun j _ => by unfold row1; rw [Sha.pw_zero])
    · have h := h0.alloc (.cells zeros64 49)
      rw [hn0] at h
      exact h
    · exact ((Below.refl _ _).alloc (by omega) _).alloc (by simp; omega) _
  case round =>
    obtain ⟨k, hk, rfl, HR, HZ, HW⟩ := hrel
    by_cases hlt : k < 64
    · have hcb := HB.out k hlt
      rw [← HW.out.cell (p := ⟨b, 8 + k, none⟩) (by show b < n0; omega)] at hcb
      have hcl := HR.out.cell (i := k / 4) (by omega)
      have hfr := HR.out.frozen (k / 4)
      unfold row1 at hcl
      have hdiv : (k : Int).tdiv 4 = ((k / 4 : Nat) : Int) := by rw [Int.tdiv_eq_ediv_of_nonneg (by omega)]; omega
      have HP := Lib.hid (Sha.pw_step l k)
      have hkk : k / 4 < 64 := by omega
      generalize hq : k / 4 = q at *
      generalize Sha.pw l k q = x at *
      have hbt := Sha.bt_in l k
      generalize Sha.bt l k = y at *
      go_wp2
      go_quiet (fail)
      go_wp2
      have HR' : Hid ((wr.setCell ⟨n0 + 1, q, none⟩ (.int .u32 (Sha.pw l (k + 1) q))).rowIs (n0 + 1) 49 64 (row1 l (k + 1))) :=
        (HR.out.set q _).congr fun j hj => by rw [← hq]; exact row1_step l k j
      refine ⟨⟨k + 1, by omega, by go_num, ?_, ?_, ?_⟩, by simp [intOf]; omega⟩
      · rw [HP.out]; exact HR'
      · exact Lib.hid (World.rowIs.setOther (a := ⟨n0 + 1, q, none⟩) HZ.out (by simp) _)
      · exact Lib.hid (Below.setCell (w := wr.drewN nq) ⟨HW.out.os, HW.out.tape, HW.out.output, HW.out.size, HW.out.block⟩ (p := ⟨n0 + 1, q, none⟩) (by show n0 ≤ n0 + 1; omega) _)
    · have HQ : Hid (wr.rowIs (n0 + 1) 49 64 (row2 V 0)) := by
        obtain rfl : k = 64 := by omega
        rw [← HVE.out]
        exact HR.out.congr fun j hj => row2_zero l j
      clear HR
      go_wp2
      go_loopw [6, 7, 8, 9, 10] (fun i _ _ _ _ wr => ∃ t : Nat, 16 ≤ t ∧ t ≤ 64 ∧ i = .int .i64 t ∧ Hid (wr.rowIs (n0 + 1) 49 64 (row2 V (t - 16))) ∧ Hid (wr.rowIs n0 49 64 (fun _ => .int .u32 0)) ∧ Hid (Below n0 w wr)) (fun i _ _ _ _ _ => 64 - (intOf i).toNat)
      case atStart => exact ⟨16, by omega, by omega, rfl, HQ, HZ, HW⟩
      case round =>
        obtain ⟨t, ht, ht2, rfl, HR, HZ, HW⟩ := hrel
        by_cases hlt : t < 64
        · obtain ⟨j15, e15⟩ : ∃ j : Nat, t = j + 15 := ⟨t - 15, by omega⟩
          obtain ⟨j2, e2⟩ : ∃ j : Nat, t = j + 2 := ⟨t - 2, by omega⟩
          obtain ⟨j7, e7⟩ : ∃ j : Nat, t = j + 7 := ⟨t - 7, by omega⟩
          obtain ⟨j16, e16⟩ : ∃ j : Nat, t = j + 16 := ⟨t - 16, by omega⟩
          have H15 : Hid (IntKind.i64.wrap ((t : Int) - 15) = (j15 : Int)) := Lib.hid <| by rw [IntKind.wrap_i64]; omega
          have H2 : Hid (IntKind.i64.wrap ((t : Int) - 2) = (j2 : Int)) := Lib.hid <| by rw [IntKind.wrap_i64]; omega
          have H7 : Hid (IntKind.i64.wrap ((t : Int) - 7) = (j7 : Int)) := Lib.hid <| by rw [IntKind.wrap_i64]; omega
          have H16 : Hid (IntKind.i64.wrap ((t : Int) - 16) = (j16 : Int)) := Lib.hid <| by rw [IntKind.wrap_i64]; omega
          have c15 := HR.out.cell (i := j15) (by omega)
          have c2 := HR.out.cell (i := j2) (by omega)
          rw [row2_old V _ _ (by omega)] at c15 c2
          have hj15 : j15 < 64 := by omega
          have hj2 : j2 < 64 := by omega
          have hj7 : j7 < 64 := by omega
          have hj16 : j16 < 64 := by omega
          have E2 := Lib.hid e2
          have E7 := Lib.hid e7
          have E15 := Lib.hid e15
          have E16 := Lib.hid e16
          clear e15 e2 e7 e16
          obtain ⟨x, hx⟩ : ∃ x, V j15 = x := ⟨_, rfl⟩
          obtain ⟨y, hy⟩ : ∃ y, V j2 = y := ⟨_, rfl⟩
          rw [hx] at c15
          rw [hy] at c2
          have HX := Lib.hid hx
          have HY := Lib.hid hy
          clear hx hy
          go_wp2_with fail
          have h15 := H15.out
          have h2 := H2.out
          go_quiet (fail)
          clear h15 h2
          go_wp2_with fail
          refine (turned2 x 7 18 _ _ (heap_alloc_new _ _) (by omega) (by omega)).mono ?_
          rintro e w2 ⟨rfl, hw2⟩
          have HR2 : Hid (w2.rowIs (n0 + 1) 49 64 (row2 V (t - 16))) := by rw [← hw2]; exact World.rowIs.alloc (w := wr.drewN nq) HR.out _
          have HZ2 : Hid (w2.rowIs n0 49 64 (fun _ => .int .u32 0)) := by rw [← hw2]; exact World.rowIs.alloc (w := wr.drewN nq) HZ.out _
          have HW2 : Hid (Below n0 w w2) := by rw [← hw2]; exact Below.alloc (w := wr.drewN nq) ⟨HW.out.os, HW.out.tape, HW.out.output, HW.out.size, HW.out.block⟩ (by have := HW.out.size; show n0 ≤ wr.heap.size; omega) _
          clear hw2 HR HZ HW c15 c2
          go_wp2_with fail
          refine (turned2 y 17 19 _ _ (heap_alloc_new _ _) (by omega) (by omega)).mono ?_
          rintro e w3 ⟨rfl, hw3⟩
          have HR3 : Hid (w3.rowIs (n0 + 1) 49 64 (row2 V (t - 16))) := by rw [← hw3]; exact HR2.out.alloc _
          have HZ3 : Hid (w3.rowIs n0 49 64 (fun _ => .int .u32 0)) := by rw [← hw3]; exact HZ2.out.alloc _
          have HW3 : Hid (Below n0 w w3) := by rw [← hw3]; exact HW2.out.alloc (by have := HW2.out.size; omega) _
          clear hw3 HR2 HZ2 HW2
          have c7 := HR3.out.cell (i := j7) hj7
          have c16 := HR3.out.cell (i := j16) hj16
          rw [row2_old V _ _ (by have := E7.out; omega)] at c7
          rw [row2_old V _ _ (by have := E16.out; omega)] at c16
          have hcl := HR3.out.cell (i := t) hlt
          have hfr := HR3.out.frozen t
          have HN := Lib.hid (HV.out t j2 j7 j15 j16 ht hlt E2.out E7.out E15.out E16.out)
          obtain ⟨x7, hx7⟩ : ∃ x, V j7 = x := ⟨_, rfl⟩
          obtain ⟨x16, hx16⟩ : ∃ x, V j16 = x := ⟨_, rfl⟩
          rw [hx7] at c7 HN
          rw [hx16] at c16 HN
          rw [HX.out, HY.out] at HN
          clear hx7 hx16
          go_wp2_with fail
          have h7 := H7.out
          have h16 := H16.out
          have b7 : (j7 : Int) < 64 := by omega
          have b16 : (j16 : Int) < 64 := by omega
          have bt : (t : Int) < 64 := by omega
          refine wp_region_still_tail 15 hmx (by kernel_rfl) ?_
          simp only [List.take_succ_cons, List.take_zero, List.drop_succ_cons, List.drop_zero, drew_def]
          repeat still_step
          refine wpStill_nil ?_
          clear h7 h16 b7 b16
          go_wp2
          have HS : Hid ((w3.setCell ⟨n0 + 1, t, none⟩ (.int .u32 (V t))).rowIs (n0 + 1) 49 64 (row2 V (t - 16 + 1))) :=
            (HR3.out.set t _).congr fun j hj => row2_step V (t - 16) t (V t) (by omega) rfl j
          rw [HN.out, Sha.ad4] at HS
          refine ⟨⟨t + 1, by omega, by omega, by go_num, ?_, ?_, ?_⟩, by simp [intOf]; omega⟩
          · rw [show t + 1 - 16 = t - 16 + 1 by omega]
            exact HS
          · exact Lib.hid (World.rowIs.setOther (a := ⟨n0 + 1, t, none⟩) HZ3.out (by simp) _)
          · exact Lib.hid ((Below.setCell (p := ⟨n0 + 1, t, none⟩) HW3.out (by show n0 ≤ n0 + 1; omega) _).drew)
        · obtain ⟨c, hc, hcs, hcv⟩ := HR.out
          obtain ⟨c0, hc0, hcs0, _⟩ := HZ.out
          have HC := Lib.hid hcv
          have hall : c.all (·.oneCell') = true := by
            rw [Array.all_eq_true]
            intro i hi
            have := hcv i (by omega)
            rw [Array.getElem?_eq_getElem hi] at this
            rw [Option.some.inj this]; rfl
          clear hcv
          go_wp2_with (first
            | (refine wpList_load_row rfl 49 (.tmp 3) rfl (n0 + 1) rfl 49 c (0, 0) _ hc Tryd.underlying49 rfl (by rw [hcs]; kernel_rfl) ?_)
            | (refine wpList_store_row rfl 49 (.tmp 2) (.tmp 69) rfl n0 c rfl rfl 49 c0 hc0 (by rw [hcs]; kernel_rfl) (by rw [hcs, hcs0]) hall ?_))
          have hn1 : n0 < wr.heap.size := by by_cases h : n0 < wr.heap.size; exact h; rw [Array.getElem?_eq_none (by omega)] at hc0; cases hc0
          have hnew := setRow_heap wr n0 c0 c 49 (0, 0) hc0
          refine bodyPost_ret (v := .agg c) ?_ rfl ⟨c, rfl, hcs, fun j hj => ?_, ?_⟩
          · rw [results_cell rfl]
            have hld := run_loadVar_row (P := Tryd.prog) (wr.setRow n0 c) n0 49 49 c (0, 0) _ hnew Tryd.underlying49 rfl (by rw [hcs]; kernel_rfl)
            simp [asAddr, Result.andThen, hld]
          · rw [HC.out j hj, row2_old V _ _ (by omega)]
          · exact below_setRow HW.out (Nat.le_refl _) _
end Go.Proofs.YtidmcemcmalfnaaDoor
