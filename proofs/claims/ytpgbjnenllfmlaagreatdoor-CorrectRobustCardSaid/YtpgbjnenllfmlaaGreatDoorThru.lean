
/- A region that draws its order in the body of a range over a function: one walk serves every order, where all but the last operations only read or call what only computes. -/
import Derived.StillTailTactics
import Derived.OrdersIn
import Derived.RangeFuncCalls
import Derived.WalkKit
import Derived.OwnWalkIn
import Derived.Shelf.RegionOpen
import Derived.Test.YtpgbjnenllfmlaaGreatDoorOwn
import Derived.RangeFuncNested
import Derived.RangeFuncBound
import Derived.RangeFuncBox
import Derived.RangeFuncLeaves
import Derived.Shelf.Abstract
import Derived.TacticsInMore
import Derived.LoopNIn
import Derived.LoopIn
import Derived.Test.YtpgbjnenllfmlaaGreatDoorNum
import Derived.Maps.OwnOps
import Derived.Maps.Views
import Derived.Lib.QuietBelow
/-! A region that draws its order in the body of a range over a function: one walk serves every order, where all but the last operations only read or call what only computes. -/
namespace Go.Proofs.YtpgbjnenllfmlaaGreatDoor
open Go.RowKit
set_option linter.unusedVariables false

def noDefer (o : Oper) : Bool := match o.op with | .defer _ => false | _ => true
theorem noDefer_ne {o : Oper} (h : noDefer o = true) : ∀ c, o.op ≠ .defer c := by
  intro c e; unfold noDefer at h; rw [e] at h; cases h

section
variable {P : Program} {ops : Array Oper} {Q : Exit → Act → World → Prop} {r n : Nat}

theorem rowsIn_wide {row : String} {args : Array Value} {w : World} {R : Value → World → Prop} (h : Rows P row args w R) : RowsIn (Fence.wide.inRound r) n P row args w R := fun c cs _ =>
  let ⟨v, w', hr, hs⟩ := h c cs; ⟨v, w', hr, stepsIn_wide.2 hs⟩

theorem oper_in {o : Oper} {a : Act} {w : World} {K : Act → World → Prop} (hd : noDefer o = true) (h : o.wp P a w K Q) : o.wpIn (Fence.wide.inRound r) n P a w K Q := by
  refine ⟨fun _ _ => trivial, ?_⟩
  rw [Oper.semAt_eq _ _ _ (noDefer_ne hd)]
  unfold Oper.wp at h
  generalize (execOp a.eval o).run P w = res at *
  cases res with
  | ok x w' =>
    cases x <;> simp only [Oper.upon, Oper.uponIn] at h ⊢ <;>
      first
        | exact h
        | exact ⟨fun e => by simp [Fence.wide] at e, CallsIn.inRound r (callsIn_wide.2 h)⟩
        | exact ⟨fun e => by simp [Fence.wide] at e, rowsIn_wide h⟩
        | exact h.elim
  | halt x w' => cases x <;> simp only [Oper.upon, Oper.uponIn] at h ⊢ <;> exact h

theorem wpOp_in {i : Nat} {K : Act → World → Prop} {a : Act} {w : World} (hd : ∀ o, ops[i]? = some o → noDefer o = true) (hQ : ¬ LetsOut Q) (h : wpOp P ops Q i K a w) : wpOpIn (Fence.wide.inRound r) n P ops Q i K a w := by
  unfold wpOp at h
  unfold wpOpIn
  cases ho : ops[i]? with
  | none => simpa [ho] using h
  | some o =>
    simp only [ho] at h ⊢
    by_cases hw : Region.wanted o (yielded ops a.tmps) = true
    · simp only [hw, if_true] at h ⊢
      rcases h with h | ⟨_, h⟩
      · exact oper_in (hd o ho) h
      · exact absurd h hQ
    · simp only [hw] at h ⊢
      exact ⟨fun _ _ => trivial, h⟩

theorem wpAny_in {md : Region.Mode} (hd : ∀ (i : Nat) (o : Oper), ops[i]? = some o → noDefer o = true) (hQ : ¬ LetsOut Q) : ∀ (g : Nat) (listed : Array Bool) (a : Act) (w : World),
    wpAny P md ops Q g listed a w → wpAnyIn (Fence.wide.inRound r) n P md ops Q g listed a w
  | 0, _, _, _, h => h
  | g + 1, listed, a, w, h => ⟨h.1, fun i hi => wpOpIn_mono (fun a w => wpAny_in hd hQ g _ a w) (wpOp_in (hd i) hQ (h.2 i hi))⟩

theorem any_still_tail {l : List Oper} {a : Act} {w : World} (N : Nat) (hB : Region.lexTailB .any l.toArray N = true)
    (h : wpStill P l.toArray w (fun a' => wpList P l.toArray Q (l.drop N) a' w) (l.take N) a) : wpAny P .any l.toArray Q l.toArray.size (Array.replicate l.toArray.size false) a w := by
  simp only [Region.lexTailB, Bool.and_eq_true, decide_eq_true_eq] at hB
  obtain ⟨⟨⟨⟨b1, b2⟩, b3⟩, b4⟩, b5⟩ := hB
  have q1 : N < l.length := by simpa using b2
  have q2 : (l.take N).length = N := by simp; omega
  have q3 : (l.drop N).length = l.toArray.size - N := by simp
  have q4 : HeadInv .any l.toArray N (Array.replicate l.toArray.size false) := by
    refine ⟨by simp, fun j oj _ hl => ?_, fun t _ ht => getD_in (by simpa using ht) (getD_replicate_false _ _)⟩
    rw [getD_replicate_false] at hl; cases hl
  have q5 := wpAnyL_lex (md := .any) (g := l.toArray.size - N) b1 b3 b4 b2 (l.take N) 0 _ a (fun j hj => by rw [q2] at hj; simp [hj]) (by simpa using q2) q4 (by rw [q2]; exact b5) h
  have q6 := wpAny_of_head (Q' := Q) (g := l.toArray.size - N) (fun L a' hL => by
    have := wpAny_of_seq (md := .any) (Q' := Q) (l.drop N) N L a' w (fun j => by simp [List.getElem?_drop]) (by rw [q3]; exact hL.1) hL.2
    rw [q3] at this; exact this) _ _ _ q5
  have q7 : (l.take N).length + (l.toArray.size - N) = l.toArray.size := by rw [q2]; simp; omega
  rw [q7] at q6; exact q6

theorem round_still_tail {id : Nat} {l : List Oper} {a : Act} {w : World} (N : Nat) (hm : P.follows .mixedOrders = true) (hQ : ¬ LetsOut Q) (hd : l.all noDefer = true) (hB : Region.lexTailB .any l.toArray N = true)
    (h : wpStill P l.toArray { w with drawn := w.drawn + 1 } (fun a' => wpList P l.toArray Q (l.drop N) a' { w with drawn := w.drawn + 1 }) (l.take N) a) : (Code.region id l.toArray true).wpIn (Fence.wide.inRound r) n P Q a w :=
  wpIn_region_any hm (wpAny_in (fun i o ho => by
    have : o ∈ l := by rw [List.getElem?_toArray] at ho; exact List.mem_of_getElem? ho
    exact List.all_eq_true.1 hd o this) hQ _ _ _ _ (any_still_tail N hB h))
end

theorem drew_def (w : World) : { w with drawn := w.drawn + 1 } = w.drew := rfl
/-- A contract that only computes, as the still walk asks it. -/
theorem still_of {P : Program} {f : FuncId} {args : Array Value} {w : World} {v : Value} (h : Calls P f args w fun e w' => e = .returned v ∧ w = w') : Calls P f args w fun e w' => e = .returned v ∧ w' = w :=
  h.mono fun _ _ ⟨he, hw⟩ => ⟨he, hw.symm⟩
end Go.Proofs.YtpgbjnenllfmlaaGreatDoor
/-! slices.Backward over a slice of integers: its iterator's contract. -/
namespace Go.Proofs.YtpgbjnenllfmlaaGreatDoor
open Go.RowKit Go.Shelf
open Num
set_option linter.unusedVariables false
attribute [local go_sem] Oper.semAt_some

/-- The box holds the slice, and each of its places an allowed number. -/
def Reads (R : Nat → Int → Prop) (Bs : Nat) (a : Option Addr) (len cap : Nat) (W : World) : Prop :=
  W.cell? ⟨Bs, 0, none⟩ = some (.slice a len cap) ∧ ∀ j, j < len → ∃ b off v, a = some ⟨b, off, none⟩ ∧ R j v ∧ W.cell? ⟨b, off + j, none⟩ = some (.int .i64 v)
theorem Reads.of_cells {R : Nat → Int → Prop} {Bs : Nat} {a : Option Addr} {len cap : Nat} {W W' : World} (h : Reads R Bs a len cap W) (hc : ∀ p : Addr, ∀ v, W.cell? p = some v → W'.cell? p = some v) : Reads R Bs a len cap W' :=
  ⟨hc _ _ h.1, fun j hj => by obtain ⟨b, off, v, ha, hR, hv⟩ := h.2 j hj; exact ⟨b, off, v, ha, hR, hc _ _ hv⟩⟩
/-- A turn of an object that is no cells leaves every cell. -/
theorem cell_putObj {W : World} {l : Nat} {o o' : Obj} (hl : W.heap[l]? = some o) (ho : o.isCells = false) {p : Addr} {v : Value} (h : W.cell? p = some v) : (W.putObj l o').cell? p = some v :=
  cell_kept h (grownBy_putObj' W l o') (fun r e => by cases e; exact ⟨o, hl, ho⟩)

abbrev BX (len : Nat) (R : Nat → Int → Prop) := { x : Nat × Int // x.1 < len ∧ R x.1 x.2 }
/-- The places from the last one down, the first k of them. -/
def down (len k : Nat) : List Nat := (List.range k).map fun j => len - 1 - j
theorem down_succ (len k : Nat) : down len (k + 1) = down len k ++ [len - 1 - k] := by simp [down, List.range_succ]
theorem down_length (len k : Nat) : (down len k).length = k := by simp [down]

set_option maxRecDepth 100000 in
set_option maxHeartbeats 2000000 in
theorem back1_in (n : Nat) (hn : 1 ≤ n) (l Bs : Nat) (a : Option Addr) (len cap : Nat) (R : Nat → Int → Prop) (hreach : len ≤ 140737488355328) (J Jx : List (BX len R) → World → Prop)
    (hY : ∀ pre x W, J pre W → pre.length < len → YieldAt Fence.wide (n - 1) Tryz.prog l #[.int .i64 (x.1.1 : Int), .int .i64 x.1.2] W fun e W' =>
      (e = .returned (.bool true) ∧ J (pre ++ [x]) W' ∧ (Reads R Bs a len cap W → Reads R Bs a len cap W')) ∨ (e = .returned (.bool false) ∧ Jx (pre ++ [x]) W'))
    (W : World) (hQ : Reads R Bs a len cap W) (h0 : J [] W) :
    CallsIn Fence.wide n Tryz.prog 88 #[.func (.yield l) #[] #[], .pointer (some ⟨Bs, 0, none⟩)] W fun e W' => (∃ v, e = .returned v) ∧
      ((∃ ys : List (BX len R), ys.map (·.1.1) = down len len ∧ J ys W') ∨ (∃ pre : List (BX len R), (∃ k, k ≤ len ∧ pre.map (·.1.1) = down len k) ∧ Jx pre W')) := by
  refine callsIn_of_wp Tryz.func88 rfl trivial ?_ rfl
  simp only [Tryz.ntmps88, List.size_toArray, List.length_cons, List.length_nil, Nat.reduceAdd, Nat.reduceSub, Array.replicate_succ, Array.replicate_zero, List.push_toArray, List.append_toArray, List.nil_append, List.cons_append]
  have hc0 := hQ.1
  gi_wp2
  gi_loopw [3] (fun i wr => ∃ r : Nat, ∃ pre : List (BX len R), r ≤ len ∧ i = .int .i64 ((r : Int) - 1) ∧ Hid (pre.map (·.1.1) = down len (len - r)) ∧ J pre wr ∧ Reads R Bs a len cap wr)
    (fun i _ => (intOf i + 1).toNat)
  case atStart => exact ⟨len, [], Nat.le_refl _, rfl, Lib.hid (by simp [down]), h0, hQ⟩
  case round =>
    obtain ⟨r, pre, hr, rfl, hpre, hJs, hq⟩ := hrel
    have hcb := hq.1
    by_cases hlt : 0 < r
    · obtain ⟨m, rfl⟩ : ∃ m, r = m + 1 := ⟨r - 1, by omega⟩
      obtain ⟨b, off, v, rfl, hRv, hcv⟩ := hq.2 m (by omega)
      have hm0 : ((m + 1 : Nat) : Int) - 1 = (m : Int) := by omega
      obtain ⟨fn, tmps, assign, body, hy, hR⟩ := hY pre ⟨(m, v), by omega, hRv⟩ wr hJs (by have := congrArg List.length hpre.out; rw [List.length_map, down_length] at this; omega)
      dsimp only at hy
      have HR := Lib.hid hR
      have HQ := Lib.hid hq
      clear hR hq hJs
      rw [hm0]
      gi_wp2
      refine HR.out.mono ?_
      have hpre' : Hid ((pre ++ [(⟨(m, v), by omega, hRv⟩ : BX len R)]).map (·.1.1) = down len (len - m)) := by
        show _ = _
        have e : len - m = len - (m + 1) + 1 := by omega
        rw [List.map_append, hpre.out, e, down_succ]
        simp; omega
      rintro e W3 (⟨rfl, hJ3, hk3⟩ | ⟨rfl, hJx3⟩)
      · have HQ3 := Lib.hid (hk3 HQ.out)
        clear hk3
        gi_wp2
        go_roundw
        case rel => exact ⟨m, pre ++ [⟨(m, v), by omega, hRv⟩], by omega, rfl, hpre', hJ3, HQ3.out⟩
        case measure => simp [intOf]
      · gi_wp2
        refine bodyPost_ret (results_none rfl _ _ _) rfl ?_
        exact ⟨⟨_, rfl⟩, .inr ⟨pre ++ [⟨(m, v), by omega, hRv⟩], ⟨len - m, by omega, hpre'.out⟩, hJx3⟩⟩
    · obtain rfl : r = 0 := by omega
      gi_wp2
      go_end0
      exact ⟨⟨_, rfl⟩, .inl ⟨pre, by have := hpre.out; simpa using this, hJs⟩⟩

theorem backward_any (a : Option Addr) (len cap : Nat) (w : World) :
    Calls Tryz.prog 58 #[.slice a len cap] w fun e w' => e = .returned (.func (.func 88) #[] #[.pointer (some ⟨w.heap.size, 0, none⟩)]) ∧ w' = w.alloc (.cells #[.slice a len cap] 22) := by
  go_enter Tryz.func58, Tryz.ntmps58
  go_wp2
  go_ret
  exact ⟨rfl, rfl⟩

/-- The iterator's contract: the places from the last one down, each with an allowed number. -/
theorem back_stops (n : Nat) (hn : 1 ≤ n) (Bs : Nat) (a : Option Addr) (len cap : Nat) (R : Nat → Int → Prop) (hreach : len ≤ 140737488355328) (w : World) (hQ : Reads R Bs a len cap w) :
    SeqStopsK Fence.wide n Tryz.prog 88 #[.pointer (some ⟨Bs, 0, none⟩)] (fun x : BX len R => #[Value.int .i64 (x.1.1 : Int), Value.int .i64 x.1.2]) (fun A B => Reads R Bs a len cap A → Reads R Bs a len cap B)
      (fun ys => ys.map (·.1.1) = down len len) (fun pre => ∃ k, k ≤ len ∧ pre.map (·.1.1) = down len k) len w := fun l J Jx W hW _ _ hY h0 =>
  back1_in n hn l Bs a len cap R hreach J Jx hY W (hQ.of_cells fun p v h => by rw [hW.cell (cell_lt h)]; exact h) h0
end Go.Proofs.YtpgbjnenllfmlaaGreatDoor
/-! Contracts of poly.Degree and poly.Eval. -/
namespace Go.Proofs.YtpgbjnenllfmlaaGreatDoor
open Go.RowKit Go.Shelf
open Num
set_option linter.unusedVariables false
attribute [local go_sem] Oper.semAt_some

def At (l : List Int) (j : Nat) (v : Int) : Prop := v = l.getD j 0
theorem reads_of_ints {w W : World} {a : Option Addr} {cap : Nat} {l : List Int} (h : Ints w (.slice a l.length cap) l) (Bs : Nat) (hc : ∀ p : Addr, ∀ v, w.cell? p = some v → W.cell? p = some v)
    (hb : W.cell? ⟨Bs, 0, none⟩ = some (.slice a l.length cap)) : Reads (At l) Bs a l.length cap W := by
  obtain ⟨a', c', hv, _, hx⟩ := h
  simp only [Value.slice.injEq, true_and] at hv
  obtain ⟨rfl, rfl⟩ := hv
  refine ⟨hb, fun j hj => ?_⟩
  obtain ⟨b, off, ha, hcell⟩ := hx (fun e => by subst e; simp at hj)
  exact ⟨b, off, l.getD j 0, ha, rfl, hc _ _ (hcell j hj)⟩
theorem Reads.but {R : Nat → Int → Prop} {Bs : Nat} {a : Option Addr} {len cap B : Nat} {W W' : World} (h : Reads R Bs a len cap W) (k : But B W W') (hB : Bs ≠ B) (ha : ∀ b off, a = some ⟨b, off, none⟩ → b ≠ B) : Reads R Bs a len cap W' := by
  refine ⟨?_, fun j hj => ?_⟩
  · rw [k.cell (p := ⟨Bs, 0, none⟩) (cell_lt h.1) hB]; exact h.1
  · obtain ⟨b, off, v, hs, hR, hv⟩ := h.2 j hj
    exact ⟨b, off, v, hs, hR, by rw [k.cell (p := ⟨b, off + j, none⟩) (cell_lt hv) (ha b off hs)]; exact hv⟩
theorem mem_down {len k j : Nat} (hk : k ≤ len) (h1 : len - k ≤ j) (h2 : j < len) : j ∈ down len k := by
  simp only [down, List.mem_map, List.mem_range]
  exact ⟨len - 1 - j, by omega, by omega⟩
theorem zero_of_came {zs : List Int} {ys : List (BX zs.length (At zs))} {k : Nat} (hk : k ≤ zs.length) (h : ys.map (·.1.1) = down zs.length k) (hz : ∀ x ∈ ys, x.1.2 = 0) (j : Nat) (hj : zs.length - k ≤ j) : zs.getD j 0 = 0 := by
  by_cases hl : j < zs.length
  · have hm := mem_down hk hj hl
    rw [← h, List.mem_map] at hm
    obtain ⟨x, hx, rfl⟩ := hm
    have h1 := hz x hx
    rw [x.2.2] at h1
    exact h1
  · exact getD_ge (by omega)
theorem deg_all {zs : List Int} {ys : List (BX zs.length (At zs))} (h : ys.map (·.1.1) = down zs.length zs.length) (hz : ∀ x ∈ ys, x.1.2 = 0) : dg zs = 0 :=
  dg_eq (fun i _ => zero_of_came (Nat.le_refl _) h hz i (by omega)) (.inl rfl)
theorem deg_stop {zs : List Int} {ini : List (BX zs.length (At zs))} {last : BX zs.length (At zs)} {k : Nat} (hk : k ≤ zs.length) (h : (ini ++ [last]).map (·.1.1) = down zs.length k) (hz : ∀ x ∈ ini, x.1.2 = 0) (hl : last.1.2 ≠ 0) : dg zs = last.1.1 + 1 := by
  have h1 := congrArg List.length h
  simp only [List.length_map, List.length_append, List.length_cons, List.length_nil, down_length] at h1
  obtain rfl : k = ini.length + 1 := by omega
  rw [List.map_append, down_succ] at h
  obtain ⟨h2, h3⟩ := List.append_inj' h rfl
  have h4 : last.1.1 = zs.length - 1 - ini.length := by simpa using h3
  refine dg_eq (fun i hi => zero_of_came (k := ini.length) (by omega) h2 hz i (by omega)) (.inr ?_)
  rw [Nat.add_sub_cancel, ← last.2.2]; exact hl

def CameZero {zs : List Int} (pre : List (BX zs.length (At zs))) : Prop := ∀ p ∈ pre, p.1.2 = 0
theorem CameZero.snoc {zs : List Int} {pre : List (BX zs.length (At zs))} {x : BX zs.length (At zs)} (h : CameZero pre) (hx : x.1.2 = 0) : CameZero (pre ++ [x]) := fun p hp =>
  (List.mem_append.1 hp).elim (h p) (fun e => by rw [List.mem_singleton.1 e]; exact hx)
def FoundAt {zs : List Int} (pre : List (BX zs.length (At zs))) (B : Nat) (W : World) : Prop :=
  ∃ ini last, pre = ini ++ [last] ∧ CameZero ini ∧ last.1.2 ≠ 0 ∧ W.cell? ⟨B, 0, none⟩ = some (.int .i64 (last.1.1 : Int))

set_option maxRecDepth 100000 in
set_option maxHeartbeats 2000000 in
theorem degree_in (a : Option Addr) (cap : Nat) (zs : List Int) (w : World) (hI : Ints w (.slice a zs.length cap) zs) :
    CallsIn Fence.wide 6 Tryz.prog 57 #[.slice a zs.length cap] w fun e W' => e = .returned (.int .i64 ((dg zs : Int) - 1)) ∧ Below w.heap.size w W' := by
  have hlen : zs.length ≤ 140737488355328 := by obtain ⟨_, _, _, h, _⟩ := hI; exact h
  refine callsIn_of_wp_marks Tryz.func57 rfl trivial ?_ rfl
  simp only [Tryz.ntmps57, List.size_toArray, List.length_cons, List.length_nil, Nat.reduceAdd, Nat.reduceSub, Array.replicate_succ, Array.replicate_zero, List.push_toArray, List.append_toArray, List.nil_append, List.cons_append]
  gi_wp2_with (refine ⟨trivial, ?_⟩; gi_at_call 58; refine (callsIn_wide.2 (backward_any _ _ _ _)).mono ?_; rintro e w' ⟨rfl, rfl⟩)
  have bR := Boxed.new w 3 (.int .i64 0)
  have bN := Boxed.new (w.alloc (.cells #[.int .i64 0] 3)) 22 (.slice a zs.length cap)
  rw [World.size_alloc] at bN
  have hB0 : Below w.heap.size w ((w.alloc (.cells #[.int .i64 0] 3)).alloc (.cells #[.slice a zs.length cap] 22)) := ((Below.refl _ w).alloc (Nat.le_refl _) _).alloc (by simp) _
  have hseq := back_stops (6 - 1) (by omega) (w.heap.size + 1) a zs.length cap (At zs) hlen _ (reads_of_ints hI (w.heap.size + 1) (fun p v h => by rw [hB0.cell (cell_lt h)]; exact h) bN.cell)
  refine wpIn_rangeFunc_ownG (α := BX zs.length (At zs)) (F := Fence.wide) (n := 6) (ps := #[7, 8]) rfl (by omega) (gf := 88) (lb := #[.pointer (some ⟨w.heap.size + 1, 0, none⟩)]) rfl trivial (enters_of Tryz.func88 (by kernel_rfl) rfl)
    hseq (fun h k x => k (h x))
    (fun W l o o' _ hl ho _ h => h.of_cells fun p v hp => cell_putObj hl ho hp) (Below.refl _ _) (fun _ => rfl)
    (fun pre W => (CameZero pre ∧ W.cell? ⟨w.heap.size, 0, none⟩ = some (.int .i64 0) ∧ W.frozen? ⟨w.heap.size, 0, none⟩ = false) ∧ Below w.heap.size w W)
    (fun c pre W => (c = .ret ∧ FoundAt pre w.heap.size W) ∧ Below w.heap.size w W)
    (OwnFrom.and (Own.from (fun s A B row hs hg hr => ⟨hs.1, cell_kept hs.2.1 hg hr, (frozen_kept hs.2.1 hg hr).trans hs.2.2⟩) _) (ownFrom_below (Nat.le_refl _) (by simp; omega)))
    (fun c => OwnFrom.and (Own.from (fun s A B row hs hg hr => by obtain ⟨hc, ini, last, e1, e2, e3, e4⟩ := hs; exact ⟨hc, ini, last, e1, e2, e3, cell_kept e4 hg hr⟩) _) (ownFrom_below (Nat.le_refl _) (by simp; omega)))
    ⟨⟨(fun p hp => by cases hp), (bR.alloc _).cell, (bR.alloc _).frozen⟩, hB0⟩
    (fun x => { tmps := #[.slice a zs.length cap, undef, .pointer (some ⟨w.heap.size, 0, none⟩), .int .i64 (x.1.1 : Int), .int .i64 x.1.2, .slice a zs.length cap, .func (.func 88) #[] #[.pointer (some ⟨w.heap.size + 1, 0, none⟩)], .int .i64 (x.1.1 : Int), .int .i64 x.1.2, undef, undef, undef], defers := [] }) ?assign ?body ?done ?stop
  case assign =>
    intro l x W K hK
    gi_wp2
    exact hK
  case body =>
    rintro l pre x W ⟨⟨hp, hcr, hfr⟩, hB⟩ _
    obtain ⟨c, hcx⟩ : ∃ c, x.1.2 = c := ⟨_, rfl⟩
    by_cases h0 : c = 0
    · have hb : (c != 0) = false := by simp [h0]
      rw [hcx]
      have HX := Lib.hid hcx
      have H0 := Lib.hid h0
      clear hcx h0
      gi_wp2
      exact ⟨KeepsFrom.refl _ _, fun h => h, ⟨hp.snoc (HX.out.trans H0.out), hcr, hfr⟩, hB⟩
    · have hb : (c != 0) = true := by simp [h0]
      rw [hcx]
      have HX := Lib.hid hcx
      have H0 := Lib.hid h0
      clear hcx h0
      gi_wp2
      exact ⟨(KeepsOthers.setCell _ _ _).from _, ⟨rfl, pre, x, rfl, hp, (fun e => H0.out (HX.out.symm.trans e)), World.cell?_setCell_same' _ _ _ (by rw [hcr]; rfl)⟩, hB.setCell (p := ⟨w.heap.size, 0, none⟩) (Nat.le_refl _) _⟩
  case done =>
    rintro D ys W hD hys ⟨⟨hne, hcr, hfr⟩, hB⟩ hK
    have hd := Lib.hid (deg_all hys hne)
    clear hys hne
    gi_wp2
    have hK' := (KeepsOthers.setCell W ⟨w.heap.size, 0, none⟩ (.int .i64 (-1))).same D _ hK rfl
    refine ⟨by simp, .inl ⟨_, _, rfl, run_takeDeferred hK', ?_⟩⟩
    have hc5 := cell_kept (World.cell?_setCell_same' W ⟨w.heap.size, 0, none⟩ (.int .i64 (-1)) (by rw [hcr]; rfl)) (grownBy_putObj' _ D (.deferred none)) (fun r e => by cases e; exact ⟨_, hK', rfl⟩)
    refine ⟨.int .i64 (-1), ?_, by rw [hd.out]; rfl, (hB.setCell (p := ⟨w.heap.size, 0, none⟩) (Nat.le_refl _) _).trans (belowK_b (w := w) (Nat.le_refl _) _ D _ _ (by simp at hD; omega) hK' rfl rfl)⟩
    simp [results, Tryz.f57, go_sem, hc5]
  case stop =>
    rintro D c pre W hD ⟨k, hk, hpk⟩ ⟨⟨rfl, ini, last, e1, e2, e3, hcr⟩, hB⟩ hK
    subst e1
    have hd := Lib.hid (deg_stop hk hpk e2 e3)
    clear hpk e2 e3
    gi_wp2
    refine ⟨by simp, .inl ⟨_, _, rfl, run_takeDeferred hK, ?_⟩⟩
    have hc5 := cell_kept hcr (grownBy_putObj' _ D (.deferred none)) (fun r e => by cases e; exact ⟨_, hK, rfl⟩)
    refine ⟨.int .i64 (last.1.1 : Int), ?_, by rw [hd.out]; congr 2; omega, hB.trans (belowK_b (w := w) (Nat.le_refl _) W D _ _ (by simp at hD; omega) hK rfl rfl)⟩
    simp [results, Tryz.f57, go_sem, hc5]
theorem degree_any (s : Value) (zs : List Int) (w : World) (hI : Ints w s zs) :
    Calls Tryz.prog 57 #[s] w fun e W' => e = .returned (.int .i64 ((dg zs : Int) - 1)) ∧ Below w.heap.size w W' := by
  obtain ⟨a, c, rfl, _, _⟩ := id hI
  exact callsIn_wide.1 (degree_in a c zs w hI)
end Go.Proofs.YtpgbjnenllfmlaaGreatDoor
/-! Contract of poly.Eval. -/
namespace Go.Proofs.YtpgbjnenllfmlaaGreatDoor
open Go.RowKit Go.Shelf
open Num
set_option linter.unusedVariables false
attribute [local go_sem] Oper.semAt_some

/-- Horner's value of what has come. -/
def horV (p x : Int) (l : List Int) : Int := l.foldl (fun v c => addF p (mulF p v x) c) 0
def hor {zs : List Int} (p x : Int) (pre : List (BX zs.length (At zs))) : Int := horV p x (pre.map (·.1.2))
theorem hor_snoc {zs : List Int} (p x : Int) (pre : List (BX zs.length (At zs))) (b : BX zs.length (At zs)) : hor p x (pre ++ [b]) = addF p (mulF p (hor p x pre) x) b.1.2 := by
  simp [hor, horV]
theorem hor_el {zs : List Int} {p : Int} (hp : 1 ≤ p) (x : Int) (pre : List (BX zs.length (At zs))) : El p (hor p x pre) := by
  rcases List.eq_nil_or_concat pre with rfl | ⟨l, b, rfl⟩
  · exact el_zero hp
  · rw [List.concat_eq_append, hor_snoc]; exact el_add hp _ _
theorem horV_cons (p x c : Int) (l : List Int) : horV p x (l ++ [c]) = addF p (mulF p (horV p x l) x) c := by simp [horV]
theorem horV_rev {p : Int} (x : Int) : ∀ l : List Int, horV p x l.reverse = E l x % p
  | [] => by simp [horV, E]
  | c :: l => by
    rw [List.reverse_cons, horV_cons, horV_rev x l, E_cons]
    unfold addF mulF
    rw [Int.emod_add_emod, Int.add_comm, Int.mul_comm, ← Int.add_emod_emod, Int.mul_emod, Int.emod_emod_of_dvd _ (Int.dvd_refl p), ← Int.mul_emod, Int.add_emod_emod]
theorem came_vals {zs : List Int} {ys : List (BX zs.length (At zs))} (h : ys.map (·.1.1) = down zs.length zs.length) : ys.map (·.1.2) = zs.reverse := by
  have h1 : ys.map (·.1.2) = (ys.map (·.1.1)).map (fun j => zs.getD j 0) := by
    rw [List.map_map]; apply List.map_congr_left; intro b _; exact b.2.2
  rw [h1, h]
  apply List.ext_getElem
  · simp [down]
  · intro i h2 h3
    simp [down] at h2
    simp [down, List.getD, show zs.length - 1 - i < zs.length by omega]
theorem hor_all {zs : List Int} {p : Int} (x : Int) {ys : List (BX zs.length (At zs))} (h : ys.map (·.1.1) = down zs.length zs.length) : hor p x ys = E zs x % p := by
  unfold hor; rw [came_vals h, horV_rev]

def EvI (zs : List Int) (p x : Int) (B : Nat) (pre : List (BX zs.length (At zs))) (W : World) : Prop :=
  W.cell? ⟨B, 0, none⟩ = some (.int .i64 p) ∧ W.cell? ⟨B + 1, 0, none⟩ = some (.int .i64 x) ∧ W.cell? ⟨B + 1 + 1, 0, none⟩ = some (.int .i64 (hor p x pre)) ∧ W.frozen? ⟨B + 1 + 1, 0, none⟩ = false
theorem evI_own (zs : List Int) (p x : Int) (B : Nat) : Own (EvI zs p x B) := fun s A B' row hs hg hr =>
  ⟨cell_kept hs.1 hg hr, cell_kept hs.2.1 hg hr, cell_kept hs.2.2.1 hg hr, (frozen_kept hs.2.2.1 hg hr).trans hs.2.2.2⟩
theorem evI_set {zs : List Int} {p x v : Int} {B : Nat} {pre : List (BX zs.length (At zs))} {b : BX zs.length (At zs)} {W : World} (hv : b.1.2 = v) (h : EvI zs p x B pre W) :
    EvI zs p x B (pre ++ [b]) ((W.setCell ⟨B + 1 + 1, 0, none⟩ (.int .i64 (addF p (mulF p (hor p x pre) x) v))).drew) := by
  subst hv
  obtain ⟨h1, h2, h3, h4⟩ := h
  have hb := But.set W ⟨B + 1 + 1, 0, none⟩ (.int .i64 (addF p (mulF p (hor p x pre) x) b.1.2))
  refine ⟨?_, ?_, ?_, ?_⟩
  · exact (hb.cell (p := ⟨B, 0, none⟩) (cell_lt h1) (by show B ≠ B + 1 + 1; omega)).trans h1
  · exact (hb.cell (p := ⟨B + 1, 0, none⟩) (cell_lt h2) (by show B + 1 ≠ B + 1 + 1; omega)).trans h2
  · rw [hor_snoc]; exact World.cell?_setCell_same' _ _ _ (by rw [h3]; rfl)
  · rw [frozen_drew_own, World.frozen?_setCell]; exact h4

set_option maxRecDepth 100000 in
set_option maxHeartbeats 2000000 in
theorem eval_in (p x : Int) (a : Option Addr) (cap : Nat) (zs : List Int) (w : World) (hp : 1 ≤ p) (hp2 : p ≤ 1073741824) (hx : El p x) (hz : Els p zs) (hI : Ints w (.slice a zs.length cap) zs) :
    CallsIn Fence.wide 6 Tryz.prog 34 #[.int .i64 p, .slice a zs.length cap, .int .i64 x] w fun e W' => e = .returned (.int .i64 (E zs x % p)) ∧ Below w.heap.size w W' := by
  have hlen : zs.length ≤ 140737488355328 := by obtain ⟨_, _, _, h, _⟩ := hI; exact h
  refine callsIn_of_wp_marks Tryz.func34 rfl trivial ?_ rfl
  simp only [Tryz.ntmps34, List.size_toArray, List.length_cons, List.length_nil, Nat.reduceAdd, Nat.reduceSub, Array.replicate_succ, Array.replicate_zero, List.push_toArray, List.append_toArray, List.nil_append, List.cons_append]
  gi_wp2_with (refine ⟨trivial, ?_⟩; gi_at_call 58; refine (callsIn_wide.2 (backward_any _ _ _ _)).mono ?_; rintro e w' ⟨rfl, rfl⟩)
  have b0 := Boxed.new w 3 (.int .i64 p)
  have b1 := Boxed.new (w.alloc (.cells #[.int .i64 p] 3)) 3 (.int .i64 x)
  have b2 := Boxed.new ((w.alloc (.cells #[.int .i64 p] 3)).alloc (.cells #[.int .i64 x] 3)) 3 (.int .i64 0)
  have bN := Boxed.new (((w.alloc (.cells #[.int .i64 p] 3)).alloc (.cells #[.int .i64 x] 3)).alloc (.cells #[.int .i64 0] 3)) 22 (.slice a zs.length cap)
  simp only [World.size_alloc] at b1 b2 bN
  have hB0 : Below w.heap.size w ((((w.alloc (.cells #[.int .i64 p] 3)).alloc (.cells #[.int .i64 x] 3)).alloc (.cells #[.int .i64 0] 3)).alloc (.cells #[.slice a zs.length cap] 22)) :=
    ((((Below.refl _ w).alloc (Nat.le_refl _) _).alloc (by simp) _).alloc (by simp; omega) _).alloc (by simp; omega) _
  have hseq := back_stops (6 - 1) (by omega) (w.heap.size + 1 + 1 + 1) a zs.length cap (At zs) hlen _ (reads_of_ints hI (w.heap.size + 1 + 1 + 1) (fun p v h => by rw [hB0.cell (cell_lt h)]; exact h) bN.cell)
  have ha : ∀ b off, a = some ⟨b, off, none⟩ → 0 < zs.length → b < w.heap.size := by
    intro b off e h0
    obtain ⟨a', c', hv, _, hc⟩ := hI
    obtain ⟨b', off', ha', hcell⟩ := hc (fun e => by subst e; simp at h0)
    simp only [Value.slice.injEq, true_and] at hv
    obtain ⟨rfl, rfl⟩ := hv
    rw [e] at ha'
    simp only [Option.some.injEq, Addr.mk.injEq] at ha'
    have := cell_lt (hcell 0 h0)
    rw [← ha'.1] at this; exact this
  refine wpIn_rangeFunc_ownG (α := BX zs.length (At zs)) (F := Fence.wide) (n := 6) (ps := #[12, 13]) rfl (by omega) (gf := 88) (lb := #[.pointer (some ⟨w.heap.size + 1 + 1 + 1, 0, none⟩)]) rfl trivial (enters_of Tryz.func88 (by kernel_rfl) rfl)
    hseq (fun h k x => k (h x))
    (fun W l o o' _ hl ho _ h => h.of_cells fun p v hp => cell_putObj hl ho hp) (Below.refl _ _) (fun _ => rfl)
    (fun pre W => EvI zs p x w.heap.size pre W ∧ Below w.heap.size w W)
    (fun _ _ _ => False)
    (OwnFrom.and (Own.from (evI_own zs p x w.heap.size) _) (ownFrom_below (Nat.le_refl _) (by simp; omega)))
    (fun _ _ _ _ _ hs _ _ => hs)
    ⟨⟨(((b0.alloc _).alloc _).alloc _).cell, ((b1.alloc _).alloc _).cell, (b2.alloc _).cell, (b2.alloc _).frozen⟩, hB0⟩
    (fun x' => { tmps := #[.int .i64 p, .slice a zs.length cap, .int .i64 x, .pointer (some ⟨w.heap.size, 0, none⟩), undef, .pointer (some ⟨w.heap.size + 1, 0, none⟩), .int .i64 0, .pointer (some ⟨w.heap.size + 1 + 1, 0, none⟩), undef, .int .i64 x'.1.2, .slice a zs.length cap, .func (.func 88) #[] #[.pointer (some ⟨w.heap.size + 1 + 1 + 1, 0, none⟩)], .int .i64 (x'.1.1 : Int), .int .i64 x'.1.2, undef, undef, undef, undef, undef, undef, undef, undef], defers := [] }) ?assign ?body ?done ?stop
  case assign =>
    intro l x W K hK
    gi_wp2
    exact hK
  case body =>
    rintro l pre b W ⟨hE, hB⟩ hlt
    have hcl : El p b.1.2 := by rw [show b.1.2 = zs.getD b.1.1 0 from b.2.2]; exact els_at hp hz _
    have hel := hor_el hp x pre
    obtain ⟨v, hv⟩ : ∃ v, b.1.2 = v := ⟨_, rfl⟩
    have hS := fun (h : b.1.2 = v) => evI_set h hE
    have HS := Lib.hid (hS hv)
    have ha' : ∀ b' off, a = some ⟨b', off, none⟩ → b' ≠ w.heap.size + 1 + 1 := fun b' off e => by have := ha b' off e (by omega); omega
    have HA := Lib.hid ha'
    clear hS ha ha'
    obtain ⟨h1, h2, h3, h4⟩ := hE
    rw [hv] at hcl ⊢
    have HV := Lib.hid hv
    clear hv
    generalize hor p x pre = y at *
    have hmx : Tryz.prog.follows .mixedOrders = true := by kernel_rfl
    gi_wp2
    refine round_still_tail 7 hmx (fun ⟨_, _, h⟩ => h) (by kernel_rfl) (by kernel_rfl) ?_
    simp only [List.take_succ_cons, List.take_zero, List.drop_succ_cons, List.drop_zero, drew_def]
    repeat still_step
    still_call (still_of (mul_el _ hp hp2 hel hx))
    repeat still_step
    still_call (still_of (add_el _ hp hp2 (el_mul hp _ _) hcl))
    repeat still_step
    refine wpStill_nil ?_
    go_wp2
    exact ⟨((KeepsOthers.drew _).trans (KeepsOthers.setCell _ _ _)).from _, (fun h => h.but ((But.set _ ⟨w.heap.size + 1 + 1, 0, none⟩ _).trans (But.drewN _ _ 1)) (by show w.heap.size + 1 + 1 + 1 ≠ w.heap.size + 1 + 1; omega) HA.out), HS.out, (hB.setCell (p := ⟨w.heap.size + 1 + 1, 0, none⟩) (by show w.heap.size ≤ w.heap.size + 1 + 1; omega) _).drew⟩
  case done =>
    rintro D ys W hD hys ⟨⟨_, _, hc, _⟩, hB⟩ hK
    have hd := Lib.hid (hor_all (p := p) x hys)
    clear hys
    gi_wp2
    refine ⟨by simp, .inl ⟨_, _, rfl, run_takeDeferred hK, ?_⟩⟩
    exact ⟨_, results_tmp rfl _ _ _, (by rw [hd.out]; rfl), hB.trans (belowK_b (w := w) (Nat.le_refl _) W D _ _ (by simp at hD; omega) hK rfl rfl)⟩
  case stop =>
    rintro D c pre W _ _ h _
    exact h.elim
theorem eval_any {p x : Int} {s : Value} {zs : List Int} (w : World) (hp : 1 ≤ p) (hp2 : p ≤ 1073741824) (hx : El p x) (hz : Els p zs) (hI : Ints w s zs) :
    Calls Tryz.prog 34 #[.int .i64 p, s, .int .i64 x] w fun e W' => e = .returned (.int .i64 (E zs x % p)) ∧ Below w.heap.size w W' := by
  obtain ⟨a, c, rfl, _, _⟩ := id hI
  exact callsIn_wide.1 (eval_in p x a c zs w hp hp2 hx hz hI)
end Go.Proofs.YtpgbjnenllfmlaaGreatDoor
/-! Contracts of poly.short, poly.inverseOf and poly.checkPlaces; a look-up in a map of bools that the call made. -/
namespace Go.Proofs.YtpgbjnenllfmlaaGreatDoor
open Go.RowKit Go.Maps
open Num
set_option linter.unusedVariables false

theorem short_any (a : Option Addr) (cap : Nat) (zs : List Int) (w : World) (hI : Ints w (.slice a zs.length cap) zs) (hcap : dg zs ≤ cap) (hcap2 : cap ≤ 9223372036854775807) :
    Calls Tryz.prog 104 #[.slice a zs.length cap] w fun e W' => e = .returned (.slice a (dg zs) cap) ∧ Below w.heap.size w W' := by
  have hd := dg_le zs
  have hlen : zs.length ≤ 140737488355328 := by obtain ⟨_, _, _, h, _⟩ := hI; exact h
  obtain ⟨g, hg⟩ : ∃ g, dg zs = g := ⟨_, rfl⟩
  have hdeg := Lib.hid (degree_any _ zs w hI)
  rw [hg] at hcap hd hdeg ⊢
  have e1 : IntKind.i64.wrap ((g : Int) - 1 + 1) = (g : Int) := by rw [IntWalk.i64_in _ (by omega)]; omega
  have e2 : (g : Int) - 1 + 1 = (g : Int) := by omega
  clear hg hI
  go_enter Tryz.func104, Tryz.ntmps104
  go_wp2_with (go_at_call 57; refine hdeg.out.mono ?_; rintro e w1 ⟨rfl, hb1⟩)
  go_ret
  exact ⟨rfl, hb1⟩
theorem ints_take {w : World} {a : Option Addr} {cap : Nat} {zs : List Int} (k : Nat) (hk : k ≤ zs.length) (h : Ints w (.slice a zs.length cap) zs) : Ints w (.slice a k cap) (zs.take k) := by
  obtain ⟨a', c', hv, hl, hc⟩ := h
  simp only [Value.slice.injEq, true_and] at hv
  obtain ⟨rfl, rfl⟩ := hv
  have e : (zs.take k).length = k := by simp; omega
  refine ⟨a, cap, by rw [e], by rw [e]; omega, fun hne => ?_⟩
  obtain ⟨b, off, ha, hx⟩ := hc (fun e' => by subst e'; simp at hne)
  refine ⟨b, off, ha, fun i hi => ?_⟩
  rw [e] at hi
  have : (zs.take k).getD i 0 = zs.getD i 0 := by simp only [List.getD]; rw [List.getElem?_take_of_lt hi]
  rw [this]; exact hx i (by omega)
theorem ints_sh {w : World} {a : Option Addr} {cap : Nat} {zs : List Int} (h : Ints w (.slice a zs.length cap) zs) : Ints w (.slice a (dg zs) cap) (sh zs) := ints_take (dg zs) (dg_le zs) h

theorem inverseOf_any {p a : Int} (w : World) (hp : 2 ≤ p) (hp2 : p ≤ 1073741824) (ha : El p a) :
    Calls Tryz.prog 102 #[.int .i64 p, .int .i64 a] w fun e w' => e = .returned (.int .i64 (iv0 p a)) ∧ w = w' := by
  unfold iv0
  by_cases h0 : a = 0
  · subst h0
    rw [if_pos rfl]
    go_enter Tryz.func102, Tryz.ntmps102
    go_wp2_with (go_at_call 120; refine (inverse_none _ _ hp hp2).mono ?_; rintro e w' ⟨rfl, rfl⟩)
    go_ret
    exact ⟨rfl, rfl⟩
  · rw [if_neg h0]
    have h1 : 0 < a := by have := ha.1; omega
    have h2 := ha.2
    clear h0 ha
    go_enter Tryz.func102, Tryz.ntmps102
    go_wp2_with (go_at_call 120; refine (inverse_some _ _ _ hp hp2 h1 h2).mono ?_; rintro e w' ⟨rfl, rfl⟩)
    go_ret
    exact ⟨rfl, rfl⟩

/-! ### A map of bools -/
section
variable {H : Type} {P : Program}
theorem plainElem_bool_inv {e : TypeId} (he : P.underlying e = some .bool) {v : Value} {z : DataW H × List MemPlace} (h : plainElem P e v = some z) : ∃ x, v = .bool x ∧ z = (.lit (.bool x), []) := by
  unfold plainElem at h
  rw [he] at h
  cases v <;> simp at h
  subst h
  exact ⟨_, rfl, rfl⟩
theorem lookup_own_bool (w : World) {ops : Array Oper} {rest : List Oper} {o : Oper} {a : Act} {Q : Exit → Act → World → Prop}
    (hg : o.guard = none) (m x : Operand) (t : TypeId) (hop : o.op = Op.lookup t m x false)
    (k e : TypeId) (K : Keyed P k) (ht : P.underlying t = some (.map k e)) (he : P.underlying e = some .bool) (hz : (zeroValue e).run P w = .ok (.bool false) w) (b n : Nat) (D : DataW H)
    (hm : a.eval m = .map (some b)) (hown : w.ownsMap P k (plainElem P e) b n D) (key : Value) (kl : Lit) (hx : a.eval x = key) (hkey : keyOf P k key = some kl)
    (c : Bool) (hat : D.atKey kl (.lit (.bool false)) = .lit (.bool c)) (hK : wpList P ops Q rest (a.put o.dst (.bool c)) w) :
    wpList P ops Q (o :: rest) a w := by
  refine wpList_plain hg fun K' hK' => ?_
  obtain ⟨v, ps, hrun, hv⟩ := hown.lookup K ht hz (plainElem_bool he false) hkey
  obtain ⟨y, rfl, hy⟩ := plainElem_bool_inv he hv
  simp only [Prod.mk.injEq] at hy
  have : y = c := by have := hy.1.symm.trans hat; injection this with h; injection h
  subst this
  unfold Oper.wp
  simp [execOp, hop, hm, hx, hrun, Result.andThen]
  exact hK' _ _ hK
end
def keysOf (l : List Int) : List Lit := l.map (Lit.int .i64)
def seenOf {H : Type} (l : List Int) : DataW H := setOf (.lit (.bool true)) (keysOf l)
theorem seenOf_snoc {H : Type} (l : List Int) (x : Int) : (seenOf (l ++ [x]) : DataW H) = (seenOf l).put (.int .i64 x) (.lit (.bool true)) := by
  unfold seenOf keysOf; rw [List.map_append]; exact setOf_snoc _ _ _
theorem seenOf_isMap {H : Type} (l : List Int) : IsMap (seenOf l : DataW H) := by
  refine (tidy_setOf _ _ fun x hx => ?_).isMap
  obtain ⟨n, _, rfl⟩ := List.mem_map.1 hx
  simp [WideAt.IsKeyLit]
theorem seenOf_at {H : Type} (x : Int) : ∀ (n : Nat) (l : List Int), l.length = n → (seenOf l : DataW H).atKey (.int .i64 x) (.lit (.bool false)) = .lit (.bool (l.contains x))
  | 0, l, h => by obtain rfl := List.length_eq_zero_iff.1 h; rfl
  | n + 1, l, h => by
    rcases List.eq_nil_or_concat l with rfl | ⟨l', y, rfl⟩
    · simp at h
    · rw [List.concat_eq_append] at h ⊢
      rw [seenOf_snoc]
      by_cases e : x = y
      · subst e
        rw [atKey_put_same (seenOf_isMap l') (by simp [WideAt.IsKeyLit])]
        simp
      · rw [atKey_put_other (fun h => e (by injection h)), seenOf_at x n l' (by simpa using h)]
        simp [e]

/-- Whether a place occurs before it. -/
def dupB (xs : List Int) : Bool := (List.range xs.length).any fun k => (xs.take k).contains (xs.getD k 0)
theorem dupB_true {xs : List Int} {k : Nat} (hk : k < xs.length) (h : (xs.take k).contains (xs.getD k 0) = true) : dupB xs = true :=
  List.any_eq_true.2 ⟨k, List.mem_range.2 hk, h⟩
theorem dupB_false {xs : List Int} (h : ∀ k, k < xs.length → (xs.take k).contains (xs.getD k 0) = false) : dupB xs = false := by
  unfold dupB
  rw [List.any_eq_false]
  intro k hk
  rw [h k (List.mem_range.1 hk)]; simp
theorem nodup_of {xs : List Int} (h : dupB xs = false) : xs.Nodup := by
  rw [List.Nodup, List.pairwise_iff_getElem]
  intro i j hi hj hij e
  have h1 : (xs.take j).contains (xs.getD j 0) = true := by
    rw [List.contains_iff_mem, getD_lt hj, ← e]
    exact List.mem_take_iff_getElem.2 ⟨i, by omega, rfl⟩
  rw [dupB_true hj h1] at h; cases h
theorem dup_of_nodup {xs : List Int} (h : xs.Nodup) : dupB xs = false := by
  refine dupB_false fun k hk => ?_
  cases hc : (xs.take k).contains (xs.getD k 0) with
  | false => rfl
  | true =>
    exfalso
    rw [List.contains_iff_mem, getD_lt hk] at hc
    obtain ⟨i, hi, e⟩ := List.mem_take_iff_getElem.1 hc
    rw [List.Nodup, List.pairwise_iff_getElem] at h
    exact h i k (by omega) hk (by omega) e
def plc (xs : List Int) : Int := if xs = [] then 1 else if dupB xs = true then 6 else 0
theorem plc_nil : plc [] = 1 := rfl
theorem plc_dup {xs : List Int} (h0 : xs ≠ []) (h : dupB xs = true) : plc xs = 6 := by unfold plc; rw [if_neg h0, if_pos h]
theorem plc_ok {xs : List Int} (h0 : xs ≠ []) (h : dupB xs = false) : plc xs = 0 := by unfold plc; rw [if_neg h0, if_neg (by rw [h]; simp)]

theorem makeMap_hint (n : Int) (w : World) : (Instr.makeMap 67 (some (.int .i64 n))).run Tryz.prog w = .ok (.map (some w.heap.size)) (w.alloc (.map #[] 0)) := by
  simp [Instr.makeMap, run_underlying Tryz.underlying67, Result.andThen]
  rfl
theorem keyedInt : Keyed Tryz.prog 3 := int_keyed Tryz.underlying3
theorem zeroBool (w : World) : (zeroValue 4).run Tryz.prog w = .ok (.bool false) w := by kernel_rfl

set_option maxRecDepth 100000 in
set_option maxHeartbeats 1000000 in
theorem checkPlaces_some (a : Option Addr) (cap : Nat) (xs : List Int) (w : World) (hI : Ints w (.slice a xs.length cap) xs) (hw : ∀ x ∈ xs, (Lit.int .i64 x).wf = true) (h0 : 0 < xs.length) :
    Calls Tryz.prog 99 #[.slice a xs.length cap] w fun e W' => e = .returned (.int .i64 (plc xs)) ∧ Below w.heap.size w W' := by
  have hne : xs ≠ [] := fun e => by subst e; simp at h0
  obtain ⟨a', c', hv, hlen, hc⟩ := hI
  simp only [Value.slice.injEq, true_and] at hv
  obtain ⟨rfl, rfl⟩ := hv
  obtain ⟨b, off, rfl, hcell⟩ := hc hne
  have hb : b < w.heap.size := cell_lt (hcell 0 h0)
  clear hc
  have hmm := makeMap_hint
  obtain ⟨len, hL⟩ : ∃ len, xs.length = len := ⟨_, rfl⟩
  have HC : Hid (∀ i, i < len → w.cell? ⟨b, off + i, none⟩ = some (.int .i64 (xs.getD i 0))) := by rw [← hL]; exact hcell
  have HW := Lib.hid hw
  have HN := Lib.hid hne
  rw [hL] at h0 hlen ⊢
  have HL := Lib.hid hL
  have hn0 : ((len : Int) == 0) = false := by simp; omega
  clear hcell hw hL hne
  go_enter Tryz.func99, Tryz.ntmps99
  go_wp2
  go_loopw [5, 14] (fun _ i wr => ∃ k : Nat, k ≤ len ∧ i = .int .i64 k ∧ Hid (∀ j, j < k → (xs.take j).contains (xs.getD j 0) = false) ∧ Hid (wr.ownsMap Tryz.prog 3 (plainElem (H := Unit) Tryz.prog 4) w.heap.size k (seenOf (xs.take k))) ∧ Below w.heap.size w wr) (fun _ i _ => len - (intOf i).toNat)
  case atStart => exact ⟨0, Nat.zero_le _, rfl, fun j hj => by omega, World.ownsMap_made _ _ _ _, (Below.refl _ _).alloc (Nat.le_refl _) _⟩
  case round =>
    obtain ⟨k, hk, rfl, hd, hown, hnx⟩ := hrel
    have HX := Lib.hid hnx
    clear hnx
    by_cases hlt : k < len
    · have hcx : wr.cell? ⟨b, off + k, none⟩ = some (.int .i64 (xs.getD k 0)) := (HX.out.cell (p := ⟨b, off + k, none⟩) hb).trans (HC.out k hlt)
      have hkl : k < xs.length := by rw [HL.out]; exact hlt
      have hwx := HW.out (xs.getD k 0) (by rw [getD_lt hkl]; exact List.getElem_mem _)
      have hkey : keyOf Tryz.prog 3 (.int .i64 (xs.getD k 0)) = some (.int .i64 (xs.getD k 0)) := keyOf_int_mk Tryz.underlying3 hwx
      have hat := seenOf_at (H := Unit) (xs.getD k 0) _ (xs.take k) rfl
      have hsn := seenOf_snoc (H := Unit) (xs.take k) (xs.getD k 0)
      have htk : xs.take k ++ [xs.getD k 0] = xs.take (k + 1) := by rw [getD_lt hkl, List.take_succ_eq_append_getElem hkl]
      rw [htk] at hsn
      have HSN := Lib.hid hsn
      have HAT := Lib.hid hat
      have HKEY := Lib.hid hkey
      have HDT := Lib.hid (dupB_true hkl)
      have HDN : Hid ((xs.take k).contains (xs.getD k 0) = false → ∀ j, j < k + 1 → (xs.take j).contains (xs.getD j 0) = false) := fun h j hj => by
        by_cases e : j = k
        · subst e; exact h
        · exact hd.out j (by omega)
      clear hsn hat hkey hwx htk hkl hd
      generalize xs.getD k 0 = x at *
      cases hct : (xs.take k).contains x with
      | true =>
        have HP := Lib.hid (plc_dup HN.out (HDT.out hct))
        rw [hct] at HAT
        clear hct
        go_wp2_with (at_lookup; refine lookup_own_bool _ rfl _ _ 67 rfl 3 4 keyedInt Tryz.underlying67 Tryz.underlying4 (zeroBool _) w.heap.size k _ rfl hown.out _ _ rfl HKEY.out true HAT.out ?_)
        go_ret
        exact ⟨ret_int HP.out.symm, HX.out⟩
      | false =>
        have HD := Lib.hid (HDN.out hct)
        rw [hct] at HAT
        clear hct
        go_wp2_with (first
          | (at_lookup; refine lookup_own_bool _ rfl _ _ 67 rfl 3 4 keyedInt Tryz.underlying67 Tryz.underlying4 (zeroBool _) w.heap.size k _ rfl hown.out _ _ rfl HKEY.out false HAT.out ?_)
          | (at_mapUpdate; refine wpList_mapUpdate_own _ rfl _ _ _ 67 rfl 3 4 keyedInt Tryz.underlying67 _ w.heap.size k _ rfl hown.out (by unfold maxLen; omega) _ _ _ rfl rfl HKEY.out _ [] (plainElem_bool Tryz.underlying4 true) ?_; intro w1 hown1 hgrow1))
        rw [← HSN.out] at hown1
        have HO := Lib.hid hown1
        have HB := Lib.hid (HX.out.grown hgrow1 HX.out.size (fun j hj => by cases hj; exact Nat.le_refl _))
        clear hown1 hgrow1
        go_wp2
        go_roundw
        case rel => exact ⟨k + 1, by omega, by go_num, HD, HO, HB.out⟩
        case measure => simp [intOf]; omega
    · obtain rfl : k = len := by omega
      have HP := Lib.hid (plc_ok HN.out (dupB_false (xs := xs) fun j hj => hd.out j (by rw [HL.out] at hj; exact hj)))
      go_wp2
      go_ret
      exact ⟨ret_int HP.out.symm, HX.out⟩
theorem checkPlaces_any (s : Value) (xs : List Int) (w : World) (hI : Ints w s xs) (hw : ∀ x ∈ xs, (Lit.int .i64 x).wf = true) :
    Calls Tryz.prog 99 #[s] w fun e W' => e = .returned (.int .i64 (plc xs)) ∧ Below w.heap.size w W' := by
  obtain ⟨a, c, rfl, _, _⟩ := id hI
  by_cases h0 : 0 < xs.length
  · exact checkPlaces_some a c xs w hI hw h0
  · obtain rfl : xs = [] := List.length_eq_zero_iff.1 (by omega)
    rw [plc_nil]
    clear hI hw h0
    go_enter Tryz.func99, Tryz.ntmps99
    go_wp2
    go_ret
    exact ⟨rfl, Below.refl _ _⟩
end Go.Proofs.YtpgbjnenllfmlaaGreatDoor
/-! Contract of poly.Mul. -/
namespace Go.Proofs.YtpgbjnenllfmlaaGreatDoor
open Go.RowKit
open Num
set_option linter.unusedVariables false

/-- Block g is a row of the numbers l. -/
def Row (w : World) (g : Nat) (l : List Int) : Prop := w.rowIs g 3 l.length (fun j => .int .i64 (l.getD j 0))
theorem Row.cell {w : World} {g : Nat} {l : List Int} (h : Row w g l) {i : Nat} (hi : i < l.length) : w.cell? ⟨g, i, none⟩ = some (.int .i64 (l.getD i 0)) := World.rowIs.cell h hi
theorem Row.frozen {w : World} {g : Nat} {l : List Int} (h : Row w g l) (i : Nat) : w.frozen? ⟨g, i, none⟩ = false := World.rowIs.frozen h i
theorem Row.lt {w : World} {g : Nat} {l : List Int} (h : Row w g l) : g < w.heap.size := World.rowIs.lt h
theorem getD_set (l : List Int) (i j : Nat) (v : Int) (hi : i < l.length) : (l.set i v).getD j 0 = if j = i then v else l.getD j 0 := by
  by_cases e : j = i
  · subst e; simp [List.getD, hi]
  · simp [List.getD, e, List.getElem?_set_ne (Ne.symm e)]
theorem Row.set {w : World} {g : Nat} {l : List Int} (h : Row w g l) {i : Nat} (hi : i < l.length) (v : Int) : Row (w.setCell ⟨g, i, none⟩ (.int .i64 v)) g (l.set i v) := by
  unfold Row
  rw [List.length_set]
  exact (World.rowIs.set h i (.int .i64 v)).congr fun j _ => by rw [getD_set _ _ _ _ hi]; split <;> rfl
theorem Row.drew {w : World} {g : Nat} {l : List Int} (h : Row w g l) : Row w.drew g l := h
theorem Row.alloc {w : World} {g : Nat} {l : List Int} (h : Row w g l) (o : Obj) : Row (w.alloc o) g l := World.rowIs.alloc h o
theorem Row.below {w w' : World} {g : Nat} {l : List Int} (h : Row w g l) {B : Nat} (b : Below B w w') (hg : g < B) : Row w' g l := World.rowIs.of_block h (b.block g hg)
theorem Row.made (w : World) (n : Nat) : Row (w.alloc (.cells (madeCells #[.int .i64 0] n) 3)) w.heap.size (List.replicate n 0) := by
  unfold Row
  rw [List.length_replicate]
  exact (World.rowIs_made w (.int .i64 0) n 3).congr fun j hj => by simp [List.getD, hj]
theorem Row.reads {w : World} {g cap : Nat} {l : List Int} (h : Row w g l) (hl : l.length ≤ 140737488355328) : Ints w (.slice (some ⟨g, 0, none⟩) l.length cap) l :=
  ⟨_, cap, rfl, hl, fun _ => ⟨g, 0, rfl, fun i hi => by rw [Nat.zero_add]; exact h.cell hi⟩⟩
theorem els_set {p v : Int} {l : List Int} (h : Els p l) (hv : El p v) (i : Nat) : Els p (l.set i v) := fun x hx => by
  rcases List.mem_or_eq_of_mem_set hx with h1 | h1
  · exact h x h1
  · subst h1; exact hv
theorem els_zeros {p : Int} (hp : 1 ≤ p) (n : Nat) : Els p (List.replicate n 0) := fun x hx => by
  rw [(List.mem_replicate.1 hx).2]; exact el_zero hp

/-- One more product of two coefficients. -/
theorem mul_step {p c d : Int} {l b : List Int} {i k : Nat} {A : Int → Int} (hj : i + k < l.length) (hd : b.getD k 0 = d) (h : Pc p (E l) (fun x => A x + x ^ i * c * E (b.take k) x)) :
    Pc p (E (l.set (i + k) (addF p (l.getD (i + k) 0) (mulF p c d)))) (fun x => A x + x ^ i * c * E (b.take (k + 1)) x) := by
  subst hd
  have h1 : Cg p (addF p (l.getD (i + k) 0) (mulF p c (b.getD k 0))) (l.getD (i + k) 0 + c * b.getD k 0) := (Cg.addF p _ _).trans ((Cg.refl p _).add (Cg.mulF p _ _))
  have h2 := Pc.set l (i + k) _ _ hj h1
  refine h2.trans ((h.add (Pc.refl p (fun x => x ^ (i + k) * (l.getD (i + k) 0 + c * b.getD k 0 - l.getD (i + k) 0)))).trans (Pc.of_eq fun x => ?_))
  rw [E_take_succ, Int.pow_add]
  grind
theorem mul_row {p c : Int} {l a b : List Int} {i : Nat} (hc : a.getD i 0 = c) (h : Pc p (E l) (fun x => E (a.take i) x * E b x + x ^ i * c * E b x)) : Pc p (E l) (fun x => E (a.take (i + 1)) x * E b x) := by
  subst hc
  exact h.trans (Pc.of_eq fun x => by rw [E_take_succ]; grind)
theorem mul_start {p c : Int} {l a b : List Int} {i : Nat} (h : Pc p (E l) (fun x => E (a.take i) x * E b x)) : Pc p (E l) (fun x => E (a.take i) x * E b x + x ^ i * c * E (b.take 0) x) :=
  h.trans (Pc.of_eq fun x => by simp [E])

set_option maxRecDepth 100000 in
set_option maxHeartbeats 2000000 in
theorem mul_core (p : Int) (aa ab : Option Addr) (la lb ca cb : Nat) (a b : List Int) (w : World) (hp : 1 ≤ p) (hp2 : p ≤ 1073741824) (ha : Els p a) (hb : Els p b)
    (hsa : Ints w (.slice aa la ca) a) (hsb : Ints w (.slice ab lb cb) b) (hla : Hid (la = a.length)) (hlb : Hid (lb = b.length)) (hn : la + lb ≤ 1000000) :
    Calls Tryz.prog 87 #[.int .i64 p, .slice aa la ca, .slice ab lb cb] w fun e w' =>
      ∃ l : List Int, ∃ cap, e = .returned (.slice (some ⟨w.heap.size, 0, none⟩) (dg l) cap) ∧ Row w' w.heap.size l ∧ l.length = la + lb ∧ Els p l ∧ Pc p (E l) (fun x => E a x * E b x) ∧ Below w.heap.size w w' := by
  have hmk := run_make_row' (P := Tryz.prog) 22 3 (.int .i64 0) 8 Tryz.underlying22 infoInt rfl .i64 .i64 (la + lb) (by omega) (by omega)
  have e1 : ((la + lb : Nat) : Int) = (la : Int) + (lb : Int) := by omega
  rw [e1] at hmk
  have bla : la ≤ 1000000 := by omega
  have blb : lb ≤ 1000000 := by omega
  have hmx : Tryz.prog.follows .mixedOrders = true := by kernel_rfl
  obtain ⟨n, hnn⟩ : ∃ n, la + lb = n := ⟨_, rfl⟩
  rw [hnn] at hmk hn
  have HN := Lib.hid hnn
  clear e1 hnn
  go_enter Tryz.func87, Tryz.ntmps87
  go_wp2
  go_loopw [8, 9, 10, 11, 20] (fun _ _ _ _ i wr => ∃ k : Nat, ∃ l : List Int, k ≤ la ∧ i = .int .i64 k ∧ Row wr w.heap.size l ∧ Hid (l.length = n) ∧ Hid (Els p l) ∧ Hid (Pc p (E l) (fun x => E (a.take k) x * E b x)) ∧ Below w.heap.size w wr) (fun _ _ _ _ i _ => la - (intOf i).toNat)
  case atStart => exact ⟨0, List.replicate n 0, Nat.zero_le _, rfl, Row.made w n, Lib.hid (by simp), Lib.hid (els_zeros hp n), Lib.hid (Pc.of_eq fun x => by rw [E_zeros]; simp [E]), (Below.refl _ _).alloc (Nat.le_refl _) _⟩
  case round =>
    obtain ⟨i, l, hi, rfl, hrow, hlen, hel, hpc, hbel⟩ := hrel
    have HR := Lib.hid hrow
    have HB := Lib.hid hbel
    clear hrow hbel
    by_cases hlt : i < la
    · obtain ⟨x0, off, rfl, hcx⟩ := ints_at (hsa.below (Nat.le_refl _) HB.out) hla.out (k := i) hlt
      have hc := els_at hp ha i
      obtain ⟨c, hcv⟩ : ∃ c, a.getD i 0 = c := ⟨_, rfl⟩
      rw [hcv] at hcx hc
      have HCV := Lib.hid hcv
      clear hcv
      go_wp2
      go_loopw [10, 11, 27] (fun _ _ j wr => ∃ k : Nat, ∃ l : List Int, k ≤ lb ∧ j = .int .i64 k ∧ Row wr w.heap.size l ∧ Hid (l.length = n) ∧ Hid (Els p l) ∧ Hid (Pc p (E l) (fun x => E (a.take i) x * E b x + x ^ i * c * E (b.take k) x)) ∧ Below w.heap.size w wr) (fun _ _ j _ => lb - (intOf j).toNat)
      case atStart => exact ⟨0, l, Nat.zero_le _, rfl, HR.out, hlen, hel, Lib.hid (mul_start hpc.out), HB.out⟩
      case round =>
        obtain ⟨k, l2, hk, rfl, hrow2, hlen2, hel2, hpc2, hbel2⟩ := hrel
        have HR2 := Lib.hid hrow2
        have HB2 := Lib.hid hbel2
        clear hrow2 hbel2
        by_cases hlt2 : k < lb
        · obtain ⟨y0, offb, rfl, hcy⟩ := ints_at (hsb.below (Nat.le_refl _) HB2.out) hlb.out (k := k) hlt2
          have hd := els_at hp hb k
          obtain ⟨d, hdv⟩ : ∃ d, b.getD k 0 = d := ⟨_, rfl⟩
          rw [hdv] at hcy hd
          have hj : i + k < l2.length := by rw [hlen2.out, ← HN.out]; omega
          have hcl := HR2.out.cell hj
          have hfr := HR2.out.frozen (i + k)
          have hv := els_at hp hel2.out (i + k)
          have HS := Lib.hid (mul_step hj hdv hpc2.out)
          have HRS := Lib.hid (HR2.out.set hj (addF p (l2.getD (i + k) 0) (mulF p c d)))
          have HES : Hid (Els p (l2.set (i + k) (addF p (l2.getD (i + k) 0) (mulF p c d)))) := els_set hel2.out (el_add hp _ _) _
          have HLS : Hid ((l2.set (i + k) (addF p (l2.getD (i + k) 0) (mulF p c d))).length = n) := by show _ = n; rw [List.length_set]; exact hlen2.out
          have hin : i + k < n := by rw [← hlen2.out]; exact hj
          clear hdv hj hpc2
          generalize l2.getD (i + k) 0 = v at *
          have s1 : IntKind.i64.wrap ((i : Int) + (k : Int)) = (i : Int) + (k : Int) := IntWalk.i64_in _ (by omega)
          have s2 : ((i : Int) + (k : Int)).toNat = i + k := by omega
          have s3 : 0 ≤ (i : Int) + (k : Int) := by omega
          have s4 : (i : Int) + (k : Int) < (n : Int) := by omega
          go_wp2
          refine wp_region_still_tail 17 hmx (by kernel_rfl) ?_
          simp only [List.take_succ_cons, List.take_zero, List.drop_succ_cons, List.drop_zero, drew_def]
          repeat still_step
          still_call (still_of (mul_el _ hp hp2 hc hd))
          still_call (still_of (add_el _ hp hp2 hv (el_mul hp _ _)))
          repeat still_step
          refine wpStill_nil ?_
          go_wp2
          go_roundw
          case rel => exact ⟨k + 1, _, by omega, by go_num, HRS.out, HLS, HES, HS, (HB2.out.setCell (p := ⟨w.heap.size, i + k, none⟩) (Nat.le_refl _) _).drew⟩
          case measure => simp [intOf]; omega
        · obtain rfl : k = lb := by omega
          have HP : Hid (Pc p (E l2) (fun x => E (a.take (i + 1)) x * E b x)) := mul_row HCV.out (by have h := hpc2.out; rw [hlb.out, List.take_length] at h; exact h)
          clear hpc2
          go_wp2
          go_roundw
          case rel => exact ⟨i + 1, l2, by omega, by go_num, HR2.out, hlen2, hel2, HP, HB2.out⟩
          case measure => simp [intOf]; omega
    · obtain rfl : i = la := by omega
      have HP : Hid (Pc p (E l) (fun x => E a x * E b x)) := by have h := hpc.out; rw [hla.out, List.take_length] at h; exact h
      have HI := Lib.hid (Row.reads (cap := n) HR.out (by rw [hlen.out]; omega))
      have hdl := Lib.hid (dg_le l)
      clear hpc
      have HS := Lib.hid (short_any _ n l wr HI.out (by rw [← hlen.out]; exact hdl.out) (by omega))
      rw [hlen.out] at HS
      go_wp2_with (go_at_call 104; refine HS.out.mono ?_; rintro e w1 ⟨rfl, hb1⟩)
      have HR1 := Lib.hid (HR.out.below hb1 HR.out.lt)
      have HB1 := Lib.hid (HB.out.trans (hb1.mono HB.out.size))
      clear hb1
      go_ret
      exact ⟨l, n, rfl, HR1.out, by rw [hlen.out, HN.out], hel.out, HP.out, HB1.out⟩

/-- A list has no more coefficients than where it is 0 from. -/
theorem dg_upto {l : List Int} {k : Nat} (h : ∀ i, k ≤ i → l.getD i 0 = 0) : dg l ≤ k := by
  by_cases e : dg l ≤ k
  · exact e
  · exact absurd (h (dg l - 1) (by omega)) (dg_top l (dg l - 1) (by omega))
theorem mulL_len : ∀ (a b : List Int), 0 < b.length → (mulL a b).length ≤ a.length + b.length - 1
  | [], b, _ => by simp [mulL]
  | c :: a, b, h => by
    have ih := mulL_len a b h
    simp only [mulL, addL_len, smulL_len, List.length_cons]; omega
theorem pc_zero {p : Int} (hp : 1 ≤ p) {l : List Int} (hl : Els p l) (h : Pc p (E l) (fun _ => 0)) (i : Nat) : l.getD i 0 = 0 := by
  have h2 := Pc.coef (a := l) (b := []) (h.trans (Pc.of_eq fun x => rfl)) i
  exact h2.el (els_getD hp hl i) (els_getD hp (fun x hx => by cases hx) i)
theorem mul_dg {p : Int} (hp : 1 ≤ p) {l a b : List Int} (hl : Els p l) (h : Pc p (E l) (fun x => E a x * E b x)) : dg l ≤ a.length + b.length - 1 := by
  refine dg_upto fun i hi => ?_
  by_cases hb : 0 < b.length
  · have h2 := Pc.coef (a := l) (b := mulL a b) (h.trans (Pc.of_eq fun x => (E_mulL a b x).symm)) i
    rw [getD_ge (l := mulL a b) (by have := mulL_len a b hb; omega)] at h2
    exact h2.el (els_getD hp hl i) (el_zero hp)
  · obtain rfl : b = [] := List.length_eq_zero_iff.1 (by omega)
    exact pc_zero hp hl (h.trans (Pc.of_eq fun x => by simp [E])) i
theorem pc_sh {p : Int} {l : List Int} {f : Int → Int} (h : Pc p (E l) f) : Pc p (E (sh l)) f := (Pc.of_eq fun x => E_sh l x).trans h

/-- A short product. -/
structure Prod (p : Int) (a b z : List Int) : Prop where
  els : Els p z
  short : sh z = z
  len : z.length ≤ a.length + b.length - 1
  pc : Pc p (E z) (fun x => E a x * E b x)
theorem prod_of {p : Int} (hp : 1 ≤ p) {l a b : List Int} (hl : Els p l) (h : Pc p (E l) (fun x => E a x * E b x)) : Prod p a b (sh l) :=
  ⟨sh_els hl, sh_sh l, by rw [sh_len]; exact mul_dg hp hl h, pc_sh h⟩
theorem Prod.unique {p : Int} (hp : 1 ≤ p) {a b z z' : List Int} (h : Prod p a b z) (h' : Prod p a b z') : z = z' := by
  rw [← h.short, ← h'.short]
  exact sh_cg hp h.els h'.els fun i => (h.pc.trans h'.pc.symm).coef i
theorem pmul_any {p : Int} {sa sb : Value} {a b : List Int} (w : World) (hp : 1 ≤ p) (hp2 : p ≤ 1073741824) (ha : Els p a) (hb : Els p b) (hsa : Ints w sa a) (hsb : Ints w sb b) (hn : a.length + b.length ≤ 1000000) :
    Calls Tryz.prog 87 #[.int .i64 p, sa, sb] w fun e w' => ∃ v z, e = .returned v ∧ Ints w' v z ∧ Prod p a b z ∧ Below w.heap.size w w' := by
  obtain ⟨aa, ca, rfl, _, _⟩ := id hsa
  obtain ⟨ab, cb, rfl, _, _⟩ := id hsb
  refine (mul_core p aa ab a.length b.length ca cb a b w hp hp2 ha hb hsa hsb (Lib.hid rfl) (Lib.hid rfl) hn).mono ?_
  rintro e w' ⟨l, cap, rfl, hrow, hlen, hel, hpc, hbel⟩
  exact ⟨_, sh l, rfl, ints_sh (hrow.reads (by omega)), prod_of hp hel hpc, hbel⟩
end Go.Proofs.YtpgbjnenllfmlaaGreatDoor
/-! Contract of poly.Through. -/
namespace Go.Proofs.YtpgbjnenllfmlaaGreatDoor
open Go.RowKit Go.Sort
open Num
set_option linter.unusedVariables false

/-- A slice that reads as a list and has room for it. -/
def Slc (w : World) (v : Value) (l : List Int) : Prop := ∃ a c, v = .slice a l.length c ∧ l.length ≤ c ∧ c ≤ 9223372036854775807 ∧ Ints w (.slice a l.length c) l
theorem Slc.ints {w : World} {v : Value} {l : List Int} (h : Slc w v l) : Ints w v l := by obtain ⟨a, c, rfl, _, _, h⟩ := h; exact h
theorem Slc.below {w w' : World} {v : Value} {l : List Int} (h : Slc w v l) {B : Nat} (hB : w.heap.size ≤ B) (b : Below B w w') : Slc w' v l := by
  obtain ⟨a, c, e, h1, h2, h3⟩ := h; exact ⟨a, c, e, h1, h2, h3.below hB b⟩
theorem Gath.slc {w : World} {base : Nat} {v : Value} {zs : List Int} (h : Gath w base v zs) (hl : zs.length ≤ 140737488355328) : Slc w v zs := by
  have hI := h.reads hl
  obtain ⟨_, hn | ⟨g, cap, cur, rfl, hb, hg, h1, h2, h3, h4⟩⟩ := h
  · obtain ⟨rfl, h0⟩ := hn
    obtain rfl : zs = [] := List.length_eq_zero_iff.1 h0
    exact ⟨none, 0, rfl, by simp, by omega, hI⟩
  · exact ⟨_, cap, rfl, h1, by unfold maxLen at h2; omega, hI⟩
theorem Gath.kept {w w' : World} {base B : Nat} {v : Value} {zs : List Int} (h : Gath w base v zs) (b : Below B w w') (hB : w.heap.size ≤ B) : Gath w' base v zs :=
  World.ownsRow.kept h (row := none) ⟨b.os, b.tape, b.output, b.size, fun k hk _ => b.block k (by omega)⟩ (by
    cases e : v.ownBlock with
    | none => exact .inl rfl
    | some g => exact .inr (by simp))
/-- A literal. -/
theorem ints_lit (w : World) (vals : List Int) (t : TypeId) (hl : vals.length ≤ 1000) : Ints (w.alloc (.cells (vals.map (Value.int .i64)).toArray t)) (.slice (some ⟨w.heap.size, 0, none⟩) vals.length vals.length) vals := by
  refine ⟨_, _, rfl, by omega, fun _ => ⟨w.heap.size, 0, rfl, fun i hi => ?_⟩⟩
  rw [Nat.zero_add, cell_new]
  simp [List.getD, hi]
theorem ints_two (w : World) (a b : Int) (t : TypeId) : Ints (w.alloc (.cells #[.int .i64 a, .int .i64 b] t)) (.slice (some ⟨w.heap.size, 0, none⟩) 2 2) [a, b] := ints_lit w [a, b] t (by simp)
theorem ints_one (w : World) (a : Int) (t : TypeId) : Ints (w.alloc (.cells #[.int .i64 a] t)) (.slice (some ⟨w.heap.size, 0, none⟩) 1 1) [a] := ints_lit w [a] t (by simp)
theorem pure_below {P : Program} {f : FuncId} {args : Array Value} {W : World} {v : Value} (h : Calls P f args W fun e w' => e = .returned v ∧ W = w') : Calls P f args W fun e w' => e = .returned v ∧ Below W.heap.size W w' :=
  h.mono fun _ _ ⟨he, hw⟩ => ⟨he, hw ▸ Below.refl _ _⟩

theorem linF_els' {p : Int} (hp : 1 ≤ p) (a b : List Int) (c : Int) : Els p (linF p a b c) := by
  intro x hx
  simp only [linF, List.mem_map] at hx
  obtain ⟨i, _, rfl⟩ := hx
  exact el_add hp _ _
theorem linF_len' (p : Int) (a b : List Int) (c : Int) : (linF p a b c).length = max a.length b.length := by simp [linF]
theorem linF_getD (p : Int) (a b : List Int) (c : Int) (i : Nat) : Cg p ((linF p a b c).getD i 0) (a.getD i 0 + c * b.getD i 0) := by
  by_cases h : i < max a.length b.length
  · have : (linF p a b c).getD i 0 = linAt p a b c i := by simp [linF, List.getD, h]
    rw [this]
    exact (Cg.addF p _ _).trans ((Cg.refl p _).add (Cg.mulF p _ _))
  · rw [getD_ge (by rw [linF_len']; omega), getD_ge (l := a) (by omega), getD_ge (l := b) (by omega)]
    exact Cg.of_eq (by omega)
theorem cg_of_coef {p : Int} {a b : List Int} (h : ∀ i, Cg p (a.getD i 0) (b.getD i 0)) (x : Int) : Cg p (E a x) (E b x) := by
  have h1 : ∀ c ∈ subL a b, Cg p c 0 := fun c hc => by
    obtain ⟨i, hi, rfl⟩ := List.mem_iff_getElem.1 hc
    have := (h i).sub (Cg.refl p (b.getD i 0))
    rw [← subL_getD, getD_lt hi] at this
    simpa using this
  have h2 := (E_zero_of h1 x).add (Cg.refl p (E b x))
  rw [E_subL] at h2
  have e : E a x - E b x + E b x = E a x := by omega
  rw [e, Int.zero_add] at h2; exact h2
theorem linF_linE (p : Int) (a b : List Int) (c : Int) : linE p (linF p a b c) a b c := fun x => by
  have h := cg_of_coef (a := linF p a b c) (b := addL a (smulL c b)) (fun i => by rw [addL_getD (a := a), smulL_getD]; exact linF_getD p a b c i) x
  rwa [E_addL, E_smulL] at h

def ThI (p : Int) (xs ys : List Int) (B k : Nat) (wr : World) (vT vZ : Value) : Prop := ∃ T Z, Slc wr vT T ∧ Ints wr vZ Z ∧ ThS p xs ys T Z k ∧ ∀ g, vT.ownBlock = some g → B ≤ g

theorem els_wf {p : Int} {l : List Int} (hp : p ≤ 1073741824) (h : Els p l) : ∀ x ∈ l, (Lit.int .i64 x).wf = true := fun x hx => by
  have := h x hx; exact wf64 (by have := this.1; omega) (by have := this.2; omega)

set_option maxRecDepth 100000 in
set_option maxHeartbeats 4000000 in
theorem through_slc (p : Int) (ax ay : Option Addr) (n cx cy : Nat) (xs ys : List Int) (w : World) (hp : PrmI p) (hp2 : p ≤ 1073741824) (hx : Els p xs) (hy : Els p ys)
    (hsx : Ints w (.slice ax n cx) xs) (hsy : Ints w (.slice ay n cy) ys) (hnx : Hid (n = xs.length)) (hny : Hid (n = ys.length)) (hok : Hid (plc xs = 0)) (hn : n ≤ 1000) (h0 : 0 < n) :
    Calls Tryz.prog 84 #[.int .i64 p, .slice ax n cx, .slice ay n cy] w fun e w' => ∃ v z, e = .returned (.tuple #[v, .int .i64 0]) ∧ Slc w' v z ∧ Thru p xs ys z ∧ (∀ g, v.ownBlock = some g → w.heap.size ≤ g) ∧ Below w.heap.size w w' := by
  have hp0 := hp.1
  have hp1 : 1 ≤ p := by omega
  have HND : Hid xs.Nodup := nodup_of (by
    have h := hok.out
    unfold plc at h
    split at h
    · omega
    · split at h
      · omega
      · simpa using ‹¬ dupB xs = true›)
  have hcp := Lib.hid (checkPlaces_any _ xs w hsx (els_wf hp2 hx))
  rw [hok.out] at hcp
  go_enter Tryz.func84, Tryz.ntmps84
  go_wp2_with (go_at_call 99; refine hcp.out.mono ?_; rintro e w1 ⟨rfl, hb1⟩)
  have hsx1 := hsx.below (Nat.le_refl _) hb1
  have hsy1 := hsy.below (Nat.le_refl _) hb1
  have HB1 := Lib.hid hb1
  clear hb1 hsx hsy hcp hok
  have hst : ThI p xs ys w.heap.size 0 ((w1.alloc (.cells #[] 3)).alloc (.cells #[.int .i64 1] 3)) (.slice (some ⟨w1.heap.size, 0, none⟩) 0 0) (.slice (some ⟨w1.heap.size + 1, 0, none⟩) 1 1) :=
    ⟨[], [1], ⟨_, 0, rfl, by simp, by omega, ⟨_, _, rfl, by simp, fun h => absurd rfl h⟩⟩, by have h := ints_one (w1.alloc (.cells #[] 3)) 1 3; rw [World.size_alloc] at h; exact h, thS_start hp0 xs ys, fun g hg => by simp [Value.ownBlock] at hg; have := HB1.out.size; omega⟩
  have HST := Lib.hid hst
  have hb2 : Below w1.heap.size w1 ((w1.alloc (.cells #[] 3)).alloc (.cells #[.int .i64 1] 3)) := ((Below.refl _ _).alloc (Nat.le_refl _) _).alloc (by simp) _
  have HB2 := Lib.hid (HB1.out.trans (hb2.mono HB1.out.size))
  have hsx2 := Lib.hid (hsx1.below (Nat.le_refl _) hb2)
  have hsy2 := Lib.hid (hsy1.below (Nat.le_refl _) hb2)
  clear hst hb2 hsx1 hsy1 HB1
  generalize Value.slice (some ⟨w1.heap.size, 0, none⟩) 0 0 = v0 at *
  generalize Value.slice (some ⟨w1.heap.size + 1, 0, none⟩) 1 1 = v1 at *
  generalize (w1.alloc (.cells #[] 3)).alloc (.cells #[.int .i64 1] 3) = w2 at *
  go_loopw [9, 10, 11, 12, 13, 14, 29] (fun t9 t10 _ _ _ _ i wr => ∃ k : Nat, k ≤ n ∧ i = .int .i64 k ∧ Hid (ThI p xs ys w.heap.size k wr t9 t10) ∧ Below w2.heap.size w2 wr) (fun _ _ _ _ _ _ i _ => n - (intOf i).toNat)
  case atStart => exact ⟨0, Nat.zero_le _, rfl, HST, Below.refl _ _⟩
  case round =>
    obtain ⟨k, hk, rfl, hI, hbel⟩ := hrel
    have HB := Lib.hid hbel
    have hsxr := hsx2.out.below (Nat.le_refl _) hbel
    have hsyr := hsy2.out.below (Nat.le_refl _) hbel
    clear hbel
    obtain ⟨T, Z, hT, hZ, hS, hF⟩ := hI.out
    have HF := Lib.hid hF
    clear hF
    have HS := Lib.hid hS
    have HT := Lib.hid hT
    have HZ := Lib.hid hZ
    have elT := hS.elT
    have elZ := hS.elZ
    clear hS hT hZ hI
    by_cases hlt : k < n
    · obtain ⟨x0, off, rfl, hcx⟩ := ints_at hsxr hnx.out (k := k) hlt
      obtain ⟨y0, offy, rfl, hcy⟩ := ints_at hsyr hny.out (k := k) hlt
      have ex := els_at hp1 hx k
      have ey := els_at hp1 hy k
      obtain ⟨x, hxv⟩ : ∃ x, xs.getD k 0 = x := ⟨_, rfl⟩
      obtain ⟨y, hyv⟩ : ∃ y, ys.getD k 0 = y := ⟨_, rfl⟩
      rw [hxv] at hcx ex
      rw [hyv] at hcy ey
      have HXV := Lib.hid hxv
      have HYV := Lib.hid hyv
      clear hxv hyv hsxr hsyr
      have cC := cell_regrown hcy
      have cE : ∀ d os, Calls Tryz.prog 34 #[.int .i64 p, u9, .int .i64 x] (grow (redrawn wr d) os) fun e w'' => e = .returned (.int .i64 (E T x % p)) ∧ ∃ q : Regrown, w'' = grow (redrawn wr q.d) q.os :=
        fun d os => Calls.regrown_of (eval_any _ hp1 hp2 ex elT (HT.out.ints.below (Nat.le_refl _) (below_regrown wr d os)))
      have eT := el_mod hp1 (E T x)
      have cS : ∀ d os, Calls Tryz.prog 101 #[.int .i64 p, .int .i64 y, .int .i64 (E T x % p)] (grow (redrawn wr d) os) fun e w'' => e = .returned (.int .i64 (subF p y (E T x % p))) ∧ ∃ q : Regrown, w'' = grow (redrawn wr q.d) q.os :=
        fun d os => Calls.regrown_of (pure_below (sub_el _ hp1 hp2 ey eT))
      go_wp2
      refine wp_region_quiet_below (by kernel_rfl) (by kernel_rfl) ?_
      repeat (quiet_step (first | exact cE _ _ | exact cS _ _))
      refine wpQuiet_nil ?_
      intro _ hw'
      obtain ⟨⟨dq, osq⟩, hw''⟩ := hw'
      subst hw''
      have hbq := below_regrown wr dq osq
      clear cC cE cS hcx hcy
      generalize grow (redrawn wr dq) osq = w3 at *
      have HT3 := Lib.hid (HT.out.below (Nat.le_refl _) hbq)
      have HZ3 := Lib.hid (HZ.out.below (Nat.le_refl _) hbq)
      have HB3 := Lib.hid (HB.out.trans (hbq.mono HB.out.size))
      clear hbq HT HZ HB
      have eZ := el_mod hp1 (E Z x)
      go_wp2_with fail
      refine (eval_any _ hp1 hp2 ex elZ HZ3.out).mono ?_; rintro e w4 ⟨rfl, hb4⟩
      have HT4 := Lib.hid (HT3.out.below (Nat.le_refl _) hb4)
      have HZ4 := Lib.hid (HZ3.out.below (Nat.le_refl _) hb4)
      have HB4 := Lib.hid (HB3.out.trans (hb4.mono HB3.out.size))
      clear hb4 HT3 HZ3 HB3
      go_wp2_with fail
      refine (inverseOf_any _ hp0 hp2 eZ).mono ?_; rintro e w' ⟨rfl, rfl⟩
      go_wp2_with fail
      refine (mul_el _ hp1 hp2 (el_sub hp1 y (E T x % p)) (iv0_el hp1 (E Z x % p))).mono ?_; rintro e w' ⟨rfl, rfl⟩
      have et := el_mul hp1 (subF p y (E T x % p)) (iv0 p (E Z x % p))
      have HTv : Hid (mulF p (subF p y (E T x % p)) (iv0 p (E Z x % p)) = mulF p (subF p y (E T x % p)) (iv0 p (E Z x % p))) := rfl
      obtain ⟨t, ht⟩ : ∃ t, mulF p (subF p y (E T x % p)) (iv0 p (E Z x % p)) = t := ⟨_, rfl⟩
      rw [ht] at et ⊢
      have HTV := Lib.hid ht
      clear ht HTv eT eZ
      go_wp2_with fail
      refine (linear_any p t _ _ T Z _ hp1 hp2 et elT elZ HT4.out.ints HZ4.out (by have := HS.out.lenT; omega) (by have := HS.out.lenZ; omega)).mono ?_
      rintro e w5 ⟨vT', rfl, hg5, hb5⟩
      have hl5 := linF_len' p T Z t
      have HT5 := Lib.hid (hg5.slc (by rw [hl5]; have := HS.out.lenT; have := HS.out.lenZ; omega))
      have HZ5 := Lib.hid (HZ4.out.below (Nat.le_refl _) hb5)
      have HB5 := Lib.hid (HB4.out.trans (hb5.mono HB4.out.size))
      have HF5 : Hid (∀ g, vT'.ownBlock = some g → w.heap.size ≤ g) := fun g hg => by have := hg5.block g hg; have := HB4.out.size; have := HB2.out.size; omega
      clear hg5 hb5 HT4 HZ4 HB4 hl5
      go_wp2_with fail
      refine (sub_el _ hp1 hp2 (el_zero hp1) ex).mono ?_; rintro e w' ⟨rfl, rfl⟩
      have es := el_sub hp1 0 x
      have hi6 := Lib.hid (ints_two w5 (subF p 0 x) 1 3)
      have hb6 : Below w5.heap.size w5 (w5.alloc (.cells #[.int .i64 (subF p 0 x), .int .i64 1] 3)) := (Below.refl _ _).alloc (Nat.le_refl _) _
      have HT6 := Lib.hid (HT5.out.below (Nat.le_refl _) hb6)
      have HZ6 := Lib.hid (HZ5.out.below (Nat.le_refl _) hb6)
      have HB6 := Lib.hid (HB5.out.trans (hb6.mono HB5.out.size))
      have el2 : Hid (Els p [subF p 0 x, 1]) := fun z hz => by
        rcases List.mem_cons.1 hz with rfl | hz
        · exact es
        · rw [List.mem_singleton.1 hz]; exact ⟨by omega, by omega⟩
      clear hb6 HT5 HZ5 HB5
      go_wp2_with fail
      refine (pmul_any _ hp1 hp2 elZ el2.out HZ6.out hi6.out (by have := HS.out.lenZ; simp; omega)).mono ?_
      rintro e w7 ⟨vZ', Z', rfl, hz7, hprod, hb7⟩
      have HT7 := Lib.hid (HT6.out.below (Nat.le_refl _) hb7)
      have HB7 := Lib.hid (HB6.out.trans (hb7.mono HB6.out.size))
      have hS' := thS_step hp (by rw [← hnx.out]; exact hlt) HND.out hx HXV.out HYV.out HS.out (linF_els' hp1 T Z t) hprod.els (linF_len' p T Z t) (by rw [HTV.out]; exact linF_linE p T Z t) (by have := hprod.len; simpa using this) hprod.pc
      have HI : Hid (ThI p xs ys w.heap.size (k + 1) w7 vT' vZ') := ⟨_, Z', HT7.out, hz7, hS', HF5.out⟩
      clear hS' hz7 hprod hb7 HT7 HT6 HZ6 HB6 hi6 el2 HS
      go_wp2
      go_roundw
      case rel => exact ⟨k + 1, by omega, by go_num, HI, HB7.out⟩
      case measure => simp [intOf]; omega
    · obtain rfl : k = n := by omega
      obtain ⟨aT, cT, rfl, hT1, hT2, hT3⟩ := HT.out
      have hd := dg_le T
      have HSH := Lib.hid (short_any aT cT T _ hT3 (by omega) hT2)
      have HI3 := Lib.hid (ints_sh hT3)
      have HTH : Hid (Thru p xs ys (sh T)) := thru_of (by have h := HS.out; rw [hnx.out] at h; exact h)
      have HBB := Lib.hid (HB2.out.trans (HB.out.mono HB2.out.size))
      have HTC : Hid (dg T ≤ cT ∧ cT ≤ 9223372036854775807) := ⟨by omega, hT2⟩
      clear hT3 hd hT1 hT2
      go_wp2_with (go_at_call 104; refine HSH.out.mono ?_; rintro e w9 ⟨rfl, hb9⟩)
      have HB9 := Lib.hid (HBB.out.trans (hb9.mono HBB.out.size))
      have HI9 := Lib.hid (HI3.out.below (Nat.le_refl _) hb9)
      clear hb9
      go_ret2
      exact ⟨.slice aT (dg T) cT, sh T, rfl, ⟨aT, cT, (congrArg (fun m => Value.slice aT m cT) (sh_len T)).symm, by rw [sh_len]; exact HTC.out.1, HTC.out.2, by rw [sh_len]; exact HI9.out⟩, HTH.out, (fun g hg => HF.out g (by cases aT <;> exact hg)), HB9.out⟩
theorem through_core (p : Int) (ax ay : Option Addr) (n cx cy : Nat) (xs ys : List Int) (w : World) (hp : PrmI p) (hp2 : p ≤ 1073741824) (hx : Els p xs) (hy : Els p ys)
    (hsx : Ints w (.slice ax n cx) xs) (hsy : Ints w (.slice ay n cy) ys) (hnx : Hid (n = xs.length)) (hny : Hid (n = ys.length)) (hok : Hid (plc xs = 0)) (hn : n ≤ 1000) (h0 : 0 < n) :
    Calls Tryz.prog 84 #[.int .i64 p, .slice ax n cx, .slice ay n cy] w fun e w' => ∃ v z, e = .returned (.tuple #[v, .int .i64 0]) ∧ Ints w' v z ∧ Thru p xs ys z ∧ (∀ g, v.ownBlock = some g → w.heap.size ≤ g) ∧ Below w.heap.size w w' :=
  (through_slc p ax ay n cx cy xs ys w hp hp2 hx hy hsx hsy hnx hny hok hn h0).mono fun _ _ ⟨v, z, h1, h2, h3⟩ => ⟨v, z, h1, h2.ints, h3⟩
theorem through_ok {p : Int} {sx sy : Value} {xs ys : List Int} (w : World) (hp : PrmI p) (hp2 : p ≤ 1073741824) (hx : Els p xs) (hy : Els p ys) (hsx : Ints w sx xs) (hsy : Ints w sy ys) (hl : xs.length = ys.length) (hok : plc xs = 0) (hn : xs.length ≤ 1000) :
    Calls Tryz.prog 84 #[.int .i64 p, sx, sy] w fun e w' => ∃ v z, e = .returned (.tuple #[v, .int .i64 0]) ∧ Ints w' v z ∧ Thru p xs ys z ∧ (∀ g, v.ownBlock = some g → w.heap.size ≤ g) ∧ Below w.heap.size w w' := by
  obtain ⟨ax, cx, rfl, _, _⟩ := id hsx
  obtain ⟨ay, cy, rfl, _, _⟩ := id hsy
  rw [← hl] at hsy ⊢
  refine through_core p ax ay xs.length cx cy xs ys w hp hp2 hx hy hsx hsy (Lib.hid rfl) (Lib.hid hl) (Lib.hid hok) hn ?_
  by_cases h0 : 0 < xs.length
  · exact h0
  · obtain rfl : xs = [] := List.length_eq_zero_iff.1 (by omega)
    rw [plc_nil] at hok; omega
end Go.Proofs.YtpgbjnenllfmlaaGreatDoor
/-! poly.others: the iterator over all places but one. -/
namespace Go.Proofs.YtpgbjnenllfmlaaGreatDoor
open Go.RowKit Go.Shelf
open Num
set_option linter.unusedVariables false
attribute [local go_sem] Oper.semAt_some

/-- Of the first k places all but number i. -/
def restK (xs : List Int) (i k : Nat) : List Int := if k ≤ i then xs.take k else xs.take i ++ (xs.take k).drop (i + 1)
theorem restK_all {xs : List Int} {i : Nat} (h : i < xs.length) : restK xs i xs.length = rest xs i := by
  unfold restK rest; rw [if_neg (by omega), List.take_length]
theorem restK_own (xs : List Int) (i : Nat) : restK xs i (i + 1) = restK xs i i := by
  unfold restK; rw [if_neg (by omega), if_pos (Nat.le_refl _), List.drop_of_length_le (by simp; omega), List.append_nil]
theorem restK_other {xs : List Int} {i k : Nat} (h : k < xs.length) (hne : k ≠ i) : restK xs i (k + 1) = restK xs i k ++ [xs.getD k 0] := by
  unfold restK
  by_cases h1 : k < i
  · rw [if_pos (by omega), if_pos (by omega), take_succ_getD h]
  · rw [if_neg (by omega), if_neg (by omega), take_succ_getD h, List.drop_append_of_le_length (by simp; omega), List.append_assoc]

abbrev InL (xs : List Int) := { v : Int // v ∈ xs }
def OthR (Bx Bi i : Nat) (xs : List Int) (a : Option Addr) (cap : Nat) (W : World) : Prop := Reads (At xs) Bx a xs.length cap W ∧ W.cell? ⟨Bi, 0, none⟩ = some (.int .i64 i)
theorem OthR.of_cells {Bx Bi i : Nat} {xs : List Int} {a : Option Addr} {cap : Nat} {W W' : World} (h : OthR Bx Bi i xs a cap W) (hc : ∀ p : Addr, ∀ v, W.cell? p = some v → W'.cell? p = some v) : OthR Bx Bi i xs a cap W' :=
  ⟨h.1.of_cells hc, hc _ _ h.2⟩
theorem OthR.but {Bx Bi i B : Nat} {xs : List Int} {a : Option Addr} {cap : Nat} {W W' : World} (h : OthR Bx Bi i xs a cap W) (k : But B W W') (h1 : Bx ≠ B) (h2 : Bi ≠ B) (ha : ∀ b off, a = some ⟨b, off, none⟩ → b ≠ B) : OthR Bx Bi i xs a cap W' :=
  ⟨h.1.but k h1 ha, by rw [k.cell (p := ⟨Bi, 0, none⟩) (cell_lt h.2) h2]; exact h.2⟩

set_option maxRecDepth 100000 in
set_option maxHeartbeats 2000000 in
theorem others1_in (n : Nat) (hn : 1 ≤ n) (l Bx Bi i : Nat) (xs : List Int) (a : Option Addr) (len cap : Nat) (hlen : Hid (len = xs.length)) (hreach : len ≤ 140737488355328) (J Jx : List (InL xs) → World → Prop)
    (hY : ∀ pre x W, J pre W → pre.length < len → YieldAt Fence.wide (n - 1) Tryz.prog l #[.int .i64 x.1] W fun e W' =>
      (e = .returned (.bool true) ∧ J (pre ++ [x]) W' ∧ (OthR Bx Bi i xs a cap W → OthR Bx Bi i xs a cap W')) ∨ (e = .returned (.bool false) ∧ Jx (pre ++ [x]) W'))
    (W : World) (hQ : OthR Bx Bi i xs a cap W) (h0 : J [] W) :
    CallsIn Fence.wide n Tryz.prog 119 #[.func (.yield l) #[] #[], .pointer (some ⟨Bx, 0, none⟩), .pointer (some ⟨Bi, 0, none⟩)] W fun e W' => (∃ v, e = .returned v) ∧
      ((∃ ys : List (InL xs), ys.map (·.1) = restK xs i len ∧ J ys W') ∨ (∃ pre : List (InL xs), True ∧ Jx pre W')) := by
  refine callsIn_of_wp Tryz.func119 rfl trivial ?_ rfl
  simp only [Tryz.ntmps119, List.size_toArray, List.length_cons, List.length_nil, Nat.reduceAdd, Nat.reduceSub, Array.replicate_succ, Array.replicate_zero, List.push_toArray, List.append_toArray, List.nil_append, List.cons_append]
  have hc0 := hQ.1.1
  rw [← hlen.out] at hc0
  gi_wp2
  gi_loopw [4, 5, 8] (fun _ _ c wr => ∃ k : Nat, ∃ pre : List (InL xs), k ≤ len ∧ c = .int .i64 k ∧ Hid (pre.map (·.1) = restK xs i k) ∧ J pre wr ∧ OthR Bx Bi i xs a cap wr)
    (fun _ _ c _ => len - (intOf c).toNat)
  case atStart => exact ⟨0, [], Nat.zero_le _, rfl, Lib.hid (by simp [restK]), h0, hQ⟩
  case round =>
    obtain ⟨k, pre, hk, rfl, hpre, hJs, hq⟩ := hrel
    have hcb := hq.2
    by_cases hlt : k < len
    · obtain ⟨b, off, v, rfl, hRv, hcv⟩ := hq.1.2 k (by rw [← hlen.out]; exact hlt)
      have hm : v ∈ xs := by rw [show v = xs.getD k 0 from hRv, getD_lt (by rw [← hlen.out]; exact hlt)]; exact List.getElem_mem _
      have HRV : Hid (xs.getD k 0 = v) := Eq.symm hRv
      clear hRv
      by_cases hki : k = i
      · subst hki
        have hpre' : Hid (pre.map (·.1) = restK xs k (k + 1)) := by show _ = _; rw [restK_own]; exact hpre.out
        have HQ := Lib.hid hq
        have hb : ((k : Int) != (k : Int)) = false := by simp
        clear hq hm
        gi_wp2
        refine ⟨fun _ h => (by cases h), ?_⟩
        gi_wp2
        go_roundw
        case rel => exact ⟨k + 1, pre, by omega, by go_num, hpre', hJs, HQ.out⟩
        case measure => simp [intOf]; omega
      · obtain ⟨fn, tmps, assign, body, hy, hR⟩ := hY pre ⟨v, hm⟩ wr hJs (by
          have h1 := congrArg List.length hpre.out
          have h2 : (restK xs i k).length ≤ k := by unfold restK; split <;> simp <;> omega
          rw [List.length_map] at h1; omega)
        dsimp only at hy
        have hpre' : Hid ((pre ++ [(⟨v, hm⟩ : InL xs)]).map (·.1) = restK xs i (k + 1)) := by
          show _ = _
          rw [restK_other (by rw [← hlen.out]; exact hlt) hki, List.map_append, hpre.out, HRV.out]; rfl
        have HR := Lib.hid hR
        have HQ := Lib.hid hq
        have hb : ((k : Int) != (i : Int)) = true := by simp; omega
        clear hR hq hJs
        gi_wp2
        refine HR.out.mono ?_
        rintro e W3 (⟨rfl, hJ3, hk3⟩ | ⟨rfl, hJx3⟩)
        · have HQ3 := Lib.hid (hk3 HQ.out)
          clear hk3
          gi_wp2
          go_roundw
          case rel => exact ⟨k + 1, pre ++ [⟨v, hm⟩], by omega, by go_num, hpre', hJ3, HQ3.out⟩
          case measure => simp [intOf]; omega
        · gi_wp2
          refine bodyPost_ret (results_none rfl _ _ _) rfl ?_
          exact ⟨⟨_, rfl⟩, .inr ⟨_, trivial, hJx3⟩⟩
    · obtain rfl : k = len := by omega
      gi_wp2
      go_end0
      exact ⟨⟨_, rfl⟩, .inl ⟨pre, hpre.out, hJs⟩⟩

theorem others_any (a : Option Addr) (len cap i : Nat) (w : World) :
    Calls Tryz.prog 100 #[.slice a len cap, .int .i64 i] w fun e w' => e = .returned (.func (.func 119) #[] #[.pointer (some ⟨w.heap.size, 0, none⟩), .pointer (some ⟨w.heap.size + 1, 0, none⟩)]) ∧ w' = (w.alloc (.cells #[.slice a len cap] 22)).alloc (.cells #[.int .i64 i] 3) := by
  go_enter Tryz.func100, Tryz.ntmps100
  go_wp2
  go_ret
  exact ⟨rfl, rfl⟩

theorem others_stops (n : Nat) (hn : 1 ≤ n) (Bx Bi i : Nat) (xs : List Int) (a : Option Addr) (cap : Nat) (hreach : xs.length ≤ 140737488355328) (hi : i < xs.length) (w : World) (hQ : OthR Bx Bi i xs a cap w) :
    SeqStopsK Fence.wide n Tryz.prog 119 #[.pointer (some ⟨Bx, 0, none⟩), .pointer (some ⟨Bi, 0, none⟩)] (fun x : InL xs => #[Value.int .i64 x.1]) (fun A B => OthR Bx Bi i xs a cap A → OthR Bx Bi i xs a cap B)
      (fun ys => ys.map (·.1) = rest xs i) (fun _ => True) xs.length w := fun l J Jx W hW _ _ hY h0 => by
  rw [← restK_all hi]
  exact others1_in n hn l Bx Bi i xs a xs.length cap (Lib.hid rfl) hreach J Jx hY W (hQ.of_cells fun p v h => by rw [hW.cell (cell_lt h)]; exact h) h0
end Go.Proofs.YtpgbjnenllfmlaaGreatDoor
