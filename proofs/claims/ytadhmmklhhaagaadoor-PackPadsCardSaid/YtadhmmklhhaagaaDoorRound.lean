
/- A region that draws its order in the body of a range over a function: one walk serves every order, where all but the last operations only read or call what only computes. -/
import Derived.StillTailTactics
import Derived.OrdersIn
import Derived.RangeFuncCalls
import Derived.WalkKit
import Derived.OwnWalkIn
import Derived.Shelf.RegionOpen
namespace Go.Proofs.YtadhmmklhhaagaaDoor
open Go.RowKit
set_option linter.unusedVariables false

def noDefer (o : Oper) : Bool := match o.op with | .defer _ => false | _ => true
theorem noDefer_ne {o : Oper} (h : noDefer o = true) : ∀ c, o.op ≠ .defer c := by
  intro c e; unfold noDefer at h; rw [e] at h; cases h

section
variable {P : Program} {ops : Array Oper} {Q : Exit → Act → World → Prop} {r n : Nat}

theorem rowsIn_wide {row : String} {args : Array Value} {w : World} {R : Value → World → Prop} (h : Rows P row args w R) : RowsIn (Fence.wide.inRound r) n P row args w R := fun c cs _ =>
  let ⟨v, w', hr, hs⟩ := h c cs; ⟨v, w', hr, stepsIn_wide.2 hs⟩

theorem oper_in {o : Oper} {a : Act} {w : World} {K : Act → World → Prop} (hd : noDefer o = true) (h : o.wp P a w K Q) : o.wpIn (Fence.wide.inRound r) n P a w K Q := by
  refine ⟨fun _ _ => trivial, ?_⟩
  rw [Oper.semAt_eq _ _ _ (noDefer_ne hd)]
  unfold Oper.wp at h
  generalize (execOp a.eval o).run P w = res at *
  cases res with
  | ok x w' =>
    cases x <;> simp only [Oper.upon, Oper.uponIn] at h ⊢ <;>
      first
        | exact h
        | exact ⟨fun e => by simp [Fence.wide] at e, CallsIn.inRound r (callsIn_wide.2 h)⟩
        | exact ⟨fun e => by simp [Fence.wide] at e, rowsIn_wide h⟩
        | exact h.elim
  | halt x w' => cases x <;> simp only [Oper.upon, Oper.uponIn] at h ⊢ <;> exact h

theorem wpOp_in {i : Nat} {K : Act → World → Prop} {a : Act} {w : World} (hd : ∀ o, ops[i]? = some o → noDefer o = true) (hQ : ¬ LetsOut Q) (h : wpOp P ops Q i K a w) : wpOpIn (Fence.wide.inRound r) n P ops Q i K a w := by
  unfold wpOp at h
  unfold wpOpIn
  cases ho : ops[i]? with
  | none => simpa [ho] using h
  | some o =>
    simp only [ho] at h ⊢
    by_cases hw : Region.wanted o (yielded ops a.tmps) = true
    · simp only [hw, if_true] at h ⊢
      rcases h with h | ⟨_, h⟩
      · exact oper_in (hd o ho) h
      · exact absurd h hQ
    · simp only [hw] at h ⊢
      exact ⟨fun _ _ => trivial, h⟩

theorem wpAny_in {md : Region.Mode} (hd : ∀ (i : Nat) (o : Oper), ops[i]? = some o → noDefer o = true) (hQ : ¬ LetsOut Q) : ∀ (g : Nat) (listed : Array Bool) (a : Act) (w : World),
    wpAny P md ops Q g listed a w → wpAnyIn (Fence.wide.inRound r) n P md ops Q g listed a w
  | 0, _, _, _, h => h
  | g + 1, listed, a, w, h => ⟨h.1, fun i hi => wpOpIn_mono (fun a w => wpAny_in hd hQ g _ a w) (wpOp_in (hd i) hQ (h.2 i hi))⟩

theorem any_still_tail {l : List Oper} {a : Act} {w : World} (N : Nat) (hB : Region.lexTailB .any l.toArray N = true)
    (h : wpStill P l.toArray w (fun a' => wpList P l.toArray Q (l.drop N) a' w) (l.take N) a) : wpAny P .any l.toArray Q l.toArray.size (Array.replicate l.toArray.size false) a w := by
  simp only [Region.lexTailB, Bool.and_eq_true, decide_eq_true_eq] at hB
  obtain ⟨⟨⟨⟨b1, b2⟩, b3⟩, b4⟩, b5⟩ := hB
  have q1 : N < l.length := by simpa using b2
  have q2 : (l.take N).length = N := by simp; omega
  have q3 : (l.drop N).length = l.toArray.size - N := by simp
  have q4 : HeadInv .any l.toArray N (Array.replicate l.toArray.size false) := by
    refine ⟨by simp, fun j oj _ hl => ?_, fun t _ ht => getD_in (by simpa using ht) (getD_replicate_false _ _)⟩
    rw [getD_replicate_false] at hl; cases hl
  have q5 := wpAnyL_lex (md := .any) (g := l.toArray.size - N) b1 b3 b4 b2 (l.take N) 0 _ a (fun j hj => by rw [q2] at hj; simp [hj]) (by simpa using q2) q4 (by rw [q2]; exact b5) h
  have q6 := wpAny_of_head (Q' := Q) (g := l.toArray.size - N) (fun L a' hL => by
    have := wpAny_of_seq (md := .any) (Q' := Q) (l.drop N) N L a' w (fun j => by simp [List.getElem?_drop]) (by rw [q3]; exact hL.1) hL.2
    rw [q3] at this; exact this) _ _ _ q5
  have q7 : (l.take N).length + (l.toArray.size - N) = l.toArray.size := by rw [q2]; simp; omega
  rw [q7] at q6; exact q6

theorem round_still_tail {id : Nat} {l : List Oper} {a : Act} {w : World} (N : Nat) (hm : P.follows .mixedOrders = true) (hQ : ¬ LetsOut Q) (hd : l.all noDefer = true) (hB : Region.lexTailB .any l.toArray N = true)
    (h : wpStill P l.toArray { w with drawn := w.drawn + 1 } (fun a' => wpList P l.toArray Q (l.drop N) a' { w with drawn := w.drawn + 1 }) (l.take N) a) : (Code.region id l.toArray true).wpIn (Fence.wide.inRound r) n P Q a w :=
  wpIn_region_any hm (wpAny_in (fun i o ho => by
    have : o ∈ l := by rw [List.getElem?_toArray] at ho; exact List.mem_of_getElem? ho
    exact List.all_eq_true.1 hd o this) hQ _ _ _ _ (any_still_tail N hB h))
end

theorem drew_def (w : World) : { w with drawn := w.drawn + 1 } = w.drew := rfl
/-- A contract that only computes, as the still walk asks it. -/
theorem still_of {P : Program} {f : FuncId} {args : Array Value} {w : World} {v : Value} (h : Calls P f args w fun e w' => e = .returned v ∧ w = w') : Calls P f args w fun e w' => e = .returned v ∧ w' = w :=
  h.mono fun _ _ ⟨he, hw⟩ => ⟨he, hw.symm⟩
end Go.Proofs.YtadhmmklhhaagaaDoor
