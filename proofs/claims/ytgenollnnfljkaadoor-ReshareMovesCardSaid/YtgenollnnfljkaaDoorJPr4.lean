
/- The program's package refresh: Checks and Zero. -/
import Derived.Test.YtgenollnnfljkaaDoorJPr3
namespace Go.Proofs.YtgenollnnfljkaaDoor
open Go.RowKit Go.Sort
open Num
set_option linter.unusedVariables false

/-- What Zero answers, for counts up to the most. -/
noncomputable def zeroE (p k n c : Int) (r : List Int) : Int := if planB p k n = true then (if c < 0 then 2 else if 2048 < c then 3 else dealE p k n (List.replicate c.toNat 0) r) else 1
noncomputable def zeroR (p k n c : Int) (r : List Int) : List Shr := if zeroE p k n c r = 0 then dealF p (k - 1).toNat n.toNat (List.replicate c.toNat 0) r else []
theorem slc_made (w : World) (C : Nat) (hC : C ≤ 100000) (q : Nat) (hq : w.heap.size = q) : Slc (w.alloc (.cells (madeCells #[.int .i64 0] C) 3)) (.slice (some ⟨q, 0, none⟩) C C) (List.replicate C 0) := by
  subst hq
  have h := row_gath (base := w.heap.size) (f := fun _ => 0) (World.rowIs_made w (.int .i64 0) C 3) (Nat.le_refl _) (by unfold maxLen; omega)
  rw [show (List.range C).map (fun _ => (0 : Int)) = List.replicate C 0 from List.ext_getElem (by rw [List.length_map, List.length_range, List.length_replicate]) (fun i h1 h2 => by rw [List.getElem_map, List.getElem_replicate])] at h
  exact h.slc (by rw [List.length_replicate]; omega)
theorem els_zeroL {p : Int} (hp : 1 ≤ p) (C : Nat) : Els p (List.replicate C 0) := fun x hx => by
  rw [List.eq_of_mem_replicate hx]; exact ⟨by omega, by omega⟩
theorem zero_ok {p k n c : Int} {K N C : Nat} {r : List Int} (hp : planB p k n = true) (hk : k - 1 = (K : Int)) (hn : n = (N : Int)) (hc : c = (C : Int)) (hC : C ≤ 2048) (hr : Els p r) (hl : r.length = C * K) : zeroE p k n c r = 0 ∧ zeroR p k n c r = dealF p K N (List.replicate C 0) r := by
  have hp1 : 1 ≤ p := by have := (planB_parts hp).1.1; omega
  have hd := deal_ok_of (K := K) (N := N) (s := List.replicate C 0) (r := r) hp hk hn (els_zeroL hp1 C) hr (by simpa using hl)
  have e : zeroE p k n c r = 0 := by
    unfold zeroE
    rw [if_pos hp, if_neg (by omega), if_neg (by omega), hc, Int.toNat_natCast]
    exact hd.1
  refine ⟨e, ?_⟩
  unfold zeroR
  rw [if_pos e, hk, hn, hc, Int.toNat_natCast, Int.toNat_natCast, Int.toNat_natCast]
end Go.Proofs.YtgenollnnfljkaaDoor
