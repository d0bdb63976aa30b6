
/- Append to an own slice, and where the new slice lies. -/
import Derived.Test.YtpohhgbmdgjipaaPAll
namespace Go.Proofs.Ytpohhgbmdgjipaa
open Go.RowKit
open Num
set_option linter.unusedVariables false

section
variable {ops : Array Oper} {rest : List Oper} {o : Oper} {a : Act} {Q : Exit → Act → World → Prop}
theorem append_where (w : World) (ty : TypeId) (base : Nat) (v : Value) (zs l : List Int) (hown : Gath w base v zs) (ad : Addr) (c : Nat) (v' : Value) (w' : World)
    (hcell : ∀ j u, (l.map (Value.int .i64))[j]? = some u → w.cell? (ad.add j) = some u) (hlen : zs.length + l.length < 17592186044416)
    (hr0 : (Builtin.append_ #[22, 22] ty #[v, .slice (some ad) l.length c]).run Try.prog w = .ok v' w') :
    v'.ownBlock = v.ownBlock ∨ ∀ g, v'.ownBlock = some g → w.heap.size ≤ g := by
  obtain ⟨i0, hi, hz0, hz1, hz2⟩ := info_parts infoInt
  have hone : ∀ u ∈ l.map (Value.int .i64), u.oneCell' = true := fun u hu => by obtain ⟨y, _, rfl⟩ := List.mem_map.1 hu; rfl
  by_cases e : v.ownBlock = none
  · right
    have hown2 : w.ownsRow w.heap.size 3 1 v zs.length (zs.map (Value.int .i64)) := by
      obtain ⟨h1, hn | ⟨g, cap, cur, rfl, _⟩⟩ := hown
      · exact ⟨h1, .inl hn⟩
      · cases e
    obtain ⟨v2, w2, hr, h2, _, _⟩ := run_append_own (P := Try.prog) w w.heap.size 22 ty 3 i0 (.int .i64 0) 1 8 Try.underlying22 hi hz0 hz1 hz2 rfl (by decide) v zs.length (zs.map (Value.int .i64)) hown2 ad l.length c (l.map (Value.int .i64)) (by simp) hcell hone (by unfold maxLen; omega) (by omega) (Nat.le_refl _)
    rw [hr] at hr0
    injection hr0 with e1 e2
    subst e1
    exact fun g hg => (World.ownsRow.lt h2 g hg).1
  · obtain ⟨h1, hn | ⟨g, cap, cur, rfl, hb, hg, hnc, hcm, hcs, htake⟩⟩ := id hown
    · rw [hn.1] at e; exact absurd rfl e
    · by_cases hroom : zs.length + l.length ≤ cap
      · left
        have hr := run_append_room (P := Try.prog) w 22 ty 3 i0 Try.underlying22 hi g zs.length cap cur hg ad l.length c (l.map (Value.int .i64)) (by rw [hz1]; simp) hcell hone hroom (by rw [hz1, hcs]; simp; omega)
        rw [hr] at hr0
        injection hr0 with e1 e2
        subst e1
        rfl
      · right
        have holds : ∀ j u, (zs.map (Value.int .i64))[j]? = some u → w.cell? ((⟨g, 0, none⟩ : Addr).add j) = some u := World.ownsRow.cells hown (g := g) rfl
        have hr := run_append_grow (P := Try.prog) w 22 ty 3 i0 (.int .i64 0) Try.underlying22 hi hz0 ⟨g, 0, none⟩ zs.length cap (zs.map (Value.int .i64)) (by rw [hz1]; simp) holds ad l.length c (l.map (Value.int .i64)) (by rw [hz1]; simp) hcell (by omega) (by omega) (growslice_fits (by omega) (by rw [hz2]; omega))
        rw [hr] at hr0
        injection hr0 with e1 e2
        subst e1
        intro g' hg'
        simp [Value.ownBlock] at hg'
        omega
/-- 'append(v, z)', and where the new slice lies. -/
theorem append_one2 (w : World) (hgd : o.guard = none) (s x : Operand) (ho : o.op = .call { callee := .builtin .append, args := #[s, x], argTypes := #[22, 22] })
    (base : Nat) (v : Value) (zs : List Int) (z : Int) (hs : a.eval s = v) (hown : Gath w base v zs) (ad : Addr) (hx : a.eval x = .slice (some ad) 1 1) (hcell : w.cell? ad = some (.int .i64 z))
    (hlen : zs.length < 1000000) (hbase : base ≤ w.heap.size)
    (h : ∀ v' w', Gath w' base v' (zs ++ [z]) → w.grownBy w' v.ownBlock → (v'.ownBlock = v.ownBlock ∨ ∀ g, v'.ownBlock = some g → w.heap.size ≤ g) → wpList Try.prog ops Q rest (a.put o.dst v') w') : wpList Try.prog ops Q (o :: rest) a w := by
  obtain ⟨i0, hi, hz0, hz1, hz2⟩ := info_parts infoInt
  have hc1 : ∀ j u, ([z].map (Value.int .i64))[j]? = some u → w.cell? (ad.add j) = some u := by
    intro j u hj
    match j, hj with
    | 0, hj =>
      simp at hj; subst hj
      have e : ad.add 0 = ad := by unfold Addr.add; simp
      rw [e]; exact hcell
  have hone : ∀ u ∈ [z].map (Value.int .i64), u.oneCell' = true := fun u hu => by obtain ⟨y, _, rfl⟩ := List.mem_map.1 hu; rfl
  obtain ⟨v', w', hr, h2, h3, _⟩ := run_append_own (P := Try.prog) w base 22 o.type 3 i0 (.int .i64 0) 1 8 Try.underlying22 hi hz0 hz1 hz2 rfl (by decide) v zs.length (zs.map (Value.int .i64)) hown ad 1 1 ([z].map (Value.int .i64)) (by simp) hc1 hone (by unfold maxLen; omega) (by omega) hbase
  have hw := append_where w o.type base v zs [z] hown ad 1 v' w' hc1 (by simp; omega) hr
  refine wpList_plain hgd fun K hK => ?_
  unfold Oper.wp execOp
  simp only [ho, resolve, invoke, builtin, Sem.run_bind, Sem.run_pure, Result.andThen_ok, List.map_toArray, List.map_cons, List.map_nil, hs, hx, hr]
  refine hK _ _ (h v' w' ?_ h3 hw)
  unfold Gath
  simpa using h2
end
end Go.Proofs.Ytpohhgbmdgjipaa
