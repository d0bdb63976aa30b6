
/- append of a whole slice to one of the call's own; contracts of slices.Clone and of the document's short. -/
import Derived.Test.YtpohhgbmdgjipaaThru
import Derived.Maps.AppendAt
import Derived.Lib.SliceRun
namespace Go.Proofs.Ytpohhgbmdgjipaa
open Go.RowKit
open Num
set_option linter.unusedVariables false

theorem append_no_source (w : World) (base : Nat) (ty : TypeId) (v : Value) (zs : List Int) (h : Gath w base v zs) (c : Nat) : (Builtin.append_ #[22, 22] ty #[v, .slice none 0 c]).run Try.prog w = .ok v w := by
  obtain ⟨i0, hi, _, _, _⟩ := info_parts infoInt
  obtain ⟨_, hn | ⟨g, cap, cur, rfl, _, _, h1, _⟩⟩ := h
  · obtain ⟨rfl, _⟩ := hn
    simp [Builtin.append_, run_underlying Try.underlying22, sizeOf, typeInfo, hi, Builtin.lenOf, Builtin.firstCells]
  · simp [Builtin.append_, run_underlying Try.underlying22, sizeOf, typeInfo, hi, Builtin.lenOf, Builtin.firstCells, h1, storeCells]

section
variable {ops : Array Oper} {rest : List Oper} {o : Oper} {a : Act} {Q : Exit → Act → World → Prop}
/-- 'append(v, l...)', v a slice of the call's own, l whatever reads as a list. -/
theorem append_list (w : World) (hgd : o.guard = none) (s x : Operand) (ho : o.op = .call { callee := .builtin .append, args := #[s, x], argTypes := #[22, 22] })
    (base : Nat) (v : Value) (zs l : List Int) (hs : a.eval s = v) (hown : Gath w base v zs) (sv : Value) (hx : a.eval x = sv) (hI : Ints w sv l)
    (hlen : zs.length + l.length < 17592186044416) (hbase : base ≤ w.heap.size)
    (h : ∀ v' w', Gath w' base v' (zs ++ l) → w.grownBy w' v.ownBlock → wpList Try.prog ops Q rest (a.put o.dst v') w') : wpList Try.prog ops Q (o :: rest) a w := by
  obtain ⟨aa, c, rfl, _, hc⟩ := hI
  cases aa with
  | none =>
    have hl : l = [] := by
      by_cases e : l = []
      · exact e
      · obtain ⟨b, off, h1, _⟩ := hc e; cases h1
    subst hl
    refine wpList_plain hgd fun K hK => ?_
    have hrun := append_no_source w base o.type v zs hown c
    unfold Oper.wp
    simp [execOp, ho, resolve, invoke, builtin, hs, hx, hrun, Result.andThen]
    exact hK _ _ (h v w (by simpa using hown) (World.grownBy.refl w _))
  | some ad =>
    obtain ⟨i0, hi, hz0, hz1, hz2⟩ := info_parts infoInt
    refine wpList_append_own w hgd s x 22 ho base 3 i0 (.int .i64 0) 1 8 Try.underlying22 hi hz0 hz1 hz2 rfl (by decide) v zs.length (zs.map (Value.int .i64)) hs hown ad l.length c (l.map (Value.int .i64)) hx (by simp) ?_ ?_ ?_ ?_ hbase ?_
    · intro j u hj
      have hjl : j < l.length := by
        by_cases e : j < l.length
        · exact e
        · rw [List.getElem?_eq_none (by simp; omega)] at hj; cases hj
      obtain ⟨b, off, e, hcell⟩ := hc (fun e => by subst e; simp at hjl)
      cases e
      have e2 : (⟨b, off, none⟩ : Addr).add j = ⟨b, off + j, none⟩ := by unfold Addr.add; split <;> simp_all
      rw [e2, hcell j hjl]
      simp [hjl, List.getD] at hj ⊢
      exact hj
    · intro u hu; obtain ⟨y, _, rfl⟩ := List.mem_map.1 hu; rfl
    · unfold maxLen; omega
    · omega
    · intro v' w' h1 h2 _
      refine h v' w' ?_ h2
      unfold Gath
      rw [List.length_append, List.map_append]
      exact h1
end

theorem clone_any (s : Value) (l : List Int) (w : World) (hI : Ints w s l) (hl : l.length ≤ 1000000) :
    Calls Try.prog 33 #[s] w fun e w' => ∃ v, e = .returned v ∧ Gath w' w.heap.size v l ∧ Below w.heap.size w w' := by
  obtain ⟨aa, c, rfl, _, hc⟩ := id hI
  have hnil := fun (w : World) => Lib.run_eql_slice_nil (P := Try.prog) w 22 3 aa l.length c 0 0 Try.underlying22
  cases aa with
  | none =>
    have hl0 : l = [] := by
      by_cases e : l = []
      · exact e
      · obtain ⟨b, off, h1, _⟩ := hc e; cases h1
    subst hl0
    have hnil2 := fun (w : World) => Lib.run_eql_slice_nil (P := Try.prog) w 22 3 none 0 c 0 0 Try.underlying22
    clear hc hI hnil
    go_enter Try.func33, Try.ntmps33
    go_wp2
    go_ret
    exact ⟨_, rfl, gath_nil _ _, Below.refl _ _⟩
  | some ad =>
    have h0 : Gath (w.alloc (.cells #[] 3)) w.heap.size (.slice (some ⟨w.heap.size, 0, none⟩) 0 0) [] := World.ownsRow_made w #[] 0 (Nat.le_refl _) (by unfold maxLen; omega) (by simp)
    have hb : Below w.heap.size w (w.alloc (.cells #[] 3)) := (Below.refl _ _).alloc (Nat.le_refl _) _
    have HI := Lib.hid (hI.below (Nat.le_refl _) hb)
    have H0 := Lib.hid h0
    have HB := Lib.hid hb
    clear hc hI h0 hb
    go_enter Try.func33, Try.ntmps33
    go_wp2_with (at_builtin; refine append_list _ rfl _ _ rfl w.heap.size _ [] l rfl H0.out _ rfl HI.out ?c1 ?c2 ?_)
    case c1 => simp; omega
    case c2 => simp
    intro v' w' hg hgr
    have HG := Lib.hid hg
    have HB2 := Lib.hid (HB.out.grown hgr (by simp) (fun g hg => by simp [Value.ownBlock] at hg; omega))
    clear hg hgr
    go_wp2
    go_ret
    exact ⟨_, rfl, HG.out, HB2.out⟩

/-- A store into a slice of the call's own. -/
theorem Gath.cell {w : World} {base g cap : Nat} {zs : List Int} {n : Nat} (h : Gath w base (.slice (some ⟨g, 0, none⟩) n cap) zs) {i : Nat} (hi : i < zs.length) : w.cell? ⟨g, i, none⟩ = some (.int .i64 (zs.getD i 0)) := by
  have hn : n = zs.length := by
    obtain ⟨h0, hn | ⟨g', cap', cur, e, _⟩⟩ := h
    · cases hn.1
    · injection e
  subst hn
  have := World.ownsRow.cellAt h i (by omega)
  rw [this]; simp [List.getD, hi]
theorem Gath.frozen {w : World} {base g cap : Nat} {zs : List Int} {n : Nat} (h : Gath w base (.slice (some ⟨g, 0, none⟩) n cap) zs) (i : Nat) : w.frozen? ⟨g, i, none⟩ = false := by
  have hn : n = zs.length := by
    obtain ⟨h0, hn | ⟨g', cap', cur, e, _⟩⟩ := h
    · cases hn.1
    · injection e
  subst hn
  exact World.ownsRow.frozenAt h i
theorem Gath.set {w : World} {base g cap : Nat} {zs : List Int} {n : Nat} (h : Gath w base (.slice (some ⟨g, 0, none⟩) n cap) zs) (i : Nat) (v : Int) : Gath (w.setCell ⟨g, i, none⟩ (.int .i64 v)) base (.slice (some ⟨g, 0, none⟩) n cap) (zs.set i v) := by
  have hn : n = zs.length := by
    obtain ⟨h0, hn | ⟨g', cap', cur, e, _⟩⟩ := h
    · cases hn.1
    · injection e
  subst hn
  have := (World.ownsRow.stored h i (.int .i64 v)).1
  unfold Gath
  rw [List.length_set, List.map_set]
  exact this
/-- A slice of the call's own that has elements lies at the head of a block. -/
theorem Gath.head {w : World} {base : Nat} {v : Value} {zs : List Int} (h : Gath w base v zs) (h0 : 0 < zs.length) : ∃ g cap, v = .slice (some ⟨g, 0, none⟩) zs.length cap ∧ base ≤ g ∧ g < w.heap.size := by
  obtain ⟨_, hn | ⟨g, cap, cur, rfl, hb, hg, _⟩⟩ := h
  · omega
  · exact ⟨g, cap, rfl, hb, (Array.getElem?_eq_some_iff.1 hg).1⟩
end Go.Proofs.Ytpohhgbmdgjipaa
