
/- The document's Explain: how the shares grow. -/
import Derived.Test.YtcgemfiinmjllaaDoorHXh
import Derived.Test.YtcgemfiinmjllaaDoorHXp
import Derived.Maps.AppendAt
import Derived.Maps.Own
namespace Go.Proofs.YtcgemfiinmjllaaDoor
open Go.RowKit Go.Sort
open Num
set_option linter.unusedVariables false

section
variable {ops : Array Oper} {rest : List Oper} {o : Oper} {a : Act} {Q : Exit → Act → World → Prop}
/-- 'held[k]'. -/
theorem held_look (w : World) (hg : o.guard = none) (m x : Operand) (t : TypeId) (hop : o.op = Op.lookup t m x false) (ht : Tryd.prog.underlying t = some (.map 3 4)) (b n : Nat) (xs : List Int)
    (hm : a.eval m = .map (some b)) (h : HeldAt w b n xs) (k : Int) (hx : a.eval x = .int .i64 k) (hk : (Lit.int .i64 k).wf = true) (y : Bool) (hy : decide (k ∈ xs) = y) (hK : wpList Tryd.prog ops Q rest (a.put o.dst (.bool y)) w) : wpList Tryd.prog ops Q (o :: rest) a w := by
  refine wpList_plain hg fun K' hK' => ?_
  unfold Oper.wp
  simp [execOp, hop, hm, hx, h.look ht k hk, Result.andThen]
  rw [hy]
  exact hK' _ _ hK
/-- 'held[k] = true'. -/
theorem held_put (w : World) (hg : o.guard = none) (m x v : Operand) (t : TypeId) (hop : o.op = Op.mapUpdate t m x v) (ht : Tryd.prog.underlying t = some (.map 3 4)) (b n : Nat) (xs : List Int)
    (hm : a.eval m = .map (some b)) (h : HeldAt w b n xs) (k : Int) (hx : a.eval x = .int .i64 k) (hv : a.eval v = .bool true) (hk : (Lit.int .i64 k).wf = true) (hn : n < maxLen)
    (hK : ∀ w', HeldAt w' b (n + 1) (xs ++ [k]) → w.grownBy w' (some b) → wpList Tryd.prog ops Q rest (a.put o.dst undef) w') : wpList Tryd.prog ops Q (o :: rest) a w := by
  refine wpList_plain hg fun K' hK' => ?_
  obtain ⟨w', hrun, h1, h2⟩ := h.put ht k hk hn
  unfold Oper.wp
  simp [execOp, hop, hm, hx, hv, hrun, Result.andThen]
  exact hK' _ _ (hK w' h1 h2)
/-- 'append(v, y)', v a slice of the call's own: where the new one lies. -/
theorem append_oneB (w : World) (hgd : o.guard = none) (s x : Operand) (ho : o.op = .call { callee := .builtin .append, args := #[s, x], argTypes := #[22, 22] })
    (base : Nat) (v : Value) (zs : List Int) (z : Int) (hs : a.eval s = v) (hown : Gath w base v zs) (ad : Nat) (hx : a.eval x = .slice (some ⟨ad, 0, none⟩) 1 1) (hcell : w.cell? ⟨ad, 0, none⟩ = some (.int .i64 z))
    (hlen : zs.length ≤ 1000000) (hbase : base ≤ w.heap.size)
    (h : ∀ v' w', Gath w' base v' (zs ++ [z]) → w.grownBy w' v.ownBlock → (v'.ownBlock = v.ownBlock ∨ v'.ownBlock = some w.heap.size) → wpList Tryd.prog ops Q rest (a.put o.dst v') w') : wpList Tryd.prog ops Q (o :: rest) a w := by
  obtain ⟨v', w', hr, h2, h3, h4⟩ := run_append_gathB hown ad z hcell hlen hbase o.type
  refine wpList_plain hgd fun K hK => ?_
  unfold Oper.wp execOp
  simp only [ho, resolve, invoke, builtin, Sem.run_bind, Sem.run_pure, Result.andThen_ok, List.map_toArray, List.map_cons, List.map_nil, hs, hx, hr]
  exact hK _ _ (h v' w' h2 h3 h4)
/-- .. the first one of two. -/
theorem append_twoX (w : World) (hgd : o.guard = none) (s x : Operand) (ho : o.op = .call { callee := .builtin .append, args := #[s, x], argTypes := #[22, 22] })
    (w0 : World) (g : Nat) (vx vy : Value) (X Y : List Int) (z : Int) (hs : a.eval s = vx) (hown : TwoG w0 g w vx vy X Y) (ad : Nat) (hx : a.eval x = .slice (some ⟨ad, 0, none⟩) 1 1) (hcell : w.cell? ⟨ad, 0, none⟩ = some (.int .i64 z)) (hlen : X.length ≤ 1000000)
    (h : ∀ v' w', TwoG w0 g w' v' vy (X ++ [z]) Y → wpList Tryd.prog ops Q rest (a.put o.dst v') w') : wpList Tryd.prog ops Q (o :: rest) a w := by
  obtain ⟨v', w', hr, h2, h3, h4⟩ := hown.appX hlen ad z hcell o.type
  refine wpList_plain hgd fun K hK => ?_
  unfold Oper.wp execOp
  simp only [ho, resolve, invoke, builtin, Sem.run_bind, Sem.run_pure, Result.andThen_ok, List.map_toArray, List.map_cons, List.map_nil, hs, hx, hr]
  exact hK _ _ (h v' w' h2)
/-- .. and the second one. -/
theorem append_twoY (w : World) (hgd : o.guard = none) (s x : Operand) (ho : o.op = .call { callee := .builtin .append, args := #[s, x], argTypes := #[22, 22] })
    (w0 : World) (g : Nat) (vx vy : Value) (X Y : List Int) (z : Int) (hs : a.eval s = vy) (hown : TwoG w0 g w vx vy X Y) (ad : Nat) (hx : a.eval x = .slice (some ⟨ad, 0, none⟩) 1 1) (hcell : w.cell? ⟨ad, 0, none⟩ = some (.int .i64 z)) (hlen : Y.length ≤ 1000000)
    (h : ∀ v' w', TwoG w0 g w' vx v' X (Y ++ [z]) → wpList Tryd.prog ops Q rest (a.put o.dst v') w') : wpList Tryd.prog ops Q (o :: rest) a w := by
  obtain ⟨v', w', hr, h2, h3, h4⟩ := hown.appY hlen ad z hcell o.type
  refine wpList_plain hgd fun K hK => ?_
  unfold Oper.wp execOp
  simp only [ho, resolve, invoke, builtin, Sem.run_bind, Sem.run_pure, Result.andThen_ok, List.map_toArray, List.map_cons, List.map_nil, hs, hx, hr]
  exact hK _ _ (h v' w' h2)
end

/-- Shares of all holders, whose values grow, and lie outside a range of blocks. -/
structure GrowS (w : World) (q N lo hi : Nat) (Z : Nat → Value) (f : Nat → List Int) : Prop where
  row : RowS w q N (fun j => (((j + 1 : Nat) : Int), Z j))
  val : ∀ j, j < N → Gath w q (Z j) (f j)
  off : ∀ j, j < N → ∀ b, (Z j).ownBlock = some b → b ≠ q ∧ (b < lo ∨ hi ≤ b)
  apart : ∀ i j, i < N → j < N → i ≠ j → ∀ b, (Z i).ownBlock = some b → (Z j).ownBlock ≠ some b
  lt : q < w.heap.size
theorem GrowS.below {w w' : World} {q N lo hi B : Nat} {Z : Nat → Value} {f : Nat → List Int} (h : GrowS w q N lo hi Z f) (b : Below B w w') (hB : w.heap.size ≤ B) : GrowS w' q N lo hi Z f :=
  ⟨h.row.of_block (b.block q (Nat.lt_of_lt_of_le h.lt hB)), fun j hj => (h.val j hj).kept b hB, h.off, h.apart, Nat.lt_of_lt_of_le h.lt b.size⟩
/-- Another range, behind all that is there, or none. -/
theorem GrowS.range {w : World} {q N lo hi : Nat} {Z : Nat → Value} {f : Nat → List Int} (h : GrowS w q N lo hi Z f) (lo' hi' : Nat) (hl : w.heap.size ≤ lo') : GrowS w q N lo' hi' Z f :=
  ⟨h.row, h.val, fun j hj b hb => ⟨(h.off j hj b hb).1, .inl (Nat.lt_of_lt_of_le (World.ownsRow.lt (h.val j hj) b hb).2 hl)⟩, h.apart, h.lt⟩
theorem GrowS.free {w : World} {q N lo hi : Nat} {Z : Nat → Value} {f : Nat → List Int} (h : GrowS w q N lo hi Z f) : GrowS w q N 0 0 Z f :=
  ⟨h.row, h.val, fun j hj b hb => ⟨(h.off j hj b hb).1, .inr (Nat.zero_le _)⟩, h.apart, h.lt⟩
theorem GrowS.congr {w : World} {q N lo hi : Nat} {Z : Nat → Value} {f f' : Nat → List Int} (h : GrowS w q N lo hi Z f) (e : ∀ j, j < N → f j = f' j) : GrowS w q N lo hi Z f' :=
  ⟨h.row, fun j hj => by rw [← e j hj]; exact h.val j hj, h.off, h.apart, h.lt⟩
theorem GrowS.push {w w1 : World} {q N lo hi : Nat} {Z : Nat → Value} {f : Nat → List Int} (h : GrowS w q N lo hi Z f) {i : Nat} (hi' : i < N) {v : Value} {l : List Int} (hg : Gath w1 q v l) (k : w.grownBy w1 (Z i).ownBlock) (hv : v.ownBlock = (Z i).ownBlock ∨ v.ownBlock = some w.heap.size) (hhi : hi ≤ w.heap.size) :
    GrowS (w1.setCell ⟨q, i * 2 + 1, none⟩ v) q N lo hi (fun j => if j = i then v else Z j) (fun j => if j = i then l else f j) := by
  have hq : w1.heap[q]? = w.heap[q]? := k.block q h.lt (fun e => (h.off i hi' q e.symm).1 rfl)
  have hlt : ∀ j, j < N → ∀ b, (Z j).ownBlock = some b → b < w.heap.size := fun j hj b hb => (World.ownsRow.lt (h.val j hj) b hb).2
  have hvq : ∀ b, v.ownBlock = some b → b ≠ q ∧ (b < lo ∨ hi ≤ b) := fun b hb => by
    rcases hv with e | e
    · rw [e] at hb; exact h.off i hi' b hb
    · rw [e] at hb; simp at hb; have := h.lt; exact ⟨by omega, .inr (by omega)⟩
  have hba : ∀ j, j < N → j ≠ i → ∀ b, v.ownBlock = some b → (Z j).ownBlock ≠ some b := fun j hj hne b hb e => by
    rcases hv with e2 | e2
    · rw [e2] at hb; exact h.apart i j hi' hj (Ne.symm hne) b hb e
    · rw [e2] at hb; simp at hb; have := hlt j hj b e; omega
  refine ⟨?_, fun j hj => ?_, fun j hj => ?_, fun a b ha hb hne => ?_, by simp; exact Nat.lt_of_lt_of_le h.lt k.size⟩
  · refine rowS_congr ((h.row.of_block hq).set1 hi' v) fun j hj => ?_
    by_cases e : j = i
    · subst e; simp
    · simp [e]
  · by_cases e : j = i
    · subst e
      simp only [if_true]
      exact gath_kept_row hg (But.set w1 ⟨q, j * 2 + 1, none⟩ v).grown (fun b hb e => (hvq b hb).1 (by simpa using e.symm))
    · simp only [if_neg e]
      exact gath_kept_row (gath_kept_row (h.val j hj) k fun b hb e2 => h.apart i j hi' hj (Ne.symm e) b e2 hb) (But.set w1 ⟨q, i * 2 + 1, none⟩ v).grown (fun b hb e2 => (h.off j hj b hb).1 (by simpa using e2.symm))
  · by_cases e : j = i
    · subst e; simp only [if_true]; exact hvq
    · simp only [if_neg e]; exact h.off j hj
  · by_cases ea : a = i
    · subst ea
      simp only [if_true, if_neg (Ne.symm hne)]
      exact hba b hb (Ne.symm hne)
    · by_cases eb : b = i
      · subst eb
        simp only [if_neg ea, if_true]
        exact fun x hx e => hba a ha ea x e hx
      · simp only [if_neg ea, if_neg eb]
        exact h.apart a b ha hb hne
theorem GrowS.shares {w : World} {g q N lo hi : Nat} {Z : Nat → Value} {f : Nat → List Int} (h : GrowS w q N lo hi Z f) {L : List Shr} (hl : L.length = N) (hN : N ≤ 1000) (hq : g ≤ q) (he : ∀ j, j < N → L.getD j (0, []) = (((j + 1 : Nat) : Int), f j)) (hf : ∀ j, j < N → (f j).length ≤ 100000) : SharesN w g (.slice (some ⟨q, 0, none⟩) N N) L := by
  subst hl
  refine ⟨_, _, rfl, hN, Nat.le_refl _, by omega, fun _ => ⟨q, 0, rfl, hq, fun i hi => ?_⟩⟩
  obtain ⟨c0, c1, _, _⟩ := h.row i hi
  rw [Nat.zero_add, he i hi]
  exact ⟨_, c0, c1, (h.val i hi).reads (by have := hf i hi; omega), fun b hb => Nat.le_trans hq (World.ownsRow.lt (h.val i hi) b hb).1⟩
theorem growS_start {w : World} {q N lo hi : Nat} (h : RowS w q N (fun j => (((j + 1 : Nat) : Int), .slice none 0 0))) (hl : q < w.heap.size) : GrowS w q N lo hi (fun _ => .slice none 0 0) (fun _ => []) :=
  ⟨h, fun j hj => gath_nil _ _, fun j hj b hb => (by cases hb), fun i j hi hj hne b hb => (by cases hb), hl⟩
theorem Ints.same {w w' : World} {v : Value} {l : List Int} (h : Ints w v l) (hb : ∀ b, v.ownBlock = some b → w'.heap[b]? = w.heap[b]?) : Ints w' v l := by
  obtain ⟨a, c, rfl, h2, h3⟩ := h
  refine ⟨a, c, rfl, h2, fun hl => ?_⟩
  obtain ⟨b', off, rfl, hc⟩ := h3 hl
  refine ⟨b', off, rfl, fun i hi => ?_⟩
  rw [World.cell?_of_block (w' := w') (hb b' rfl)]
  exact hc i hi
theorem Slc.same {w w' : World} {v : Value} {l : List Int} (h : Slc w v l) (hb : ∀ b, v.ownBlock = some b → w'.heap[b]? = w.heap[b]?) : Slc w' v l := by
  obtain ⟨a, c, rfl, h1, h2, h3⟩ := h
  exact ⟨a, c, rfl, h1, h2, h3.same hb⟩

/-! ### What is found -/
/-- The values of a holder, up to place i. -/
def exq (p : Int) (K : Nat) (L : List Shr) (S : List Int) (j i : Nat) : List Int := (vatV p (expP K L S) i ((j + 1 : Nat) : Int))
theorem exq_zero (p : Int) (K : Nat) (L : List Shr) (S : List Int) (j : Nat) : exq p K L S j 0 = [] := rfl
theorem exq_len (p : Int) (K : Nat) (L : List Shr) (S : List Int) (j i : Nat) : (exq p K L S j i).length = i := vatV_len _ _ _ _
theorem exq_succ (p : Int) (K : Nat) (L : List Shr) (S : List Int) (j i : Nat) : exq p K L S j (i + 1) = exq p K L S j i ++ [ipv p ((expP K L S).map fun s : Shr => s.1) ((expP K L S).map fun s : Shr => s.2.getD i 0) ((j + 1 : Nat) : Int)] := by
  unfold exq vatV
  rw [List.range_succ, List.map_append]
  rfl
/-- The document's points. -/
def docX (K : Nat) (L : List Shr) : List Int := (L.map fun s : Shr => s.1) ++ [0] ++ freeT (L.map fun s : Shr => s.1) (K - 1 - L.length)
def docY (K : Nat) (L : List Shr) (S : List Int) (i : Nat) : List Int := (L.map fun s : Shr => s.2.getD i 0) ++ [S.getD i 0] ++ (freeT (L.map fun s : Shr => s.1) (K - 1 - L.length)).map fun _ => 0
theorem doc_ipv {p : Int} {N K m : Nat} {L : List Shr} {S : List Int} (h : ExpIn p N K m L S) (i : Nat) (x : Int) : ipv p (docX K L) (docY K L S i) x = ipv p ((expP K L S).map fun s : Shr => s.1) ((expP K L S).map fun s : Shr => s.2.getD i 0) x := by
  have hp1 : 1 ≤ p := by have := h.prm.1; omega
  have e2 : ((expP K L S).map fun s : Shr => s.2.getD i 0) = S.getD i 0 :: ((L.map fun s : Shr => s.2.getD i 0) ++ (freeT (L.map fun s : Shr => s.1) (K - 1 - L.length)).map fun _ => 0) := by
    unfold expP
    rw [List.map_cons, List.map_append, List.map_map]
    congr 2
  have h1 := h.nodup
  have h2 := h.els
  have h3 : Els p ((expP K L S).map fun s : Shr => s.2.getD i 0) := fun y hy => by
    obtain ⟨s, hs, rfl⟩ := List.mem_map.1 hy
    exact els_getD hp1 (h.vals s hs) i
  rw [e2] at h3 ⊢
  rw [h.hold] at h1 h2 ⊢
  exact ipv_mid h.prm _ _ _ _ _ _ (by simp) (by simp) h1 h2 h3 x
theorem docX_perm {p : Int} {N K m : Nat} {L : List Shr} {S : List Int} (h : ExpIn p N K m L S) : (docX K L).Perm ((expP K L S).map fun s : Shr => s.1) := by
  rw [h.hold]
  unfold docX
  rw [List.append_assoc]
  exact List.perm_middle
theorem docX_nodup {p : Int} {N K m : Nat} {L : List Shr} {S : List Int} (h : ExpIn p N K m L S) : (docX K L).Nodup := (docX_perm h).nodup_iff.2 h.nodup
theorem docX_els {p : Int} {N K m : Nat} {L : List Shr} {S : List Int} (h : ExpIn p N K m L S) : Els p (docX K L) := fun x hx => h.els x ((docX_perm h).mem_iff.1 hx)
theorem docX_len {p : Int} {N K m : Nat} {L : List Shr} {S : List Int} (h : ExpIn p N K m L S) : (docX K L).length = K := by rw [(docX_perm h).length_eq, List.length_map, h.len]
theorem docY_len (K : Nat) (L : List Shr) (S : List Int) (i : Nat) : (docY K L S i).length = (docX K L).length := by simp [docX, docY]
theorem docY_els {p : Int} {N K m : Nat} {L : List Shr} {S : List Int} (h : ExpIn p N K m L S) (i : Nat) : Els p (docY K L S i) := fun y hy => by
  have hp1 : 1 ≤ p := by have := h.prm.1; omega
  unfold docY at hy
  rcases List.mem_append.1 hy with hy | hy
  · rcases List.mem_append.1 hy with hy | hy
    · obtain ⟨s, hs, rfl⟩ := List.mem_map.1 hy
      exact els_getD hp1 (h.gd.els s hs) i
    · rw [List.mem_singleton.1 hy]; exact els_getD hp1 h.se i
  · obtain ⟨_, _, rfl⟩ := List.mem_map.1 hy
    exact el_zero hp1
end Go.Proofs.YtcgemfiinmjllaaDoor
