
/- The document's Explain: how the shares grow. -/
import Derived.Test.YtgenollnnfljkaaDoorHXo
import Derived.Test.YtgenollnnfljkaaDoorHXp
import Derived.Maps.AppendAt
import Derived.Maps.Own
import Derived.Deep.DeepCutAuto
/-! The document's Explain: how the shares grow. -/
namespace Go.Proofs.YtgenollnnfljkaaDoor
open Go.RowKit Go.Sort
open Num
set_option linter.unusedVariables false

section
variable {ops : Array Oper} {rest : List Oper} {o : Oper} {a : Act} {Q : Exit → Act → World → Prop}
/-- 'held[k]'. -/
theorem held_look (w : World) (hg : o.guard = none) (m x : Operand) (t : TypeId) (hop : o.op = Op.lookup t m x false) (ht : Tryd.prog.underlying t = some (.map 3 4)) (b n : Nat) (xs : List Int)
    (hm : a.eval m = .map (some b)) (h : HeldAt w b n xs) (k : Int) (hx : a.eval x = .int .i64 k) (hk : (Lit.int .i64 k).wf = true) (y : Bool) (hy : decide (k ∈ xs) = y) (hK : wpList Tryd.prog ops Q rest (a.put o.dst (.bool y)) w) : wpList Tryd.prog ops Q (o :: rest) a w := by
  refine wpList_plain hg fun K' hK' => ?_
  unfold Oper.wp
  simp [execOp, hop, hm, hx, h.look ht k hk, Result.andThen]
  rw [hy]
  exact hK' _ _ hK
/-- 'held[k] = true'. -/
theorem held_put (w : World) (hg : o.guard = none) (m x v : Operand) (t : TypeId) (hop : o.op = Op.mapUpdate t m x v) (ht : Tryd.prog.underlying t = some (.map 3 4)) (b n : Nat) (xs : List Int)
    (hm : a.eval m = .map (some b)) (h : HeldAt w b n xs) (k : Int) (hx : a.eval x = .int .i64 k) (hv : a.eval v = .bool true) (hk : (Lit.int .i64 k).wf = true) (hn : n < maxLen)
    (hK : ∀ w', HeldAt w' b (n + 1) (xs ++ [k]) → w.grownBy w' (some b) → wpList Tryd.prog ops Q rest (a.put o.dst undef) w') : wpList Tryd.prog ops Q (o :: rest) a w := by
  refine wpList_plain hg fun K' hK' => ?_
  obtain ⟨w', hrun, h1, h2⟩ := h.put ht k hk hn
  unfold Oper.wp
  simp [execOp, hop, hm, hx, hv, hrun, Result.andThen]
  exact hK' _ _ (hK w' h1 h2)
/-- 'append(v, y)', v a slice of the call's own: where the new one lies. -/
theorem append_oneB (w : World) (hgd : o.guard = none) (s x : Operand) (ho : o.op = .call { callee := .builtin .append, args := #[s, x], argTypes := #[22, 22] })
    (base : Nat) (v : Value) (zs : List Int) (z : Int) (hs : a.eval s = v) (hown : Gath w base v zs) (ad : Nat) (hx : a.eval x = .slice (some ⟨ad, 0, none⟩) 1 1) (hcell : w.cell? ⟨ad, 0, none⟩ = some (.int .i64 z))
    (hlen : zs.length ≤ 1000000) (hbase : base ≤ w.heap.size)
    (h : ∀ v' w', Gath w' base v' (zs ++ [z]) → w.grownBy w' v.ownBlock → (v'.ownBlock = v.ownBlock ∨ v'.ownBlock = some w.heap.size) → wpList Tryd.prog ops Q rest (a.put o.dst v') w') : wpList Tryd.prog ops Q (o :: rest) a w := by
  obtain ⟨v', w', hr, h2, h3, h4⟩ := run_append_gathB hown ad z hcell hlen hbase o.type
  refine wpList_plain hgd fun K hK => ?_
  unfold Oper.wp execOp
  simp only [ho, resolve, invoke, builtin, Sem.run_bind, Sem.run_pure, Result.andThen_ok, List.map_toArray, List.map_cons, List.map_nil, hs, hx, hr]
  exact hK _ _ (h v' w' h2 h3 h4)
/-- .. the first one of two. -/
theorem append_twoX (w : World) (hgd : o.guard = none) (s x : Operand) (ho : o.op = .call { callee := .builtin .append, args := #[s, x], argTypes := #[22, 22] })
    (w0 : World) (g : Nat) (vx vy : Value) (X Y : List Int) (z : Int) (hs : a.eval s = vx) (hown : TwoG w0 g w vx vy X Y) (ad : Nat) (hx : a.eval x = .slice (some ⟨ad, 0, none⟩) 1 1) (hcell : w.cell? ⟨ad, 0, none⟩ = some (.int .i64 z)) (hlen : X.length ≤ 1000000)
    (h : ∀ v' w', TwoG w0 g w' v' vy (X ++ [z]) Y → wpList Tryd.prog ops Q rest (a.put o.dst v') w') : wpList Tryd.prog ops Q (o :: rest) a w := by
  obtain ⟨v', w', hr, h2, h3, h4⟩ := hown.appX hlen ad z hcell o.type
  refine wpList_plain hgd fun K hK => ?_
  unfold Oper.wp execOp
  simp only [ho, resolve, invoke, builtin, Sem.run_bind, Sem.run_pure, Result.andThen_ok, List.map_toArray, List.map_cons, List.map_nil, hs, hx, hr]
  exact hK _ _ (h v' w' h2)
/-- .. and the second one. -/
theorem append_twoY (w : World) (hgd : o.guard = none) (s x : Operand) (ho : o.op = .call { callee := .builtin .append, args := #[s, x], argTypes := #[22, 22] })
    (w0 : World) (g : Nat) (vx vy : Value) (X Y : List Int) (z : Int) (hs : a.eval s = vy) (hown : TwoG w0 g w vx vy X Y) (ad : Nat) (hx : a.eval x = .slice (some ⟨ad, 0, none⟩) 1 1) (hcell : w.cell? ⟨ad, 0, none⟩ = some (.int .i64 z)) (hlen : Y.length ≤ 1000000)
    (h : ∀ v' w', TwoG w0 g w' vx v' X (Y ++ [z]) → wpList Tryd.prog ops Q rest (a.put o.dst v') w') : wpList Tryd.prog ops Q (o :: rest) a w := by
  obtain ⟨v', w', hr, h2, h3, h4⟩ := hown.appY hlen ad z hcell o.type
  refine wpList_plain hgd fun K hK => ?_
  unfold Oper.wp execOp
  simp only [ho, resolve, invoke, builtin, Sem.run_bind, Sem.run_pure, Result.andThen_ok, List.map_toArray, List.map_cons, List.map_nil, hs, hx, hr]
  exact hK _ _ (h v' w' h2)
end

/-- Shares of all holders, whose values grow, and lie outside a range of blocks. -/
structure GrowS (w : World) (q N lo hi : Nat) (Z : Nat → Value) (f : Nat → List Int) : Prop where
  row : RowS w q N (fun j => (((j + 1 : Nat) : Int), Z j))
  val : ∀ j, j < N → Gath w q (Z j) (f j)
  off : ∀ j, j < N → ∀ b, (Z j).ownBlock = some b → b ≠ q ∧ (b < lo ∨ hi ≤ b)
  apart : ∀ i j, i < N → j < N → i ≠ j → ∀ b, (Z i).ownBlock = some b → (Z j).ownBlock ≠ some b
  lt : q < w.heap.size
theorem GrowS.below {w w' : World} {q N lo hi B : Nat} {Z : Nat → Value} {f : Nat → List Int} (h : GrowS w q N lo hi Z f) (b : Below B w w') (hB : w.heap.size ≤ B) : GrowS w' q N lo hi Z f :=
  ⟨h.row.of_block (b.block q (Nat.lt_of_lt_of_le h.lt hB)), fun j hj => (h.val j hj).kept b hB, h.off, h.apart, Nat.lt_of_lt_of_le h.lt b.size⟩
/-- Another range, behind all that is there, or none. -/
theorem GrowS.range {w : World} {q N lo hi : Nat} {Z : Nat → Value} {f : Nat → List Int} (h : GrowS w q N lo hi Z f) (lo' hi' : Nat) (hl : w.heap.size ≤ lo') : GrowS w q N lo' hi' Z f :=
  ⟨h.row, h.val, fun j hj b hb => ⟨(h.off j hj b hb).1, .inl (Nat.lt_of_lt_of_le (World.ownsRow.lt (h.val j hj) b hb).2 hl)⟩, h.apart, h.lt⟩
theorem GrowS.free {w : World} {q N lo hi : Nat} {Z : Nat → Value} {f : Nat → List Int} (h : GrowS w q N lo hi Z f) : GrowS w q N 0 0 Z f :=
  ⟨h.row, h.val, fun j hj b hb => ⟨(h.off j hj b hb).1, .inr (Nat.zero_le _)⟩, h.apart, h.lt⟩
theorem GrowS.congr {w : World} {q N lo hi : Nat} {Z : Nat → Value} {f f' : Nat → List Int} (h : GrowS w q N lo hi Z f) (e : ∀ j, j < N → f j = f' j) : GrowS w q N lo hi Z f' :=
  ⟨h.row, fun j hj => by rw [← e j hj]; exact h.val j hj, h.off, h.apart, h.lt⟩
theorem GrowS.push {w w1 : World} {q N lo hi : Nat} {Z : Nat → Value} {f : Nat → List Int} (h : GrowS w q N lo hi Z f) {i : Nat} (hi' : i < N) {v : Value} {l : List Int} (hg : Gath w1 q v l) (k : w.grownBy w1 (Z i).ownBlock) (hv : v.ownBlock = (Z i).ownBlock ∨ v.ownBlock = some w.heap.size) (hhi : hi ≤ w.heap.size) :
    GrowS (w1.setCell ⟨q, i * 2 + 1, none⟩ v) q N lo hi (fun j => if j = i then v else Z j) (fun j => if j = i then l else f j) := by
  have hq : w1.heap[q]? = w.heap[q]? := k.block q h.lt (fun e => (h.off i hi' q e.symm).1 rfl)
  have hlt : ∀ j, j < N → ∀ b, (Z j).ownBlock = some b → b < w.heap.size := fun j hj b hb => (World.ownsRow.lt (h.val j hj) b hb).2
  have hvq : ∀ b, v.ownBlock = some b → b ≠ q ∧ (b < lo ∨ hi ≤ b) := fun b hb => by
    rcases hv with e | e
    · rw [e] at hb; exact h.off i hi' b hb
    · rw [e] at hb; simp at hb; have := h.lt; exact ⟨by omega, .inr (by omega)⟩
  have hba : ∀ j, j < N → j ≠ i → ∀ b, v.ownBlock = some b → (Z j).ownBlock ≠ some b := fun j hj hne b hb e => by
    rcases hv with e2 | e2
    · rw [e2] at hb; exact h.apart i j hi' hj (Ne.symm hne) b hb e
    · rw [e2] at hb; simp at hb; have := hlt j hj b e; omega
  refine ⟨?_, fun j hj => ?_, fun j hj => ?_, fun a b ha hb hne => ?_, by simp; exact Nat.lt_of_lt_of_le h.lt k.size⟩
  · refine rowS_congr ((h.row.of_block hq).set1 hi' v) fun j hj => ?_
    by_cases e : j = i
    · subst e; simp
    · simp [e]
  · by_cases e : j = i
    · subst e
      simp only [if_true]
      exact gath_kept_row hg (But.set w1 ⟨q, j * 2 + 1, none⟩ v).grown (fun b hb e => (hvq b hb).1 (by simpa using e.symm))
    · simp only [if_neg e]
      exact gath_kept_row (gath_kept_row (h.val j hj) k fun b hb e2 => h.apart i j hi' hj (Ne.symm e) b e2 hb) (But.set w1 ⟨q, i * 2 + 1, none⟩ v).grown (fun b hb e2 => (h.off j hj b hb).1 (by simpa using e2.symm))
  · by_cases e : j = i
    · subst e; simp only [if_true]; exact hvq
    · simp only [if_neg e]; exact h.off j hj
  · by_cases ea : a = i
    · subst ea
      simp only [if_true, if_neg (Ne.symm hne)]
      exact hba b hb (Ne.symm hne)
    · by_cases eb : b = i
      · subst eb
        simp only [if_neg ea, if_true]
        exact fun x hx e => hba a ha ea x e hx
      · simp only [if_neg ea, if_neg eb]
        exact h.apart a b ha hb hne
theorem GrowS.shares {w : World} {g q N lo hi : Nat} {Z : Nat → Value} {f : Nat → List Int} (h : GrowS w q N lo hi Z f) {L : List Shr} (hl : L.length = N) (hN : N ≤ 1000) (hq : g ≤ q) (he : ∀ j, j < N → L.getD j (0, []) = (((j + 1 : Nat) : Int), f j)) (hf : ∀ j, j < N → (f j).length ≤ 100000) : SharesN w g (.slice (some ⟨q, 0, none⟩) N N) L := by
  subst hl
  refine ⟨_, _, rfl, hN, Nat.le_refl _, by omega, fun _ => ⟨q, 0, rfl, hq, fun i hi => ?_⟩⟩
  obtain ⟨c0, c1, _, _⟩ := h.row i hi
  rw [Nat.zero_add, he i hi]
  exact ⟨_, c0, c1, (h.val i hi).reads (by have := hf i hi; omega), fun b hb => Nat.le_trans hq (World.ownsRow.lt (h.val i hi) b hb).1⟩
theorem growS_start {w : World} {q N lo hi : Nat} (h : RowS w q N (fun j => (((j + 1 : Nat) : Int), .slice none 0 0))) (hl : q < w.heap.size) : GrowS w q N lo hi (fun _ => .slice none 0 0) (fun _ => []) :=
  ⟨h, fun j hj => gath_nil _ _, fun j hj b hb => (by cases hb), fun i j hi hj hne b hb => (by cases hb), hl⟩
theorem Ints.same {w w' : World} {v : Value} {l : List Int} (h : Ints w v l) (hb : ∀ b, v.ownBlock = some b → w'.heap[b]? = w.heap[b]?) : Ints w' v l := by
  obtain ⟨a, c, rfl, h2, h3⟩ := h
  refine ⟨a, c, rfl, h2, fun hl => ?_⟩
  obtain ⟨b', off, rfl, hc⟩ := h3 hl
  refine ⟨b', off, rfl, fun i hi => ?_⟩
  rw [World.cell?_of_block (w' := w') (hb b' rfl)]
  exact hc i hi
theorem Slc.same {w w' : World} {v : Value} {l : List Int} (h : Slc w v l) (hb : ∀ b, v.ownBlock = some b → w'.heap[b]? = w.heap[b]?) : Slc w' v l := by
  obtain ⟨a, c, rfl, h1, h2, h3⟩ := h
  exact ⟨a, c, rfl, h1, h2, h3.same hb⟩

/-! ### What is found -/
/-- The values of a holder, up to place i. -/
def exq (p : Int) (K : Nat) (L : List Shr) (S : List Int) (j i : Nat) : List Int := (vatV p (expP K L S) i ((j + 1 : Nat) : Int))
theorem exq_zero (p : Int) (K : Nat) (L : List Shr) (S : List Int) (j : Nat) : exq p K L S j 0 = [] := rfl
theorem exq_len (p : Int) (K : Nat) (L : List Shr) (S : List Int) (j i : Nat) : (exq p K L S j i).length = i := vatV_len _ _ _ _
theorem exq_succ (p : Int) (K : Nat) (L : List Shr) (S : List Int) (j i : Nat) : exq p K L S j (i + 1) = exq p K L S j i ++ [ipv p ((expP K L S).map fun s : Shr => s.1) ((expP K L S).map fun s : Shr => s.2.getD i 0) ((j + 1 : Nat) : Int)] := by
  unfold exq vatV
  rw [List.range_succ, List.map_append]
  rfl
/-- The document's points. -/
def docX (K : Nat) (L : List Shr) : List Int := (L.map fun s : Shr => s.1) ++ [0] ++ freeT (L.map fun s : Shr => s.1) (K - 1 - L.length)
def docY (K : Nat) (L : List Shr) (S : List Int) (i : Nat) : List Int := (L.map fun s : Shr => s.2.getD i 0) ++ [S.getD i 0] ++ (freeT (L.map fun s : Shr => s.1) (K - 1 - L.length)).map fun _ => 0
theorem doc_ipv {p : Int} {N K m : Nat} {L : List Shr} {S : List Int} (h : ExpIn p N K m L S) (i : Nat) (x : Int) : ipv p (docX K L) (docY K L S i) x = ipv p ((expP K L S).map fun s : Shr => s.1) ((expP K L S).map fun s : Shr => s.2.getD i 0) x := by
  have hp1 : 1 ≤ p := by have := h.prm.1; omega
  have e2 : ((expP K L S).map fun s : Shr => s.2.getD i 0) = S.getD i 0 :: ((L.map fun s : Shr => s.2.getD i 0) ++ (freeT (L.map fun s : Shr => s.1) (K - 1 - L.length)).map fun _ => 0) := by
    unfold expP
    rw [List.map_cons, List.map_append, List.map_map]
    congr 2
  have h1 := h.nodup
  have h2 := h.els
  have h3 : Els p ((expP K L S).map fun s : Shr => s.2.getD i 0) := fun y hy => by
    obtain ⟨s, hs, rfl⟩ := List.mem_map.1 hy
    exact els_getD hp1 (h.vals s hs) i
  rw [e2] at h3 ⊢
  rw [h.hold] at h1 h2 ⊢
  exact ipv_mid h.prm _ _ _ _ _ _ (by simp) (by simp) h1 h2 h3 x
theorem docX_perm {p : Int} {N K m : Nat} {L : List Shr} {S : List Int} (h : ExpIn p N K m L S) : (docX K L).Perm ((expP K L S).map fun s : Shr => s.1) := by
  rw [h.hold]
  unfold docX
  rw [List.append_assoc]
  exact List.perm_middle
theorem docX_nodup {p : Int} {N K m : Nat} {L : List Shr} {S : List Int} (h : ExpIn p N K m L S) : (docX K L).Nodup := (docX_perm h).nodup_iff.2 h.nodup
theorem docX_els {p : Int} {N K m : Nat} {L : List Shr} {S : List Int} (h : ExpIn p N K m L S) : Els p (docX K L) := fun x hx => h.els x ((docX_perm h).mem_iff.1 hx)
theorem docX_len {p : Int} {N K m : Nat} {L : List Shr} {S : List Int} (h : ExpIn p N K m L S) : (docX K L).length = K := by rw [(docX_perm h).length_eq, List.length_map, h.len]
theorem docY_len (K : Nat) (L : List Shr) (S : List Int) (i : Nat) : (docY K L S i).length = (docX K L).length := by simp [docX, docY]
theorem docY_els {p : Int} {N K m : Nat} {L : List Shr} {S : List Int} (h : ExpIn p N K m L S) (i : Nat) : Els p (docY K L S i) := fun y hy => by
  have hp1 : 1 ≤ p := by have := h.prm.1; omega
  unfold docY at hy
  rcases List.mem_append.1 hy with hy | hy
  · rcases List.mem_append.1 hy with hy | hy
    · obtain ⟨s, hs, rfl⟩ := List.mem_map.1 hy
      exact els_getD hp1 (h.gd.els s hs) i
    · rw [List.mem_singleton.1 hy]; exact els_getD hp1 h.se i
  · obtain ⟨_, _, rfl⟩ := List.mem_map.1 hy
    exact el_zero hp1
end Go.Proofs.YtgenollnnfljkaaDoor
/-! The document's Explain, where it gives no error. -/
namespace Go.Proofs.YtgenollnnfljkaaDoor
open Go.RowKit Go.Sort
open Num
set_option linter.unusedVariables false

set_option maxRecDepth 100000 in
set_option maxHeartbeats 16000000 in
theorem ref6_explain_ok (p : Int) (K N : Nat) (s vs : Value) (L : List Shr) (S : List Int) (w : World) (hp : (Lit.int .i64 p).wf = true) (hpp : p ≤ 1073741824) (hs : Shares w s L) (hq : Ints w vs S) (hpb : planB p (K : Int) (N : Int) = true) (hgb : goodB p (N : Int) L = true) (h0L : 0 < L.length → (L.getD 0 (0, [])).2.length = S.length) (hsb : elB p S = true) (hin : ExpIn p N K S.length L S) (hS : S.length ≤ 1000) :
    Calls Tryd.prog 31 #[planV p (K : Int) (N : Int), s, vs] w fun e w' => ∃ v, e = .returned (.tuple #[v, .int .i64 0]) ∧ SharesN w' w.heap.size v (expL p K N S.length L S) ∧ Below w.heap.size w w' := by
  unfold planV
  obtain ⟨a1, d1, rfl, hl, hld1, hd1, _⟩ := id hs
  obtain ⟨qa, qc, rfl⟩ := hq.shape
  obtain ⟨n, hN⟩ : ∃ n, L.length = n := ⟨_, rfl⟩
  obtain ⟨M, hM⟩ : ∃ M, S.length = M := ⟨_, rfl⟩
  have hlk := hin.lk
  have hkn := hin.kn
  have hnb := hin.nb
  rw [hN] at hs hl hld1 hlk h0L ⊢
  rw [hM] at hq hin hS h0L ⊢
  obtain ⟨g, hgw⟩ : ∃ g, w.heap.size = g := ⟨_, rfl⟩
  obtain ⟨w1, hw1⟩ : ∃ w1, w.alloc (Obj.cells #[Value.int IntKind.i64 p, Value.int IntKind.i64 (K : Int), Value.int IntKind.i64 (N : Int)] 30) = w1 := ⟨_, rfl⟩
  have hb1 : Below g w w1 := by rw [← hw1, ← hgw]; exact (Below.refl _ _).alloc (Nat.le_refl _) _
  have hp1 : PlanAt w1 g p (K : Int) (N : Int) := by rw [← hw1, ← hgw]; exact planAt_new _ _ _ _ _
  have hs1 : w1.heap.size = g + 1 := by rw [← hw1, ← hgw]; simp
  have HV := Lib.hid (ref6_valid p (K : Int) (N : Int) w1 hp)
  have HGO := Lib.hid (fun W (hW : Below (g + 1) w1 W) => ref6_good p (K : Int) (N : Int) (.slice a1 n d1) L W hp (hs.below (Nat.le_of_eq hgw) (hb1.trans (hW.mono (Nat.le_succ g)))))
  have HEL := Lib.hid (fun W (hW : Below g w W) => ref_elements p (.slice qa M qc) S W hp (hq.below (Nat.le_of_eq hgw) hW))
  rw [hs1] at HV
  unfold planV at HV HGO
  rw [hpb] at HV
  rw [hgb] at HGO
  rw [hsb] at HEL
  have HB1 := Lib.hid hb1
  have HP1 := Lib.hid hp1
  have HZ1 := Lib.hid hs1
  have HS := Lib.hid hs
  have HQ := Lib.hid hq
  have HIN := Lib.hid hin
  have HNN := Lib.hid hN
  have HMM := Lib.hid hM
  have d0' := hp1.c0
  have d1' := hp1.c1
  have d2' := hp1.c2
  have HGW := Lib.hid hgw
  have HPW := Lib.hid hp
  have HPP := Lib.hid hpp
  have HL0 := Lib.hid h0L
  rw [hgw]
  clear hs hq hb1 hp1 hN hM hp hs1 hin hpb hgb hsb hpp h0L
  go_enter Tryd.func31, Tryd.ntmps31
  go_upto_region 1 with fail
  go_cut [44] (fun v W => v = .bool false ∧ Hid (Below (g + 1) w1 W))
  case first =>
    by_cases hN0 : 0 < n
    · obtain ⟨bb, oo, vv, ha, _, k1, hi⟩ := HS.out.at hN0
      subst ha
      rw [Nat.zero_mul, Nat.add_zero] at k1
      obtain ⟨va, vc, rfl⟩ := hi.shape
      obtain ⟨m0, hm0⟩ : ∃ m, (L.getD 0 (0, [])).2.length = m := ⟨_, rfl⟩
      obtain rfl : m0 = M := by rw [← hm0]; exact HL0.out hN0
      rw [hm0] at k1
      have hN0i : (0 : Int) < (n : Int) := by omega
      have hmb : ((m0 : Int) != (m0 : Int)) = false := by simp
      clear hi hm0
      go_wp2_with fail
      refine HV.out.mono ?_
      rintro e w2 ⟨rfl, hb2⟩
      have hp3 := HP1.out.below (Nat.lt_succ_self g) hb2
      have HB2 := Lib.hid hb2
      have c0 := hp3.c0
      have c1 := hp3.c1
      have c2 := hp3.c2
      clear hb2 HV d0' d1' d2' hp3
      go_wp2_with fail
      refine (HGO.out w2 HB2.out).mono ?_
      rintro e w3 ⟨rfl, hb3⟩
      have HB3 : Hid (Below (g + 1) w1 w3) := HB2.out.trans (hb3.mono (by have := HB2.out.size; have := HZ1.out; omega))
      have HB3' : Hid (Below g w w3) := HB1.out.trans (HB3.out.mono (Nat.le_succ g))
      have v1 : w3.cell? ⟨bb, oo + 1, none⟩ = some (.slice va m0 vc) := by rw [(HB3'.out).cell (p := ⟨bb, oo + 1, none⟩) (by rw [← HGW.out]; exact cell_lt k1)]; exact k1
      clear hb3 HGO
      go_wp2
      go_meet
      exact ⟨rfl, HB3⟩
    · obtain rfl : n = 0 := by omega
      go_wp2_with fail
      refine HV.out.mono ?_
      rintro e w2 ⟨rfl, hb2⟩
      have hp3 := HP1.out.below (Nat.lt_succ_self g) hb2
      have HB2 := Lib.hid hb2
      have c0 := hp3.c0
      have c1 := hp3.c1
      have c2 := hp3.c2
      clear hb2 HV d0' d1' d2' hp3
      go_wp2_with fail
      refine (HGO.out w2 HB2.out).mono ?_
      rintro e w3 ⟨rfl, hb3⟩
      have HB3 : Hid (Below (g + 1) w1 w3) := HB2.out.trans (hb3.mono (by have := HB2.out.size; have := HZ1.out; omega))
      clear hb3 HGO
      go_wp2
      go_meet
      exact ⟨rfl, HB3⟩
  case rest =>
    obtain ⟨hv, HBC⟩ := hcut
    subst hv
    have HBW : Hid (Below g w wc) := HB1.out.trans (HBC.out.mono (Nat.le_succ g))
    have hp4 := HP1.out.below (Nat.lt_succ_self g) HBC.out
    have c0 := hp4.c0
    have c1 := hp4.c1
    have c2 := hp4.c2
    have HP4 := Lib.hid hp4
    have HGC : Hid (g < wc.heap.size) := hp4.lt
    have hlk2 : ¬ (K : Int) ≤ (n : Int) := by omega
    have hM2 : ¬ (2048 : Int) < (M : Int) := by omega
    have hd1' : decide ((K : Int) ≤ (n : Int)) = false := by simp; omega
    have hd2' : decide (K ≤ n) = false := by simp; omega
    have hd3' : decide ((2048 : Int) < (M : Int)) = false := by simp; omega
    have hd4' : decide (2048 < M) = false := by simp; omega
    have hmm := @run_makeMap Tryd.prog
    clear hp4 d0' d1' d2' HV HGO
    go_wp2_with fail
    refine (HEL.out _ HBW.out).mono ?_
    rintro e w4 ⟨rfl, rfl⟩
    clear HEL
    obtain ⟨mb, hmb⟩ : ∃ mb, wc.heap.size = mb := ⟨_, rfl⟩
    have HH0 : Hid (HeldAt (wc.alloc (.map #[] 0)) mb 0 ((L.take 0).map fun s : Shr => s.1)) := by rw [List.take_zero, ← hmb]; exact heldAt_made wc
    have HB5 : Hid (Below mb wc (wc.alloc (.map #[] 0))) := by rw [← hmb]; exact (Below.refl _ _).alloc (Nat.le_refl _) _
    have HZ5 : Hid (mb < (wc.alloc (.map #[] 0)).heap.size) := by show _ < _; rw [← hmb]; simp
    have HMB : Hid (g < mb) := by show _ < _; rw [← hmb]; exact HGC.out
    have HMZ := Lib.hid hmb
    clear hmb
    go_wp2_with fail
    rw [HMZ.out]
    go_loopw [10, 65] (fun _ i wr => ∃ j : Nat, j ≤ n ∧ i = .int .i64 j ∧ Hid (HeldAt wr mb j ((L.take j).map fun s : Shr => s.1)) ∧ Hid (Below mb wc wr) ∧ Hid (mb < wr.heap.size)) (fun _ i _ => n - (intOf i).toNat)
    case atStart => exact ⟨0, Nat.zero_le _, rfl, HH0, HB5, HZ5⟩
    case round =>
      obtain ⟨j, hj, rfl, HH, HB, HZ⟩ := hrel
      by_cases hlt : j < n
      · have HBR : Hid (Below g w wr) := HBW.out.trans (HB.out.mono (Nat.le_of_lt HMB.out))
        obtain ⟨b1, o1, v1, rfl, k0, k1, hi1⟩ := (HS.out.below (Nat.le_of_eq HGW.out) HBR.out).at hlt
        have hts : L.take j ++ [L.getD j (0, [])] = L.take (j + 1) := take_snocS (by rw [HNN.out]; exact hlt)
        have hmem : L.getD j (0, []) ∈ L := by rw [List.getD_eq_getElem?_getD, List.getElem?_eq_getElem (by rw [HNN.out]; exact hlt)]; exact List.getElem_mem _
        have hho := HIN.out.gd.hold _ hmem
        obtain ⟨⟨h, l⟩, hsh⟩ : ∃ z, L.getD j (0, []) = z := ⟨_, rfl⟩
        rw [hsh] at k0 hi1 hts hho
        simp only at k0 hi1 hho
        obtain ⟨va1, vc1, rfl⟩ := hi1.shape
        obtain ⟨m1, hm1⟩ : ∃ m, l.length = m := ⟨_, rfl⟩
        rw [hm1] at k1
        have HWF : Hid ((Lit.int .i64 h).wf = true) := WalkArith.wf_i64 (by omega)
        obtain ⟨gs, hgs⟩ : ∃ gs, wr.heap.size = gs := ⟨_, rfl⟩
        have hgg : mb < gs := by rw [← hgs]; exact HZ.out
        have hal := World.grownBy_alloc wr (.cells #[.int .i64 h, .slice va1 m1 vc1] 38) none
        have HH1 := Lib.hid (HH.out.kept hal (fun e => by cases e))
        have HB1' : Hid (Below mb wc (wr.alloc (.cells #[.int .i64 h, .slice va1 m1 vc1] 38))) := HB.out.alloc (by rw [hgs]; omega) _
        have HTS : Hid ((L.take j).map (fun s : Shr => s.1) ++ [h] = (L.take (j + 1)).map fun s : Shr => s.1) := by show _ = _; rw [← hts, List.map_append]; rfl
        have hcn := cells_new2 wr (.int .i64 h) (.slice va1 m1 vc1) 38 gs hgs
        have t0 := hcn.1
        have t1 := hcn.2
        have hz1 : (wr.alloc (.cells #[.int .i64 h, .slice va1 m1 vc1] 38)).heap.size = gs + 1 := by simp [hgs]
        have HZ1' := Lib.hid hz1
        have HGS := Lib.hid hgg
        clear hi1 hmem hho hts hsh hal hcn hm1 hz1 HH HB
        go_wp2_with (at_mapUpdate; refine held_put _ rfl _ _ _ _ rfl Tryd.underlying79 mb j _ rfl HH1.out h rfl rfl HWF.out (by unfold maxLen; omega) ?_; intro w5 hh5 hgr5)
        rw [HTS.out] at hh5
        have HH5 := Lib.hid hh5
        have HB5' : Hid (Below mb wc w5) := HB1'.out.grown hgr5 (by rw [HZ1'.out]; have := HGS.out; omega) (fun k e => by cases e; exact Nat.le_refl _)
        have HZ5' : Hid (mb < w5.heap.size) := by show _ < _; have := hgr5.size; have := HZ1'.out; have := HGS.out; omega
        clear hh5 hgr5 t0 t1 k0 k1 hgs
        go_wp2_with fail
        go_roundw
        case rel => exact ⟨j + 1, by omega, by go_num, HH5, HB5', HZ5'⟩
        case measure => simp [intOf]; omega
      · obtain rfl : j = n := by omega
        have HHF : Hid (HeldAt wr mb j (L.map fun s : Shr => s.1)) := by have h := HH.out; rw [List.take_of_length_le (by rw [HNN.out]; omega)] at h; exact h
        have HPR : Hid (PlanAt wr g p (K : Int) (N : Int)) := HP4.out.below HMB.out HB.out
        have p0 := HPR.out.c0
        have p1 := HPR.out.c1
        have p2 := HPR.out.c2
        clear c0 c1 c2 HH
        obtain ⟨q, hq⟩ : ∃ q, wr.heap.size = q := ⟨_, rfl⟩
        have HGQ : Hid (g < q) := by show _ < _; rw [← hq]; exact HPR.out.lt
        have HMQ : Hid (mb < q) := by show _ < _; rw [← hq]; exact HZ.out
        have HMS : Hid (RowS (wr.alloc (.cells (madeCells #[.int .i64 0, .slice none 0 0] (N * 2)) 38)) q N (fun t => if t < 0 then (((t + 1 : Nat) : Int), .slice none 0 0) else (0, .slice none 0 0))) := by
          have h := expW_start wr g N (fun _ => []) 38 (Nat.le_of_lt HPR.out.lt)
          rw [hq] at h
          obtain ⟨Z, h1, _⟩ := h.row
          exact rowS_congr h1 fun t ht => by simp
        have HBS : Hid (Below q wr (wr.alloc (.cells (madeCells #[.int .i64 0, .slice none 0 0] (N * 2)) 38))) := by rw [← hq]; exact (Below.refl _ _).alloc (Nat.le_refl _) _
        have HZS : Hid (q < (wr.alloc (.cells (madeCells #[.int .i64 0, .slice none 0 0] (N * 2)) 38)).heap.size) := by show _ < _; rw [← hq]; simp
        have hmkS := run_make_share N (by omega)
        have HQQ := Lib.hid hq
        have HBR : Hid (Below g w wr) := HBW.out.trans (HB.out.mono (Nat.le_of_lt HMB.out))
        go_wp2_with fail
        clear hmkS p2
        try rw [HQQ.out]
        clear hq
        generalize wr.alloc (.cells (madeCells #[.int .i64 0, .slice none 0 0] (N * 2)) 38) = w6 at *
        obtain ⟨wo, hwo⟩ : ∃ wo, wo = wr := ⟨_, rfl⟩
        subst hwo
        go_loopw [12, 78] (fun _ i wr => ∃ t : Nat, t ≤ N ∧ i = .int .i64 t ∧ Hid (RowS wr q N (fun u => if u < t then (((u + 1 : Nat) : Int), .slice none 0 0) else (0, .slice none 0 0))) ∧ Hid (Below q wo wr) ∧ Hid (q < wr.heap.size)) (fun _ i _ => N - (intOf i).toNat)
        case atStart => exact ⟨0, Nat.zero_le _, rfl, HMS, HBS, HZS⟩
        case round =>
          obtain ⟨t, ht, rfl, HR, HB2, HZ2⟩ := hrel
          by_cases hlt2 : t < N
          · obtain ⟨J, hJ⟩ : ∃ J, t + 1 = J := ⟨_, rfl⟩
            obtain ⟨k0, k1, f0, f1⟩ := HR.out t hlt2
            simp only [Nat.lt_irrefl, if_false] at k0 k1
            have hw1 : IntKind.i64.wrap ((t : Int) + 1) = (J : Int) := by rw [IntKind.wrap_i64]; omega
            have HRN : Hid (RowS (wr.setCell ⟨q, t * 2, none⟩ (.int .i64 (J : Int))) q N (fun u => if u < J then (((u + 1 : Nat) : Int), .slice none 0 0) else (0, .slice none 0 0))) := by
              refine rowS_congr (HR.out.set0 hlt2 (J : Int)) fun u hu => ?_
              by_cases e : u = t
              · subst e; simp [← hJ]
              · by_cases e2 : u < t
                · simp [e, e2, show u < J by omega]
                · simp [e, e2, show ¬ u < J by omega]
            have HBN : Hid (Below q wo (wr.setCell ⟨q, t * 2, none⟩ (.int .i64 (J : Int)))) := HB2.out.trans (set1_below _ _ _ (Nat.le_refl _))
            have HZN : Hid (q < (wr.setCell ⟨q, t * 2, none⟩ (.int .i64 (J : Int))).heap.size) := by show _ < _; have := HZ2.out; simp; omega
            have HJJ := Lib.hid hJ
            clear HR HB2 HZ2 hJ
            go_wp2_with fail
            go_roundw
            case rel => exact ⟨J, by have := HJJ.out; omega, by have := HJJ.out; go_num, HRN, HBN, HZN⟩
            case measure => simp [intOf]; have := HJJ.out; omega
          · obtain rfl : t = N := by omega
            have HR2 : Hid (RowS wr q t (fun u => (((u + 1 : Nat) : Int), .slice none 0 0))) := rowS_congr HR.out fun u hu => by simp [hu]
            have HGS0 : Hid (GrowS wr q t 0 0 (fun _ => .slice none 0 0) (fun j => exq p K L S j 0)) := growS_start HR2.out HZ2.out
            have HB3 : Hid (Below q wo wr) := HB2.out
            clear HR HR2 HZ2 HB2
            have HWO : Hid (Below g w wo) := HBR
            have HHO : Hid (HeldAt wo mb j (L.map fun s : Shr => s.1)) := HHF
            have HPO : Hid (PlanAt wo g p (K : Int) (t : Int)) := HPR
            clear HHF HPR HBR HH0 HB5 HZ5 HB HZ
            go_wp2_with fail
            go_loopw [13, 14, 15, 16, 17, 18, 19, 20, 90] (fun _ _ _ _ _ _ _ _ i wr => ∃ (m : Nat) (Z : Nat → Value), m ≤ M ∧ i = .int .i64 m ∧ Hid (GrowS wr q t 0 0 Z (fun j => exq p K L S j m)) ∧ Hid (Below q wo wr)) (fun _ _ _ _ _ _ _ _ i _ => M - (intOf i).toNat)
            case atStart => exact ⟨0, _, Nat.zero_le _, rfl, HGS0, HB3⟩
            case round =>
              obtain ⟨m, Z, hm, rfl, HG, HB⟩ := hrel
              have HBR : Hid (Below g w wr) := HWO.out.trans (HB.out.mono (Nat.le_of_lt HGQ.out))
              by_cases hlm : m < M
              · obtain ⟨qb, qo, rfl, cq⟩ := HQ.out.pos hlm
                have hqb := cell_lt cq
                rw [HGW.out] at hqb
                have cq1 : wr.cell? ⟨qb, qo + m, none⟩ = some (.int .i64 (S.getD m 0)) := by rw [HBR.out.cell (p := ⟨qb, qo + m, none⟩) hqb]; exact cq
                obtain ⟨x, hx⟩ : ∃ x, S.getD m 0 = x := ⟨_, rfl⟩
                rw [hx] at cq1
                have HXX := Lib.hid hx
                have HPT := Lib.hid (ref6_points (.slice a1 j d1) L m wr (HS.out.below (Nat.le_of_eq HGW.out) HBR.out) (fun s hs => by rw [HIN.out.gd.len s hs]; exact hlm) (by omega))
                obtain ⟨lo, hlo⟩ : ∃ lo, wr.heap.size = lo := ⟨_, rfl⟩
                rw [hlo] at HPT
                have HLO := Lib.hid hlo
                have HHR : Hid (HeldAt wr mb j (L.map fun s : Shr => s.1)) := HHO.out.kept (grownBy_of_below HB.out (Nat.le_of_eq HQQ.out)) (fun e => by cases e)
                have HPR : Hid (PlanAt wr g p (K : Int) (t : Int)) := HPO.out.below HGQ.out HB.out
                have HQL : Hid (q < lo) := by show _ < _; rw [← hlo]; exact HG.out.lt
                obtain ⟨X0, hX0⟩ : ∃ X, (L.map fun s : Shr => s.1) = X := ⟨_, rfl⟩
                obtain ⟨Y0, hY0⟩ : ∃ Y, (L.map fun s : Shr => s.2.getD m 0) = Y := ⟨_, rfl⟩
                rw [hX0] at HHR
                rw [hX0, hY0] at HPT
                have HX0 := Lib.hid hX0
                have HY0 := Lib.hid hY0
                have HL0' : Hid (X0.length = j) := by show _ = _; rw [← hX0, List.length_map]; exact HNN.out
                have HM0' : Hid (Y0.length = j) := by show _ = _; rw [← hY0, List.length_map]; exact HNN.out
                clear hX0 hY0 hx hlo hqb cq p0 p1
                go_wp2_with fail
                refine HPT.out.mono ?_
                rintro e w8 ⟨vx, vy, rfl, ht8⟩
                have HT8 := Lib.hid ht8
                clear ht8 HPT cq1
                go_wp2_with (first
                  | (at_builtin; refine append_twoX _ rfl _ _ rfl wr lo _ _ _ _ 0 rfl (HT8.out.alloc _) w8.heap.size rfl (cell_alloc_new _ _ _ _ rfl) (by rw [HL0'.out]; omega) ?_; intro v9 w9 ht9; have HT9 := Lib.hid ht9; clear ht9 HT8)
                  | (at_builtin; refine append_twoY _ rfl _ _ rfl wr lo _ _ _ _ x rfl (HT9.out.alloc _) w9.heap.size rfl (cell_alloc_new _ _ _ _ rfl) (by rw [HM0'.out]; omega) ?_; intro v10 w10 ht10))
                have HT10 : Hid (TwoG wr lo w10 v9 v10 (X0 ++ [0] ++ freeU X0 0) (Y0 ++ [x] ++ (freeU X0 0).map fun _ => (0 : Int))) := by
                  have e : freeU X0 0 = [] := rfl
                  show TwoG _ _ _ _ _ _ _
                  rw [e, List.map_nil, List.append_nil, List.append_nil]
                  exact ht10
                have HC10 : Hid ((X0 ++ [0] ++ freeU X0 0).length ≤ K) := by
                  have e : freeU X0 0 = [] := rfl
                  show _ ≤ _
                  rw [e, List.append_nil, List.length_append, HL0'.out]; simp; omega
                clear ht10 HT9
                obtain ⟨wa, hwa⟩ : ∃ wa, wa = wr := ⟨_, rfl⟩
                subst hwa
                go_loopw [15, 16, 17] (fun vx vy h wq => ∃ T : Nat, T ≤ 32 ∧ h = .int .i64 ((T + 1 : Nat) : Int) ∧ Hid (TwoG wa lo wq vx vy (X0 ++ [0] ++ freeU X0 T) (Y0 ++ [x] ++ (freeU X0 T).map fun _ => (0 : Int))) ∧ Hid ((X0 ++ [0] ++ freeU X0 T).length ≤ K)) (fun _ _ h _ => 40 - (intOf h).toNat)
                case atStart => exact ⟨0, by omega, rfl, HT10, HC10⟩
                case round =>
                  obtain ⟨wq, hwq0⟩ : ∃ wq, wq = wr := ⟨_, rfl⟩
                  subst hwq0
                  obtain ⟨T, hT, rfl, HT, HC⟩ := hrel
                  obtain ⟨ax, cx, rfl⟩ := HT.out.gx.shape
                  have hwq : Below lo wa wq := HT.out.be
                  have HHQ : Hid (HeldAt wq mb j X0) := HHR.out.kept (grownBy_of_below hwq (Nat.le_of_eq HLO.out)) (fun e => by cases e)
                  have HPQ : Hid (PlanAt wq g p (K : Int) (t : Int)) := HPR.out.below (Nat.lt_trans HGQ.out HQL.out) hwq
                  have p1 := HPQ.out.c1
                  obtain ⟨LX, hLX⟩ : ∃ n, (X0 ++ [0] ++ freeU X0 T).length = n := ⟨_, rfl⟩
                  have hle : LX ≤ K := by rw [← hLX]; exact HC.out
                  have hcnt := freeU_count T X0
                  have hlx2 : X0.length + 1 + (freeU X0 T).length = LX := by rw [← hLX]; simp; omega
                  rw [HL0'.out] at hcnt hlx2
                  have HLX := Lib.hid hLX
                  have HLX2 := Lib.hid hlx2
                  have HCNT := Lib.hid hcnt
                  obtain ⟨TT, hTT⟩ : ∃ TT, T + 1 = TT := ⟨_, rfl⟩
                  rw [hTT]
                  have HTT := Lib.hid hTT
                  have HT2 : Hid (TwoG wa lo wq (.slice ax LX cx) u16 (X0 ++ [0] ++ freeU X0 T) (Y0 ++ [x] ++ (freeU X0 T).map fun _ => (0 : Int))) := by
                    have h := HT.out
                    rw [hLX] at h
                    exact h
                  rw [hLX]
                  clear hLX hwq hTT HT
                  by_cases hlt4 : LX < K
                  · have hT16 : TT ≤ 16 := by have := HTT.out; omega
                    have hw1 : IntKind.i64.wrap ((TT : Int) + 1) = (TT : Int) + 1 := by rw [IntKind.wrap_i64]; omega
                    have HWF : Hid ((Lit.int .i64 (TT : Int)).wf = true) := WalkArith.wf_i64 (by omega)
                    clear hlx2 hcnt
                    by_cases hin2 : (TT : Int) ∈ X0
                    · have HY : Hid (decide ((TT : Int) ∈ X0) = true) := decide_eq_true hin2
                      have hfs : freeU X0 TT = freeU X0 T := by rw [← HTT.out, freeU_succ, if_pos (by rw [HTT.out]; simpa using hin2), List.append_nil]
                      have HFS := Lib.hid hfs
                      clear hfs hin2
                      go_wp2_with (at_lookup; refine held_look _ rfl _ _ _ rfl Tryd.underlying79 mb j X0 rfl HHQ.out (TT : Int) rfl HWF.out true HY.out ?_)
                      go_roundw
                      case rel => exact ⟨TT, by have := HTT.out; omega, by go_num, by rw [HFS.out]; exact HT2, by rw [HFS.out]; exact HC⟩
                      case measure => simp [intOf]; have := HTT.out; omega
                    · have HY : Hid (decide ((TT : Int) ∈ X0) = false) := decide_eq_false hin2
                      have hfs : freeU X0 TT = freeU X0 T ++ [(TT : Int)] := by rw [← HTT.out, freeU_succ, if_neg (by rw [HTT.out]; simpa using hin2), HTT.out]
                      have HFS := Lib.hid hfs
                      have HXL : Hid ((X0 ++ [0] ++ freeU X0 T).length ≤ 1000000) := by show _ ≤ _; rw [HLX.out]; omega
                      have HYL : Hid ((Y0 ++ [x] ++ (freeU X0 T).map fun _ => (0 : Int)).length ≤ 1000000) := by
                        show _ ≤ _
                        have h1 := HLX2.out
                        have h2 := HM0'.out
                        simp only [List.length_append, List.length_map, List.length_cons, List.length_nil]
                        omega
                      clear hfs hin2
                      go_wp2_with (first
                        | (at_lookup; refine held_look _ rfl _ _ _ rfl Tryd.underlying79 mb j X0 rfl HHQ.out (TT : Int) rfl HWF.out false HY.out ?_)
                        | (at_builtin; refine append_twoX _ rfl _ _ rfl wa lo _ _ _ _ (TT : Int) rfl (HT2.out.alloc _) wq.heap.size rfl (cell_alloc_new _ _ _ _ rfl) HXL.out ?_; intro v9 w9 ht9; have HT9 := Lib.hid ht9; clear ht9 HT2)
                        | (at_builtin; refine append_twoY _ rfl _ _ rfl wa lo _ _ _ _ 0 rfl (HT9.out.alloc _) w9.heap.size rfl (cell_alloc_new _ _ _ _ rfl) HYL.out ?_; intro v10 w10 ht10))
                      have HTN : Hid (TwoG wa lo w10 v9 v10 (X0 ++ [0] ++ freeU X0 TT) (Y0 ++ [x] ++ (freeU X0 TT).map fun _ => (0 : Int))) := by
                        show TwoG _ _ _ _ _ _ _
                        rw [HFS.out, List.map_append, ← List.append_assoc, ← List.append_assoc]
                        exact ht10
                      have HCN : Hid ((X0 ++ [0] ++ freeU X0 TT).length ≤ K) := by
                        show _ ≤ _
                        rw [HFS.out, ← List.append_assoc, List.length_append, HLX.out]
                        simp; omega
                      clear ht10 HT9
                      go_roundw
                      case rel => exact ⟨TT, by have := HTT.out; omega, by go_num, HTN, HCN⟩
                      case measure => simp [intOf]; have := HTT.out; omega
                  · obtain rfl : LX = K := by omega
                    have hfe : freeU X0 T = freeT X0 (LX - 1 - j) := freeT_eq hT (by omega)
                    have hxe : X0 ++ [0] ++ freeU X0 T = docX LX L := by unfold docX; rw [hfe, HX0.out, HNN.out]
                    have hye : (Y0 ++ [x] ++ (freeU X0 T).map fun _ => (0 : Int)) = docY LX L S m := by unfold docY; rw [hfe, ← HXX.out, HX0.out, HY0.out, HNN.out]
                    have HTD : Hid (TwoG wa lo wq (.slice ax LX cx) u16 (docX LX L) (docY LX L S m)) := by
                      have h := HT2.out
                      rw [hxe, hye] at h
                      exact h
                    clear hfe hxe hye HT2 HC HLX hcnt hlx2 HCNT HLX2
                    have hwq : Below lo wa wq := HTD.out.be
                    obtain ⟨hi, hhi⟩ : ∃ hi, wq.heap.size = hi := ⟨_, rfl⟩
                    have HGR : Hid (GrowS wq q t lo hi Z (fun c => if c < 0 then exq p LX L S c (m + 1) else exq p LX L S c m)) := ((HG.out.range lo hi (Nat.le_of_eq HLO.out)).below hwq (Nat.le_of_eq HLO.out)).congr fun u hu => by simp
                    have HSX : Hid (Slc wq (.slice ax LX cx) (docX LX L)) := HTD.out.gx.slc (by rw [docX_len HIN.out]; omega)
                    have HSY : Hid (Slc wq u16 (docY LX L S m)) := HTD.out.gy.slc (by rw [docY_len, docX_len HIN.out]; omega)
                    have HXB : Hid (∀ b, (Value.slice ax LX cx).ownBlock = some b → lo ≤ b ∧ b < hi) := fun b hb => by rw [← hhi]; exact World.ownsRow.lt HTD.out.gx b hb
                    have HYB : Hid (∀ b, u16.ownBlock = some b → lo ≤ b ∧ b < hi) := fun b hb => by rw [← hhi]; exact World.ownsRow.lt HTD.out.gy b hb
                    have HBQ : Hid (Below q wo wq) := HB.out.trans (hwq.mono (Nat.le_of_lt HQL.out))
                    have HKP : Hid (∀ b, lo ≤ b → b < hi → wq.heap[b]? = wq.heap[b]?) := fun b _ _ => rfl
                    have HHI : Hid (hi ≤ wq.heap.size) := Nat.le_of_eq hhi.symm
                    have HLB : Hid (hi ≤ wq.heap.size ∧ lo ≤ hi) := ⟨Nat.le_of_eq hhi.symm, by rw [← hhi, ← HLO.out]; exact hwq.size⟩
                    have ht16 : t ≤ 16 := hnb
                    clear hhi hwq HTD HHQ HPQ HXX
                    go_wp2_with fail
                    clear p1
                    obtain ⟨wk, hwk⟩ : ∃ wk, wk = wq := ⟨_, rfl⟩
                    subst hwk
                    go_loopw [18, 19, 20, 128] (fun _ _ _ i wz => ∃ (u : Nat) (Z2 : Nat → Value), u ≤ t ∧ i = .int .i64 u ∧ Hid (GrowS wz q t lo hi Z2 (fun c => if c < u then exq p LX L S c (m + 1) else exq p LX L S c m)) ∧ Hid (Below q wo wz) ∧ Hid (∀ b, lo ≤ b → b < hi → wz.heap[b]? = wk.heap[b]?) ∧ Hid (hi ≤ wz.heap.size)) (fun _ _ _ i _ => t - (intOf i).toNat)
                    case atStart => exact ⟨0, Z, Nat.zero_le _, rfl, HGR, HBQ, fun b _ _ => rfl, HHI⟩
                    case round =>
                      obtain ⟨wz, hwz⟩ : ∃ wz, wz = wr := ⟨_, rfl⟩
                      subst hwz
                      obtain ⟨u, Z2, hu, rfl, HG2, HB2, HK2, HH2⟩ := hrel
                      by_cases hlu : u < t
                      · obtain ⟨J, hJ⟩ : ∃ J, u + 1 = J := ⟨_, rfl⟩
                        have hw1 : IntKind.i64.wrap ((u : Int) + 1) = (J : Int) := by rw [IntKind.wrap_i64]; omega
                        have hpz : PlanAt wz g p (LX : Int) (t : Int) := HPO.out.below HGQ.out HB2.out
                        have p0 := hpz.c0
                        have HIT := Lib.hid (ref_interp_slc (x := (J : Int)) HIN.out.prm HPP.out ⟨by omega, by have := HIN.out.np; omega⟩ (docX_els HIN.out) (docY_els HIN.out m) (HSX.out.same fun b hb => HK2.out b (HXB.out b hb).1 (HXB.out b hb).2) (HSY.out.same fun b hb => HK2.out b (HYB.out b hb).1 (HYB.out b hb).2) (docY_len _ _ _ _) (by rw [docX_len HIN.out]; omega) (docX_nodup HIN.out) (by rw [docX_len HIN.out]; omega))
                        rw [doc_ipv HIN.out] at HIT
                        obtain ⟨y, hy⟩ : ∃ y, ipv p ((expP LX L S).map fun s : Shr => s.1) ((expP LX L S).map fun s : Shr => s.2.getD m 0) (J : Int) = y := ⟨_, rfl⟩
                        rw [hy] at HIT
                        have HEX : Hid (exq p LX L S u (m + 1) = exq p LX L S u m ++ [y]) := by show _ = _; rw [exq_succ, hJ, hy]
                        have HJJ := Lib.hid hJ
                        clear hpz hy hJ
                        go_wp2_with fail
                        refine HIT.out.mono ?_
                        rintro e w12 ⟨rfl, hb12⟩
                        have hg12 := HG2.out.below hb12 (Nat.le_refl _)
                        have HB12 : Hid (Below q wo w12) := HB2.out.trans (hb12.mono (Nat.le_of_lt HG2.out.lt))
                        have HK12 : Hid (∀ b, lo ≤ b → b < hi → w12.heap[b]? = wk.heap[b]?) := fun b h1 h2 => (hb12.block b (Nat.lt_of_lt_of_le h2 HH2.out)).trans (HK2.out b h1 h2)
                        have HH12 : Hid (hi ≤ w12.heap.size) := Nat.le_trans HH2.out hb12.size
                        obtain ⟨k0, k1, f0, f1⟩ := hg12.row u hlu
                        have HV12 := Lib.hid (hg12.val u hlu)
                        simp only [Nat.lt_irrefl, if_false] at HV12
                        have HQ12 := Lib.hid hg12.lt
                        have HQA : Hid (q < (w12.alloc (.cells #[.int .i64 y] 3)).heap.size) := Nat.lt_of_lt_of_le hg12.lt ((Below.refl _ _).alloc (Nat.le_refl _) (.cells #[.int .i64 y] 3)).size
                        have HG12 := Lib.hid hg12
                        obtain ⟨zv, hzv⟩ : ∃ zv, Z2 u = zv := ⟨_, rfl⟩
                        simp only at k1
                        rw [hzv] at k1 HV12
                        have HZV := Lib.hid hzv
                        clear hb12 hg12 hzv HIT p0 k0 f0 HG2 HB2 HK2 HH2
                        have HAL : Hid ((exq p LX L S u m).length ≤ 1000000) := by show _ ≤ _; rw [exq_len]; omega
                        have HARM : Hid (∀ v' w', Gath w' q v' (exq p LX L S u m ++ [y]) → (w12.alloc (.cells #[.int .i64 y] 3)).grownBy w' zv.ownBlock → ∃ a' c', v' = .slice a' (m + 1) c' ∧ w'.cell? ⟨q, u * 2 + 1, none⟩ = some zv ∧ w'.frozen? ⟨q, u * 2 + 1, none⟩ = false) := by
                          intro v' w' hg hgr
                          obtain ⟨a', c', e'⟩ := hg.shape
                          rw [List.length_append, exq_len] at e'
                          have h13 : w'.heap[q]? = (w12.alloc (.cells #[.int .i64 y] 3)).heap[q]? := hgr.block q HQA.out (fun e => (HG12.out.off u hlu q (by rw [HZV.out]; exact e.symm)).1 rfl)
                          have h := (HG12.out.below ((Below.refl _ _).alloc (Nat.le_refl _) (.cells #[.int .i64 y] 3)) (Nat.le_refl _)).row u hlu
                          refine ⟨a', c', e', ?_, ?_⟩
                          · rw [World.cell?_of_block h13, cell_alloc_old _ _ _ _ k1]
                          · have h2 := h.2.2.2
                            rw [World.frozen?] at h2 ⊢
                            rw [h13]
                            exact h2
                        obtain ⟨mm, hmm1⟩ : ∃ mm, m + 1 = mm := ⟨_, rfl⟩
                        rw [hmm1] at HARM
                        have HM1 := Lib.hid hmm1
                        clear hmm1
                        go_wp2_with (at_builtin; refine append_oneB _ rfl _ _ rfl q _ _ y rfl (HV12.out.alloc _) w12.heap.size rfl (cell_alloc_new _ _ _ _ rfl) HAL.out (Nat.le_of_lt HQA.out) ?_; intro v13 w13 hg13 hgr13 hv13; obtain ⟨a13, c13, rfl, k1', f1'⟩ := HARM.out v13 w13 hg13 hgr13; have HG13 := Lib.hid hg13; have HGR13 := Lib.hid hgr13; have HV13 := Lib.hid hv13; clear hg13 hgr13 hv13)
                        have hal := (Below.refl w12.heap.size w12).alloc (Nat.le_refl _) (.cells #[.int .i64 y] 3)
                        have HNEW : Hid (GrowS (w13.setCell ⟨q, u * 2 + 1, none⟩ (.slice a13 mm c13)) q t lo hi (fun c => if c = u then .slice a13 mm c13 else Z2 c) (fun c => if c < J then exq p LX L S c (m + 1) else exq p LX L S c m)) := by
                          refine ((HG12.out.below hal (Nat.le_refl _)).push hlu HG13.out (by rw [HZV.out]; exact HGR13.out) (by rw [HZV.out]; exact HV13.out) (Nat.le_trans HH12.out hal.size)).congr fun c hc => ?_
                          have hJ := HJJ.out
                          by_cases e : c = u
                          · subst e
                            rw [if_pos rfl, if_pos (by omega), HEX.out]
                          · rw [if_neg e]
                            by_cases e2 : c < u
                            · rw [if_pos e2, if_pos (by omega)]
                            · rw [if_neg e2, if_neg (by omega)]
                        have HBN : Hid (Below q wo (w13.setCell ⟨q, u * 2 + 1, none⟩ (.slice a13 mm c13))) := ((HB12.out.alloc (Nat.le_of_lt HQ12.out) _).grown HGR13.out (Nat.le_of_lt HQA.out) (fun k e => (World.ownsRow.lt HV12.out k e).1)).trans (set1_below _ _ _ (Nat.le_refl _))
                        have HKN : Hid (∀ b, lo ≤ b → b < hi → (w13.setCell ⟨q, u * 2 + 1, none⟩ (.slice a13 mm c13)).heap[b]? = wk.heap[b]?) := fun b h1 h2 => by
                          have hb12 : b < w12.heap.size := Nat.lt_of_lt_of_le h2 HH12.out
                          have e1 := Below.heap_setCell w13 ⟨q, u * 2 + 1, none⟩ (.slice a13 mm c13) b (by have := HQL.out; show b ≠ q; omega)
                          have e2 := HGR13.out.block b (Nat.lt_of_lt_of_le hb12 hal.size) (fun e => by
                            have := (HG12.out.off u hlu b (by rw [HZV.out]; exact e.symm)).2
                            omega)
                          exact e1.trans (e2.trans ((hal.block b hb12).trans (HK12.out b h1 h2)))
                        have HHN : Hid (hi ≤ (w13.setCell ⟨q, u * 2 + 1, none⟩ (.slice a13 mm c13)).heap.size) := by
                          show _ ≤ _
                          exact Nat.le_trans (Nat.le_trans HH12.out (Nat.le_trans hal.size HGR13.out.size)) (But.set w13 ⟨q, u * 2 + 1, none⟩ (.slice a13 mm c13)).size
                        clear hal HG12 HB12 HK12 HH12 HQ12 HQA HG13 HGR13 HV13 HV12 HZV HARM HAL k1 f1 k1' f1'
                        go_roundw
                        case rel => exact ⟨J, _, by have := HJJ.out; omega, by go_num, HNEW, HBN, HKN, HHN⟩
                        case measure => simp [intOf]; have := HJJ.out; omega
                      · obtain rfl : u = t := by omega
                        have HGN : Hid (GrowS wz q u 0 0 Z2 (fun c => exq p LX L S c (m + 1))) := HG2.out.free.congr fun c hc => by simp [hc]
                        clear HGR HSX HSY HXB HYB HG2
                        go_wp2_with fail
                        go_roundw
                        case rel => exact ⟨m + 1, Z2, by omega, by go_num, HGN, HB2⟩
                        case measure => simp [intOf]; omega
              · obtain rfl : m = M := by omega
                have HF : Hid (SharesN wr g (.slice (some ⟨q, 0, none⟩) t t) (expL p K t m L S)) := HG.out.shares (expL_len _ _ _ _ _ _) (by omega) (Nat.le_of_lt HGQ.out) (fun j hj => expL_get hj) (fun j hj => by rw [exq_len]; omega)
                go_wp2_with fail
                go_ret2
                exact ⟨_, rfl, HF.out, HBR.out⟩
end Go.Proofs.YtgenollnnfljkaaDoor
