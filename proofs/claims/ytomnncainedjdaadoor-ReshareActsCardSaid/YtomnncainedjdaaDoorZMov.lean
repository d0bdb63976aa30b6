
/- Moving shares: the mathematics of one move, and what Move keeps in memory. -/
import Derived.Test.YtomnncainedjdaaDoorZPr5
import Derived.Test.YtomnncainedjdaaDoorJKm
namespace Go.Proofs.YtomnncainedjdaaDoor
open Go.RowKit Go.Sort
open Num
set_option linter.unusedVariables false

/-- The parts of one new holder go together. -/
theorem mov_join {p k n k2 n2 : Int} {K N K2 N2 m t : Nat} {L : List Shr} {RR : List (List Int)} (hp : planB p k n = true) (hp2 : planB p k2 n2 = true) (hk : k = (K : Int)) (hn : n = (N : Int)) (hn2 : n2 = (N2 : Int)) (hg : Gd p N m L) (hK : K ≤ L.length) (ht : t < N2) :
    joinE p k n p k2 n2 ((L.take K).map (·.1)) (partsTo p K2 L RR ((t + 1 : Nat) : Int) K) = 0 ∧ joinR p k n p k2 n2 ((L.take K).map (·.1)) (partsTo p K2 L RR ((t + 1 : Nat) : Int) K) = (((t + 1 : Nat) : Int), movV p K2 L RR K ((t + 1 : Nat) : Int)) := by
  obtain ⟨q1, q2, q3, q4, q5, q6⟩ := planB_parts hp
  have hp1 : 1 ≤ p := by have := q1.1; omega
  have hxl : ((L.take K).map (·.1)).length = K := by rw [List.length_map, List.length_take]; omega
  have hg' := hg.take K
  have hm : ∀ j, j < K → (L.getD j (0, [])).2.length = m := fun j hj => by rw [getS_at (by omega)]; exact hg.len _ (List.getElem_mem _)
  have h := joinE_ok (p := p) (k := k) (n := n) (p2 := p) (k2 := k2) (n2 := n2) (xs := (L.take K).map (·.1)) (L := partsTo p K2 L RR ((t + 1 : Nat) : Int) K) ⟨relB_of hp hp2, diffB_true ⟨fun x hx => ?_, hg'.one⟩, by rw [partsTo_len, hxl], alikeB_true fun i hi => ?_⟩ (by rw [hxl]; omega)
  · refine ⟨h.1, h.2.trans ?_⟩
    unfold movV
    rw [hxl, partsTo_get (show 0 < K by omega)]
  · obtain ⟨s, hs, rfl⟩ := List.mem_map.1 hx
    have := hg'.hold s hs
    rw [hn]; exact this
  · rw [partsTo_len] at hi
    unfold alikeAt
    rw [partsTo_get hi, partsTo_get (show 0 < K by omega)]
    refine ⟨?_, rfl, by show (dealV _ _ _ _ _).length = (dealV _ _ _ _ _).length; rw [dealV_len, dealV_len, hm i hi, hm 0 (by omega)]⟩
    unfold stB
    simp only [Bool.and_eq_true, decide_eq_true_eq]
    exact ⟨⟨by omega, by omega⟩, elB_of q1 q2 (dealV_els hp1 _ _ _ _)⟩
theorem movV_len {p : Int} {K K2 m : Nat} {L : List Shr} {RR : List (List Int)} (h0 : 0 < K) (hm : ∀ j, j < K → (L.getD j (0, [])).2.length = m) (h : Int) : (movV p K2 L RR K h).length = m := by
  refine joinL_len _ _ (by rw [partsTo_get h0, dealV_len]; exact hm 0 h0) (fun j => ?_) h0
  by_cases hj : j < K
  · rw [partsTo_get hj, dealV_len, hm j hj]; exact Nat.le_refl _
  · rw [show (partsTo p K2 L RR h K).getD j (0, []) = (0, []) by simp [List.getD, partsTo_len, show K ≤ j by omega]]; exact Nat.zero_le _
/-- What lies in the lists behind i old shares and t new holders of the next one. -/
def partsF (p2 : Int) (K2 N2 : Nat) (L : List Shr) (RR : List (List Int)) (i t h : Nat) : List Shr := if h < t then partsTo p2 K2 L RR ((h + 1 : Nat) : Int) (i + 1) else if h < N2 then partsTo p2 K2 L RR ((h + 1 : Nat) : Int) i else []
theorem partsF_start (p2 : Int) (K2 N2 : Nat) (L : List Shr) (RR : List (List Int)) (h : Nat) : ([] : List Shr) = partsF p2 K2 N2 L RR 0 0 h := by
  unfold partsF
  rw [if_neg (by omega)]
  split <;> simp [partsTo]
theorem partsF_next (p2 : Int) (K2 N2 : Nat) (L : List Shr) (RR : List (List Int)) (i h : Nat) : partsF p2 K2 N2 L RR i N2 h = partsF p2 K2 N2 L RR (i + 1) 0 h := by
  unfold partsF
  by_cases e : h < N2
  · rw [if_pos e, if_neg (by omega), if_pos e]
  · rw [if_neg e, if_neg e, if_neg (by omega), if_neg e]
theorem partsF_at {p2 : Int} {K2 N2 : Nat} {L : List Shr} {RR : List (List Int)} {i t : Nat} (ht : t < N2) : partsF p2 K2 N2 L RR i t t = partsTo p2 K2 L RR ((t + 1 : Nat) : Int) i := by
  unfold partsF
  rw [if_neg (by omega), if_pos ht]
theorem partsF_step {p2 : Int} {K2 N2 : Nat} {L : List Shr} {RR : List (List Int)} {i t : Nat} (ht : t < N2) (h : Nat) : (if h = t then partsF p2 K2 N2 L RR i t t ++ [(((t + 1 : Nat) : Int), dealV p2 K2 (L.getD i (0, [])).2 (RR.getD i []) ((t + 1 : Nat) : Int))] else partsF p2 K2 N2 L RR i t h) = partsF p2 K2 N2 L RR i (t + 1) h := by
  by_cases e : h = t
  · subst e
    rw [if_pos rfl, partsF_at ht, ← partsTo_succ]
    unfold partsF
    rw [if_pos (by omega)]
  · rw [if_neg e]
    unfold partsF
    by_cases e2 : h < t
    · rw [if_pos e2, if_pos (by omega)]
    · rw [if_neg e2, if_neg (show ¬ h < t + 1 by omega)]
theorem partsF_len {p2 : Int} {K2 N2 : Nat} {L : List Shr} {RR : List (List Int)} {i t h : Nat} : (partsF p2 K2 N2 L RR i t h).length ≤ i + 1 := by
  unfold partsF
  split
  · rw [partsTo_len]; omega
  · split
    · rw [partsTo_len]; omega
    · simp
def nils16 : Array Value := #[.slice none 0 0, .slice none 0 0, .slice none 0 0, .slice none 0 0, .slice none 0 0, .slice none 0 0, .slice none 0 0, .slice none 0 0, .slice none 0 0, .slice none 0 0, .slice none 0 0, .slice none 0 0, .slice none 0 0, .slice none 0 0, .slice none 0 0, .slice none 0 0]
theorem gotW_new (W : World) (B : Nat) (t : TypeId) (hB : B ≤ W.heap.size) : GotW (W.alloc (.cells nils16 t)) B W.heap.size (fun _ => False) (fun _ => .slice none 0 0) (fun _ => []) := by
  have e : nils16 = Array.replicate 16 (.slice none 0 0) := rfl
  have h := World.rowIs_alloc W (Array.replicate 16 (.slice none 0 0)) t (fun _ => .slice none 0 0) (fun i hi => by
    rw [Array.size_replicate] at hi
    simp [hi])
  rw [Array.size_replicate] at h
  rw [e]
  exact ⟨fun k hk => ⟨h.cell hk, h.frozen k⟩, fun k hk => gathP_nil _ _ _, fun k hk => by simp [Value.ownBlock], fun j k _ _ _ b hb => by simp [Value.ownBlock] at hb, fun k hk b hb => by simp [Value.ownBlock] at hb, fun h => h, fun b hb => hb.elim, hB, by simp⟩
/-- What Move keeps. -/
structure MovW (w0 W : World) (g gf : Nat) (p k n k2 n2 : Int) (K : Nat) (L : List Shr) (i : Nat) (P : Nat → Prop) (V : Nat → Value) (F : Nat → List Shr) : Prop where
  pl : Pl2 w0 W g p k n p k2 n2
  fr : W.rowIs gf 3 K (plRow L i)
  got : GotW W (gf + 1) (gf + 1) P V F
  lt : g + 1 < gf
section
variable {w0 W W' : World} {g gf : Nat} {p k n k2 n2 : Int} {K : Nat} {L : List Shr} {i : Nat} {P : Nat → Prop} {V : Nat → Value} {F : Nat → List Shr}
theorem MovW.below (h : MovW w0 W g gf p k n k2 n2 K L i P V F) (b : Below W.heap.size W W') : MovW w0 W' g gf p k n k2 n2 K L i P V F :=
  ⟨h.pl.below b, h.fr.of_block (b.block _ h.fr.lt), h.got.below b, h.lt⟩
theorem MovW.wide (h : MovW w0 W g gf p k n k2 n2 K L i P V F) (b : Below W.heap.size W W') : MovW w0 W' g gf p k n k2 n2 K L i (fun x => P x ∨ (W.heap.size ≤ x ∧ x < W'.heap.size)) V F :=
  ⟨h.pl.below b, h.fr.of_block (b.block _ h.fr.lt), h.got.wide b, h.lt⟩
theorem MovW.congr (h : MovW w0 W g gf p k n k2 n2 K L i P V F) {F' : Nat → List Shr} (e : ∀ j, j < 16 → F j = F' j) : MovW w0 W g gf p k n k2 n2 K L i P V F' := ⟨h.pl, h.fr, h.got.congr e, h.lt⟩
/-- The next holder is written down. -/
theorem MovW.from (h : MovW w0 W g gf p k n k2 n2 K L i P V F) {x : Int} (hx : (L.getD i (0, [])).1 = x) : MovW w0 (W.setCell ⟨gf, i, none⟩ (.int .i64 x)) g gf p k n k2 n2 K L (i + 1) P V F :=
  ⟨h.pl.keep (set1_below _ _ _ (Nat.le_refl _)) h.lt, (h.fr.set i _).congr fun j _ => plRow_step hx j, h.got.kept (r := gf) (But.set W ⟨gf, i, none⟩ _).grown (.inl (Nat.lt_succ_self gf)), h.lt⟩
/-- One list grows. -/
theorem MovW.app (h : MovW w0 W g gf p k n k2 n2 K L i P V F) {t : Nat} (ht : t < 16) (ad : Nat) (hd : Int) (gv : Value) (l : List Int) (hc0 : W.cell? ⟨ad, 0, none⟩ = some (.int .i64 hd)) (hc1 : W.cell? ⟨ad, 1, none⟩ = some gv)
    (hI : Ints W gv l) (hP : ∀ g, gv.ownBlock = some g → l ≠ [] → P g) (hlen : (F t).length < 1000) (ty : TypeId) :
    ∃ v' W', (Builtin.append_ #[23, 23] ty #[V t, .slice (some ⟨ad, 0, none⟩) 1 1]).run Tryd.prog W = .ok v' W' ∧ MovW w0 (W'.setCell ⟨gf + 1, t, none⟩ v') g gf p k n k2 n2 K L i P (fun j => if j = t then v' else V j) (fun j => if j = t then F t ++ [(hd, l)] else F j) ∧ W.grownBy W' (V t).ownBlock ∧ (∃ a c, v' = .slice a ((F t).length + 1) c) := by
  obtain ⟨v', W', h0, h1, h2, h3⟩ := h.got.app ht ad hd gv l hc0 hc1 hI hP hlen ty
  have hlt := fun b hb => (h.got.gs t ht).lt b hb
  have hbl : Below (gf + 1) W W' := (Below.refl _ W).grown h2 (Nat.le_of_lt h.got.lt) fun b hb => (hlt b hb).1
  have hb2 : Below (gf + 1) W (W'.setCell ⟨gf + 1, t, none⟩ v') := hbl.trans (set1_below _ _ _ (Nat.le_refl _))
  exact ⟨v', W', h0, ⟨h.pl.keep hb2 (by have := h.lt; omega), h.fr.of_block (hb2.block gf (Nat.lt_succ_self gf)), h1, h.lt⟩, h2, h3⟩
end
theorem SharesP.at {w : World} {P : Nat → Prop} {a : Option Addr} {n c : Nat} {L : List Shr} (h : SharesP w P (.slice a n c) L) {i : Nat} (hi : i < n) : ∃ b off v, a = some ⟨b, off, none⟩ ∧ w.cell? ⟨b, off + i * 2, none⟩ = some (.int .i64 (L.getD i (0, [])).1) ∧ w.cell? ⟨b, off + i * 2 + 1, none⟩ = some v ∧ Ints w v (L.getD i (0, [])).2 ∧ ∀ g, v.ownBlock = some g → (L.getD i (0, [])).2 ≠ [] → P g := by
  obtain ⟨a', c', h1, h2, h3, h4, h5⟩ := h
  simp only [Value.slice.injEq] at h1
  obtain ⟨rfl, hn, rfl⟩ := h1
  obtain ⟨q, off, e, _, hc⟩ := h5 (fun e => by subst e; simp at hn; omega)
  obtain ⟨v, k1, k2, k3, k4⟩ := hc i (by omega)
  exact ⟨q, off, v, e, k1, k2, k3, k4⟩
end Go.Proofs.YtomnncainedjdaaDoor
