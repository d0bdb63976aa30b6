
/- Holders join and leave: the mathematics. -/
import Derived.Test.YtomnncainedjdaaDoorJMth
import Derived.Test.YtomnncainedjdaaDoorHPk
namespace Go.Proofs.YtomnncainedjdaaDoor
open Go.RowKit Go.Sort
open Num
set_option linter.unusedVariables false

theorem linF_nil_getD {p : Int} (hp : 1 ≤ p) (b : List Int) (c : Int) (i : Nat) : Cg p ((linF p [] b c).getD i 0) (c * b.getD i 0) := by
  have := linF_getD p [] b c i
  rwa [show ([] : List Int).getD i 0 = 0 from rfl, Int.zero_add] at this
/-- A multiple that is added is the combination. -/
theorem lin_two {p : Int} (hp : 1 ≤ p) (a b : List Int) (c : Int) : linF p a (linF p [] b c) 1 = linF p a b c := by
  refine List.ext_getElem (by simp only [linF_len', List.length_nil, Nat.zero_max]) fun i h1 h2 => ?_
  have e1 := linF_getD p a (linF p [] b c) 1 i
  have e2 := linF_getD p a b c i
  rw [Int.one_mul] at e1
  have x1 := els_getD hp (linF_els' hp a (linF p [] b c) 1) i
  have x2 := els_getD hp (linF_els' hp a b c) i
  have e3 := e1.trans ((Cg.refl p _).add (linF_nil_getD hp b c i))
  have := Cg.el (e3.trans e2.symm) x1 x2
  rwa [getD_at h1, getD_at h2] at this

/-- What the first k parts give a new holder. -/
def joinL (p : Int) (xs : List Int) (L : List Shr) (k : Nat) : List Int := vatL p xs L 0 k
theorem joinL_one {p : Int} (xs : List Int) (L : List Shr) : linF p [] (L.getD 0 (0, [])).2 (wt p xs 0 0) = joinL p xs L 1 := rfl
theorem joinL_succ {p : Int} (hp : 1 ≤ p) (xs : List Int) (L : List Shr) (k : Nat) : linF p (joinL p xs L k) (linF p [] (L.getD k (0, [])).2 (wt p xs 0 k)) 1 = joinL p xs L (k + 1) := lin_two hp _ _ _
theorem joinL_len {p : Int} (xs : List Int) (L : List Shr) {m : Nat} (h0 : (L.getD 0 (0, [])).2.length = m) (h : ∀ j, (L.getD j (0, [])).2.length ≤ m) {k : Nat} (hk : 0 < k) : (joinL p xs L k).length = m := by
  obtain ⟨n, rfl⟩ : ∃ n, k = n + 1 := ⟨k - 1, by omega⟩
  exact vatL_len p xs L 0 h0 h n
theorem joinL_els {p : Int} (hp : 1 ≤ p) (xs : List Int) (L : List Shr) (k : Nat) : Els p (joinL p xs L k) := vatL_els hp xs L 0 k
theorem joinL_at {p : Int} (xs : List Int) (L : List Shr) {m : Nat} (h0 : (L.getD 0 (0, [])).2.length = m) (h : ∀ j, (L.getD j (0, [])).2.length ≤ m) {i : Nat} (hi : i < m) (k : Nat) : (joinL p xs L k).getD i 0 = sumTo (fun j => wt p xs 0 j * (L.getD j (0, [])).2.getD i 0) k % p :=
  vatL_at p xs L 0 h0 h hi k

/-- Whether two plans are over one field. -/
noncomputable def relB (p k n p2 k2 n2 : Int) : Bool := decide (p = p2) && planB p k n && planB p2 k2 n2
theorem relB_parts {p k n p2 k2 n2 : Int} (h : relB p k n p2 k2 n2 = true) : p = p2 ∧ planB p k n = true ∧ planB p2 k2 n2 = true := by
  unfold relB at h
  simp only [Bool.and_eq_true, decide_eq_true_eq] at h
  exact ⟨h.1.1, h.1.2, h.2⟩
theorem relB_of {p k n k2 n2 : Int} (h : planB p k n = true) (h2 : planB p k2 n2 = true) : relB p k n p k2 n2 = true := by
  unfold relB
  simp [h, h2]
/-- Whether numbers are different holders. -/
def diffP (n : Int) (l : List Int) : Prop := (∀ x ∈ l, 1 ≤ x ∧ x ≤ n) ∧ l.Nodup
noncomputable def diffB (n : Int) (l : List Int) : Bool := @decide (diffP n l) (Classical.propDecidable _)
theorem diffB_true {n : Int} {l : List Int} (h : diffP n l) : diffB n l = true := by unfold diffB; simp [h]
theorem diffB_false {n : Int} {l : List Int} (h : ¬ diffP n l) : diffB n l = false := by unfold diffB; simp [h]
theorem diffB_parts {n : Int} {l : List Int} (h : diffB n l = true) : diffP n l := by unfold diffB at h; simpa using h
/-- Whether shares can be added. -/
def alikeAt (p n : Int) (L : List Shr) (i : Nat) : Prop := stB p n (L.getD i (0, [])) = true ∧ (L.getD i (0, [])).1 = (L.getD 0 (0, [])).1 ∧ (L.getD i (0, [])).2.length = (L.getD 0 (0, [])).2.length
noncomputable def alikeB (p n : Int) (L : List Shr) : Bool := @decide (∀ i, i < L.length → alikeAt p n L i) (Classical.propDecidable _)
theorem alikeB_true {p n : Int} {L : List Shr} (h : ∀ i, i < L.length → alikeAt p n L i) : alikeB p n L = true := by unfold alikeB; simp only [decide_eq_true_eq]; exact h
theorem alikeB_false {p n : Int} {L : List Shr} {i : Nat} (hi : i < L.length) (h : ¬ alikeAt p n L i) : alikeB p n L = false := by
  unfold alikeB; simp only [decide_eq_false_iff_not]; exact fun h2 => h (h2 i hi)
theorem alikeB_parts {p n : Int} {L : List Shr} (h : alikeB p n L = true) : ∀ i, i < L.length → alikeAt p n L i := by
  unfold alikeB at h; simpa only [decide_eq_true_eq] using h
theorem alikeB_one {p n : Int} (s : Shr) : alikeB p n [s] = stB p n s := by
  cases h : stB p n s with
  | true =>
    refine alikeB_true fun i hi => ?_
    have : i = 0 := by simp at hi; omega
    subst this
    exact ⟨h, rfl, rfl⟩
  | false =>
    refine alikeB_false (i := 0) (by simp) fun h2 => ?_
    have := h2.1
    rw [show ([s] : List Shr).getD 0 (0, []) = s from rfl, h] at this
    cases this
/-- In a valid plan shares are alike if all can be added to the first one. -/
theorem alike_adds {p k n : Int} (hp : planB p k n = true) (L : List Shr) : (!(L.any fun s => addE p k n (L.getD 0 (0, [])) s != 0)) = alikeB p n L := by
  cases h : alikeB p n L with
  | true =>
    have h' := alikeB_parts h
    rw [Bool.not_eq_true', List.any_eq_false]
    intro s hs
    obtain ⟨i, hi, rfl⟩ := List.mem_iff_getElem.1 hs
    have a0 := h' 0 (by omega)
    have ai := h' i hi
    unfold alikeAt at a0 ai
    rw [getS_at hi] at ai
    have := (addE_ok (p := p) (k := k) (n := n) (a := L.getD 0 (0, [])) (b := L[i]) ⟨hp, a0.1, ai.1, ai.2.1.symm, ai.2.2.symm⟩).1
    rw [this]; simp
  | false =>
    rw [Bool.not_eq_false', List.any_eq_true]
    have : ¬ ∀ i, i < L.length → alikeAt p n L i := fun h2 => by rw [alikeB_true h2] at h; cases h
    simp only [Classical.not_forall] at this
    obtain ⟨i, hi, hn⟩ := this
    refine ⟨L[i], List.getElem_mem hi, ?_⟩
    have : ¬ addOk p k n (L.getD 0 (0, [])) L[i] := fun h2 => hn ⟨by rw [getS_at hi]; exact h2.2.2.1, by rw [getS_at hi]; exact h2.2.2.2.1.symm, by rw [getS_at hi]; exact h2.2.2.2.2.symm⟩
    rw [(addE_no this).1]; rfl
/-- What Split answers. -/
noncomputable def splitE (p k n p2 k2 n2 : Int) (s : Shr) (r : List Int) : Int := if relB p k n p2 k2 n2 = true ∧ stB p n s = true then dealE p2 k2 n2 s.2 r else 1
noncomputable def splitR (p k n p2 k2 n2 : Int) (s : Shr) (r : List Int) : List Shr := if splitE p k n p2 k2 n2 s r = 0 then dealF p2 (k2 - 1).toNat n2.toNat s.2 r else []
/-- What Join answers. -/
noncomputable def joinE (p k n p2 k2 n2 : Int) (xs : List Int) (L : List Shr) : Int :=
  if relB p k n p2 k2 n2 = true ∧ diffB n xs = true ∧ L.length = xs.length ∧ alikeB p2 n2 L = true then (if (xs.length : Int) < k then 5 else 0) else 1
noncomputable def joinR (p k n p2 k2 n2 : Int) (xs : List Int) (L : List Shr) : Shr := if joinE p k n p2 k2 n2 xs L = 0 then ((L.getD 0 (0, [])).1, joinL p xs L xs.length) else (0, [])
theorem joinE_ok {p k n p2 k2 n2 : Int} {xs : List Int} {L : List Shr} (h : relB p k n p2 k2 n2 = true ∧ diffB n xs = true ∧ L.length = xs.length ∧ alikeB p2 n2 L = true) (h2 : k ≤ (xs.length : Int)) : joinE p k n p2 k2 n2 xs L = 0 ∧ joinR p k n p2 k2 n2 xs L = ((L.getD 0 (0, [])).1, joinL p xs L xs.length) := by
  have e : joinE p k n p2 k2 n2 xs L = 0 := by unfold joinE; rw [if_pos h, if_neg (by omega)]
  exact ⟨e, by unfold joinR; rw [if_pos e]⟩
theorem joinE_few {p k n p2 k2 n2 : Int} {xs : List Int} {L : List Shr} (h : relB p k n p2 k2 n2 = true ∧ diffB n xs = true ∧ L.length = xs.length ∧ alikeB p2 n2 L = true) (h2 : (xs.length : Int) < k) : joinE p k n p2 k2 n2 xs L = 5 ∧ joinR p k n p2 k2 n2 xs L = (0, []) := by
  have e : joinE p k n p2 k2 n2 xs L = 5 := by unfold joinE; rw [if_pos h, if_pos h2]
  exact ⟨e, by unfold joinR; rw [if_neg (by omega)]⟩
theorem joinE_no {p k n p2 k2 n2 : Int} {xs : List Int} {L : List Shr} (h : ¬ (relB p k n p2 k2 n2 = true ∧ diffB n xs = true ∧ L.length = xs.length ∧ alikeB p2 n2 L = true)) : joinE p k n p2 k2 n2 xs L = 1 ∧ joinR p k n p2 k2 n2 xs L = (0, []) := by
  have e : joinE p k n p2 k2 n2 xs L = 1 := by unfold joinE; rw [if_neg h]
  exact ⟨e, by unfold joinR; rw [if_neg (by omega)]⟩
theorem splitE_ok {p k n p2 k2 n2 : Int} {s : Shr} {r : List Int} (h : relB p k n p2 k2 n2 = true ∧ stB p n s = true) : splitE p k n p2 k2 n2 s r = dealE p2 k2 n2 s.2 r ∧ splitR p k n p2 k2 n2 s r = dealR p2 k2 n2 s.2 r := by
  have e : splitE p k n p2 k2 n2 s r = dealE p2 k2 n2 s.2 r := by unfold splitE; rw [if_pos h]
  exact ⟨e, by unfold splitR dealR; rw [e]⟩
theorem splitE_no {p k n p2 k2 n2 : Int} {s : Shr} {r : List Int} (h : ¬ (relB p k n p2 k2 n2 = true ∧ stB p n s = true)) : splitE p k n p2 k2 n2 s r = 1 ∧ splitR p k n p2 k2 n2 s r = [] := by
  have e : splitE p k n p2 k2 n2 s r = 1 := by unfold splitE; rw [if_neg h]
  exact ⟨e, by unfold splitR; rw [if_neg (by omega)]⟩
/-- The first error of so many Splits. -/
noncomputable def splitsE (p k n p2 k2 n2 : Int) (L : List Shr) (RR : List (List Int)) : Nat → Int
  | 0 => 0
  | i + 1 => if splitsE p k n p2 k2 n2 L RR i = 0 then splitE p k n p2 k2 n2 (L.getD i (0, [])) (RR.getD i []) else splitsE p k n p2 k2 n2 L RR i
theorem splitsE_stop {p k n p2 k2 n2 : Int} {L : List Shr} {RR : List (List Int)} {i : Nat} (h : splitsE p k n p2 k2 n2 L RR i ≠ 0) : ∀ j, splitsE p k n p2 k2 n2 L RR (i + j) = splitsE p k n p2 k2 n2 L RR i
  | 0 => rfl
  | j + 1 => by
    have ih := splitsE_stop h j
    show (if splitsE p k n p2 k2 n2 L RR (i + j) = 0 then _ else splitsE p k n p2 k2 n2 L RR (i + j)) = _
    rw [if_neg (by rw [ih]; exact h), ih]
/-- The first parts that holder h gets. -/
def partsTo (p2 : Int) (K2 : Nat) (L : List Shr) (RR : List (List Int)) (h : Int) (i : Nat) : List Shr := (List.range i).map fun j => (h, dealV p2 K2 (L.getD j (0, [])).2 (RR.getD j []) h)
theorem partsTo_len (p2 : Int) (K2 : Nat) (L : List Shr) (RR : List (List Int)) (h : Int) (i : Nat) : (partsTo p2 K2 L RR h i).length = i := by simp [partsTo]
theorem partsTo_succ (p2 : Int) (K2 : Nat) (L : List Shr) (RR : List (List Int)) (h : Int) (i : Nat) : partsTo p2 K2 L RR h (i + 1) = partsTo p2 K2 L RR h i ++ [(h, dealV p2 K2 (L.getD i (0, [])).2 (RR.getD i []) h)] := by simp [partsTo, List.range_succ]
theorem partsTo_get {p2 : Int} {K2 : Nat} {L : List Shr} {RR : List (List Int)} {h : Int} {i j : Nat} (hj : j < i) : (partsTo p2 K2 L RR h i).getD j (0, []) = (h, dealV p2 K2 (L.getD j (0, [])).2 (RR.getD j []) h) := by simp [partsTo, List.getD, hj]
/-- The values of a new holder. -/
def movV (p : Int) (K2 : Nat) (L : List Shr) (RR : List (List Int)) (K : Nat) (h : Int) : List Int := joinL p ((L.take K).map (·.1)) (partsTo p K2 L RR h K) K
/-- What Move answers. -/
noncomputable def moveE (p k n p2 k2 n2 : Int) (L : List Shr) (RR : List (List Int)) : Int :=
  if combE p k n L = 0 then (if relB p k n p2 k2 n2 = true then (if (RR.length : Int) < k then 5 else splitsE p k n p2 k2 n2 L RR k.toNat) else 1) else combE p k n L
noncomputable def moveR (p k n p2 k2 n2 : Int) (L : List Shr) (RR : List (List Int)) : List Shr := if moveE p k n p2 k2 n2 L RR = 0 then rowL n2.toNat (movV p (k2 - 1).toNat L RR k.toNat) else []

/-! Sums of polynomials with weights. -/
def mixP (c : Nat → Int) (f : Nat → List Int) : Nat → List Int
  | 0 => []
  | n + 1 => addL (mixP c f n) (smulL (c n) (f n))
theorem mixP_len {c : Nat → Int} {f : Nat → List Int} {k : Nat} (h : ∀ j, (f j).length ≤ k) : ∀ n, (mixP c f n).length ≤ k
  | 0 => Nat.zero_le _
  | n + 1 => addL_le _ _ _ (mixP_len h n) (by rw [smulL_len]; exact h n)
theorem mixP_E (c : Nat → Int) (f : Nat → List Int) (x : Int) : ∀ n, E (mixP c f n) x = sumTo (fun j => c j * E (f j) x) n
  | 0 => rfl
  | n + 1 => by
    show E (addL (mixP c f n) (smulL (c n) (f n))) x = _
    rw [E_addL, E_smulL, mixP_E c f x n]
    rfl
/-- New holders' values lie on polynomials that have the old secret. -/
theorem mov_sec {p : Int} (hp : PrmI p) {N K K2 m : Nat} {L : List Shr} {RR : List (List Int)} {S : List Int} {f : Nat → List Int} (hN : (N : Int) < p) (hg : Gd p N m L) (hK : K ≤ L.length) (h0 : 0 < K) (hm : S.length = m) (hS : ∀ i, i < m → shV p K L i 0 = S.getD i 0) : ∃ g, SecV p (K2 + 1) S g (movV p K2 L RR K) := by
  have hp1 : 1 ≤ p := by have := hp.1; omega
  obtain ⟨xs, hxs⟩ : ∃ xs, (L.take K).map (·.1) = xs := ⟨_, rfl⟩
  have hxl : xs.length = K := by rw [← hxs, List.length_map, List.length_take]; omega
  have hLm : ∀ j, j < K → (L.getD j (0, [])).2.length = m := fun j hj => by rw [getS_at (by omega)]; exact hg.len _ (List.getElem_mem _)
  have hLe : ∀ j, j < K → Els p (L.getD j (0, [])).2 := fun j hj => by rw [getS_at (by omega)]; exact hg.els _ (List.getElem_mem _)
  have hp0 : ∀ h, ((partsTo p K2 L RR h K).getD 0 (0, [])).2.length = m := fun h => by rw [partsTo_get h0, dealV_len]; exact hLm 0 h0
  have hpj : ∀ h j, ((partsTo p K2 L RR h K).getD j (0, [])).2.length ≤ m := fun h j => by
    by_cases hj : j < K
    · rw [partsTo_get hj, dealV_len, hLm j hj]; exact Nat.le_refl _
    · rw [show (partsTo p K2 L RR h K).getD j (0, []) = (0, []) by simp [List.getD, partsTo_len, show K ≤ j by omega]]; exact Nat.zero_le _
  refine ⟨fun i => mixP (wt p xs 0) (fun j => polyL K2 (L.getD j (0, [])).2 (RR.getD j []) i) K, fun i => mixP_len (fun j => polyL_len _ _ _ _) K, fun h => joinL_els hp1 _ _ _, fun h => ?_, fun h i hi => ?_, fun i hi => ?_⟩
  · unfold movV; rw [joinL_len _ _ (hp0 h) (hpj h) h0, hm]
  · unfold movV
    rw [hxs, joinL_at _ _ (hp0 h) (hpj h) (by omega), mixP_E]
    refine (sumTo_cg K fun j hj => (Cg.refl p _).mul ?_).eq
    rw [partsTo_get hj]
    have : (dealV p K2 (L.getD j (0, [])).2 (RR.getD j []) h).getD i 0 = E (polyL K2 (L.getD j (0, [])).2 (RR.getD j []) i) h % p := by
      have hl : i < (L.getD j (0, [])).2.length := by rw [hLm j hj]; omega
      unfold dealV
      rw [getD_at (by rw [List.length_map, List.length_range]; exact hl), List.getElem_map, List.getElem_range]
    rw [this]
    exact Cg.mod p _
  · rw [mixP_E, ← hS i (by omega)]
    unfold shV ipv
    rw [hxs, hxl]
    refine (sumTo_cg K fun j hj => (Cg.refl p _).mul ?_).eq
    have e : ((L.take K).map fun s : Shr => s.2.getD i 0).getD j 0 = (L.getD j (0, [])).2.getD i 0 := by
      rw [map_getD]
      congr 2
      simp [List.getD, hj]
    rw [e, ← polyL_zero (k := K2) (r := RR.getD j []) (i := i) hp1 (hLe j hj)]
    exact (Cg.mod p _).symm
/-- A move that goes through. -/
theorem move_ok {p k n k2 n2 : Int} {K N K2 N2 m : Nat} {L : List Shr} {RR : List (List Int)} (hp : planB p k n = true) (hp2 : planB p k2 n2 = true) (hk : k = (K : Int)) (hn : n = (N : Int)) (hk2 : k2 = (K2 : Int) + 1) (hn2 : n2 = (N2 : Int)) (hg : Gd p N m L) (hm : m ≤ 2048) (hK : K ≤ L.length) (hR : K ≤ RR.length) (hr : ∀ j, j < K → Els p (RR.getD j []) ∧ (RR.getD j []).length = m * K2) :
    moveE p k n p k2 n2 L RR = 0 ∧ moveR p k n p k2 n2 L RR = rowL N2 (movV p K2 L RR K) := by
  obtain ⟨q1, q2, q3, q4, q5, q6⟩ := planB_parts hp
  have hp1 : 1 ≤ p := by have := q1.1; omega
  have hgb : goodB p n L = true := by rw [hn]; exact goodB_of_gd q1 q2 hg hm
  have hc := (combE_ok (K := K) hp hgb hk hK).1
  have hrel := relB_of hp hp2
  have hs : ∀ i, i ≤ K → splitsE p k n p k2 n2 L RR i = 0 := fun i => by
    induction i with
    | zero => intro _; rfl
    | succ i ih =>
      intro hi
      show (if splitsE p k n p k2 n2 L RR i = 0 then _ else _) = _
      rw [if_pos (ih (by omega))]
      have hL : L.getD i (0, []) = L[i] := getS_at (by omega)
      have hmem : L[i] ∈ L := List.getElem_mem _
      have hst : stB p n (L.getD i (0, [])) = true := (goodB_parts hgb i (by omega)).1
      rw [(splitE_ok ⟨hrel, hst⟩).1]
      refine (deal_ok_of (K := K2) (N := N2) hp2 (by omega) hn2 (by rw [hL]; exact hg.els _ hmem) (hr i (by omega)).1 ?_).1
      rw [(hr i (by omega)).2, hL, hg.len _ hmem]
  have e : moveE p k n p k2 n2 L RR = 0 := by
    unfold moveE
    rw [if_pos hc, if_pos hrel, if_neg (by omega), hk, Int.toNat_natCast]
    rw [← hk]
    exact hs K (Nat.le_refl _)
  refine ⟨e, ?_⟩
  unfold moveR
  rw [if_pos e, hk2, hn2, hk, Int.add_sub_cancel, Int.toNat_natCast, Int.toNat_natCast, Int.toNat_natCast]
end Go.Proofs.YtomnncainedjdaaDoor
