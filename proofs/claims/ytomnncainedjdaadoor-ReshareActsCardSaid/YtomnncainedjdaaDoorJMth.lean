
/- Refreshing shares: the mathematics. -/
import Derived.Test.YtomnncainedjdaaDoorHSum
namespace Go.Proofs.YtomnncainedjdaaDoor
open Go.RowKit Go.Sort
open Num
set_option linter.unusedVariables false

theorem getS_at {L : List Shr} {j : Nat} (hj : j < L.length) : L.getD j (0, []) = L[j] := by simp [List.getD, hj]
/-- Lists that fit lie on polynomials. -/
theorem fits_pol {p : Int} (hp : PrmI p) {n m k : Nat} (hn : (n : Int) < p) {l : List Shr} (hg : Gd p n m l) (hk : k ≤ l.length) (h0 : 0 < l.length) (h : FitsP p k l) : ∃ f, On p k m f l := by
  have hp1 : 1 ≤ p := by have := hp.1; omega
  have hg' := hg.take k
  have hl : ((l.take k).map (·.1)).length = k := by rw [List.length_map, List.length_take]; omega
  refine ⟨fun i => lag p ((l.take k).map (·.1)) ((l.take k).map fun s => s.2.getD i 0) ((l.take k).map (·.1)).length, fun i => ?_, fun s hs i hi => ?_⟩
  · have := lag_len p ((l.take k).map (·.1)) ((l.take k).map fun s => s.2.getD i 0) _ (Nat.le_refl _)
    show (lag _ _ _ _).length ≤ k
    omega
  · obtain ⟨j, hj, rfl⟩ := List.mem_iff_getElem.1 hs
    have e : shV p k l i l[j].1 = E (lag p ((l.take k).map (·.1)) ((l.take k).map fun s => s.2.getD i 0) ((l.take k).map (·.1)).length) l[j].1 % p := ipv_lag _ _ _ _
    refine Eq.trans ?_ e
    by_cases hjk : j < k
    · have hjl : j < (l.take k).length := by rw [List.length_take]; omega
      have h1 : ((l.take k).map (·.1)).getD j 0 = l[j].1 := by
        rw [List.getD_eq_getElem?_getD, List.getElem?_map, List.getElem?_eq_getElem hjl]; simp
      have h2 : ((l.take k).map fun s : Shr => s.2.getD i 0).getD j 0 = l[j].2.getD i 0 := by
        rw [List.getD_eq_getElem?_getD, List.getElem?_map, List.getElem?_eq_getElem hjl]; simp
      have h3 := ipv_at hp hg'.one (hg'.xs hn) (j := j) (by rw [hl]; exact hjk) (ys := (l.take k).map fun s : Shr => s.2.getD i 0) (by rw [h2]; exact els_getD hp1 (hg.els _ hs) i)
      rw [h1, h2] at h3
      exact h3.symm
    · have h3 := h i (by rw [headD_len hg h0]; exact hi) j (by omega) hj
      rw [getS_at hj] at h3
      exact h3.symm

/-- The shares of all holders, by their values. -/
def rowL (n : Nat) (V : Int → List Int) : List Shr := (List.range n).map fun j => (((j + 1 : Nat) : Int), V ((j + 1 : Nat) : Int))
theorem rowL_len (n : Nat) (V : Int → List Int) : (rowL n V).length = n := by simp [rowL]
theorem rowL_get {n : Nat} {V : Int → List Int} {j : Nat} (hj : j < n) : (rowL n V).getD j (0, []) = (((j + 1 : Nat) : Int), V ((j + 1 : Nat) : Int)) := by simp [rowL, List.getD, hj]
theorem rowL_mem {n : Nat} {V : Int → List Int} {s : Shr} (h : s ∈ rowL n V) : ∃ j, j < n ∧ s = (((j + 1 : Nat) : Int), V ((j + 1 : Nat) : Int)) := by
  obtain ⟨j, hj, rfl⟩ := List.mem_map.1 h
  exact ⟨j, List.mem_range.1 hj, rfl⟩
theorem dealF_row (p : Int) (K N : Nat) (s r : List Int) : dealF p K N s r = rowL N (dealV p K s r) := rfl
theorem rowL_one (n : Nat) (V : Int → List Int) : ((rowL n V).map (·.1)).Nodup := by
  unfold rowL
  rw [List.map_map, List.nodup_iff_pairwise_ne, List.pairwise_map]
  refine (List.pairwise_lt_range (n := n)).imp fun {a b} h => ?_
  show ((a + 1 : Nat) : Int) ≠ ((b + 1 : Nat) : Int)
  omega

/-- Values on polynomials that have the secret S at 0. -/
structure SecV (p : Int) (k : Nat) (S : List Int) (f : Nat → List Int) (V : Int → List Int) : Prop where
  len : ∀ i, (f i).length ≤ k
  els : ∀ h, Els p (V h)
  siz : ∀ h, (V h).length = S.length
  val : ∀ h i, i < S.length → (V h).getD i 0 = E (f i) h % p
  sec : ∀ i, i < S.length → E (f i) 0 % p = S.getD i 0
theorem secV_deal {p : Int} (hp : 1 ≤ p) {K : Nat} {s r : List Int} (hs : Els p s) : SecV p (K + 1) s (polyL K s r) (dealV p K s r) :=
  ⟨fun i => polyL_len K s r i, fun h => dealV_els hp K s r h, fun h => dealV_len p K s r h, fun h i hi => by simp [dealV, List.getD, hi], fun i hi => polyL_zero hp hs⟩
def addV (p : Int) (V U : Int → List Int) (h : Int) : List Int := linF p (V h) (U h) 1
theorem SecV.add {p : Int} (hp : 1 ≤ p) {k : Nat} {S T : List Int} {f g : Nat → List Int} {V U : Int → List Int} (h : SecV p k S f V) (q : SecV p k T g U) (hl : T.length = S.length) : SecV p k (linF p S T 1) (fun i => addL (f i) (g i)) (addV p V U) := by
  have hL : (linF p S T 1).length = S.length := by rw [linF_len', hl]; simp
  refine ⟨fun i => addL_le _ _ _ (h.len i) (q.len i), fun x => linF_els' hp _ _ _, fun x => ?_, fun x i hi => ?_, fun i hi => ?_⟩
  · rw [hL]; unfold addV; rw [linF_len', h.siz, q.siz, hl]; simp
  · rw [hL] at hi
    refine el_cg (els_getD hp (linF_els' hp _ _ _) i) ?_
    have e := linF_getD p (V x) (U x) 1 i
    rw [h.val x i hi, q.val x i (by omega), Int.one_mul] at e
    refine e.trans ?_
    rw [E_addL]
    exact (Cg.mod p _).symm.symm.add (Cg.mod p _)
  · rw [hL] at hi
    refine (el_cg (els_getD hp (linF_els' hp _ _ _) i) ?_).symm
    refine (linF_getD p S T 1 i).trans ?_
    rw [E_addL, Int.one_mul, ← h.sec i hi, ← q.sec i (by omega)]
    exact (Cg.mod p _).add (Cg.mod p _)
theorem SecV.gd {p : Int} {k n : Nat} {S : List Int} {f : Nat → List Int} {V : Int → List Int} (h : SecV p k S f V) : Gd p n S.length (rowL n V) := by
  refine ⟨fun x hx => ?_, fun x hx => ?_, fun x hx => ?_, rowL_one n V⟩
  · obtain ⟨j, hj, rfl⟩ := rowL_mem hx
    exact ⟨by show (1 : Int) ≤ ((j + 1 : Nat) : Int); omega, by show ((j + 1 : Nat) : Int) ≤ n; omega⟩
  · obtain ⟨j, hj, rfl⟩ := rowL_mem hx
    exact h.els _
  · obtain ⟨j, hj, rfl⟩ := rowL_mem hx
    exact h.siz _
theorem SecV.on {p : Int} {k n : Nat} {S : List Int} {f : Nat → List Int} {V : Int → List Int} (h : SecV p k S f V) : On p k S.length f (rowL n V) := by
  refine ⟨h.len, fun x hx i hi => ?_⟩
  obtain ⟨j, hj, rfl⟩ := rowL_mem hx
  exact h.val _ i hi
/-- The secret comes back. -/
theorem SecV.back {p : Int} {k n : Nat} {S : List Int} {f : Nat → List Int} {V : Int → List Int} {Q : List Shr} (h : SecV p k S f V) (hp : PrmI p) (hn : (n : Int) < p) (hg : Gd p n S.length Q) (ho : On p k S.length f Q) (hl : k ≤ Q.length) (hk : 1 ≤ k) : cmbV p k Q = S := by
  rw [cmb_on hp hn hg ho hl hk]
  refine List.ext_getElem (by simp) fun i h1 h2 => ?_
  rw [List.getElem_map, List.getElem_range, h.sec i h2, getD_at h2]
theorem lin_zero {p : Int} (hp : 1 ≤ p) {S T : List Int} (hS : Els p S) (hl : T.length = S.length) (hT : ∀ x ∈ T, x = 0) : linF p S T 1 = S := by
  refine List.ext_getElem (by rw [linF_len', hl]; simp) fun i h1 h2 => ?_
  have e := linF_getD p S T 1 i
  have h3 : T.getD i 0 = 0 := by rw [getD_lt (by omega)]; exact hT _ (List.getElem_mem _)
  have h4 := els_getD hp hS i
  have h5 := els_getD hp (linF_els' hp S T 1) i
  rw [h3, Int.mul_zero, Int.add_zero] at e
  have h6 := el_cg h5 e
  rw [Int.emod_eq_of_lt h4.1 h4.2, getD_at h1, getD_at h2] at h6
  exact h6
/-- Adding is the same in each order. -/
theorem add_orders {p : Int} (hp : 1 ≤ p) (V A B : Int → List Int) (hA : ∀ h, (A h).length = (V h).length) (hB : ∀ h, (B h).length = (V h).length) : addV p V (addV p A B) = addV p (addV p V B) A := by
  funext h
  unfold addV
  refine List.ext_getElem (by simp only [linF_len', hA, hB, Nat.max_self]) fun i h1 h2 => ?_
  have e1 := linF_getD p (V h) (linF p (A h) (B h) 1) 1 i
  have e2 := linF_getD p (A h) (B h) 1 i
  have e3 := linF_getD p (linF p (V h) (B h) 1) (A h) 1 i
  have e4 := linF_getD p (V h) (B h) 1 i
  have x1 := els_getD hp (linF_els' hp (V h) (linF p (A h) (B h) 1) 1) i
  have x2 := els_getD hp (linF_els' hp (linF p (V h) (B h) 1) (A h) 1) i
  rw [getD_at h1] at e1 x1
  rw [getD_at h2] at e3 x2
  rw [Int.one_mul] at e1 e2 e3 e4
  have k1 := e1.trans ((Cg.refl p _).add e2)
  have k2 := e3.trans (e4.add (Cg.refl p _))
  rw [el_cg x1 k1, el_cg x2 k2]
  congr 1
  omega

/-! Which share of another list is added. -/
def hasB (Z : List Shr) (h : Int) : Bool := Z.any fun z => z.1 == h
def pick (Z : List Shr) (h : Int) : List Int := ((Z.find? fun z => z.1 == h).getD (0, [])).2
def apL (p : Int) (L Z : List Shr) : List Shr := L.map fun s => (s.1, linF p s.2 (pick Z s.1) 1)
theorem apL_len (p : Int) (L Z : List Shr) : (apL p L Z).length = L.length := by simp [apL]
theorem pick_at {Z : List Shr} (ho : (Z.map (·.1)).Nodup) {z : Shr} (hz : z ∈ Z) : pick Z z.1 = z.2 := by
  have : ∃ y, Z.find? (fun y => y.1 == z.1) = some y := Option.isSome_iff_exists.1 (List.find?_isSome.2 ⟨z, hz, by simp⟩)
  obtain ⟨y, hy⟩ := this
  unfold pick
  rw [hy]
  have h1 := List.find?_some hy
  have h2 := List.mem_of_find?_eq_some hy
  simp only [beq_iff_eq] at h1
  obtain ⟨i, hi, rfl⟩ := List.mem_iff_getElem.1 hz
  obtain ⟨j, hj, rfl⟩ := List.mem_iff_getElem.1 h2
  have : j = i := by
    rw [List.nodup_iff_pairwise_ne, List.pairwise_iff_getElem] at ho
    rcases Nat.lt_trichotomy i j with h | h | h
    · exact absurd (by rw [List.getElem_map, List.getElem_map]; exact h1.symm) (ho i j (by simpa using hi) (by simpa using hj) h)
    · exact h.symm
    · exact absurd (by rw [List.getElem_map, List.getElem_map]; exact h1) (ho j i (by simpa using hj) (by simpa using hi) h)
  subst this
  rfl
theorem hasB_at {Z : List Shr} {z : Shr} (hz : z ∈ Z) : hasB Z z.1 = true := List.any_eq_true.2 ⟨z, hz, by simp⟩
theorem rowL_in {n : Nat} {V : Int → List Int} {j : Nat} (hj : j < n) : (((j + 1 : Nat) : Int), V ((j + 1 : Nat) : Int)) ∈ rowL n V := List.mem_map.2 ⟨j, List.mem_range.2 hj, rfl⟩
theorem pick_row {n : Nat} {V : Int → List Int} {j : Nat} (hj : j < n) : pick (rowL n V) ((j + 1 : Nat) : Int) = V ((j + 1 : Nat) : Int) := pick_at (rowL_one n V) (rowL_in hj)
theorem apL_row (p : Int) (n : Nat) (V U : Int → List Int) : apL p (rowL n V) (rowL n U) = rowL n (addV p V U) := by
  unfold apL
  conv => lhs; arg 2; unfold rowL
  rw [List.map_map]
  unfold rowL
  refine List.map_congr_left fun j hj => ?_
  have := pick_row (V := U) (List.mem_range.1 hj)
  unfold rowL at this
  simp only [Function.comp, this]
  rfl
/-- What Apply answers. -/
noncomputable def apE (p k n : Int) (L Z : List Shr) : Int :=
  @ite _ (planB p k n = true ∧ goodB p n L = true ∧ goodB p n Z = true) (Classical.propDecidable _)
    (@ite _ (∀ s ∈ L, hasB Z s.1 = true) (Classical.propDecidable _) (@ite _ (∀ s ∈ L, s.2.length = (pick Z s.1).length) (Classical.propDecidable _) 0 2) 5) 1
noncomputable def apR (p k n : Int) (L Z : List Shr) : List Shr := if apE p k n L Z = 0 then apL p L Z else []
theorem apE_ok {p k n : Int} {L Z : List Shr} (h1 : planB p k n = true ∧ goodB p n L = true ∧ goodB p n Z = true) (h2 : ∀ s ∈ L, hasB Z s.1 = true) (h3 : ∀ s ∈ L, s.2.length = (pick Z s.1).length) : apE p k n L Z = 0 ∧ apR p k n L Z = apL p L Z := by
  have e : apE p k n L Z = 0 := by unfold apE; rw [if_pos h1, if_pos h2, if_pos h3]
  exact ⟨e, by unfold apR; rw [if_pos e]⟩
theorem apE_no1 {p k n : Int} {L Z : List Shr} (h1 : ¬ (planB p k n = true ∧ goodB p n L = true ∧ goodB p n Z = true)) : apE p k n L Z = 1 ∧ apR p k n L Z = [] := by
  have e : apE p k n L Z = 1 := by unfold apE; rw [if_neg h1]
  exact ⟨e, by unfold apR; rw [if_neg (by omega)]⟩
theorem apE_no5 {p k n : Int} {L Z : List Shr} (h1 : planB p k n = true ∧ goodB p n L = true ∧ goodB p n Z = true) (h2 : ¬ ∀ s ∈ L, hasB Z s.1 = true) : apE p k n L Z = 5 ∧ apR p k n L Z = [] := by
  have e : apE p k n L Z = 5 := by unfold apE; rw [if_pos h1, if_neg h2]
  exact ⟨e, by unfold apR; rw [if_neg (by omega)]⟩
theorem apE_no2 {p k n : Int} {L Z : List Shr} (h1 : planB p k n = true ∧ goodB p n L = true ∧ goodB p n Z = true) (h2 : ∀ s ∈ L, hasB Z s.1 = true) (h3 : ¬ ∀ s ∈ L, s.2.length = (pick Z s.1).length) : apE p k n L Z = 2 ∧ apR p k n L Z = [] := by
  have e : apE p k n L Z = 2 := by unfold apE; rw [if_pos h1, if_pos h2, if_neg h3]
  exact ⟨e, by unfold apR; rw [if_neg (by omega)]⟩
theorem ap_row {p k n : Int} {K N : Nat} {S T : List Int} {f g : Nat → List Int} {V U : Int → List Int} (hp : planB p k n = true) (hn : n = (N : Int)) (h : SecV p K S f V) (q : SecV p K T g U) (hl : T.length = S.length) (hm : S.length ≤ 2048) : apE p k n (rowL N V) (rowL N U) = 0 ∧ apR p k n (rowL N V) (rowL N U) = rowL N (addV p V U) := by
  obtain ⟨q1, q2, q3, q4, q5, q6⟩ := planB_parts hp
  subst hn
  rw [← apL_row]
  refine apE_ok ⟨hp, goodB_of_gd q1 q2 h.gd hm, goodB_of_gd q1 q2 q.gd (by omega)⟩ (fun s hs => ?_) (fun s hs => ?_)
  · obtain ⟨j, hj, rfl⟩ := rowL_mem hs
    exact hasB_at (z := (((j + 1 : Nat) : Int), U ((j + 1 : Nat) : Int))) (rowL_in hj)
  · obtain ⟨j, hj, rfl⟩ := rowL_mem hs
    show (V _).length = (pick _ _).length
    rw [pick_row hj, h.siz, q.siz, hl]
/-- The sums of lists. -/
noncomputable def sumGo (p k n : Int) : List Shr → List (List Shr) → Int × List Shr
  | L, [] => (0, L)
  | L, Z :: r => if apE p k n L Z = 0 then sumGo p k n (apL p L Z) r else (apE p k n L Z, [])
noncomputable def sumR (p k n : Int) : List (List Shr) → Int × List Shr
  | [] => (5, [])
  | L :: r => if planB p k n = true ∧ goodB p n L = true then sumGo p k n L r else (1, [])
/-- Which lists are zeros. -/
def ofAllB (n : Int) (L : List Shr) : Bool := decide ((L.length : Int) = n) && decide (∀ i, i < L.length → (L.getD i (0, [])).1 = ((i + 1 : Nat) : Int))
noncomputable def chkB (p k n : Int) (L : List Shr) : Bool := ofAllB n L && fitB p k n L && (combL p k n L).all (· == 0)
theorem ofAll_row {n : Int} {N : Nat} (hn : n = (N : Int)) (V : Int → List Int) : ofAllB n (rowL N V) = true := by
  unfold ofAllB
  rw [rowL_len, Bool.and_eq_true, decide_eq_true_eq, decide_eq_true_eq]
  exact ⟨hn.symm, fun i hi => by rw [rowL_get hi]⟩
theorem chk_row {p k n : Int} {K N : Nat} {S : List Int} {f : Nat → List Int} {V : Int → List Int} (hp : planB p k n = true) (hk : k = (K : Int)) (hn : n = (N : Int)) (h : SecV p K S f V) (hm : S.length ≤ 2048) : chkB p k n (rowL N V) = S.all (· == 0) := by
  obtain ⟨q1, q2, q3, q4, q5, q6⟩ := planB_parts hp
  have hc := combE_ok (K := K) (L := rowL N V) hp (by rw [hn]; exact goodB_of_gd q1 q2 h.gd hm) hk (by rw [rowL_len]; omega)
  rw [h.back q1 (n := N) (by omega) h.gd h.on (by rw [rowL_len]; omega) (by omega)] at hc
  unfold chkB
  rw [ofAll_row hn, fitB_on hp hk hn h.gd hm h.on, hc.2]
  rfl
/-- The secret of a list that was turned. -/
theorem SecV.turn {p k n : Int} {K N m : Nat} {S : List Int} {f : Nat → List Int} {V : Int → List Int} {L2 : List Shr} (hp : planB p k n = true) (hk : k = (K : Int)) (hn : n = (N : Int)) (h : SecV p K S f V) (hm : S.length ≤ 2048) (hq : L2.Perm (rowL N V)) (h1 : K ≤ m) (h2 : m ≤ N) : combE p k n (L2.take m) = 0 ∧ combL p k n (L2.take m) = S := by
  obtain ⟨q1, q2, q3, q4, q5, q6⟩ := planB_parts hp
  have hg := turn_gd h.gd hq m
  have ho := turn_on h.on hq m
  have hl : (L2.take m).length = m := by rw [List.length_take, hq.length_eq, rowL_len]; omega
  have hc := combE_ok (K := K) (L := L2.take m) hp (by rw [hn]; exact goodB_of_gd q1 q2 hg hm) hk (by omega)
  rw [h.back q1 (n := N) (by omega) hg ho (by omega) (by omega)] at hc
  exact hc
theorem SecV.comb {p k n : Int} {K N : Nat} {S : List Int} {f : Nat → List Int} {V : Int → List Int} (hp : planB p k n = true) (hk : k = (K : Int)) (hn : n = (N : Int)) (h : SecV p K S f V) (hm : S.length ≤ 2048) : combE p k n (rowL N V) = 0 ∧ combL p k n (rowL N V) = S := by
  have hkn := (planB_parts hp).2.2.2.1
  have := h.turn hp hk hn hm (List.Perm.refl _) (m := N) (by omega) (Nat.le_refl _)
  rwa [List.take_of_length_le (by rw [rowL_len]; exact Nat.le_refl _)] at this
/-- An old share among new ones. -/
theorem old_fits {p k n : Int} {K N j : Nat} {S T : List Int} {f g : Nat → List Int} {V U : Int → List Int} (hp : planB p k n = true) (hk : k = (K : Int)) (hn : n = (N : Int)) (h : SecV p K S f V) (q : SecV p K T g U) (hl : T.length = S.length) (hm : S.length ≤ 2048) (hj : j < N) (h0 : 0 < S.length) :
    fitB p k n ((rowL N (addV p V U)).set j (((j + 1 : Nat) : Int), V ((j + 1 : Nat) : Int))) = (!((U ((j + 1 : Nat) : Int)).any fun x => x != 0) || decide (n = k)) := by
  obtain ⟨q1, q2, q3, q4, q5, q6⟩ := planB_parts hp
  have hp1 : 1 ≤ p := by have := q1.1; omega
  have hs := h.add hp1 q hl
  have hL : (linF p S T 1).length = S.length := by rw [linF_len', hl]; simp
  have hgd : Gd p N S.length (rowL N (addV p V U)) := by have := hs.gd (n := N); rwa [hL] at this
  obtain ⟨H, hH⟩ : ∃ H : Int, ((j + 1 : Nat) : Int) = H := ⟨_, rfl⟩
  obtain ⟨M, hM⟩ : ∃ M, (rowL N (addV p V U)).set j (((j + 1 : Nat) : Int), V ((j + 1 : Nat) : Int)) = M := ⟨_, rfl⟩
  have hlen : M.length = N := by rw [← hM, List.length_set, rowL_len]
  have hget : ∀ i, i < N → M.getD i (0, []) = if i = j then (H, V H) else (((i + 1 : Nat) : Int), addV p V U ((i + 1 : Nat) : Int)) := fun i hi => by
    rw [← hM, ← hH]
    by_cases e : i = j
    · subst e; rw [if_pos rfl]; simp [List.getD, rowL_len, hi]
    · rw [if_neg e, ← rowL_get hi]; simp [List.getD, Ne.symm e]
  have hmem : ∀ s ∈ M, ∃ i, i < N ∧ s = if i = j then (H, V H) else (((i + 1 : Nat) : Int), addV p V U ((i + 1 : Nat) : Int)) := fun s hs => by
    obtain ⟨i, hi, rfl⟩ := List.mem_iff_getElem.1 hs
    exact ⟨i, by omega, by rw [← hget i (by omega), getS_at hi]⟩
  have hfst : M.map (·.1) = (rowL N (addV p V U)).map (·.1) := by
    refine List.ext_getElem (by simp [hlen, rowL_len]) fun i h1 h2 => ?_
    have hi : i < N := by simpa [hlen] using h1
    have e1 := hget i hi
    have e2 := rowL_get (V := addV p V U) hi
    rw [getS_at (by omega)] at e1
    rw [getS_at (by rw [rowL_len]; exact hi)] at e2
    rw [List.getElem_map, List.getElem_map, e1, e2]
    by_cases e : i = j
    · subst e; rw [if_pos rfl]; exact hH.symm
    · rw [if_neg e]
  have hgM : Gd p N S.length M := by
    refine ⟨fun s hs => ?_, fun s hs => ?_, fun s hs => ?_, by rw [hfst]; exact rowL_one _ _⟩
    · obtain ⟨i, hi, rfl⟩ := hmem s hs
      by_cases e : i = j
      · subst e; rw [if_pos rfl, ← hH]; exact ⟨by show (1 : Int) ≤ _; omega, by show ((i + 1 : Nat) : Int) ≤ _; omega⟩
      · rw [if_neg e]; exact ⟨by show (1 : Int) ≤ ((i + 1 : Nat) : Int); omega, by show ((i + 1 : Nat) : Int) ≤ _; omega⟩
    · obtain ⟨i, hi, rfl⟩ := hmem s hs
      by_cases e : i = j
      · subst e; rw [if_pos rfl]; exact h.els _
      · rw [if_neg e]; exact linF_els' hp1 _ _ _
    · obtain ⟨i, hi, rfl⟩ := hmem s hs
      by_cases e : i = j
      · subst e; rw [if_pos rfl]; exact h.siz _
      · rw [if_neg e]; show (linF p _ _ 1).length = _; rw [linF_len', h.siz, q.siz, hl]; simp
  have hgood : goodB p n M = true := by rw [hn]; exact goodB_of_gd q1 q2 hgM hm
  rw [hM, hH]
  by_cases hnk : n = k
  · rw [decide_eq_true hnk, Bool.or_true]
    exact fitB_true hp hgood (.inl (by rw [hlen]; omega))
  rw [decide_eq_false hnk, Bool.or_false]
  cases hmv : (U H).any fun x => x != 0 with
  | false =>
    have hz : ∀ x ∈ U H, x = 0 := fun x hx => by
      have := List.any_eq_false.1 hmv x hx
      simpa using this
    have e : addV p V U H = V H := lin_zero hp1 (h.els H) (by rw [h.siz, q.siz, hl]) hz
    have : M = rowL N (addV p V U) := by
      refine List.ext_getElem (by rw [hlen, rowL_len]) fun i h1 h2 => ?_
      have e1 := hget i (by omega)
      have e2 := rowL_get (V := addV p V U) (show i < N by omega)
      rw [getS_at h1] at e1
      rw [getS_at h2] at e2
      rw [e1, e2]
      by_cases e3 : i = j
      · subst e3; rw [if_pos rfl, hH, e]
      · rw [if_neg e3]
    rw [this]
    exact fitB_on hp hk hn hgd hm (by have := hs.on (n := N); rwa [hL] at this)
  | true =>
    refine fitB_false fun ⟨_, _, h3⟩ => ?_
    rcases h3 with h3 | h3
    · rw [hlen] at h3; omega
    · rw [hk, Int.toNat_natCast] at h3
      obtain ⟨f', hf'⟩ := fits_pol q1 (n := N) (by omega) hgM (by omega) (by omega) h3
      obtain ⟨x, hx, hx0⟩ := List.any_eq_true.1 hmv
      obtain ⟨i, hi, rfl⟩ := List.mem_iff_getElem.1 hx
      rw [q.siz, hl] at hi
      have hxs : ∀ y ∈ ((List.range N).erase j).map (fun a => ((a + 1 : Nat) : Int)), Cg p (E (f' i) y) (E (addL (f i) (g i)) y) := fun y hy => by
        obtain ⟨a, ha, rfl⟩ := List.mem_map.1 hy
        have ha2 := (List.nodup_range.mem_erase_iff).1 ha
        have haN := List.mem_range.1 ha2.2
        have e1 := hget a haN
        rw [if_neg ha2.1] at e1
        have hin : (((a + 1 : Nat) : Int), addV p V U ((a + 1 : Nat) : Int)) ∈ M := by
          rw [← e1, getS_at (by omega)]; exact List.getElem_mem _
        have e2 := hf'.val _ hin i hi
        have e3 := hs.val ((a + 1 : Nat) : Int) i (by rw [hL]; exact hi)
        rw [e3] at e2
        exact (Cg.mod p _).symm.trans ((Cg.of_eq e2.symm).trans (Cg.mod p _))
      have hlx : (((List.range N).erase j).map (fun a => ((a + 1 : Nat) : Int))).length = N - 1 := by
        rw [List.length_map, List.length_erase_of_mem (List.mem_range.2 hj), List.length_range]
      have hnx : (((List.range N).erase j).map (fun a => ((a + 1 : Nat) : Int))).Nodup := by
        rw [List.nodup_iff_pairwise_ne, List.pairwise_map]
        refine (List.nodup_iff_pairwise_ne.1 (List.nodup_range.erase j)).imp fun {a b} h => ?_
        intro e
        exact h (by omega)
      have hex : Els p (((List.range N).erase j).map (fun a => ((a + 1 : Nat) : Int))) := fun y hy => by
        obtain ⟨a, ha, rfl⟩ := List.mem_map.1 hy
        have ha2 := List.mem_range.1 (List.mem_of_mem_erase ha)
        exact ⟨by omega, by omega⟩
      have hu := unique_value q1 (xs := ((List.range N).erase j).map (fun a => ((a + 1 : Nat) : Int))) (by rw [hlx]; have := hf'.len i; omega) (by rw [hlx]; have := hs.len i; omega) hnx hex hxs H
      have e1 := hget j hj
      rw [if_pos rfl] at e1
      have hin : (H, V H) ∈ M := by rw [← e1, getS_at (by omega)]; exact List.getElem_mem _
      have e2 := hf'.val _ hin i hi
      have e3 := h.val H i hi
      have e4 := q.val H i (by omega)
      rw [E_addL] at hu
      have k1 : Cg p (E (f i) H) (E (f' i) H) := (Cg.mod p _).symm.trans ((Cg.of_eq (e3.symm.trans e2)).trans (Cg.mod p _))
      have k2 := k1.trans hu
      have k3 : Cg p (E (g i) H) 0 := by
        have := k2.sub (Cg.refl p (E (f i) H))
        rw [show E (f i) H + E (g i) H - E (f i) H = E (g i) H by omega, Int.sub_self] at this
        exact this.symm
      have h6 : (U H).getD i 0 = 0 := by
        have := el_cg (els_getD hp1 (q.els H) i) (show Cg p ((U H).getD i 0) 0 by rw [e4]; exact (Cg.mod p _).trans k3)
        simpa using this
      rw [getD_lt (by rw [q.siz, hl]; exact hi)] at h6
      simp [h6] at hx0
end Go.Proofs.YtomnncainedjdaaDoor
