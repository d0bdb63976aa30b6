
/- As many wrong shares as there is room for change nothing: mathematics; shares that are written in place. -/
import Derived.Test.YtkcbbdkijlipfaaDoorQRbw
import Derived.Test.YtkcbbdkijlipfaaDoorQDea
import Derived.Test.YtkcbbdkijlipfaaDoorHOdS
namespace Go.Proofs.YtkcbbdkijlipfaaDoor
open Go.RowKit Go.Sort
open Num
set_option linter.unusedVariables false

theorem asc_nodup {l : List Int} (h : l.Pairwise (· < ·)) : l.Nodup := by
  rw [List.nodup_iff_pairwise_ne]
  exact h.imp fun {a b} h => by omega
theorem asc_ext {l l' : List Int} (h : l.Pairwise (· < ·)) (h' : l'.Pairwise (· < ·)) (hm : ∀ x, x ∈ l ↔ x ∈ l') : l = l' := by
  have hp := (List.perm_ext_iff_of_nodup (asc_nodup h) (asc_nodup h')).2 hm
  exact List.Perm.eq_of_pairwise (le := fun a b : Int => a ≤ b) (fun a b _ _ h1 h2 => by omega) (h.imp fun {a b} h => by omega) (h'.imp fun {a b} h => by omega) hp
theorem sub_len : ∀ (l B : List Int), l.Nodup → (∀ x ∈ l, x ∈ B) → l.length ≤ B.length
  | [], _, _, _ => by simp
  | x :: l, B, hn, h => by
    have hx : x ∈ B := h x (by simp)
    have hn2 := List.nodup_cons.1 hn
    have h1 := sub_len l (B.erase x) hn2.2 (fun y hy => (List.mem_erase_of_ne (fun e => hn2.1 (by rw [← e]; exact hy))).2 (h y (by simp [hy])))
    rw [List.length_erase_of_mem hx] at h1
    have h2 : 0 < B.length := List.length_pos_of_mem hx
    rw [List.length_cons]; omega
theorem mis_mem {p : Int} {f xs ys : List Int} (hl : xs.length = ys.length) (x : Int) : x ∈ mis p f xs ys ↔ ∃ j, j < xs.length ∧ xs.getD j 0 = x ∧ E f x % p ≠ ys.getD j 0 := by
  unfold mis
  rw [List.mem_map]
  constructor
  · rintro ⟨z, hz, rfl⟩
    obtain ⟨hz1, hz2⟩ := List.mem_filter.1 hz
    obtain ⟨j, hj, rfl⟩ := List.mem_iff_getElem.1 hz1
    have hj2 : j < xs.length := by rw [List.length_zip] at hj; omega
    refine ⟨j, hj2, ?_, ?_⟩
    · rw [List.getElem_zip, getD_lt hj2]
    · rw [List.getElem_zip] at hz2 ⊢
      rw [getD_lt (by omega)]
      simpa using hz2
  · rintro ⟨j, hj, rfl, h⟩
    have hjz : j < (xs.zip ys).length := by rw [List.length_zip]; omega
    refine ⟨(xs.zip ys)[j], List.mem_filter.2 ⟨List.getElem_mem _, ?_⟩, ?_⟩
    · rw [List.getElem_zip]
      rw [getD_lt hj, getD_lt (by omega)] at h
      simpa using h
    · rw [List.getElem_zip, getD_lt hj]
theorem mis_nodup {p : Int} {f xs ys : List Int} (hl : xs.length = ys.length) (hn : xs.Nodup) : (mis p f xs ys).Nodup := filter_fst_nodup hl hn _
/-- A polynomial with its coefficients modulo p, short. -/
def redL (p : Int) (f : List Int) : List Int := sh (f.map fun c => c % p)
theorem red_getD (p : Int) (f : List Int) (i : Nat) : (f.map fun c => c % p).getD i 0 = f.getD i 0 % p := by
  simp only [List.getD, List.getElem?_map]
  cases f[i]? <;> simp
theorem redL_E (p : Int) (f : List Int) (x : Int) : E (redL p f) x % p = E f x % p := by
  unfold redL
  rw [E_sh]
  exact (cg_coef (p := p) (fun i => by rw [red_getD]; exact Cg.mod p _) x).eq
theorem redL_els {p : Int} (hp : 1 ≤ p) (f : List Int) : Els p (redL p f) := sh_els fun x hx => by
  obtain ⟨c, _, rfl⟩ := List.mem_map.1 hx
  exact el_mod hp _
theorem redL_len (p : Int) (f : List Int) : (redL p f).length ≤ f.length := by
  unfold redL
  rw [sh_len]
  refine Nat.le_trans (dg_le _) ?_
  rw [List.length_map]; exact Nat.le_refl _
theorem redL_one {p : Int} (hp : 1 ≤ p) {k t : Nat} {f xs ys : List Int} (hf : f.length ≤ k) (ht : (mis p (redL p f) xs ys).length ≤ t) : OneB p k t xs ys (redL p f) :=
  ⟨redL_els hp f, sh_sh _, Nat.le_trans (redL_len p f) hf, ht⟩
theorem robR_bears {p : Int} {K m N : Nat} {L : List Shr} {S W : List Int} {c : Int} (hp : PrmI p) (hnp : (N : Int) < p) (hg : Gd p N m L) (h : RobR p K m L S W c) (hK : K ≤ L.length) (f : Nat → List Int) (hf : ∀ i, (f i).length ≤ K) (B : List Int) (hB : B.Pairwise (· < ·))
    (hBm : ∀ x, x ∈ B ↔ ∃ j, j < L.length ∧ (L.getD j (0, [])).1 = x ∧ ∃ i, i < m ∧ E (f i) x % p ≠ (L.getD j (0, [])).2.getD i 0) (hlen : B.length ≤ (L.length - K) / 2) :
    c = 0 ∧ S = (List.range m).map (fun i => E (f i) 0 % p) ∧ W = B := by
  have hp1 : 1 ≤ p := by have := hp.1; omega
  have hxl : ∀ i, (plX L).length = (plY L i).length := fun i => by rw [plX_len, plY_len]
  have hxn : (plX L).Nodup := hg.one
  have hmi : ∀ i x, x ∈ mis p (redL p (f i)) (plX L) (plY L i) ↔ ∃ j, j < L.length ∧ (L.getD j (0, [])).1 = x ∧ E (f i) x % p ≠ (L.getD j (0, [])).2.getD i 0 := fun i x => by
    rw [mis_mem (hxl i), plX_len]
    constructor
    · rintro ⟨j, hj, h1, h2⟩
      rw [plX_at hj] at h1
      rw [plY_at hj, redL_E] at h2
      exact ⟨j, hj, h1, h2⟩
    · rintro ⟨j, hj, h1, h2⟩
      exact ⟨j, hj, by rw [plX_at hj]; exact h1, by rw [plY_at hj, redL_E]; exact h2⟩
  have hms : ∀ i, i < m → (mis p (redL p (f i)) (plX L) (plY L i)).length ≤ (L.length - K) / 2 := fun i hi => by
    refine Nat.le_trans (sub_len _ B (mis_nodup (hxl i) hxn) fun x hx => ?_) hlen
    obtain ⟨j, hj, h1, h2⟩ := (hmi i x).1 hx
    exact (hBm x).2 ⟨j, hj, h1, i, hi, h2⟩
  have hone : ∀ i, i < m → OneB p K ((L.length - K) / 2) (plX L) (plY L i) (redL p (f i)) := fun i hi => redL_one hp1 (hf i) (hms i hi)
  have huni : ∀ i g, i < m → OneB p K ((L.length - K) / 2) (plX L) (plY L i) g → g = redL p (f i) := fun i g hi hgi => one_unique hp (hxl i) hxn (hg.xs hnp) (by rw [plX_len]; omega) hgi (hone i hi)
  have hBF : ∀ F : Nat → List Int, (∀ i, i < m → OneB p K ((L.length - K) / 2) (plX L) (plY L i) (F i)) → ∀ x, (∃ i, i < m ∧ x ∈ mis p (F i) (plX L) (plY L i)) ↔ x ∈ B := fun F hF x => by
    rw [hBm x]
    constructor
    · rintro ⟨i, hi, hx⟩
      rw [huni i (F i) hi (hF i hi)] at hx
      obtain ⟨j, hj, h1, h2⟩ := (hmi i x).1 hx
      exact ⟨j, hj, h1, i, hi, h2⟩
    · rintro ⟨j, hj, h1, i, hi, h2⟩
      exact ⟨i, hi, by rw [huni i (F i) hi (hF i hi)]; exact (hmi i x).2 ⟨j, hj, h1, h2⟩⟩
  have hc : c = 0 := by
    rcases h.code with e | e
    · exact e
    · obtain ⟨_, _, h1⟩ := h.no (by rw [e]; omega)
      rcases h1 with ⟨i, hi, h1⟩ | ⟨F, hF, h1⟩
      · exact absurd (hone i hi) (h1 _)
      · have := h1 B (asc_nodup hB) (fun x => ((hBF F hF x)).symm)
        omega
  obtain ⟨h1, h2, _, F, hF, h3, h4⟩ := h.ok hc
  refine ⟨hc, ext_getD (by rw [h1, List.length_map, List.length_range]) fun i => ?_, asc_ext h2 hB fun x => ?_⟩
  · by_cases hi : i < m
    · rw [h3 i hi, huni i (F i) hi (hF i hi), redL_E]
      simp [List.getD, hi]
    · rw [getD_ge (by rw [h1]; omega), getD_ge (by rw [List.length_map, List.length_range]; omega)]
  · rw [h4 x, hBF F hF x]
/-- Another value, at any place. -/
theorem OddS.put {w : World} {base q n gv : Nat} {Z : Nat → Int × Value} {L : List Shr} (h : OddS w base q n Z L) {i : Nat} (hi : i < n) {m cv : Nat} (hz : (Z i).2 = .slice (some ⟨gv, 0, none⟩) m cv) (k : Nat) (x : Int) :
    OddS (w.setCell ⟨gv, k, none⟩ (.int .i64 x)) base q n Z (L.set i ((L.getD i (0, [])).1, (L.getD i (0, [])).2.set k x)) := by
  have hne : gv ≠ q := h.off i hi gv (by rw [hz]; rfl)
  have hb := But.set w ⟨gv, k, none⟩ (.int .i64 x)
  refine ⟨by rw [List.length_set]; exact h.len, h.row.of_block (blk_other _ _ _ _ (Ne.symm hne)), fun j hj => ?_, fun j hj => ?_, h.off, h.apart, h.lo, Nat.lt_of_lt_of_le h.lt hb.size⟩
  · rw [set_getD _ (by rw [h.len]; exact hi)]
    by_cases e : j = i
    · subst e; rw [if_pos rfl]; exact h.hold j hj
    · rw [if_neg e]; exact h.hold j hj
  · rw [set_getD _ (by rw [h.len]; exact hi)]
    by_cases e : j = i
    · subst e; rw [if_pos rfl]
      have h1 := h.val j hj
      rw [hz] at h1 ⊢
      exact h1.set k x
    · rw [if_neg e]
      exact gath_kept_row (h.val j hj) hb.grown (fun g hg e2 => by
        have e3 : g = gv := by simpa using e2.symm
        exact h.apart i j hi hj (Ne.symm e) gv (by rw [hz]; rfl) (by rw [hg, e3]))
end Go.Proofs.YtkcbbdkijlipfaaDoor
