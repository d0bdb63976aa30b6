
/- As many wrong shares as there is room for change nothing: mathematics; shares that are written in place. -/
import Derived.Test.YtpgbjnenllfmlaaGreatDoorQRob
import Derived.Test.YtpgbjnenllfmlaaGreatDoorQDea
import Derived.Test.YtpgbjnenllfmlaaGreatDoorHOdS
/-! As many wrong shares as there is room for change nothing: mathematics; shares that are written in place. -/
namespace Go.Proofs.YtpgbjnenllfmlaaGreatDoor
open Go.RowKit Go.Sort
open Num
set_option linter.unusedVariables false

theorem asc_nodup {l : List Int} (h : l.Pairwise (· < ·)) : l.Nodup := by
  rw [List.nodup_iff_pairwise_ne]
  exact h.imp fun {a b} h => by omega
theorem asc_ext {l l' : List Int} (h : l.Pairwise (· < ·)) (h' : l'.Pairwise (· < ·)) (hm : ∀ x, x ∈ l ↔ x ∈ l') : l = l' := by
  have hp := (List.perm_ext_iff_of_nodup (asc_nodup h) (asc_nodup h')).2 hm
  exact List.Perm.eq_of_pairwise (le := fun a b : Int => a ≤ b) (fun a b _ _ h1 h2 => by omega) (h.imp fun {a b} h => by omega) (h'.imp fun {a b} h => by omega) hp
theorem sub_len : ∀ (l B : List Int), l.Nodup → (∀ x ∈ l, x ∈ B) → l.length ≤ B.length
  | [], _, _, _ => by simp
  | x :: l, B, hn, h => by
    have hx : x ∈ B := h x (by simp)
    have hn2 := List.nodup_cons.1 hn
    have h1 := sub_len l (B.erase x) hn2.2 (fun y hy => (List.mem_erase_of_ne (fun e => hn2.1 (by rw [← e]; exact hy))).2 (h y (by simp [hy])))
    rw [List.length_erase_of_mem hx] at h1
    have h2 : 0 < B.length := List.length_pos_of_mem hx
    rw [List.length_cons]; omega
theorem mis_mem {p : Int} {f xs ys : List Int} (hl : xs.length = ys.length) (x : Int) : x ∈ mis p f xs ys ↔ ∃ j, j < xs.length ∧ xs.getD j 0 = x ∧ E f x % p ≠ ys.getD j 0 := by
  unfold mis
  rw [List.mem_map]
  constructor
  · rintro ⟨z, hz, rfl⟩
    obtain ⟨hz1, hz2⟩ := List.mem_filter.1 hz
    obtain ⟨j, hj, rfl⟩ := List.mem_iff_getElem.1 hz1
    have hj2 : j < xs.length := by rw [List.length_zip] at hj; omega
    refine ⟨j, hj2, ?_, ?_⟩
    · rw [List.getElem_zip, getD_lt hj2]
    · rw [List.getElem_zip] at hz2 ⊢
      rw [getD_lt (by omega)]
      simpa using hz2
  · rintro ⟨j, hj, rfl, h⟩
    have hjz : j < (xs.zip ys).length := by rw [List.length_zip]; omega
    refine ⟨(xs.zip ys)[j], List.mem_filter.2 ⟨List.getElem_mem _, ?_⟩, ?_⟩
    · rw [List.getElem_zip]
      rw [getD_lt hj, getD_lt (by omega)] at h
      simpa using h
    · rw [List.getElem_zip, getD_lt hj]
theorem mis_nodup {p : Int} {f xs ys : List Int} (hl : xs.length = ys.length) (hn : xs.Nodup) : (mis p f xs ys).Nodup := filter_fst_nodup hl hn _
/-- A polynomial with its coefficients modulo p, short. -/
def redL (p : Int) (f : List Int) : List Int := sh (f.map fun c => c % p)
theorem red_getD (p : Int) (f : List Int) (i : Nat) : (f.map fun c => c % p).getD i 0 = f.getD i 0 % p := by
  simp only [List.getD, List.getElem?_map]
  cases f[i]? <;> simp
theorem redL_E (p : Int) (f : List Int) (x : Int) : E (redL p f) x % p = E f x % p := by
  unfold redL
  rw [E_sh]
  exact (cg_coef (p := p) (fun i => by rw [red_getD]; exact Cg.mod p _) x).eq
theorem redL_els {p : Int} (hp : 1 ≤ p) (f : List Int) : Els p (redL p f) := sh_els fun x hx => by
  obtain ⟨c, _, rfl⟩ := List.mem_map.1 hx
  exact el_mod hp _
theorem redL_len (p : Int) (f : List Int) : (redL p f).length ≤ f.length := by
  unfold redL
  rw [sh_len]
  refine Nat.le_trans (dg_le _) ?_
  rw [List.length_map]; exact Nat.le_refl _
theorem redL_one {p : Int} (hp : 1 ≤ p) {k t : Nat} {f xs ys : List Int} (hf : f.length ≤ k) (ht : (mis p (redL p f) xs ys).length ≤ t) : OneB p k t xs ys (redL p f) :=
  ⟨redL_els hp f, sh_sh _, Nat.le_trans (redL_len p f) hf, ht⟩
theorem robR_bears {p : Int} {K m N : Nat} {L : List Shr} {S W : List Int} {c : Int} (hp : PrmI p) (hnp : (N : Int) < p) (hg : Gd p N m L) (h : RobR p K m L S W c) (hK : K ≤ L.length) (f : Nat → List Int) (hf : ∀ i, (f i).length ≤ K) (B : List Int) (hB : B.Pairwise (· < ·))
    (hBm : ∀ x, x ∈ B ↔ ∃ j, j < L.length ∧ (L.getD j (0, [])).1 = x ∧ ∃ i, i < m ∧ E (f i) x % p ≠ (L.getD j (0, [])).2.getD i 0) (hlen : B.length ≤ (L.length - K) / 2) :
    c = 0 ∧ S = (List.range m).map (fun i => E (f i) 0 % p) ∧ W = B := by
  have hp1 : 1 ≤ p := by have := hp.1; omega
  have hxl : ∀ i, (plX L).length = (plY L i).length := fun i => by rw [plX_len, plY_len]
  have hxn : (plX L).Nodup := hg.one
  have hmi : ∀ i x, x ∈ mis p (redL p (f i)) (plX L) (plY L i) ↔ ∃ j, j < L.length ∧ (L.getD j (0, [])).1 = x ∧ E (f i) x % p ≠ (L.getD j (0, [])).2.getD i 0 := fun i x => by
    rw [mis_mem (hxl i), plX_len]
    constructor
    · rintro ⟨j, hj, h1, h2⟩
      rw [plX_at hj] at h1
      rw [plY_at hj, redL_E] at h2
      exact ⟨j, hj, h1, h2⟩
    · rintro ⟨j, hj, h1, h2⟩
      exact ⟨j, hj, by rw [plX_at hj]; exact h1, by rw [plY_at hj, redL_E]; exact h2⟩
  have hms : ∀ i, i < m → (mis p (redL p (f i)) (plX L) (plY L i)).length ≤ (L.length - K) / 2 := fun i hi => by
    refine Nat.le_trans (sub_len _ B (mis_nodup (hxl i) hxn) fun x hx => ?_) hlen
    obtain ⟨j, hj, h1, h2⟩ := (hmi i x).1 hx
    exact (hBm x).2 ⟨j, hj, h1, i, hi, h2⟩
  have hone : ∀ i, i < m → OneB p K ((L.length - K) / 2) (plX L) (plY L i) (redL p (f i)) := fun i hi => redL_one hp1 (hf i) (hms i hi)
  have huni : ∀ i g, i < m → OneB p K ((L.length - K) / 2) (plX L) (plY L i) g → g = redL p (f i) := fun i g hi hgi => one_unique hp (hxl i) hxn (hg.xs hnp) (by rw [plX_len]; omega) hgi (hone i hi)
  have hBF : ∀ F : Nat → List Int, (∀ i, i < m → OneB p K ((L.length - K) / 2) (plX L) (plY L i) (F i)) → ∀ x, (∃ i, i < m ∧ x ∈ mis p (F i) (plX L) (plY L i)) ↔ x ∈ B := fun F hF x => by
    rw [hBm x]
    constructor
    · rintro ⟨i, hi, hx⟩
      rw [huni i (F i) hi (hF i hi)] at hx
      obtain ⟨j, hj, h1, h2⟩ := (hmi i x).1 hx
      exact ⟨j, hj, h1, i, hi, h2⟩
    · rintro ⟨j, hj, h1, i, hi, h2⟩
      exact ⟨i, hi, by rw [huni i (F i) hi (hF i hi)]; exact (hmi i x).2 ⟨j, hj, h1, h2⟩⟩
  have hc : c = 0 := by
    rcases h.code with e | e
    · exact e
    · obtain ⟨_, _, h1⟩ := h.no (by rw [e]; omega)
      rcases h1 with ⟨i, hi, h1⟩ | ⟨F, hF, h1⟩
      · exact absurd (hone i hi) (h1 _)
      · have := h1 B (asc_nodup hB) (fun x => ((hBF F hF x)).symm)
        omega
  obtain ⟨h1, h2, _, F, hF, h3, h4⟩ := h.ok hc
  refine ⟨hc, ext_getD (by rw [h1, List.length_map, List.length_range]) fun i => ?_, asc_ext h2 hB fun x => ?_⟩
  · by_cases hi : i < m
    · rw [h3 i hi, huni i (F i) hi (hF i hi), redL_E]
      simp [List.getD, hi]
    · rw [getD_ge (by rw [h1]; omega), getD_ge (by rw [List.length_map, List.length_range]; omega)]
  · rw [h4 x, hBF F hF x]
/-- Another value, at any place. -/
theorem OddS.put {w : World} {base q n gv : Nat} {Z : Nat → Int × Value} {L : List Shr} (h : OddS w base q n Z L) {i : Nat} (hi : i < n) {m cv : Nat} (hz : (Z i).2 = .slice (some ⟨gv, 0, none⟩) m cv) (k : Nat) (x : Int) :
    OddS (w.setCell ⟨gv, k, none⟩ (.int .i64 x)) base q n Z (L.set i ((L.getD i (0, [])).1, (L.getD i (0, [])).2.set k x)) := by
  have hne : gv ≠ q := h.off i hi gv (by rw [hz]; rfl)
  have hb := But.set w ⟨gv, k, none⟩ (.int .i64 x)
  refine ⟨by rw [List.length_set]; exact h.len, h.row.of_block (blk_other _ _ _ _ (Ne.symm hne)), fun j hj => ?_, fun j hj => ?_, h.off, h.apart, h.lo, Nat.lt_of_lt_of_le h.lt hb.size⟩
  · rw [set_getD _ (by rw [h.len]; exact hi)]
    by_cases e : j = i
    · subst e; rw [if_pos rfl]; exact h.hold j hj
    · rw [if_neg e]; exact h.hold j hj
  · rw [set_getD _ (by rw [h.len]; exact hi)]
    by_cases e : j = i
    · subst e; rw [if_pos rfl]
      have h1 := h.val j hj
      rw [hz] at h1 ⊢
      exact h1.set k x
    · rw [if_neg e]
      exact gath_kept_row (h.val j hj) hb.grown (fun g hg e2 => by
        have e3 : g = gv := by simpa using e2.symm
        exact h.apart i j hi hj (Ne.symm e) gv (by rw [hz]; rfl) (by rw [hg, e3]))
end Go.Proofs.YtpgbjnenllfmlaaGreatDoor
/-! Shares in which some holders have changed their values: mathematics and memory. -/
namespace Go.Proofs.YtpgbjnenllfmlaaGreatDoor
open Go.RowKit Go.Sort
open Num
set_option linter.unusedVariables false

/-- The first t shares are changed, and the values before k of the next one perhaps. -/
structure LieP (p : Int) (m t k : Nat) (L L' : List Shr) : Prop where
  len : L'.length = L.length
  hold : ∀ i, (L'.getD i (0, [])).1 = (L.getD i (0, [])).1
  size : ∀ i, i < L.length → (L'.getD i (0, [])).2.length = m
  els : ∀ i, i < L.length → Els p (L'.getD i (0, [])).2
  same : ∀ i, t < i → L'.getD i (0, []) = L.getD i (0, [])
  rest : ∀ j, k ≤ j → (L'.getD t (0, [])).2.getD j 0 = (L.getD t (0, [])).2.getD j 0
  wrong : ∀ i, i < t → (L'.getD i (0, [])).2.getD 0 0 ≠ (L.getD i (0, [])).2.getD 0 0
  cur : 0 < k → (L'.getD t (0, [])).2.getD 0 0 ≠ (L.getD t (0, [])).2.getD 0 0
theorem LieP.start {p : Int} {m : Nat} {L : List Shr} (hm : ∀ x ∈ L, x.2.length = m) (he : ∀ x ∈ L, Els p x.2) : LieP p m 0 0 L L := by
  have hin : ∀ i, i < L.length → L.getD i (0, []) ∈ L := fun i hi => by rw [List.getD_eq_getElem?_getD, List.getElem?_eq_getElem hi]; exact List.getElem_mem _
  exact ⟨rfl, fun _ => rfl, fun i hi => hm _ (hin i hi), fun i hi => he _ (hin i hi), fun _ _ => rfl, fun _ _ => rfl, fun i hi => by omega, fun h => by omega⟩
theorem LieP.next {p : Int} {m t : Nat} {L L' : List Shr} (h : LieP p m t m L L') (hm : 1 ≤ m) : LieP p m (t + 1) 0 L L' :=
  ⟨h.len, h.hold, h.size, h.els, fun i hi => h.same i (by omega), fun j _ => by rw [h.same (t + 1) (by omega)], fun i hi => by
    by_cases e : i = t
    · subst e; exact h.cur (by omega)
    · exact h.wrong i (by omega), fun h => by omega⟩
theorem LieP.skip {p : Int} {m t k : Nat} {L L' : List Shr} (h : LieP p m t k L L') (hk : 0 < k) : LieP p m t (k + 1) L L' :=
  ⟨h.len, h.hold, h.size, h.els, h.same, fun j hj => h.rest j (by omega), h.wrong, fun _ => h.cur hk⟩
theorem getD_setL (l : List Int) (k j : Nat) (y : Int) (hk : k < l.length) : (l.set k y).getD j 0 = if j = k then y else l.getD j 0 := by
  simp only [List.getD, List.getElem?_set]
  by_cases e : k = j
  · subst e; simp [hk]
  · rw [if_neg e, if_neg (fun h => e h.symm)]
theorem LieP.put {p : Int} {m t k : Nat} {L L' : List Shr} {y : Int} (h : LieP p m t k L L') (ht : t < L.length) (hk : k < m) (hy : El p y) (h0 : k = 0 → y ≠ (L'.getD t (0, [])).2.getD 0 0) :
    LieP p m t (k + 1) L (L'.set t ((L'.getD t (0, [])).1, (L'.getD t (0, [])).2.set k y)) := by
  have hlt : t < L'.length := by rw [h.len]; exact ht
  have hsz := h.size t ht
  refine ⟨by rw [List.length_set]; exact h.len, fun i => ?_, fun i hi => ?_, fun i hi => ?_, fun i hi => ?_, fun j hj => ?_, fun i hi => ?_, fun _ => ?_⟩
  · rw [set_getD _ hlt]
    by_cases e : i = t
    · subst e; rw [if_pos rfl]; exact h.hold i
    · rw [if_neg e]; exact h.hold i
  · rw [set_getD _ hlt]
    by_cases e : i = t
    · subst e; rw [if_pos rfl]; show (List.set _ _ _).length = m; rw [List.length_set]; exact hsz
    · rw [if_neg e]; exact h.size i hi
  · rw [set_getD _ hlt]
    by_cases e : i = t
    · subst e; rw [if_pos rfl]
      intro x hx
      rcases List.mem_or_eq_of_mem_set hx with h1 | h1
      · exact h.els i ht x h1
      · rw [h1]; exact hy
    · rw [if_neg e]; exact h.els i hi
  · rw [set_getD _ hlt, if_neg (by omega)]; exact h.same i hi
  · rw [set_getD _ hlt, if_pos rfl]
    show ((L'.getD t (0, [])).2.set k y).getD j 0 = _
    rw [getD_setL _ _ _ _ (by omega), if_neg (by omega)]; exact h.rest j (by omega)
  · rw [set_getD _ hlt, if_neg (by omega)]; exact h.wrong i hi
  · rw [set_getD _ hlt, if_pos rfl]
    show ((L'.getD t (0, [])).2.set k y).getD 0 0 ≠ _
    rw [getD_setL _ _ _ _ (by omega)]
    by_cases e : k = 0
    · subst e
      rw [if_pos rfl, ← h.rest 0 (Nat.le_refl _)]; exact h0 rfl
    · rw [if_neg (by omega)]; exact h.cur (by omega)
/-- The holders of the first t shares. -/
def wfl (L : List Shr) (t i : Nat) : Bool := decide (∃ j, j < t ∧ (L.getD j (0, [])).1 = (i : Int))
theorem wfl_zero (L : List Shr) (i : Nat) : wfl L 0 i = false := decide_eq_false fun ⟨j, h, _⟩ => by omega
theorem wfl_succ (L : List Shr) (t i H : Nat) (hH : (L.getD t (0, [])).1 = (H : Int)) : wfl L (t + 1) i = if i = H then true else wfl L t i := by
  by_cases e : i = H
  · subst e; rw [if_pos rfl]
    exact decide_eq_true ⟨t, by omega, hH⟩
  · rw [if_neg e]
    refine decide_eq_decide.2 ⟨fun ⟨j, h1, h2⟩ => ⟨j, ?_, h2⟩, fun ⟨j, h1, h2⟩ => ⟨j, by omega, h2⟩⟩
    by_cases e2 : j = t
    · subst e2; rw [hH] at h2; omega
    · omega
/-- The wrong holders below i, ascending. -/
def outL (L : List Shr) (t i : Nat) : List Int := ((List.range i).filter (wfl L t)).map fun i : Nat => (i : Int)
theorem outL_zero (L : List Shr) (t : Nat) : outL L t 0 = [] := rfl
theorem outL_yes {L : List Shr} {t i : Nat} (h : wfl L t i = true) : outL L t (i + 1) = outL L t i ++ [(i : Int)] := by simp [outL, List.range_succ, h]
theorem outL_no {L : List Shr} {t i : Nat} (h : wfl L t i = false) : outL L t (i + 1) = outL L t i := by simp [outL, List.range_succ, h]
theorem outL_len (L : List Shr) (t i : Nat) : (outL L t i).length ≤ i := by
  unfold outL
  rw [List.length_map]
  exact Nat.le_trans (List.length_filter_le _ _) (by simp)
theorem outL_asc (L : List Shr) (t i : Nat) : (outL L t i).Pairwise (· < ·) := by
  unfold outL
  refine List.pairwise_map.2 ?_
  exact (List.pairwise_lt_range.sublist List.filter_sublist).imp fun {a b} h => by omega
theorem outL_mem {L : List Shr} {t : Nat} (hH : ∀ j, j < t → 0 ≤ (L.getD j (0, [])).1 ∧ (L.getD j (0, [])).1 ≤ 16) (x : Int) : x ∈ outL L t 17 ↔ ∃ j, j < t ∧ (L.getD j (0, [])).1 = x := by
  unfold outL
  rw [List.mem_map]
  constructor
  · rintro ⟨i, hi, rfl⟩
    exact of_decide_eq_true (List.mem_filter.1 hi).2
  · rintro ⟨j, hj, rfl⟩
    obtain ⟨h0, h1⟩ := hH j hj
    obtain ⟨H, hH⟩ := Int.eq_ofNat_of_zero_le h0
    refine ⟨H, List.mem_filter.2 ⟨List.mem_range.2 (by omega), decide_eq_true ⟨j, hj, hH⟩⟩, hH.symm⟩

/-! ### In memory -/
theorem info17 : (Tryz.prog.info? 59).map (·.size) = some 17 := by kernel_rfl
theorem lie_row (w : World) (L : List Shr) : (w.alloc (.cells zeros17 59)).rowIs w.heap.size 59 17 (fun i => .bool (wfl L 0 i)) := by
  rw [show zeros17 = Array.replicate 17 (.bool false) from rfl]
  have h := World.rowIs_alloc w (Array.replicate 17 (.bool false)) 59 (fun i => .bool (wfl L 0 i)) (fun i hi => by
    rw [Array.size_replicate] at hi
    simp [hi, wfl_zero])
  rw [Array.size_replicate] at h
  exact h
/-- What Lie keeps. -/
structure LieW (w0 W : World) (b : Nat) (s : Value) (l : List Int) (g q n gw : Nat) (Z : Nat → Int × Value) (L' : List Shr) (f : Nat → Bool) : Prop where
  od : OddS W g q n Z L'
  nb : ∀ i, i < n → ∀ x, (Z i).2.ownBlock = some x → x < gw
  qb : q < gw
  row : W.rowIs gw 59 17 (fun i => .bool (f i))
  di : DiceAt W b s l
  be : But b w0 W
  lt : b < g
  sz : g = w0.heap.size
theorem But.more {w0 W W' : World} {b g : Nat} (h : But b w0 W) (k : Below g W W') (hg : g = w0.heap.size) : But b w0 W' :=
  ⟨k.os.trans h.os, k.tape.trans h.tape, k.output.trans h.output, Nat.le_trans h.size k.size, fun i hi hne => (k.block i (by omega)).trans (h.block i hi hne)⟩
theorem LieW.but {w0 W W' : World} {b : Nat} {s : Value} {l : List Int} {g q n gw : Nat} {Z : Nat → Int × Value} {L' : List Shr} {f : Nat → Bool} (h : LieW w0 W b s l g q n gw Z L' f) (k : But b W W') (d : DiceAt W' b s l) : LieW w0 W' b s l g q n gw Z L' f := by
  have h1 := h.lt
  have h2 := h.od.lo
  have h3 := h.qb
  exact ⟨h.od.but k h1, h.nb, h.qb, h.row.of_block (k.block gw h.row.lt (by omega)), d, h.be.trans k, h.lt, h.sz⟩
theorem LieW.below {w0 W W' : World} {b : Nat} {s : Value} {l : List Int} {g q n gw : Nat} {Z : Nat → Int × Value} {L' : List Shr} {f : Nat → Bool} (h : LieW w0 W b s l g q n gw Z L' f) (k : Below W.heap.size W W') : LieW w0 W' b s l g q n gw Z L' f :=
  ⟨h.od.below k (Nat.le_refl _), h.nb, h.qb, h.row.of_block (k.block gw h.row.lt), h.di.below k (by have := h.di.size; omega), h.be.trans (But.of_below k (Nat.le_refl _)), h.lt, h.sz⟩
theorem LieW.put {w0 W : World} {b : Nat} {s : Value} {l : List Int} {g q n gw gv : Nat} {Z : Nat → Int × Value} {L' : List Shr} {f : Nat → Bool} (h : LieW w0 W b s l g q n gw Z L' f) {i : Nat} (hi : i < n) {m cv : Nat} (hz : (Z i).2 = .slice (some ⟨gv, 0, none⟩) m cv) (hgv : g ≤ gv) (k : Nat) (x : Int) :
    LieW w0 (W.setCell ⟨gv, k, none⟩ (.int .i64 x)) b s l g q n gw Z (L'.set i ((L'.getD i (0, [])).1, (L'.getD i (0, [])).2.set k x)) f := by
  have hlt := h.nb i hi gv (by rw [hz]; rfl)
  have hb : Below g W (W.setCell ⟨gv, k, none⟩ (.int .i64 x)) := set1_below _ _ _ hgv
  exact ⟨h.od.put hi hz k x, h.nb, h.qb, h.row.setOther (show gw ≠ gv by omega) _, h.di.below hb h.lt, h.be.more hb h.sz, h.lt, h.sz⟩
theorem LieW.mark {w0 W : World} {b : Nat} {s : Value} {l : List Int} {g q n gw : Nat} {Z : Nat → Int × Value} {L' : List Shr} {f f' : Nat → Bool} (h : LieW w0 W b s l g q n gw Z L' f) (H : Nat) (e : ∀ i, i < 17 → f' i = if i = H then true else f i) :
    LieW w0 (W.setCell ⟨gw, H, none⟩ (.bool true)) b s l g q n gw Z L' f' := by
  have h2 := h.od.lo
  have h3 := h.qb
  have hb : Below g W (W.setCell ⟨gw, H, none⟩ (.bool true)) := set1_below _ _ _ (by omega)
  have ho : OddS (W.setCell ⟨gw, H, none⟩ (.bool true)) g q n Z L' :=
    ⟨h.od.len, h.od.row.of_block (blk_other _ _ _ _ (by omega)), h.od.hold, fun i hi => gath_kept_row (row := some gw) (h.od.val i hi) ⟨rfl, rfl, rfl, by simp [World.setCell], fun k hk hne => blk_other _ _ _ _ (fun e => hne (by rw [e]))⟩ (fun x hx e => by have := h.nb i hi x hx; simp at e; omega), h.od.off, h.od.apart, h.od.lo, Nat.lt_of_lt_of_le h.od.lt hb.size⟩
  refine ⟨ho, h.nb, h.qb, (h.row.set H (.bool true)).congr fun i hi => ?_, h.di.below hb h.lt, h.be.more hb h.sz, h.lt, h.sz⟩
  rw [e i hi]
  by_cases e2 : i = H
  · rw [if_pos e2, if_pos e2]
  · rw [if_neg e2, if_neg e2]
end Go.Proofs.YtpgbjnenllfmlaaGreatDoor
