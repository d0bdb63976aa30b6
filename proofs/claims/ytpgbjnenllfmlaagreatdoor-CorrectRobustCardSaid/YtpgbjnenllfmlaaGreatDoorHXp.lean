
/- The points of Explain: mathematics; lists of shares whose values lie elsewhere. -/
import Derived.Test.YtpgbjnenllfmlaaGreatDoorHPk
/-! The points of Explain: mathematics; lists of shares whose values lie elsewhere. -/
namespace Go.Proofs.YtpgbjnenllfmlaaGreatDoor
open Go.RowKit Go.Sort
open Num
set_option linter.unusedVariables false

/-- The free holders among 1 .. h. -/
def freeU (H : List Int) (h : Nat) : List Int := ((List.range h).map fun i => ((i + 1 : Nat) : Int)).filter fun x => !H.contains x
theorem freeU_succ (H : List Int) (h : Nat) : freeU H (h + 1) = freeU H h ++ (if H.contains ((h + 1 : Nat) : Int) then [] else [((h + 1 : Nat) : Int)]) := by
  unfold freeU
  rw [List.range_succ, List.map_append, List.filter_append]
  congr 1
  by_cases e : H.contains ((h + 1 : Nat) : Int) = true
  · rw [if_pos e]; simp only [List.map_cons, List.map_nil]; rw [List.filter_cons_of_neg (by rw [e]; simp)]; rfl
  · rw [if_neg e]; simp only [List.map_cons, List.map_nil]; rw [List.filter_cons_of_pos (by rw [Bool.not_eq_true] at e; rw [e]; rfl)]; rfl
theorem freeU_add (H : List Int) (h d : Nat) : ∃ r, freeU H (h + d) = freeU H h ++ r := by
  induction d with
  | zero => exact ⟨[], by simp⟩
  | succ d ih =>
    obtain ⟨r, hr⟩ := ih
    rw [← Nat.add_assoc, freeU_succ, hr, List.append_assoc]
    exact ⟨_, rfl⟩
theorem ups_nodup (h : Nat) : ((List.range h).map fun i => ((i + 1 : Nat) : Int)).Nodup := by
  rw [List.nodup_iff_pairwise_ne, List.pairwise_map]
  exact (List.pairwise_lt_range (n := h)).imp fun {a b} h => by omega
theorem freeU_nodup (H : List Int) (h : Nat) : (freeU H h).Nodup := (ups_nodup h).sublist (List.filter_sublist)
theorem freeU_mem {H : List Int} {h : Nat} {x : Int} (hx : x ∈ freeU H h) : 1 ≤ x ∧ x ≤ h ∧ ¬ x ∈ H := by
  unfold freeU at hx
  rw [List.mem_filter] at hx
  obtain ⟨h1, h2⟩ := hx
  obtain ⟨i, hi, rfl⟩ := List.mem_map.1 h1
  have := List.mem_range.1 hi
  refine ⟨by omega, by omega, ?_⟩
  simpa using h2
theorem freeU_count (h : Nat) : ∀ H : List Int, h ≤ (freeU H h).length + H.length
  | [] => by
    have e : freeU [] h = (List.range h).map fun i => ((i + 1 : Nat) : Int) := by unfold freeU; exact List.filter_eq_self.2 fun _ _ => by simp
    rw [e]; simp
  | a :: H => by
    have ih := freeU_count h H
    have e : freeU (a :: H) h = (freeU H h).erase a := by
      rw [(freeU_nodup H h).erase_eq_filter]
      unfold freeU
      rw [List.filter_filter]
      congr 1
      funext x
      rw [List.contains_cons, Bool.not_or]
      rfl
    rw [e, List.length_erase, List.length_cons]
    split <;> omega
/-- The first c free holders. -/
def freeT (H : List Int) (c : Nat) : List Int := (freeU H 32).take c
theorem freeT_eq {H : List Int} {h c : Nat} (hh : h ≤ 32) (hc : (freeU H h).length = c) : freeU H h = freeT H c := by
  obtain ⟨r, hr⟩ := freeU_add H h (32 - h)
  rw [show h + (32 - h) = 32 by omega] at hr
  unfold freeT
  rw [hr, ← hc, List.take_left]
theorem freeT_len {H : List Int} {c : Nat} (h : c + H.length ≤ 32) : (freeT H c).length = c := by
  have := freeU_count 32 H
  unfold freeT
  rw [List.length_take]; omega
theorem freeT_mem {H : List Int} {c : Nat} (h : c + H.length ≤ 32) {x : Int} (hx : x ∈ freeT H c) : 1 ≤ x ∧ x ≤ ((c + H.length : Nat) : Int) ∧ ¬ x ∈ H := by
  obtain ⟨r, hr⟩ := freeU_add H (c + H.length) (32 - (c + H.length))
  rw [show c + H.length + (32 - (c + H.length)) = 32 by omega] at hr
  have hc := freeU_count (c + H.length) H
  have e : freeT H c = (freeU H (c + H.length)).take c := by
    unfold freeT
    rw [hr, List.take_append_of_le_length (by omega)]
  rw [e] at hx
  exact freeU_mem (List.mem_of_mem_take hx)
theorem freeT_nodup (H : List Int) (c : Nat) : (freeT H c).Nodup := (freeU_nodup H 32).sublist (List.take_sublist _ _)

/-- The points of Explain. -/
def expP (K : Nat) (L : List Shr) (S : List Int) : List Shr := (0, S) :: (L ++ (freeT (L.map fun s : Shr => s.1) (K - 1 - L.length)).map fun h => (h, []))
/-- What Explain speaks of. -/
structure ExpIn (p : Int) (N K m : Nat) (L : List Shr) (S : List Int) : Prop where
  prm : PrmI p
  gd : Gd p N m L
  sl : S.length = m
  se : Els p S
  lk : L.length < K
  kn : K ≤ N
  nb : N ≤ 16
  np : (N : Int) < p
theorem ExpIn.len {p : Int} {N K m : Nat} {L : List Shr} {S : List Int} (h : ExpIn p N K m L S) : (expP K L S).length = K := by
  have h1 := h.lk
  have h2 := h.kn
  have h3 := h.nb
  have h4 := freeT_len (H := L.map fun s : Shr => s.1) (c := K - 1 - L.length) (by rw [List.length_map]; omega)
  unfold expP
  rw [List.length_cons, List.length_append, List.length_map, h4]
  omega
theorem ExpIn.hold {p : Int} {N K m : Nat} {L : List Shr} {S : List Int} (h : ExpIn p N K m L S) : ((expP K L S).map fun s : Shr => s.1) = 0 :: ((L.map fun s : Shr => s.1) ++ freeT (L.map fun s : Shr => s.1) (K - 1 - L.length)) := by
  unfold expP
  rw [List.map_cons, List.map_append, List.map_map]
  congr 2
  exact List.map_id' _
theorem ExpIn.free {p : Int} {N K m : Nat} {L : List Shr} {S : List Int} (h : ExpIn p N K m L S) {x : Int} (hx : x ∈ freeT (L.map fun s : Shr => s.1) (K - 1 - L.length)) : 1 ≤ x ∧ x ≤ N ∧ ¬ x ∈ (L.map fun s : Shr => s.1) := by
  have h1 := h.lk
  have h2 := h.kn
  have h3 := h.nb
  obtain ⟨q1, q2, q3⟩ := freeT_mem (by rw [List.length_map]; omega) hx
  rw [List.length_map] at q2
  exact ⟨q1, by omega, q3⟩
theorem ExpIn.nodup {p : Int} {N K m : Nat} {L : List Shr} {S : List Int} (h : ExpIn p N K m L S) : ((expP K L S).map fun s : Shr => s.1).Nodup := by
  rw [h.hold, List.nodup_cons]
  refine ⟨fun hx => ?_, List.nodup_append.2 ⟨h.gd.one, freeT_nodup _ _, fun a ha b hb e => ?_⟩⟩
  · rcases List.mem_append.1 hx with hx | hx
    · obtain ⟨s, hs, e⟩ := List.mem_map.1 hx
      have := (h.gd.hold s hs).1
      omega
    · have := (h.free hx).1
      omega
  · subst e; exact (h.free hb).2.2 ha
theorem ExpIn.els {p : Int} {N K m : Nat} {L : List Shr} {S : List Int} (h : ExpIn p N K m L S) : Els p ((expP K L S).map fun s : Shr => s.1) := fun x hx => by
  rw [h.hold] at hx
  have hp := h.prm.1
  have hn := h.np
  rcases List.mem_cons.1 hx with rfl | hx
  · exact ⟨by omega, by omega⟩
  · rcases List.mem_append.1 hx with hx | hx
    · exact h.gd.xs h.np x hx
    · obtain ⟨q1, q2, _⟩ := h.free hx
      exact ⟨by omega, by omega⟩
theorem expP_mem {K : Nat} {L : List Shr} {S : List Int} {s : Shr} (hs : s ∈ expP K L S) : s = (0, S) ∨ s ∈ L ∨ s.2 = [] := by
  unfold expP at hs
  rcases List.mem_cons.1 hs with h | h
  · exact .inl h
  · rcases List.mem_append.1 h with h | h
    · exact .inr (.inl h)
    · obtain ⟨x, _, rfl⟩ := List.mem_map.1 h
      exact .inr (.inr rfl)
theorem ExpIn.vals {p : Int} {N K m : Nat} {L : List Shr} {S : List Int} (h : ExpIn p N K m L S) : ∀ s ∈ expP K L S, Els p s.2 := fun s hs => by
  rcases expP_mem hs with rfl | hs | hs
  · exact h.se
  · exact h.gd.els s hs
  · rw [hs]; intro x hx; cases hx
theorem ExpIn.lens {p : Int} {N K m : Nat} {L : List Shr} {S : List Int} (h : ExpIn p N K m L S) : ∀ s ∈ expP K L S, s.2.length ≤ m := fun s hs => by
  rcases expP_mem hs with rfl | hs | hs
  · exact Nat.le_of_eq h.sl
  · exact Nat.le_of_eq (h.gd.len s hs)
  · rw [hs]; simp
theorem expP_zero (K : Nat) (L : List Shr) (S : List Int) : (expP K L S).getD 0 (0, []) = (0, S) := rfl
/-- What Explain returns. -/
def expL (p : Int) (K N m : Nat) (L : List Shr) (S : List Int) : List Shr := (List.range N).map fun j => (((j + 1 : Nat) : Int), vatV p (expP K L S) m ((j + 1 : Nat) : Int))
theorem expL_len (p : Int) (K N m : Nat) (L : List Shr) (S : List Int) : (expL p K N m L S).length = N := by simp [expL]
theorem expL_get {p : Int} {K N m : Nat} {L : List Shr} {S : List Int} {j : Nat} (hj : j < N) : (expL p K N m L S).getD j (0, []) = (((j + 1 : Nat) : Int), vatV p (expP K L S) m ((j + 1 : Nat) : Int)) := by simp [expL, List.getD, hj]
theorem vatV_len (p : Int) (L : List Shr) (m : Nat) (x : Int) : (vatV p L m x).length = m := by simp [vatV]
theorem vatV_els {p : Int} (hp : 1 ≤ p) (L : List Shr) (m : Nat) (x : Int) : Els p (vatV p L m x) := fun y hy => by
  obtain ⟨i, _, rfl⟩ := List.mem_map.1 hy
  exact ipv_el hp _ _ _
theorem vatV_at {p : Int} {L : List Shr} {m i : Nat} {x : Int} (hi : i < m) : (vatV p L m x).getD i 0 = ipv p (L.map fun s : Shr => s.1) (L.map fun s : Shr => s.2.getD i 0) x := by simp [vatV, List.getD, hi]
theorem expL_gd {p : Int} (hp : 1 ≤ p) (K N m : Nat) (L : List Shr) (S : List Int) : Gd p N m (expL p K N m L S) := by
  refine ⟨fun x hx => ?_, fun x hx => ?_, fun x hx => ?_, ?_⟩
  · obtain ⟨j, hj, rfl⟩ := List.mem_map.1 hx
    have := List.mem_range.1 hj
    exact ⟨by show (1 : Int) ≤ ((j + 1 : Nat) : Int); omega, by show ((j + 1 : Nat) : Int) ≤ N; omega⟩
  · obtain ⟨j, hj, rfl⟩ := List.mem_map.1 hx
    exact vatV_els hp _ _ _
  · obtain ⟨j, hj, rfl⟩ := List.mem_map.1 hx
    exact vatV_len _ _ _ _
  · unfold expL
    rw [List.map_map, List.nodup_iff_pairwise_ne, List.pairwise_map]
    refine (List.pairwise_lt_range (n := N)).imp fun {a b} h => ?_
    show ((a + 1 : Nat) : Int) ≠ ((b + 1 : Nat) : Int)
    omega
/-- The polynomials of Explain. -/
def expF (p : Int) (K : Nat) (L : List Shr) (S : List Int) (i : Nat) : List Int := lag p ((expP K L S).map fun s : Shr => s.1) ((expP K L S).map fun s : Shr => s.2.getD i 0) ((expP K L S).map fun s : Shr => s.1).length
theorem ExpIn.on {p : Int} {N K m : Nat} {L : List Shr} {S : List Int} (h : ExpIn p N K m L S) : On p K m (expF p K L S) (expL p K N m L S) := by
  refine ⟨fun i => ?_, fun s hs i hi => ?_⟩
  · have h1 := lag_len p ((expP K L S).map fun s : Shr => s.1) ((expP K L S).map fun s : Shr => s.2.getD i 0) ((expP K L S).map fun s : Shr => s.1).length (Nat.le_refl _)
    have h2 : ((expP K L S).map fun s : Shr => s.1).length = K := by rw [List.length_map, h.len]
    rw [h2] at h1
    unfold expF
    rw [h2]
    exact h1
  · obtain ⟨j, _, rfl⟩ := List.mem_map.1 hs
    show (vatV p (expP K L S) m ((j + 1 : Nat) : Int)).getD i 0 = _
    rw [vatV_at hi, ipv_lag]
    rfl
theorem ExpIn.ys {p : Int} {N K m : Nat} {L : List Shr} {S : List Int} (h : ExpIn p N K m L S) (i j : Nat) : El p (((expP K L S).map fun s : Shr => s.2.getD i 0).getD j 0) := by
  have hp1 : 1 ≤ p := by have := h.prm.1; omega
  refine els_getD hp1 (fun x hx => ?_) j
  obtain ⟨s, hs, rfl⟩ := List.mem_map.1 hx
  exact els_getD hp1 (h.vals s hs) i
theorem ExpIn.zero {p : Int} {N K m : Nat} {L : List Shr} {S : List Int} (h : ExpIn p N K m L S) : ((List.range m).map fun i => E (expF p K L S i) 0 % p) = S := by
  refine List.ext_getElem (by simp [h.sl]) fun i h1 h2 => ?_
  rw [List.getElem_map, List.getElem_range]
  have e := ipv_at h.prm h.nodup h.els (j := 0) (ys := (expP K L S).map fun s : Shr => s.2.getD i 0) (by rw [List.length_map, h.len]; have := h.lk; omega) (h.ys i 0)
  rw [ipv_lag] at e
  have e2 : ((expP K L S).map fun s : Shr => s.2.getD i 0).getD 0 0 = S.getD i 0 := rfl
  have e3 : ((expP K L S).map fun s : Shr => s.1).getD 0 0 = 0 := rfl
  rw [e2, e3, getD_at h2] at e
  exact e
theorem ExpIn.known {p : Int} {N K m : Nat} {L : List Shr} {S : List Int} (h : ExpIn p N K m L S) {j : Nat} (hj : j < L.length) : vatV p (expP K L S) m (L.getD j (0, [])).1 = (L.getD j (0, [])).2 := by
  have hm : L.getD j (0, []) ∈ L := by rw [List.getD_eq_getElem?_getD, List.getElem?_eq_getElem hj]; exact List.getElem_mem _
  have hl := h.gd.len _ hm
  have hg : (expP K L S).getD (j + 1) (0, []) = L.getD j (0, []) := by simp [expP, List.getD, List.getElem?_append, hj]
  refine List.ext_getElem (by rw [vatV_len, hl]) fun i h1 h2 => ?_
  rw [← getD_at h1, ← getD_at h2]
  rw [vatV_len] at h1
  rw [vatV_at h1]
  have hlk : j + 1 < ((expP K L S).map fun s : Shr => s.1).length := by rw [List.length_map, h.len]; have := h.lk; omega
  have e := ipv_at h.prm h.nodup h.els (j := j + 1) (ys := (expP K L S).map fun s : Shr => s.2.getD i 0) hlk (h.ys i (j + 1))
  have e2 : ((expP K L S).map fun s : Shr => s.1).getD (j + 1) 0 = (L.getD j (0, [])).1 := by
    rw [← hg]
    rw [List.length_map] at hlk
    simp [List.getD, hlk]
  rw [map_getD, hg, e2] at e
  exact e

/-! ### Lists of shares of the call's own, with values that lie anywhere -/
theorem Ints.grown2 {w w' : World} {v : Value} {l : List Int} {row : Option Nat} (h : Ints w v l) (k : w.grownBy w' row) (hb : ∀ g, v.ownBlock = some g → l ≠ [] → row ≠ some g) : Ints w' v l := by
  by_cases hl : l = []
  · obtain ⟨a, c, rfl⟩ := h.shape
    subst hl
    exact ints_zero _ _ _
  · exact h.grown k fun g hg => hb g hg hl
def InR (w : World) (lim : Nat) (z : Int × Value) (s : Shr) : Prop := z.1 = s.1 ∧ Ints w z.2 s.2 ∧ ∀ q, z.2.ownBlock = some q → s.2 ≠ [] → q < lim
def GathR (w : World) (lim base : Nat) (v : Value) (L : List Shr) : Prop := ∃ Z : List (Int × Value), Z.length = L.length ∧ w.ownsRow base 42 2 v L.length (flatZ Z) ∧ ∀ i, i < L.length → InR w lim (Z.getD i (0, undef)) (L.getD i (0, []))
theorem GathR.kept {w w' : World} {lim base : Nat} {v : Value} {L : List Shr} {row : Option Nat} (h : GathR w lim base v L) (k : w.grownBy w' row) (hr : ∀ g, row = some g → lim ≤ g) (hv : ∀ g, row = some g → v.ownBlock ≠ some g) : GathR w' lim base v L := by
  obtain ⟨Z, z1, z2, z3⟩ := h
  refine ⟨Z, z1, World.ownsRow.kept z2 k ?_, fun i hi => ?_⟩
  · cases e : v.ownBlock with
    | none => exact .inl rfl
    | some q => exact .inr fun e2 => hv q e2.symm e
  · obtain ⟨e1, e2, e3⟩ := z3 i hi
    exact ⟨e1, e2.grown2 k fun g hg hl e => by have h1 := e3 g hg hl; have h2 := hr g e; omega, e3⟩
theorem GathR.below {w w' : World} {lim base B : Nat} {v : Value} {L : List Shr} (h : GathR w lim base v L) (b : Below B w w') (hB : w.heap.size ≤ B) : GathR w' lim base v L :=
  h.kept (grownBy_of_below b hB) (fun g e => by cases e) (fun g e => by cases e)
theorem GathR.set {w : World} {lim base : Nat} {v : Value} {L : List Shr} (h : GathR w lim base v L) {q : Nat} (hq : lim ≤ q) (hb : q < base) (o : Nat) (x : Value) : GathR (w.setCell ⟨q, o, none⟩ x) lim base v L := by
  have hrow : ∀ g, v.ownBlock = some g → base ≤ g := by
    obtain ⟨Z, _, z2, _⟩ := h
    exact fun g hg => (World.ownsRow.lt z2 g hg).1
  exact h.kept (row := some q) ⟨rfl, rfl, rfl, by simp, fun k _ hk => Below.heap_setCell w ⟨q, o, none⟩ x k (fun e => hk (by rw [e]))⟩ (fun g e => by simp at e; omega) (fun g e e2 => by have := hrow g e2; simp at e; omega)
theorem GathR.alloc {w : World} {lim base : Nat} {v : Value} {L : List Shr} (h : GathR w lim base v L) (o : Obj) : GathR (w.alloc o) lim base v L :=
  h.below ((Below.refl _ _).alloc (Nat.le_refl _) o) (Nat.le_refl _)
theorem GathR.block {w : World} {lim base : Nat} {v : Value} {L : List Shr} (h : GathR w lim base v L) : ∀ g, v.ownBlock = some g → base ≤ g ∧ g < w.heap.size := by
  obtain ⟨Z, _, z2, _⟩ := h
  exact fun g hg => World.ownsRow.lt z2 g hg
theorem GathR.shape {w : World} {lim base : Nat} {v : Value} {L : List Shr} (h : GathR w lim base v L) : ∃ a c, v = .slice a L.length c ∧ L.length ≤ c ∧ c ≤ 9223372036854775807 := by
  obtain ⟨Z, _, ⟨_, h | ⟨g, cap, cur, h, _, _, h2, h3, _⟩⟩, _⟩ := h
  · exact ⟨none, 0, by rw [h.1, h.2], by omega, by omega⟩
  · exact ⟨_, cap, h, h2, by simpa [maxLen] using h3⟩
theorem GathR.shares {w : World} {lim base : Nat} {v : Value} {L : List Shr} (h : GathR w lim base v L) (hl : L.length ≤ 1000) : Shares w v L := by
  obtain ⟨a, c, hv, hc1, hc2⟩ := h.shape
  obtain ⟨Z, h1, h2, h3⟩ := h
  refine ⟨a, c, hv, hl, hc1, hc2, fun hne => ?_⟩
  have h0 : 0 < L.length := List.length_pos_iff.2 hne
  rcases id h2.2 with ⟨_, h⟩ | ⟨g, cap, cur, hv2, _⟩
  · omega
  · rw [hv2] at hv
    simp only [Value.slice.injEq] at hv
    obtain ⟨rfl, _, _⟩ := hv
    have hcell := World.ownsRow.cells h2 (g := g) (by rw [hv2]; rfl)
    have had : ∀ j, (⟨g, 0, none⟩ : Addr).add j = ⟨g, j, none⟩ := fun j => by unfold Addr.add; split <;> simp_all
    refine ⟨g, 0, rfl, fun i hi => ?_⟩
    obtain ⟨f1, f2⟩ := flatZ_get Z i (by omega)
    have c1 := hcell _ _ f1
    have c2 := hcell _ _ f2
    rw [had] at c1 c2
    obtain ⟨e1, e2, _⟩ := h3 i hi
    rw [Nat.zero_add]
    exact ⟨_, by rw [← e1]; exact c1, c2, e2⟩


section
variable {ops : Array Oper} {rest : List Oper} {o : Oper} {a : Act} {Q : Exit → Act → World → Prop}
/-- 'append(l, s)', l a list of shares of the call's own. -/
theorem appendR_one (w : World) (hgd : o.guard = none) (s x : Operand) (ho : o.op = .call { callee := .builtin .append, args := #[s, x], argTypes := #[23, 23] })
    (lim base : Nat) (v : Value) (L : List Shr) (hd : Int) (gv : Value) (l : List Int) (hs : a.eval s = v) (hown : GathR w lim base v L) (ad : Nat) (hx : a.eval x = .slice (some ⟨ad, 0, none⟩) 1 1) (hc0 : w.cell? ⟨ad, 0, none⟩ = some (.int .i64 hd)) (hc1 : w.cell? ⟨ad, 1, none⟩ = some gv)
    (hS : Ints w gv l) (hblk : ∀ g, gv.ownBlock = some g → l ≠ [] → g < lim) (hlim : lim ≤ base) (hlen : L.length < 1000) (hbase : base ≤ w.heap.size)
    (h : ∀ v' w', GathR w' lim base v' (L ++ [(hd, l)]) → w.grownBy w' v.ownBlock → (v'.ownBlock = v.ownBlock ∨ v'.ownBlock = some w.heap.size) → wpList Tryz.prog ops Q rest (a.put o.dst v') w') : wpList Tryz.prog ops Q (o :: rest) a w := by
  obtain ⟨i0, hi, hz0, hz1, hz2⟩ := info_parts infoShare
  obtain ⟨Z, z1, z2, z3⟩ := hown
  refine wpList_append_own_at w hgd s x 23 ho base 42 i0 (.agg #[.int .i64 0, .slice none 0 0]) 2 32 Tryz.underlying23 hi hz0 hz1 hz2 rfl (by decide) v L.length (flatZ Z) hs z2 ⟨ad, 0, none⟩ 1 1 [.int .i64 hd, gv] hx rfl ?_ ?_ ?_ ?_ hbase ?_
  · have had : ∀ j, (⟨ad, 0, none⟩ : Addr).add j = ⟨ad, j, none⟩ := fun j => by unfold Addr.add; split <;> simp_all
    intro j u hj
    rw [had]
    match j, hj with
    | 0, hj => simp at hj; subst hj; exact hc0
    | 1, hj => simp at hj; subst hj; exact hc1
  · obtain ⟨_, _, rfl⟩ := hS.shape
    intro u hu
    simp only [List.mem_cons, List.not_mem_nil, or_false] at hu
    rcases hu with rfl | rfl <;> rfl
  · unfold maxLen; omega
  · omega
  · intro v' w' h1 h2 _ h5
    refine h v' w' ⟨Z ++ [(hd, gv)], by simp [z1], by rw [flatZ_snoc, List.length_append]; exact h1, fun i hi => ?_⟩ h2 h5
    rw [List.length_append, List.length_singleton] at hi
    have hrow : ∀ g, v.ownBlock = some g → base ≤ g := fun g hg => (World.ownsRow.lt z2 g hg).1
    by_cases hlt : i < L.length
    · have e1 : (Z ++ [(hd, gv)]).getD i (0, undef) = Z.getD i (0, undef) := by simp [List.getD, List.getElem?_append, z1, hlt]
      have e2 : (L ++ [(hd, l)]).getD i (0, []) = L.getD i (0, []) := by simp [List.getD, List.getElem?_append, hlt]
      rw [e1, e2]
      obtain ⟨q1, q2, q3⟩ := z3 i hlt
      exact ⟨q1, q2.grown2 h2 (fun g hg hl e => by have := q3 g hg hl; have := hrow g e; omega), q3⟩
    · obtain rfl : i = L.length := by omega
      have e1 : (Z ++ [(hd, gv)]).getD L.length (0, undef) = (hd, gv) := by simp [List.getD, ← z1]
      have e2 : (L ++ [(hd, l)]).getD L.length (0, []) = (hd, l) := by simp [List.getD]
      rw [e1, e2]
      exact ⟨rfl, hS.grown2 h2 (fun g hg hl e => by have := hblk g hg hl; have := hrow g e; omega), hblk⟩
end
end Go.Proofs.YtpgbjnenllfmlaaGreatDoor
/-! What the program's Explain checks. -/
namespace Go.Proofs.YtpgbjnenllfmlaaGreatDoor
open Go.RowKit Go.Sort
open Num
set_option linter.unusedVariables false

/-- The error of Explain. -/
noncomputable def expE (p k n : Int) (L : List Shr) (S : List Int) : Int := if planB p k n = true ∧ goodB p n L = true ∧ (0 < L.length → (L.getD 0 (0, [])).2.length = S.length) then (if elB p S = true then (if k ≤ (L.length : Int) ∨ 2048 < S.length then 3 else 0) else 2) else 1
theorem expE_one {p k n : Int} {L : List Shr} {S : List Int} (h : ¬ (planB p k n = true ∧ goodB p n L = true ∧ (0 < L.length → (L.getD 0 (0, [])).2.length = S.length))) : expE p k n L S = 1 := by unfold expE; rw [if_neg h]
theorem expE_two {p k n : Int} {L : List Shr} {S : List Int} (h : planB p k n = true ∧ goodB p n L = true ∧ (0 < L.length → (L.getD 0 (0, [])).2.length = S.length)) (h2 : elB p S = false) : expE p k n L S = 2 := by unfold expE; rw [if_pos h, if_neg (by rw [h2]; simp)]
theorem expE_three {p k n : Int} {L : List Shr} {S : List Int} (h : planB p k n = true ∧ goodB p n L = true ∧ (0 < L.length → (L.getD 0 (0, [])).2.length = S.length)) (h2 : elB p S = true) (h3 : k ≤ (L.length : Int) ∨ 2048 < S.length) : expE p k n L S = 3 := by unfold expE; rw [if_pos h, if_pos h2, if_pos h3]
theorem expE_ok {p k n : Int} {L : List Shr} {S : List Int} (h : planB p k n = true ∧ goodB p n L = true ∧ (0 < L.length → (L.getD 0 (0, [])).2.length = S.length)) (h2 : elB p S = true) (h3 : ¬ (k ≤ (L.length : Int) ∨ 2048 < S.length)) : expE p k n L S = 0 := by unfold expE; rw [if_pos h, if_pos h2, if_neg h3]

end Go.Proofs.YtpgbjnenllfmlaaGreatDoor
/-! The points of Explain: the program's explaining. -/
namespace Go.Proofs.YtpgbjnenllfmlaaGreatDoor
open Go.RowKit Go.Sort
open Num
set_option linter.unusedVariables false

theorem contains_any (L : List Shr) (x : Int) : (L.map fun s : Shr => s.1).contains x = L.any fun s => s.1 == x := by
  rw [Bool.eq_iff_iff]
  simp only [List.contains_iff_mem, List.any_eq_true, List.mem_map, beq_iff_eq]
theorem seenB_all (L : List Shr) (i : Nat) : seenB L L.length i = (L.map fun s : Shr => s.1).contains (i : Int) := by
  unfold seenB
  rw [List.take_length, contains_any]
/-- What has been put together behind the known shares. -/
def expQ (L : List Shr) (S : List Int) (h : Nat) : List Shr := (0, S) :: (L ++ (freeU (L.map fun s : Shr => s.1) h).map fun x => (x, []))
theorem expQ_len (L : List Shr) (S : List Int) (h : Nat) : (expQ L S h).length = 1 + L.length + (freeU (L.map fun s : Shr => s.1) h).length := by
  unfold expQ
  rw [List.length_cons, List.length_append, List.length_map]; omega
theorem expQ_skip {L : List Shr} {S : List Int} {h : Nat} (e : (L.map fun s : Shr => s.1).contains ((h + 1 : Nat) : Int) = true) : expQ L S (h + 1) = expQ L S h := by
  unfold expQ
  rw [freeU_succ, if_pos e, List.append_nil]
theorem expQ_add {L : List Shr} {S : List Int} {h : Nat} (e : (L.map fun s : Shr => s.1).contains ((h + 1 : Nat) : Int) = false) : expQ L S (h + 1) = expQ L S h ++ [(((h + 1 : Nat) : Int), [])] := by
  unfold expQ
  rw [freeU_succ, if_neg (by rw [e]; simp)]
  simp
theorem expQ_end {L : List Shr} {S : List Int} {h K : Nat} (hl : L.length < K) (hh : h ≤ 32) (e : (expQ L S h).length = K) : expQ L S h = expP K L S := by
  rw [expQ_len] at e
  unfold expQ expP
  rw [freeT_eq hh (c := K - 1 - L.length) (by omega)]
theorem expQ_zero (L : List Shr) (S : List Int) : expQ L S 0 = (0, S) :: L := by simp [expQ, freeU]

/-- A share of a list that came in, in a later world; its values lie below the call's own memory. -/
theorem Shares.at2 {w W : World} {a : Option Addr} {n c : Nat} {L : List Shr} (h : Shares w (.slice a n c) L) (hb : Below w.heap.size w W) {i : Nat} (hi : i < n) :
    ∃ b off v, a = some ⟨b, off, none⟩ ∧ W.cell? ⟨b, off + i * 2, none⟩ = some (.int .i64 (L.getD i (0, [])).1) ∧ W.cell? ⟨b, off + i * 2 + 1, none⟩ = some v ∧ Ints W v (L.getD i (0, [])).2 ∧ ∀ q, v.ownBlock = some q → (L.getD i (0, [])).2 ≠ [] → q < w.heap.size := by
  obtain ⟨b, off, v, e, c0, c1, hI⟩ := h.at hi
  have hlt := cell_lt c0
  exact ⟨b, off, v, e, by rw [hb.cell (p := ⟨b, off + i * 2, none⟩) hlt]; exact c0, by rw [hb.cell (p := ⟨b, off + i * 2 + 1, none⟩) hlt]; exact c1, hI.below (Nat.le_refl _) hb, hI.blk⟩
theorem cells_new2 (w : World) (x y : Value) (t : TypeId) (k : Nat) (hk : w.heap.size = k) : (w.alloc (.cells #[x, y] t)).cell? ⟨k, 0, none⟩ = some x ∧ (w.alloc (.cells #[x, y] t)).cell? ⟨k, 1, none⟩ = some y := by
  subst hk
  exact ⟨by rw [cell_new]; rfl, by rw [cell_new]; rfl⟩

end Go.Proofs.YtpgbjnenllfmlaaGreatDoor
/-! Shares that explain: the program's Explain. -/
namespace Go.Proofs.YtpgbjnenllfmlaaGreatDoor
open Go.RowKit Go.Sort
open Num
set_option linter.unusedVariables false

noncomputable def expR (p k n : Int) (L : List Shr) (S : List Int) : List Shr := if expE p k n L S = 0 then expL p k.toNat n.toNat S.length L S else []
theorem expE_in {p k n : Int} {L : List Shr} {S : List Int} (h : expE p k n L S = 0) : ∃ K N : Nat, k = (K : Int) ∧ n = (N : Int) ∧ planB p k n = true ∧ S.length ≤ 2048 ∧ 1 ≤ K ∧ p ≤ 1073741824 ∧ ExpIn p N K S.length L S := by
  unfold expE at h
  by_cases h1 : planB p k n = true ∧ goodB p n L = true ∧ (0 < L.length → (L.getD 0 (0, [])).2.length = S.length)
  · rw [if_pos h1] at h
    by_cases h2 : elB p S = true
    · rw [if_pos h2] at h
      by_cases h3 : k ≤ (L.length : Int) ∨ 2048 < S.length
      · rw [if_pos h3] at h; cases h
      · obtain ⟨q1, q2, q3, q4, q5, q6⟩ := planB_parts h1.1
        obtain ⟨K, rfl⟩ := Int.eq_ofNat_of_zero_le (show 0 ≤ k by omega)
        obtain ⟨N, rfl⟩ := Int.eq_ofNat_of_zero_le (show 0 ≤ n by omega)
        refine ⟨K, N, rfl, rfl, h1.1, by omega, by omega, q2, q1, ?_, rfl, els_of_elB h2, by omega, by omega, by omega, q6⟩
        by_cases h0 : 0 < L.length
        · exact goodB_gd rfl h1.2.1 (h1.2.2 h0)
        · obtain rfl : L = [] := List.eq_nil_of_length_eq_zero (by omega)
          exact ⟨fun s hs => (by cases hs), fun s hs => (by cases hs), fun s hs => (by cases hs), List.nodup_nil⟩
    · rw [if_neg h2] at h; cases h
  · rw [if_neg h1] at h; cases h
/-- The shares as they are made: their row, and the values of the first k. -/
structure ExpW (w : World) (g q N k : Nat) (f : Nat → List Int) : Prop where
  row : ∃ Z : Nat → Value, RowS w q N (fun j => if j < k then (((j + 1 : Nat) : Int), Z j) else (0, .slice none 0 0)) ∧ ∀ j, j < k → Ints w (Z j) (f j) ∧ ∀ b, (Z j).ownBlock = some b → q < b
  qlo : g ≤ q
  lt : q < w.heap.size
theorem expW_start (w : World) (g N : Nat) (f : Nat → List Int) (t : TypeId) (hg : g ≤ w.heap.size) : ExpW (w.alloc (.cells (madeCells #[.int .i64 0, .slice none 0 0] (N * 2)) t)) g w.heap.size N 0 f := by
  have h := made_start w g N 0 (fun _ => 0) (fun _ _ => 0) t hg
  exact ⟨⟨fun _ => .slice none 0 0, rowS_congr h.row fun i hi => by simp, fun j hj => by omega⟩, h.qlo, h.lt⟩
theorem ExpW.grow {w w' : World} {g q N k : Nat} {f : Nat → List Int} (h : ExpW w g q N k f) (b : Below w.heap.size w w') : ExpW w' g q N k f := by
  obtain ⟨Z, h1, h2⟩ := h.row
  exact ⟨⟨Z, h1.of_block (b.block q h.lt), fun j hj => ⟨(h2 j hj).1.below (Nat.le_refl _) b, (h2 j hj).2⟩⟩, h.qlo, Nat.lt_of_lt_of_le h.lt b.size⟩
theorem Ints.setRow2 {w : World} {v : Value} {l : List Int} (h : Ints w v l) {q : Nat} (hq : ∀ b, v.ownBlock = some b → q < b) (o : Nat) (x y : Value) : Ints (w.setCells q o [x, y]) v l :=
  h.but ((But.set w ⟨q, o, none⟩ x).trans (But.set _ ⟨q, o + 1, none⟩ y)) (fun g hg => by have := hq g hg; show g ≠ q; omega)
theorem ExpW.push {w : World} {g q N k : Nat} {f : Nat → List Int} (h : ExpW w g q N k f) (hk : k < N) {v : Value} (hv : Ints w v (f k)) (hb : ∀ b, v.ownBlock = some b → q < b) : ExpW (w.setCells q (k * 2) [.int .i64 ((k + 1 : Nat) : Int), v]) g q N (k + 1) f := by
  obtain ⟨Z, h1, h2⟩ := h.row
  refine ⟨⟨fun j => if j = k then v else Z j, ?_, fun j hj => ?_⟩, h.qlo, by rw [setCells2_size]; exact h.lt⟩
  · refine rowS_congr (h1.store hk (((k + 1 : Nat) : Int), v)) fun i hi => ?_
    by_cases e : i = k
    · subst e; simp
    · by_cases e2 : i < k
      · simp [e, e2, show i < k + 1 by omega]
      · simp [e, e2, show ¬ i < k + 1 by omega]
  · by_cases e : j = k
    · subst e
      simp only [if_true]
      exact ⟨hv.setRow2 hb _ _ _, hb⟩
    · simp only [if_neg e]
      have h3 := h2 j (by omega)
      exact ⟨h3.1.setRow2 h3.2 _ _ _, h3.2⟩
theorem ExpW.shares {w : World} {g q N : Nat} {f : Nat → List Int} (h : ExpW w g q N N f) {L : List Shr} (hl : L.length = N) (hN : N ≤ 1000) (he : ∀ j, j < N → L.getD j (0, []) = (((j + 1 : Nat) : Int), f j)) : SharesN w g (.slice (some ⟨q, 0, none⟩) N N) L := by
  subst hl
  obtain ⟨Z, h1, h2⟩ := h.row
  refine ⟨_, _, rfl, hN, Nat.le_refl _, by omega, fun _ => ⟨q, 0, rfl, h.qlo, fun i hi => ?_⟩⟩
  obtain ⟨c0, c1, _, _⟩ := h1 i hi
  simp only [if_pos hi] at c0 c1
  rw [he i hi, Nat.zero_add]
  obtain ⟨q1, q2⟩ := h2 i hi
  exact ⟨_, c0, c1, q1, fun b hb => by have := q2 b hb; have := h.qlo; omega⟩

end Go.Proofs.YtpgbjnenllfmlaaGreatDoor
