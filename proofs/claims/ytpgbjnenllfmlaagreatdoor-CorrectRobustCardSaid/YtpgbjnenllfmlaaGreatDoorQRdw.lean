
/- The mathematics of the document's Robust: which holders have been found wrong, and what is returned. -/
import Derived.Test.YtpgbjnenllfmlaaGreatDoorQBea
import Derived.Test.YtpgbjnenllfmlaaGreatDoorQOn3
import Derived.Test.YtpgbjnenllfmlaaGreatDoorQOnE
import Derived.Test.YtpgbjnenllfmlaaGreatDoorQLid
import Derived.StillTailTactics
import Derived.Deep.RegionHeld3
import Derived.Deep.DeepCutAuto
/-! The mathematics of the document's Robust: which holders have been found wrong, and what is returned. -/
namespace Go.Proofs.YtpgbjnenllfmlaaGreatDoor
open Go.RowKit Go.Sort
open Num
set_option linter.unusedVariables false

/-- Whether holder h was found wrong: in the first i places, or among the first k points of place i. -/
def wrB (p : Int) (F : Nat → List Int) (L : List Shr) (i k h : Nat) : Bool :=
  ((List.range i).any fun i' => (mis p (F i') (plX L) (plY L i')).contains (h : Int)) || (mis p (F i) ((plX L).take k) ((plY L i).take k)).contains (h : Int)
theorem wrB_iff (p : Int) (F : Nat → List Int) (L : List Shr) (i k h : Nat) : wrB p F L i k h = true ↔ (∃ i', i' < i ∧ (h : Int) ∈ mis p (F i') (plX L) (plY L i')) ∨ (h : Int) ∈ mis p (F i) ((plX L).take k) ((plY L i).take k) := by
  simp [wrB, List.any_eq_true]
theorem mis_nil (p : Int) (f : List Int) : mis p f [] [] = [] := rfl
theorem wrB_zero (p : Int) (F : Nat → List Int) (L : List Shr) (h : Nat) : wrB p F L 0 0 h = false := by
  cases hb : wrB p F L 0 0 h
  · rfl
  · rw [wrB_iff] at hb
    simp [mis_nil] at hb
theorem wrB_next (p : Int) (F : Nat → List Int) (L : List Shr) (i h : Nat) : wrB p F L (i + 1) 0 h = wrB p F L i L.length h := by
  apply Bool.eq_iff_iff.2
  have e1 : (plX L).take L.length = plX L := List.take_of_length_le (by rw [plX_len]; exact Nat.le_refl _)
  have e2 : (plY L i).take L.length = plY L i := List.take_of_length_le (by rw [plY_len]; exact Nat.le_refl _)
  rw [wrB_iff, wrB_iff, e1, e2]
  simp only [List.take_zero, mis_nil, List.not_mem_nil, or_false]
  constructor
  · rintro ⟨i', hi, hm⟩
    by_cases e : i' = i
    · subst e; exact .inr hm
    · exact .inl ⟨i', by omega, hm⟩
  · rintro (⟨i', hi, hm⟩ | hm)
    · exact ⟨i', by omega, hm⟩
    · exact ⟨i, by omega, hm⟩
theorem wrB_set (p : Int) (F : Nat → List Int) (L : List Shr) (i h : Nat) (f : List Int) : wrB p (fun j => if j = i then f else F j) L i 0 h = wrB p F L i 0 h := by
  apply Bool.eq_iff_iff.2
  rw [wrB_iff, wrB_iff]
  simp only [List.take_zero, mis_nil, List.not_mem_nil, or_false]
  constructor
  · rintro ⟨i', hi, hm⟩; rw [if_neg (by omega)] at hm; exact ⟨i', hi, hm⟩
  · rintro ⟨i', hi, hm⟩; exact ⟨i', hi, by rw [if_neg (by omega)]; exact hm⟩
/-- One point more. -/
theorem wrB_step {p : Int} {F : Nat → List Int} {L : List Shr} {i k H : Nat} (hk : k < L.length) (hH : (L.getD k (0, [])).1 = (H : Int)) (h : Nat) :
    wrB p F L i (k + 1) h = if h = H then (wrB p F L i k H || !(E (F i) (H : Int) % p == (L.getD k (0, [])).2.getD i 0)) else wrB p F L i k h := by
  have ht := mis_take (p := p) (f := F i) (xs := plX L) (ys := plY L i) (k := k) (by rw [plX_len]; exact hk) (by rw [plX_len, plY_len])
  rw [plX_at hk, plY_at hk, hH] at ht
  unfold wrB
  rw [ht]
  by_cases e : h = H
  · subst e
    rw [if_pos rfl]
    by_cases hm : E (F i) (h : Int) % p = (L.getD k (0, [])).2.getD i 0
    · rw [if_pos hm]
      have : (E (F i) (h : Int) % p == (L.getD k (0, [])).2.getD i 0) = true := by simpa using hm
      rw [this]; simp
    · rw [if_neg hm]
      have : (E (F i) (h : Int) % p == (L.getD k (0, [])).2.getD i 0) = false := by simpa using hm
      rw [this]; simp
  · rw [if_neg e]
    have hne : ¬ (h : Int) = (H : Int) := by omega
    split
    · simp
    · simp [hne]

/-- The marked numbers below k, ascending. -/
def outF (f : Nat → Bool) (k : Nat) : List Int := ((List.range k).filter f).map (fun h : Nat => (h : Int))
theorem outF_yes {f : Nat → Bool} {k : Nat} (h : f k = true) : outF f (k + 1) = outF f k ++ [(k : Int)] := by
  unfold outF; rw [List.range_succ, List.filter_append]; simp [h]
theorem outF_no {f : Nat → Bool} {k : Nat} (h : f k = false) : outF f (k + 1) = outF f k := by
  unfold outF; rw [List.range_succ, List.filter_append]; simp [h]
theorem outF_len (f : Nat → Bool) (k : Nat) : (outF f k).length ≤ k := by
  unfold outF; rw [List.length_map]
  exact Nat.le_trans (List.length_filter_le _ _) (by simp)
theorem outF_mem (f : Nat → Bool) (k : Nat) (x : Int) : x ∈ outF f k ↔ ∃ h : Nat, h < k ∧ f h = true ∧ (h : Int) = x := by
  unfold outF
  rw [List.mem_map]
  constructor
  · rintro ⟨h, hm, e⟩
    obtain ⟨h1, h2⟩ := List.mem_filter.1 hm
    exact ⟨h, List.mem_range.1 h1, h2, e⟩
  · rintro ⟨h, h1, h2, e⟩
    exact ⟨h, List.mem_filter.2 ⟨List.mem_range.2 h1, h2⟩, e⟩
theorem outF_asc (f : Nat → Bool) (k : Nat) : (outF f k).Pairwise (· < ·) := by
  unfold outF
  rw [List.pairwise_map]
  refine ((List.pairwise_lt_range (n := k)).sublist List.filter_sublist).imp fun h => ?_
  omega

/-- For good shares the arguments of One are permitted. -/
theorem good_one {p : Int} {K N m : Nat} {L : List Shr} (hprm : PrmI p) (hp2 : p ≤ 1073741824) (hg : Gd p N m L) (hN : N ≤ 16) (hNp : (N : Int) < p) (hK : 1 ≤ K) (hKL : K ≤ L.length) (i : Nat) :
    oneC p (K : Int) (((L.length - K) / 2 : Nat) : Int) (plX L) (plY L i) = 0 := by
  have hp1 : 1 ≤ p := by have := hprm.1; omega
  refine oneC_ok ⟨vB_true hprm hp2, by omega, by omega, by rw [plX_len, plY_len], by rw [plX_len]; exact Nat.le_trans (gd_le hg) hN, fun x hx => ?_, fun y hy => ?_, hg.one⟩ (by rw [plX_len]; omega)
  · obtain ⟨s, hs, rfl⟩ := List.mem_map.1 hx
    have := hg.hold s hs
    exact ⟨by omega, by omega⟩
  · obtain ⟨s, hs, rfl⟩ := List.mem_map.1 hy
    exact els_getD hp1 (hg.els s hs) i

/-- What is returned where nobody was out of place. -/
theorem rob_end {p : Int} {K N m t : Nat} {L : List Shr} {F : Nat → List Int} {S : List Int} (hg : Gd p N m L) (hN : N ≤ 16) (ht : (L.length - K) / 2 = t) (hl : S.length = m)
    (hF : ∀ i, i < m → OneB p K t (plX L) (plY L i) (F i)) (hS : ∀ i, i < m → S.getD i 0 = E (F i) 0 % p) :
    ((outF (wrB p F L m 0) 17).length ≤ t → RobR p K m L S (outF (wrB p F L m 0) 17) 0) ∧ (t < (outF (wrB p F L m 0) 17).length → RobR p K m L [] [] 9) := by
  subst ht
  have hmem : ∀ h, h ∈ outF (wrB p F L m 0) 17 ↔ ∃ i, i < m ∧ h ∈ mis p (F i) (plX L) (plY L i) := fun h => by
    rw [outF_mem]
    constructor
    · rintro ⟨j, _, hb, rfl⟩
      rw [wrB_iff] at hb
      simpa [mis_nil] using hb
    · rintro ⟨i, hi, hm⟩
      have hx := mis_sub (by rw [plX_len, plY_len]) hm
      obtain ⟨s, hs, rfl⟩ := List.mem_map.1 hx
      have := hg.hold s hs
      refine ⟨s.1.toNat, by omega, (wrB_iff _ _ _ _ _ _).2 (.inl ⟨i, hi, by rw [show ((s.1.toNat : Nat) : Int) = s.1 by omega]; exact hm⟩), by omega⟩
  refine ⟨fun h => ⟨.inl rfl, fun _ => ⟨hl, outF_asc _ _, h, F, hF, hS, hmem⟩, fun h0 => absurd rfl h0⟩, fun h => ⟨.inr rfl, fun h0 => by omega, fun _ => ⟨rfl, rfl, .inr ⟨F, hF, fun V hn hV => ?_⟩⟩⟩⟩
  have hp := (List.perm_ext_iff_of_nodup hn ((outF_asc (wrB p F L m 0) 17).imp fun h => by omega)).2 fun x => by rw [hV x, hmem x]
  rw [hp.length_eq]; exact h
theorem rob_none {p : Int} {K m i : Nat} {L : List Shr} (hi : i < m) (h : ∀ f, ¬ OneB p K ((L.length - K) / 2) (plX L) (plY L i) f) : RobR p K m L [] [] 9 :=
  ⟨.inr rfl, fun h0 => by omega, fun _ => ⟨rfl, rfl, .inl ⟨i, hi, h⟩⟩⟩
end Go.Proofs.YtpgbjnenllfmlaaGreatDoor
/-! The document's Robust, for plans and shares that are good: the walk. -/
namespace Go.Proofs.YtpgbjnenllfmlaaGreatDoor
open Go.RowKit Go.Sort
open Num
set_option linter.unusedVariables false

set_option maxRecDepth 100000 in
set_option maxHeartbeats 4000000 in
theorem ref7_room (p k n s : Int) (w : World) (hk1 : 1 ≤ k) (hk : (Lit.int .i64 k).wf = true) (hs : (Lit.int .i64 s).wf = true) :
    Calls Tryz.prog 40 #[planV p k n, .int .i64 s] w fun e w' => e = .returned (.int .i64 (roomV k s)) ∧ Below w.heap.size w w' := by
  unfold planV
  have HB : Hid (Below w.heap.size w (w.alloc (Obj.cells #[Value.int IntKind.i64 p, Value.int IntKind.i64 k, Value.int IntKind.i64 n] 31))) := (Below.refl _ _).alloc (Nat.le_refl _) _
  have hk2 := wf_range hk
  have hs2 := wf_range hs
  by_cases hlt : s < k
  · have HR : Hid (roomV k s = -1) := by show _ = _; unfold roomV; rw [if_pos hlt]
    rw [HR.out]
    clear hk hs hk2 hs2
    go_enter Tryz.func40, Tryz.ntmps40
    go_wp2
    go_ret
    exact ⟨rfl, HB.out⟩
  · have HR : Hid (roomV k s = (s - k) / 2) := by show _ = _; unfold roomV; rw [if_neg hlt]
    rw [HR.out]
    have u5 : 0 ≤ s - k := by omega
    obtain ⟨r, hr⟩ : ∃ r, (s - k) / 2 = r := ⟨_, rfl⟩
    have u3 : IntKind.i64.wrap (s - k) = s - k := by rw [IntKind.wrap_i64]; omega
    have u4 : IntKind.i64.wrap r = r := by rw [IntKind.wrap_i64]; omega
    have u7 : (s - k).tdiv 2 = r := by rw [Int.tdiv_eq_ediv_of_nonneg u5]; exact hr
    have HRR := Lib.hid hr
    clear hk hs hr
    go_enter Tryz.func40, Tryz.ntmps40
    go_wp2
    go_ret
    exact ⟨by rw [HRR.out]; rfl, HB.out⟩
/-- A proposition that is not looked into. -/
structure Qsh (p : Prop) : Prop where
  out : p
theorem qsh_step {P : Program} {ops : Array Oper} {w : World} {Q : Act → Prop} {a : Act} {o : Oper} {rest : List Oper}
    (h : ∀ K : Act → Prop, (∀ a, Qsh (wpStill P ops w Q rest a) → K a) → if Region.wanted o (yielded ops a.tmps) then o.still P a w K else K (a.put o.dst undef)) : Qsh (wpStill P ops w Q (o :: rest) a) :=
  ⟨wpStill_step fun K hK => h K fun a ha => hK a ha.out⟩
/-- What Robust keeps: the plan, who was found wrong, the secret as far as it is known. -/
structure Rb (w0 W : World) (g gw lo : Nat) (p K N : Int) (f : Nat → Bool) (o : Value) (S : List Int) : Prop where
  pl : PlanAt W g p K N
  row : W.rowIs gw 59 17 (fun h => .bool (f h))
  out : Gath W lo o S
  be : Below g w0 W
  gg : g = w0.heap.size
  l1 : g < gw
  l2 : gw < lo
  sz : lo ≤ W.heap.size
section
variable {w0 W W' : World} {g gw lo : Nat} {p K N : Int} {f f' : Nat → Bool} {o o' : Value} {S S' : List Int}
theorem Rb.below (h : Rb w0 W g gw lo p K N f o S) (b : Below W.heap.size W W') : Rb w0 W' g gw lo p K N f o S := by
  have h1 := h.l1; have h2 := h.l2; have h3 := h.sz
  exact ⟨h.pl.below (by omega) b, h.row.of_block (b.block _ (by omega)), h.out.kept b (Nat.le_refl _), h.be.trans (b.mono (by omega)), h.gg, h1, h2, Nat.le_trans h3 b.size⟩
theorem Rb.congr (h : Rb w0 W g gw lo p K N f o S) (e : ∀ i, f i = f' i) : Rb w0 W g gw lo p K N f' o S :=
  ⟨h.pl, h.row.congr fun i _ => by rw [e i], h.out, h.be, h.gg, h.l1, h.l2, h.sz⟩
theorem Rb.mark (h : Rb w0 W g gw lo p K N f o S) (H : Nat) (b : Bool) (e : ∀ i, f' i = if i = H then b else f i) : Rb w0 (W.setCell ⟨gw, H, none⟩ (.bool b)) g gw lo p K N f' o S ∧ But gw W (W.setCell ⟨gw, H, none⟩ (.bool b)) := by
  have h1 := h.l1; have h2 := h.l2; have h3 := h.sz
  have hb : But gw W (W.setCell ⟨gw, H, none⟩ (.bool b)) := But.set _ ⟨gw, H, none⟩ _
  refine ⟨⟨?_, (h.row.set H (.bool b)).congr fun i hi => ?_, h.out.but hb h2, h.be.trans (hb.below (by omega) (by omega)), h.gg, h1, h2, by show lo ≤ _; exact Nat.le_trans h3 hb.size⟩, hb⟩
  · obtain ⟨t, fr, hp⟩ := h.pl
    exact ⟨t, fr, by rw [hb.block g (by omega) (by omega)]; exact hp⟩
  · rw [e i]
    by_cases e2 : i = H
    · rw [if_pos e2, if_pos e2]
    · rw [if_neg e2, if_neg e2]
theorem Rb.app (h : Rb w0 W g gw lo p K N f o S) (k : W.grownBy W' o.ownBlock) (ho : Gath W' lo o' S') : Rb w0 W' g gw lo p K N f o' S' := by
  have h1 := h.l1; have h2 := h.l2; have h3 := h.sz
  have hb : Below lo W W' := (Below.refl _ _).grown k h3 (fun b hb => (World.ownsRow.lt h.out b hb).1)
  exact ⟨h.pl.below (by omega) hb, h.row.of_block (hb.block _ h2), ho, h.be.trans (hb.mono (by omega)), h.gg, h1, h2, Nat.le_trans h3 hb.size⟩
end
theorem snoc_get {S : List Int} {r : Nat} {z : Int} (hl : S.length = r) (i : Nat) : (S ++ [z]).getD i 0 = if i = r then z else S.getD i 0 := by
  subst hl
  by_cases e : i = S.length
  · subst e; rw [if_pos rfl]; simp [List.getD]
  · rw [if_neg e]
    by_cases h : i < S.length
    · simp [List.getD, List.getElem?_append_left h]
    · simp only [List.getD]
      rw [List.getElem?_eq_none (by simp; omega), List.getElem?_eq_none (by omega)]
/-- What the first r places have given. -/
def RbI (p : Int) (K t r : Nat) (L : List Shr) (F : Nat → List Int) (S : List Int) : Prop := (∀ i, i < r → OneB p K t (plX L) (plY L i) (F i)) ∧ S.length = r ∧ ∀ i, i < r → S.getD i 0 = E (F i) 0 % p
theorem RbI.next {p : Int} {K t r : Nat} {L : List Shr} {F : Nat → List Int} {S f : List Int} (h : RbI p K t r L F S) (hf : OneB p K t (plX L) (plY L r) f) : RbI p K t (r + 1) L (fun j => if j = r then f else F j) (S ++ [E f 0 % p]) := by
  refine ⟨fun i hi => ?_, by simp [h.2.1], fun i hi => ?_⟩
  · show OneB p K t (plX L) (plY L i) (if i = r then f else F i)
    by_cases e : i = r
    · subst e; rw [if_pos rfl]; exact hf
    · rw [if_neg e]; exact h.1 i (by omega)
  · rw [snoc_get h.2.1]
    show _ = E (if i = r then f else F i) 0 % p
    by_cases e : i = r
    · subst e; rw [if_pos rfl, if_pos rfl]
    · rw [if_neg e, if_neg e]; exact h.2.2 i (by omega)

set_option maxRecDepth 100000 in
set_option maxHeartbeats 16000000 in
theorem ref7_robust_ok (p : Int) (K N : Nat) (s : Value) (L : List Shr) (w : World) (hp : (Lit.int .i64 p).wf = true) (hpl : planB p (K : Int) (N : Int) = true) (hgb : goodB p (N : Int) L = true) (hlk : K ≤ L.length) (hs : Shares w s L) :
    Calls Tryz.prog 17 #[planV p (K : Int) (N : Int), s] w fun e w' => ∃ v1 v2 S W c, e = .returned (.tuple #[v1, v2, .int .i64 c]) ∧ RobR p K (L.getD 0 (0, [])).2.length L S W c ∧ Ints w' v1 S ∧ Ints w' v2 W ∧ Below w.heap.size w w' := by
  obtain ⟨hprm, hp2, hk1, hkn, hn16, hnp⟩ := planB_parts hpl
  have hp0 := hprm.1
  have hp1 : 1 ≤ p := by omega
  have hgd : Gd p N (L.getD 0 (0, [])).2.length L := goodB_gd rfl hgb rfl
  have hlN := gd_le hgd
  have hm2 := goodB_big hgb (by omega)
  obtain ⟨a1, d1, rfl, hl, hld1, hd1, _⟩ := id hs
  obtain ⟨n, hN⟩ : ∃ n, L.length = n := ⟨_, rfl⟩
  obtain ⟨m, hM⟩ : ∃ m, (L.getD 0 (0, [])).2.length = m := ⟨_, rfl⟩
  rw [hM] at hgd hm2 ⊢
  have HONE := Lib.hid (good_one hprm hp2 hgd (by omega) hnp (by omega) hlk)
  rw [hN] at hs hl hld1 hlk hlN HONE ⊢
  obtain ⟨t, ht⟩ : ∃ t, (n - K) / 2 = t := ⟨_, rfl⟩
  rw [ht] at HONE
  have htn : roomV (K : Int) (n : Int) = (t : Int) := by unfold roomV; rw [if_neg (by omega)]; omega
  obtain ⟨g, hgw⟩ : ∃ g, w.heap.size = g := ⟨_, rfl⟩
  have HVA : Hid (∀ W, Calls Tryz.prog 38 #[.agg #[.int .i64 p, .int .i64 (K : Int), .int .i64 (N : Int)]] W fun e w' => e = .returned (.bool true) ∧ Below W.heap.size W w') := fun W => by
    have h := ref6_valid p (K : Int) (N : Int) W hp
    rw [hpl] at h
    exact h
  have HGO : Hid (∀ W, Below g w W → Calls Tryz.prog 39 #[.agg #[.int .i64 p, .int .i64 (K : Int), .int .i64 (N : Int)], .slice a1 n d1] W fun e w' => e = .returned (.bool true) ∧ Below W.heap.size W w') := fun W hW => by
    have h := ref6_good p (K : Int) (N : Int) (.slice a1 n d1) L W hp (hs.below (Nat.le_of_eq hgw) hW)
    rw [hgb] at h
    exact h
  have HRO : Hid (∀ W, Calls Tryz.prog 40 #[.agg #[.int .i64 p, .int .i64 (K : Int), .int .i64 (N : Int)], .int .i64 (n : Int)] W fun e w' => e = .returned (.int .i64 (t : Int)) ∧ Below W.heap.size W w') := fun W => by
    have h := ref7_room p (K : Int) (N : Int) (n : Int) W (by omega) (wf64 (by omega) (by omega)) (wf64 (by omega) (by omega))
    rw [htn] at h
    exact h
  have HS : Hid (∀ W, Below g w W → Shares W (.slice a1 n d1) L) := fun W hW => hs.below (Nat.le_of_eq hgw) hW
  have HGD := Lib.hid hgd
  have HNN := Lib.hid hN
  have HMM := Lib.hid hM
  have HGW := Lib.hid hgw
  have HPR := Lib.hid hprm
  have HNP := Lib.hid hnp
  have HTT : Hid ((L.length - K) / 2 = t) := by show _ = _; rw [hN]; exact ht
  have HB0 : Hid (Below g w (w.alloc (Obj.cells #[Value.int IntKind.i64 p, Value.int IntKind.i64 (K : Int), Value.int IntKind.i64 (N : Int)] 31))) := by rw [← hgw]; exact (Below.refl _ _).alloc (Nat.le_refl _) _
  have HP0 : Hid (PlanAt (w.alloc (Obj.cells #[Value.int IntKind.i64 p, Value.int IntKind.i64 (K : Int), Value.int IntKind.i64 (N : Int)] 31)) g p (K : Int) (N : Int)) := by rw [← hgw]; exact planAt_new _ _ _ _ _
  have HZ0 : Hid (g < (w.alloc (Obj.cells #[Value.int IntKind.i64 p, Value.int IntKind.i64 (K : Int), Value.int IntKind.i64 (N : Int)] 31)).heap.size) := by rw [← hgw]; show _ < _; simp
  have HPF := Lib.hid hp
  have hn16' : n ≤ 16 := by omega
  have hK1 : 1 ≤ K := by omega
  have htn2 : t ≤ n := by omega
  have i1 : ¬ (n : Int) < (K : Int) := by omega
  rw [hgw]
  clear hs hgd hN hM hprm hpl hgb hp hnp htn ht hlN
  unfold planV
  go_enter Tryz.func17, Tryz.ntmps17
  go_upto_region 1 with fail
  clear hgw
  generalize w.alloc (Obj.cells #[Value.int IntKind.i64 p, Value.int IntKind.i64 (K : Int), Value.int IntKind.i64 (N : Int)] 31) = w1 at *
  have c0 := HP0.out.c0
  have c1 := HP0.out.c1
  have c2 := HP0.out.c2
  go_wp2_with fail
  refine (HVA.out w1).mono ?_
  rintro e w2 ⟨rfl, hb⟩
  have HB2 := Lib.hid (HB0.out.trans (hb.mono (Nat.le_of_lt HZ0.out)))
  have HP2 := Lib.hid (HP0.out.below HZ0.out hb)
  have HZ2 : Hid (g < w2.heap.size) := Nat.lt_of_lt_of_le HZ0.out hb.size
  have c0 := HP2.out.c0
  have c1 := HP2.out.c1
  have c2 := HP2.out.c2
  clear hb HB0 HP0 HZ0
  go_wp2_with fail
  refine (HGO.out w2 HB2.out).mono ?_
  rintro e w3 ⟨rfl, hb⟩
  have HB3 := Lib.hid (HB2.out.trans (hb.mono (Nat.le_of_lt HZ2.out)))
  have HP3 := Lib.hid (HP2.out.below HZ2.out hb)
  have HZ3 : Hid (g < w3.heap.size) := Nat.lt_of_lt_of_le HZ2.out hb.size
  have c0 := HP3.out.c0
  have c1 := HP3.out.c1
  have c2 := HP3.out.c2
  clear hb HB2 HP2 HZ2 HVA HGO
  go_wp2_with fail
  refine (HRO.out w3).mono ?_
  rintro e w4 ⟨rfl, hb⟩
  have HB4 := Lib.hid (HB3.out.trans (hb.mono (Nat.le_of_lt HZ3.out)))
  have HP4 := Lib.hid (HP3.out.below HZ3.out hb)
  have HZ4 : Hid (g < w4.heap.size) := Nat.lt_of_lt_of_le HZ3.out hb.size
  clear hb HB3 HP3 HZ3 HRO c0 c1 c2
  obtain ⟨gw, hgw4⟩ : ∃ gw, w4.heap.size = gw := ⟨_, rfl⟩
  obtain ⟨w5, hw5⟩ : ∃ w5, w4.alloc (Obj.cells zeros17 59) = w5 := ⟨_, rfl⟩
  have HR5 : Hid (Rb w w5 g gw (gw + 1) p (K : Int) (N : Int) (wrB p (fun _ => []) L 0 0) (.slice none 0 0) []) := by
    have hal : Below w4.heap.size w4 w5 := by rw [← hw5]; exact (Below.refl _ _).alloc (Nat.le_refl _) _
    have hr := lie_row w4 L
    rw [hw5, hgw4] at hr
    have h4 := HZ4.out
    exact ⟨HP4.out.below HZ4.out hal, hr.congr fun i _ => by rw [wrB_zero, wfl_zero], gath_nil _ _, HB4.out.trans (hal.mono (Nat.le_of_lt HZ4.out)), HGW.out.symm, by omega, by omega, by rw [← hw5]; simp; omega⟩
  have HRBI : Hid (RbI p K t 0 L (fun _ => []) []) := ⟨fun i hi => by omega, rfl, fun i hi => by omega⟩
  clear HB4 HP4 HZ4
  unfold zeros17 at hw5
  go_upto_region 8 with fail
  try rw [hgw4]
  clear hw5 hgw4
  obtain ⟨bl, ol, v0, hal, _, z1, zi⟩ := (HS.out w5 HR5.out.be).at (i := 0) (by omega)
  subst hal
  rw [Nat.zero_mul, Nat.add_zero] at z1
  obtain ⟨av0, cv0, rfl⟩ := zi.shape
  rw [HMM.out] at z1
  clear zi
  go_wp2_with fail
  clear z1
  go_loopw [8, 45] (fun o i wr => ∃ (r : Nat) (F : Nat → List Int) (S : List Int), r ≤ m ∧ i = .int .i64 r ∧ Hid (Rb w wr g gw (gw + 1) p (K : Int) (N : Int) (wrB p F L r 0) o S) ∧ Hid (RbI p K t r L F S)) (fun _ i _ => m - (intOf i).toNat)
  case atStart => exact ⟨0, fun _ => [], [], by omega, rfl, HR5, HRBI⟩
  case round =>
    obtain ⟨r, F, S, hr, rfl, HR, HI⟩ := hrel
    clear HR5 HRBI
    obtain ⟨wo, hwo⟩ : ∃ wo, wo = wr := ⟨_, rfl⟩
    subst hwo
    by_cases hlt : r < m
    · have j1 : (r : Int) < (m : Int) := by omega
      have j2 : decide ((r : Int) < (m : Int)) = true := decide_eq_true j1
      have j3 : decide (r < m) = true := decide_eq_true hlt
      have HPT := Lib.hid (ref6_points (.slice (some ⟨bl, ol, none⟩) n d1) L r wo (HS.out wo HR.out.be) (fun x hx => by rw [HGD.out.len x hx]; exact hlt) (by omega))
      go_wp2_with fail
      refine HPT.out.mono ?_
      rintro e w6 ⟨ux, uy, rfl, htg⟩
      have HR6 := Lib.hid (HR.out.below htg.be)
      have HGX : Hid (Gath w6 wo.heap.size ux (plX L)) := htg.gx
      have HGY : Hid (Gath w6 wo.heap.size uy (plY L r)) := htg.gy
      have HZ6 : Hid (wo.heap.size ≤ w6.heap.size) := htg.sz
      obtain ⟨ax, cx, rfl, hx1, hx2, hx3⟩ := htg.gx.slc (by show (plX L).length ≤ _; rw [plX_len, HNN.out]; omega)
      obtain ⟨ay, cy, rfl, hy1, hy2, hy3⟩ := htg.gy.slc (by show (plY L r).length ≤ _; rw [plY_len, HNN.out]; omega)
      have hxn : (L.map fun s : Shr => s.1).length = n := by rw [List.length_map, HNN.out]
      have hyn : (L.map fun s : Shr => s.2.getD r 0).length = n := by rw [List.length_map, HNN.out]
      rw [hxn] at hx1 hx3 ⊢
      rw [hyn] at hy1 hy3 ⊢
      rw [hxn] at HGX
      rw [hyn] at HGY
      obtain ⟨bx, ox, hax, _⟩ := hx3.pos (k := 0) (by omega)
      subst hax
      obtain ⟨by0, oy, hay, _⟩ := hy3.pos (k := 0) (by omega)
      subst hay
      have HO := Lib.hid (ref7_one_any p (K : Int) (t : Int) (some ⟨bx, ox, none⟩) (some ⟨by0, oy, none⟩) n n cx cy (plX L) (plY L r) w6 HPF.out (wf64 (by omega) (by omega)) (wf64 (by omega) (by omega)) hx3 hx1 hx2 hy3 (by rw [plX_len]; exact HNN.out) (by rw [plY_len]; exact HNN.out) (by omega) (by omega))
      have c0 := HR6.out.pl.c0
      have c1 := HR6.out.pl.c1
      clear htg hx1 hx2 hx3 hy1 hy2 hy3 hxn hyn HPT j1 j2 j3
      go_wp2_with fail
      refine HO.out.mono ?_
      rintro e w7 ⟨vf, f, cc, rfl, hA, hG, hfl, hb⟩
      have HR7 := Lib.hid (HR6.out.below hb)
      have HGX7 := Lib.hid (HGX.out.kept hb (Nat.le_refl _))
      have HGY7 := Lib.hid (HGY.out.kept hb (Nat.le_refl _))
      have HGF := Lib.hid (hG.mono HZ6.out)
      have HFL := Lib.hid hfl
      have HZ7 : Hid (wo.heap.size ≤ w7.heap.size) := Nat.le_trans HZ6.out hb.size
      obtain ⟨hcode, hone⟩ := hA.2 (HONE.out r)
      rw [Int.toNat_natCast, Int.toNat_natCast] at hone
      have HON := Lib.hid hone
      obtain ⟨af, cf, rfl⟩ := hG.shape
      clear hA hG hfl hb hone HO HGX HGY HR6 HZ6 c0 c1
      rcases hcode with rfl | rfl
      · have hOB := HON.out.ok rfl
        have HOB := Lib.hid hOB
        have HEV := Lib.hid (ref_eval_any p 0 (.slice af f.length cf) f w7 hp1 hp2 ⟨by omega, by omega⟩ hOB.els (HGF.out.reads (by have := HFL.out; omega)) (by have := HFL.out; omega))
        obtain ⟨z, hz⟩ : ∃ z, E f 0 % p = z := ⟨_, rfl⟩
        rw [hz] at HEV
        have HZE := Lib.hid hz
        obtain ⟨lf, hlf⟩ : ∃ lf, f.length = lf := ⟨_, rfl⟩
        rw [hlf] at HEV HGF ⊢
        have HLF := Lib.hid hlf
        have HSL : Hid (S.length < 17592186044416) := by show _ < _; rw [HI.out.2.1]; omega
        have hal7 := (Below.refl w7.heap.size w7).alloc (Nat.le_refl _) (.cells #[.int .i64 z] 3)
        have HR8 := Lib.hid (HR7.out.below hal7)
        have HGX8 := Lib.hid (HGX7.out.kept hal7 (Nat.le_refl _))
        have HGY8 := Lib.hid (HGY7.out.kept hal7 (Nat.le_refl _))
        have HGF8 := Lib.hid (HGF.out.kept hal7 (Nat.le_refl _))
        have c0 := HR7.out.pl.c0
        clear hz hlf hal7 hOB
        go_wp2_with fail
        refine HEV.out.mono ?_
        rintro e w' ⟨rfl, rfl⟩
        go_wp2_with (at_builtin; refine append_one _ rfl _ _ rfl (gw + 1) _ _ z rfl HR8.out.out ⟨w7.heap.size, 0, none⟩ rfl (cell_alloc_new _ _ _ _ rfl) HSL.out HR8.out.sz ?_; intro v9 w9 hg9 hk9)
        have HR9 := Lib.hid ((HR8.out.app hk9 hg9).congr fun h => (wrB_set p F L r h f).symm)
        have HGX9 := Lib.hid (gath_kept_row HGX8.out hk9 (fun q hq e => by have h1 := (World.ownsRow.lt HGX8.out q hq).1; have h2 := (World.ownsRow.lt HR.out.out q e).2; omega))
        have HGY9 := Lib.hid (gath_kept_row HGY8.out hk9 (fun q hq e => by have h1 := (World.ownsRow.lt HGY8.out q hq).1; have h2 := (World.ownsRow.lt HR.out.out q e).2; omega))
        have HGF9 := Lib.hid (gath_kept_row HGF8.out hk9 (fun q hq e => by have h1 := (World.ownsRow.lt HGF8.out q hq).1; have h2 := (World.ownsRow.lt HR.out.out q e).2; omega))
        have HGB : Hid (gw < wo.heap.size) := by have h1 := HR.out.sz; show _ < _; omega
        have HIN := Lib.hid (HI.out.next HOB.out)
        rw [HZE.out] at HIN
        clear HR7 HGX7 HGY7 HGF HZ7 HON HEV HR8 HGX8 HGY8 HGF8 hg9 hk9 c0 HSL HI HR
        go_loopw [76] (fun i wr => ∃ k : Nat, k ≤ n ∧ i = .int .i64 k ∧ Hid (Rb w wr g gw (gw + 1) p (K : Int) (N : Int) (wrB p (fun j => if j = r then f else F j) L r k) v9 (S ++ [z]) ∧ But gw w9 wr)) (fun i _ => n - (intOf i).toNat)
        case atStart => exact ⟨0, by omega, rfl, HR9.out, But.refl _ _⟩
        case round =>
          obtain ⟨k, hk, rfl, HRk⟩ := hrel
          obtain ⟨wi, hwi⟩ : ∃ wi, wi = wr := ⟨_, rfl⟩
          subst hwi
          clear HR9
          by_cases hkn2 : k < n
          · have j1 : (k : Int) < (n : Int) := by omega
            have j2 : decide ((k : Int) < (n : Int)) = true := decide_eq_true j1
            have j3 : decide (k < n) = true := decide_eq_true hkn2
            have hin : L.getD k (0, []) ∈ L := by rw [List.getD_eq_getElem?_getD, List.getElem?_eq_getElem (by rw [HNN.out]; exact hkn2)]; exact List.getElem_mem _
            obtain ⟨H, hH, hH1, hH16, hHp⟩ : ∃ H : Nat, (L.getD k (0, [])).1 = (H : Int) ∧ 1 ≤ H ∧ H ≤ 16 ∧ (H : Int) < p := by
              have h1 := HGD.out.hold _ hin
              have h2 := HNP.out
              exact ⟨(L.getD k (0, [])).1.toNat, by omega, by omega, by omega, by omega⟩
            obtain ⟨b9, o9, e9, cX⟩ := ((HGX9.out.but HRk.out.2 HGB.out).reads (by rw [plX_len, HNN.out]; omega)).pos (k := k) hkn2
            injection e9 with e9
            injection e9 with e91 e92
            subst e91 e92
            obtain ⟨b8, o8, e8, cY⟩ := ((HGY9.out.but HRk.out.2 HGB.out).reads (by rw [plY_len, HNN.out]; omega)).pos (k := k) hkn2
            injection e8 with e8
            injection e8 with e81 e82
            subst e81 e82
            rw [plX_at (by rw [HNN.out]; exact hkn2), hH] at cX
            rw [plY_at (by rw [HNN.out]; exact hkn2)] at cY
            have hst := fun h => wrB_step (p := p) (F := fun j => if j = r then f else F j) (i := r) (by rw [HNN.out]; exact hkn2) hH h
            simp only [if_true] at hst
            have r0 := HRk.out.1.row.cell (i := H) (by omega)
            have r1 := HRk.out.1.row.frozen H
            have c0 := HRk.out.1.pl.c0
            obtain ⟨y, hy⟩ : ∃ y, (L.getD k (0, [])).2.getD r 0 = y := ⟨_, rfl⟩
            rw [hy] at cY hst
            obtain ⟨old, hold⟩ : ∃ b, wrB p (fun j => if j = r then f else F j) L r k H = b := ⟨_, rfl⟩
            rw [hold] at r0 hst
            have HST := Lib.hid hst
            have HRd : Hid (Rb w wi.drew g gw (gw + 1) p (K : Int) (N : Int) (wrB p (fun j => if j = r then f else F j) L r k) v9 (S ++ [z]) ∧ But gw w9 wi.drew) := ⟨HRk.out.1.below (Below.refl _ _).drew, HRk.out.2.trans (But.of_below (Below.refl _ _).drew (Nat.le_refl _))⟩
            have HEV := Lib.hid (fun W (hW : But gw w9 W) => ref_eval_any p (H : Int) (.slice af lf cf) f W hp1 hp2 ⟨by omega, hHp⟩ HOB.out.els (((HGF9.out.but hW HGB.out).reads (by have := HFL.out; omega))) (by have := HFL.out; omega))
            clear hst hy hold hin hH
            have h17 : (H : Int) < 17 := by omega
            have hmx : Tryz.prog.follows .mixedOrders = true := by kernel_rfl
            cases old with
            | true =>
              have HM := Lib.hid (HRd.out.1.mark (f' := wrB p (fun j => if j = r then f else F j) L r (k + 1)) H true (fun i => (HST.out i).trans (by simp)))
              go_upto_region 19 with fail
              refine wp_region_still_tail 17 hmx (by kernel_rfl) ?_
              simp only [List.take_succ_cons, List.take_zero, List.drop_succ_cons, List.drop_zero, drew_def]
              refine Qsh.out (p := _) ?_
              repeat (refine qsh_step (fun KQ hKQ => ?_); go_simp; refine hKQ _ ?_; clear hKQ KQ)
              refine ⟨wpStill_nil ?_⟩
              go_wp2_with fail
              go_roundw
              case rel => exact ⟨k + 1, by omega, by go_num, HM.out.1, HRd.out.2.trans HM.out.2⟩
              case measure => simp [intOf]; omega
            | false =>
              obtain ⟨e, he⟩ : ∃ e, E f (H : Int) % p = e := ⟨_, rfl⟩
              obtain ⟨b, hb⟩ : ∃ b, (e != y) = b := ⟨_, rfl⟩
              have HM := Lib.hid (HRd.out.1.mark (f' := wrB p (fun j => if j = r then f else F j) L r (k + 1)) H b (fun i => (HST.out i).trans (by rw [he, ← hb]; rfl)))
              have HE2 := Lib.hid (fun W (hW : But gw w9 W) => by have h := HEV.out W hW; rwa [he] at h)
              clear he
              go_upto_region 19 with fail
              refine wp_region_still_tail 17 hmx (by kernel_rfl) ?_
              simp only [List.take_succ_cons, List.take_zero, List.drop_succ_cons, List.drop_zero, drew_def]
              refine Qsh.out (p := _) ?_
              repeat (refine qsh_step (fun KQ hKQ => ?_); go_simp; refine hKQ _ ?_; clear hKQ KQ)
              (refine qsh_step (fun KQ hKQ => ?_); go_simp; refine ⟨_, (still_of (HE2.out _ HRd.out.2)), hKQ _ ?_⟩; clear hKQ KQ)
              repeat (refine qsh_step (fun KQ hKQ => ?_); go_simp; refine hKQ _ ?_; clear hKQ KQ)
              refine ⟨wpStill_nil ?_⟩
              go_wp2_with fail
              go_roundw
              case rel => exact ⟨k + 1, by omega, by go_num, HM.out.1, HRd.out.2.trans HM.out.2⟩
              case measure => simp [intOf]; omega
          · have hkn3 : k = n := by omega
            have HRn := Lib.hid (HRk.out.1.congr (f' := wrB p (fun j => if j = r then f else F j) L (r + 1) 0) fun h => by rw [wrB_next, HNN.out, hkn3])
            clear HRk
            go_wp2_with fail
            go_roundw
            case rel => exact ⟨r + 1, fun j => if j = r then f else F j, S ++ [z], by omega, by go_num, HRn, HIN⟩
            case measure => simp [intOf]; omega
      · have HNO := Lib.hid (rob_none (p := p) (K := K) hlt (by rw [HTT.out]; exact (HON.out.no (by omega)).2))
        have HBF := Lib.hid HR7.out.be
        go_wp2
        go_ret3
        exact ⟨_, _, [], [], 9, rfl, HNO.out, ints_zero _ _ _, ints_zero _ _ _, HBF.out⟩
    · obtain rfl : r = m := by omega
      obtain ⟨fb, hfb⟩ : ∃ fb, wrB p F L r 0 = fb := ⟨_, rfl⟩
      have HE := Lib.hid (rob_end (p := p) (K := K) (N := N) HGD.out (by omega) HTT.out HI.out.2.1 HI.out.1 HI.out.2.2)
      rw [hfb] at HR HE
      obtain ⟨C, hC, hCs, hCi⟩ := HR.out.row
      have HCC := Lib.hid hC
      have HCI := Lib.hid hCi
      obtain ⟨lo, hlo⟩ : ∃ lo, wo.heap.size = lo := ⟨_, rfl⟩
      have HLO := Lib.hid hlo
      have HG0 : Hid (Gath wo lo (.slice none 0 0) (outF fb 0)) := gath_nil _ _
      have HBB : Hid (Below lo wo wo) := Below.refl _ _
      clear hC hCi hlo hfb
      go_wp2_with (refine wpList_load_row rfl 59 (.tmp 9) rfl gw rfl 59 C (0, 0) _ HCC.out Tryz.underlying59 rfl (by rw [hCs]; exact info17) ?_)
      go_loopw [17, 18, 19, 101] (fun o _ _ j wq => ∃ i : Nat, i ≤ 17 ∧ j = .int .i64 i ∧ Hid (Gath wq lo o (outF fb i)) ∧ Hid (Below lo wo wq)) (fun _ _ _ j _ => 17 - (intOf j).toNat)
      case atStart => exact ⟨0, Nat.zero_le _, rfl, HG0, HBB⟩
      case round =>
        obtain ⟨i, hi, rfl, HGG2, HB⟩ := hrel
        by_cases hi17 : i < 17
        · have hci := HCI.out i hi17
          have HSZ : Hid (lo ≤ wr.heap.size) := by have := HB.out.size; have := HLO.out; show _ ≤ _; omega
          obtain ⟨bb, hbb⟩ : ∃ bb, fb i = bb := ⟨_, rfl⟩
          rw [hbb] at hci
          have hix := lie_index C i bb hi17 hci
          clear hci
          cases bb with
          | true =>
            have HOL := Lib.hid (outF_yes hbb)
            have HLN : Hid ((outF fb i).length < 17592186044416) := by have := outF_len fb i; show _ < _; omega
            clear hbb
            go_wp2_with (at_builtin; refine append_one _ rfl _ _ rfl lo _ _ (i : Int) rfl (HGG2.out.alloc _) ⟨wr.heap.size, 0, none⟩ rfl (cell_alloc_new _ _ _ _ rfl) HLN.out (Nat.le_trans HSZ.out (by simp)) ?_; intro v9 w9 hg9 hk9)
            have HG9 := Lib.hid hg9
            have HB9 : Hid (Below lo wo w9) := (HB.out.trans (((Below.refl wr.heap.size wr).alloc (Nat.le_refl _) _).mono HSZ.out)).grown hk9 (Nat.le_trans HSZ.out (by simp)) (fun x hx => (World.ownsRow.lt HGG2.out x hx).1)
            rw [← HOL.out] at HG9
            clear hg9 hk9
            go_wp2_with fail
            go_roundw
            case rel => exact ⟨i + 1, by omega, by go_num, HG9, HB9⟩
            case measure => simp [intOf]; omega
          | false =>
            have HOL := Lib.hid (outF_no hbb)
            clear hbb
            go_wp2_with fail
            go_roundw
            case rel => exact ⟨i + 1, by omega, by go_num, by rw [HOL.out]; exact HGG2, HB⟩
            case measure => simp [intOf]; omega
        · obtain rfl : i = 17 := by omega
          have HRE := Lib.hid (HR.out.below (by rw [HLO.out]; exact HB.out))
          have HIO := Lib.hid (HGG2.out.reads (by have := outF_len fb 17; omega))
          have HIS := Lib.hid (HRE.out.out.reads (by rw [HI.out.2.1]; omega))
          obtain ⟨ao, co, rfl⟩ := HGG2.out.shape
          obtain ⟨ln, hln⟩ : ∃ ln, (outF fb 17).length = ln := ⟨_, rfl⟩
          rw [hln] at HE HIO ⊢
          clear hln
          by_cases hgt : t < ln
          · have j1 : (t : Int) < (ln : Int) := by omega
            have j2 : decide ((t : Int) < (ln : Int)) = true := decide_eq_true j1
            have HEE := Lib.hid (HE.out.2 hgt)
            have HBF := Lib.hid HRE.out.be
            go_wp2
            go_ret3
            exact ⟨_, _, [], [], 9, rfl, HEE.out, ints_zero _ _ _, ints_zero _ _ _, HBF.out⟩
          · have j1 : ¬ (t : Int) < (ln : Int) := by omega
            have j2 : decide ((t : Int) < (ln : Int)) = false := decide_eq_false j1
            have HEE := Lib.hid (HE.out.1 (by omega))
            have HBF := Lib.hid HRE.out.be
            go_wp2
            go_ret3
            exact ⟨_, _, S, outF fb 17, 0, rfl, HEE.out, HIS.out, HIO.out, HBF.out⟩
end Go.Proofs.YtpgbjnenllfmlaaGreatDoor
