
/- Contracts of poly.Degree and poly.Eval. -/
import Derived.Test.YtpohhgbmdgjipaaBack
import Derived.Test.YtpohhgbmdgjipaaPm
namespace Go.Proofs.Ytpohhgbmdgjipaa
open Go.RowKit Go.Shelf
open Num
set_option linter.unusedVariables false
attribute [local go_sem] Oper.semAt_some

def At (l : List Int) (j : Nat) (v : Int) : Prop := v = l.getD j 0
theorem reads_of_ints {w W : World} {a : Option Addr} {cap : Nat} {l : List Int} (h : Ints w (.slice a l.length cap) l) (Bs : Nat) (hc : ∀ p : Addr, ∀ v, w.cell? p = some v → W.cell? p = some v)
    (hb : W.cell? ⟨Bs, 0, none⟩ = some (.slice a l.length cap)) : Reads (At l) Bs a l.length cap W := by
  obtain ⟨a', c', hv, _, hx⟩ := h
  simp only [Value.slice.injEq, true_and] at hv
  obtain ⟨rfl, rfl⟩ := hv
  refine ⟨hb, fun j hj => ?_⟩
  obtain ⟨b, off, ha, hcell⟩ := hx (fun e => by subst e; simp at hj)
  exact ⟨b, off, l.getD j 0, ha, rfl, hc _ _ (hcell j hj)⟩
theorem Reads.but {R : Nat → Int → Prop} {Bs : Nat} {a : Option Addr} {len cap B : Nat} {W W' : World} (h : Reads R Bs a len cap W) (k : But B W W') (hB : Bs ≠ B) (ha : ∀ b off, a = some ⟨b, off, none⟩ → b ≠ B) : Reads R Bs a len cap W' := by
  refine ⟨?_, fun j hj => ?_⟩
  · rw [k.cell (p := ⟨Bs, 0, none⟩) (cell_lt h.1) hB]; exact h.1
  · obtain ⟨b, off, v, hs, hR, hv⟩ := h.2 j hj
    exact ⟨b, off, v, hs, hR, by rw [k.cell (p := ⟨b, off + j, none⟩) (cell_lt hv) (ha b off hs)]; exact hv⟩
theorem mem_down {len k j : Nat} (hk : k ≤ len) (h1 : len - k ≤ j) (h2 : j < len) : j ∈ down len k := by
  simp only [down, List.mem_map, List.mem_range]
  exact ⟨len - 1 - j, by omega, by omega⟩
theorem zero_of_came {zs : List Int} {ys : List (BX zs.length (At zs))} {k : Nat} (hk : k ≤ zs.length) (h : ys.map (·.1.1) = down zs.length k) (hz : ∀ x ∈ ys, x.1.2 = 0) (j : Nat) (hj : zs.length - k ≤ j) : zs.getD j 0 = 0 := by
  by_cases hl : j < zs.length
  · have hm := mem_down hk hj hl
    rw [← h, List.mem_map] at hm
    obtain ⟨x, hx, rfl⟩ := hm
    have h1 := hz x hx
    rw [x.2.2] at h1
    exact h1
  · exact getD_ge (by omega)
theorem deg_all {zs : List Int} {ys : List (BX zs.length (At zs))} (h : ys.map (·.1.1) = down zs.length zs.length) (hz : ∀ x ∈ ys, x.1.2 = 0) : dg zs = 0 :=
  dg_eq (fun i _ => zero_of_came (Nat.le_refl _) h hz i (by omega)) (.inl rfl)
theorem deg_stop {zs : List Int} {ini : List (BX zs.length (At zs))} {last : BX zs.length (At zs)} {k : Nat} (hk : k ≤ zs.length) (h : (ini ++ [last]).map (·.1.1) = down zs.length k) (hz : ∀ x ∈ ini, x.1.2 = 0) (hl : last.1.2 ≠ 0) : dg zs = last.1.1 + 1 := by
  have h1 := congrArg List.length h
  simp only [List.length_map, List.length_append, List.length_cons, List.length_nil, down_length] at h1
  obtain rfl : k = ini.length + 1 := by omega
  rw [List.map_append, down_succ] at h
  obtain ⟨h2, h3⟩ := List.append_inj' h rfl
  have h4 : last.1.1 = zs.length - 1 - ini.length := by simpa using h3
  refine dg_eq (fun i hi => zero_of_came (k := ini.length) (by omega) h2 hz i (by omega)) (.inr ?_)
  rw [Nat.add_sub_cancel, ← last.2.2]; exact hl

def CameZero {zs : List Int} (pre : List (BX zs.length (At zs))) : Prop := ∀ p ∈ pre, p.1.2 = 0
theorem CameZero.snoc {zs : List Int} {pre : List (BX zs.length (At zs))} {x : BX zs.length (At zs)} (h : CameZero pre) (hx : x.1.2 = 0) : CameZero (pre ++ [x]) := fun p hp =>
  (List.mem_append.1 hp).elim (h p) (fun e => by rw [List.mem_singleton.1 e]; exact hx)
def FoundAt {zs : List Int} (pre : List (BX zs.length (At zs))) (B : Nat) (W : World) : Prop :=
  ∃ ini last, pre = ini ++ [last] ∧ CameZero ini ∧ last.1.2 ≠ 0 ∧ W.cell? ⟨B, 0, none⟩ = some (.int .i64 (last.1.1 : Int))

set_option maxRecDepth 100000 in
set_option maxHeartbeats 2000000 in
theorem degree_in (a : Option Addr) (cap : Nat) (zs : List Int) (w : World) (hI : Ints w (.slice a zs.length cap) zs) :
    CallsIn Fence.wide 6 Try.prog 18 #[.slice a zs.length cap] w fun e W' => e = .returned (.int .i64 ((dg zs : Int) - 1)) ∧ Below w.heap.size w W' := by
  have hlen : zs.length ≤ 140737488355328 := by obtain ⟨_, _, _, h, _⟩ := hI; exact h
  refine callsIn_of_wp_marks Try.func18 rfl trivial ?_ rfl
  simp only [Try.ntmps18, List.size_toArray, List.length_cons, List.length_nil, Nat.reduceAdd, Nat.reduceSub, Array.replicate_succ, Array.replicate_zero, List.push_toArray, List.append_toArray, List.nil_append, List.cons_append]
  gi_wp2_with (refine ⟨trivial, ?_⟩; gi_at_call 34; refine (callsIn_wide.2 (backward_any _ _ _ _)).mono ?_; rintro e w' ⟨rfl, rfl⟩)
  have bR := Boxed.new w 3 (.int .i64 0)
  have bN := Boxed.new (w.alloc (.cells #[.int .i64 0] 3)) 22 (.slice a zs.length cap)
  rw [World.size_alloc] at bN
  have hB0 : Below w.heap.size w ((w.alloc (.cells #[.int .i64 0] 3)).alloc (.cells #[.slice a zs.length cap] 22)) := ((Below.refl _ w).alloc (Nat.le_refl _) _).alloc (by simp) _
  have hseq := back_stops (6 - 1) (by omega) (w.heap.size + 1) a zs.length cap (At zs) hlen _ (reads_of_ints hI (w.heap.size + 1) (fun p v h => by rw [hB0.cell (cell_lt h)]; exact h) bN.cell)
  refine wpIn_rangeFunc_ownG (α := BX zs.length (At zs)) (F := Fence.wide) (n := 6) (ps := #[7, 8]) rfl (by omega) (gf := 47) (lb := #[.pointer (some ⟨w.heap.size + 1, 0, none⟩)]) rfl trivial (enters_of Try.func47 (by kernel_rfl) rfl)
    hseq (fun h k x => k (h x))
    (fun W l o o' _ hl ho _ h => h.of_cells fun p v hp => cell_putObj hl ho hp) (Below.refl _ _) (fun _ => rfl)
    (fun pre W => (CameZero pre ∧ W.cell? ⟨w.heap.size, 0, none⟩ = some (.int .i64 0) ∧ W.frozen? ⟨w.heap.size, 0, none⟩ = false) ∧ Below w.heap.size w W)
    (fun c pre W => (c = .ret ∧ FoundAt pre w.heap.size W) ∧ Below w.heap.size w W)
    (OwnFrom.and (Own.from (fun s A B row hs hg hr => ⟨hs.1, cell_kept hs.2.1 hg hr, (frozen_kept hs.2.1 hg hr).trans hs.2.2⟩) _) (ownFrom_below (Nat.le_refl _) (by simp; omega)))
    (fun c => OwnFrom.and (Own.from (fun s A B row hs hg hr => by obtain ⟨hc, ini, last, e1, e2, e3, e4⟩ := hs; exact ⟨hc, ini, last, e1, e2, e3, cell_kept e4 hg hr⟩) _) (ownFrom_below (Nat.le_refl _) (by simp; omega)))
    ⟨⟨(fun p hp => by cases hp), (bR.alloc _).cell, (bR.alloc _).frozen⟩, hB0⟩
    (fun x => { tmps := #[.slice a zs.length cap, undef, .pointer (some ⟨w.heap.size, 0, none⟩), .int .i64 (x.1.1 : Int), .int .i64 x.1.2, .slice a zs.length cap, .func (.func 47) #[] #[.pointer (some ⟨w.heap.size + 1, 0, none⟩)], .int .i64 (x.1.1 : Int), .int .i64 x.1.2, undef, undef, undef], defers := [] }) ?assign ?body ?done ?stop
  case assign =>
    intro l x W K hK
    gi_wp2
    exact hK
  case body =>
    rintro l pre x W ⟨⟨hp, hcr, hfr⟩, hB⟩ _
    obtain ⟨c, hcx⟩ : ∃ c, x.1.2 = c := ⟨_, rfl⟩
    by_cases h0 : c = 0
    · have hb : (c != 0) = false := by simp [h0]
      rw [hcx]
      have HX := Lib.hid hcx
      have H0 := Lib.hid h0
      clear hcx h0
      gi_wp2
      exact ⟨KeepsFrom.refl _ _, fun h => h, ⟨hp.snoc (HX.out.trans H0.out), hcr, hfr⟩, hB⟩
    · have hb : (c != 0) = true := by simp [h0]
      rw [hcx]
      have HX := Lib.hid hcx
      have H0 := Lib.hid h0
      clear hcx h0
      gi_wp2
      exact ⟨(KeepsOthers.setCell _ _ _).from _, ⟨rfl, pre, x, rfl, hp, (fun e => H0.out (HX.out.symm.trans e)), World.cell?_setCell_same' _ _ _ (by rw [hcr]; rfl)⟩, hB.setCell (p := ⟨w.heap.size, 0, none⟩) (Nat.le_refl _) _⟩
  case done =>
    rintro D ys W hD hys ⟨⟨hne, hcr, hfr⟩, hB⟩ hK
    have hd := Lib.hid (deg_all hys hne)
    clear hys hne
    gi_wp2
    have hK' := (KeepsOthers.setCell W ⟨w.heap.size, 0, none⟩ (.int .i64 (-1))).same D _ hK rfl
    refine ⟨by simp, .inl ⟨_, _, rfl, run_takeDeferred hK', ?_⟩⟩
    have hc5 := cell_kept (World.cell?_setCell_same' W ⟨w.heap.size, 0, none⟩ (.int .i64 (-1)) (by rw [hcr]; rfl)) (grownBy_putObj' _ D (.deferred none)) (fun r e => by cases e; exact ⟨_, hK', rfl⟩)
    refine ⟨.int .i64 (-1), ?_, by rw [hd.out]; rfl, (hB.setCell (p := ⟨w.heap.size, 0, none⟩) (Nat.le_refl _) _).trans (belowK_b (w := w) (Nat.le_refl _) _ D _ _ (by simp at hD; omega) hK' rfl rfl)⟩
    simp [results, Try.f18, go_sem, hc5]
  case stop =>
    rintro D c pre W hD ⟨k, hk, hpk⟩ ⟨⟨rfl, ini, last, e1, e2, e3, hcr⟩, hB⟩ hK
    subst e1
    have hd := Lib.hid (deg_stop hk hpk e2 e3)
    clear hpk e2 e3
    gi_wp2
    refine ⟨by simp, .inl ⟨_, _, rfl, run_takeDeferred hK, ?_⟩⟩
    have hc5 := cell_kept hcr (grownBy_putObj' _ D (.deferred none)) (fun r e => by cases e; exact ⟨_, hK, rfl⟩)
    refine ⟨.int .i64 (last.1.1 : Int), ?_, by rw [hd.out]; congr 2; omega, hB.trans (belowK_b (w := w) (Nat.le_refl _) W D _ _ (by simp at hD; omega) hK rfl rfl)⟩
    simp [results, Try.f18, go_sem, hc5]
theorem degree_any (s : Value) (zs : List Int) (w : World) (hI : Ints w s zs) :
    Calls Try.prog 18 #[s] w fun e W' => e = .returned (.int .i64 ((dg zs : Int) - 1)) ∧ Below w.heap.size w W' := by
  obtain ⟨a, c, rfl, _, _⟩ := id hI
  exact callsIn_wide.1 (degree_in a c zs w hI)
end Go.Proofs.Ytpohhgbmdgjipaa
