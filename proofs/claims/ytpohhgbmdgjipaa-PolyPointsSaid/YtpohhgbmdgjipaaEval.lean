
/- Contract of poly.Eval. -/
import Derived.Test.YtpohhgbmdgjipaaDeg
import Derived.Test.YtpohhgbmdgjipaaRound
namespace Go.Proofs.Ytpohhgbmdgjipaa
open Go.RowKit Go.Shelf
open Num
set_option linter.unusedVariables false
attribute [local go_sem] Oper.semAt_some

/-- Horner's value of what has come. -/
def horV (p x : Int) (l : List Int) : Int := l.foldl (fun v c => addF p (mulF p v x) c) 0
def hor {zs : List Int} (p x : Int) (pre : List (BX zs.length (At zs))) : Int := horV p x (pre.map (·.1.2))
theorem hor_snoc {zs : List Int} (p x : Int) (pre : List (BX zs.length (At zs))) (b : BX zs.length (At zs)) : hor p x (pre ++ [b]) = addF p (mulF p (hor p x pre) x) b.1.2 := by
  simp [hor, horV]
theorem hor_el {zs : List Int} {p : Int} (hp : 1 ≤ p) (x : Int) (pre : List (BX zs.length (At zs))) : El p (hor p x pre) := by
  rcases List.eq_nil_or_concat pre with rfl | ⟨l, b, rfl⟩
  · exact el_zero hp
  · rw [List.concat_eq_append, hor_snoc]; exact el_add hp _ _
theorem horV_cons (p x c : Int) (l : List Int) : horV p x (l ++ [c]) = addF p (mulF p (horV p x l) x) c := by simp [horV]
theorem horV_rev {p : Int} (x : Int) : ∀ l : List Int, horV p x l.reverse = E l x % p
  | [] => by simp [horV, E]
  | c :: l => by
    rw [List.reverse_cons, horV_cons, horV_rev x l, E_cons]
    unfold addF mulF
    rw [Int.emod_add_emod, Int.add_comm, Int.mul_comm, ← Int.add_emod_emod, Int.mul_emod, Int.emod_emod_of_dvd _ (Int.dvd_refl p), ← Int.mul_emod, Int.add_emod_emod]
theorem came_vals {zs : List Int} {ys : List (BX zs.length (At zs))} (h : ys.map (·.1.1) = down zs.length zs.length) : ys.map (·.1.2) = zs.reverse := by
  have h1 : ys.map (·.1.2) = (ys.map (·.1.1)).map (fun j => zs.getD j 0) := by
    rw [List.map_map]; apply List.map_congr_left; intro b _; exact b.2.2
  rw [h1, h]
  apply List.ext_getElem
  · simp [down]
  · intro i h2 h3
    simp [down] at h2
    simp [down, List.getD, show zs.length - 1 - i < zs.length by omega]
theorem hor_all {zs : List Int} {p : Int} (x : Int) {ys : List (BX zs.length (At zs))} (h : ys.map (·.1.1) = down zs.length zs.length) : hor p x ys = E zs x % p := by
  unfold hor; rw [came_vals h, horV_rev]

def EvI (zs : List Int) (p x : Int) (B : Nat) (pre : List (BX zs.length (At zs))) (W : World) : Prop :=
  W.cell? ⟨B, 0, none⟩ = some (.int .i64 p) ∧ W.cell? ⟨B + 1, 0, none⟩ = some (.int .i64 x) ∧ W.cell? ⟨B + 1 + 1, 0, none⟩ = some (.int .i64 (hor p x pre)) ∧ W.frozen? ⟨B + 1 + 1, 0, none⟩ = false
theorem evI_own (zs : List Int) (p x : Int) (B : Nat) : Own (EvI zs p x B) := fun s A B' row hs hg hr =>
  ⟨cell_kept hs.1 hg hr, cell_kept hs.2.1 hg hr, cell_kept hs.2.2.1 hg hr, (frozen_kept hs.2.2.1 hg hr).trans hs.2.2.2⟩
theorem evI_set {zs : List Int} {p x v : Int} {B : Nat} {pre : List (BX zs.length (At zs))} {b : BX zs.length (At zs)} {W : World} (hv : b.1.2 = v) (h : EvI zs p x B pre W) :
    EvI zs p x B (pre ++ [b]) ((W.setCell ⟨B + 1 + 1, 0, none⟩ (.int .i64 (addF p (mulF p (hor p x pre) x) v))).drew) := by
  subst hv
  obtain ⟨h1, h2, h3, h4⟩ := h
  have hb := But.set W ⟨B + 1 + 1, 0, none⟩ (.int .i64 (addF p (mulF p (hor p x pre) x) b.1.2))
  refine ⟨?_, ?_, ?_, ?_⟩
  · exact (hb.cell (p := ⟨B, 0, none⟩) (cell_lt h1) (by show B ≠ B + 1 + 1; omega)).trans h1
  · exact (hb.cell (p := ⟨B + 1, 0, none⟩) (cell_lt h2) (by show B + 1 ≠ B + 1 + 1; omega)).trans h2
  · rw [hor_snoc]; exact World.cell?_setCell_same' _ _ _ (by rw [h3]; rfl)
  · rw [frozen_drew_own, World.frozen?_setCell]; exact h4

set_option maxRecDepth 100000 in
set_option maxHeartbeats 2000000 in
theorem eval_in (p x : Int) (a : Option Addr) (cap : Nat) (zs : List Int) (w : World) (hp : 1 ≤ p) (hp2 : p ≤ 1073741824) (hx : El p x) (hz : Els p zs) (hI : Ints w (.slice a zs.length cap) zs) :
    CallsIn Fence.wide 6 Try.prog 16 #[.int .i64 p, .slice a zs.length cap, .int .i64 x] w fun e W' => e = .returned (.int .i64 (E zs x % p)) ∧ Below w.heap.size w W' := by
  have hlen : zs.length ≤ 140737488355328 := by obtain ⟨_, _, _, h, _⟩ := hI; exact h
  refine callsIn_of_wp_marks Try.func16 rfl trivial ?_ rfl
  simp only [Try.ntmps16, List.size_toArray, List.length_cons, List.length_nil, Nat.reduceAdd, Nat.reduceSub, Array.replicate_succ, Array.replicate_zero, List.push_toArray, List.append_toArray, List.nil_append, List.cons_append]
  gi_wp2_with (refine ⟨trivial, ?_⟩; gi_at_call 34; refine (callsIn_wide.2 (backward_any _ _ _ _)).mono ?_; rintro e w' ⟨rfl, rfl⟩)
  have b0 := Boxed.new w 3 (.int .i64 p)
  have b1 := Boxed.new (w.alloc (.cells #[.int .i64 p] 3)) 3 (.int .i64 x)
  have b2 := Boxed.new ((w.alloc (.cells #[.int .i64 p] 3)).alloc (.cells #[.int .i64 x] 3)) 3 (.int .i64 0)
  have bN := Boxed.new (((w.alloc (.cells #[.int .i64 p] 3)).alloc (.cells #[.int .i64 x] 3)).alloc (.cells #[.int .i64 0] 3)) 22 (.slice a zs.length cap)
  simp only [World.size_alloc] at b1 b2 bN
  have hB0 : Below w.heap.size w ((((w.alloc (.cells #[.int .i64 p] 3)).alloc (.cells #[.int .i64 x] 3)).alloc (.cells #[.int .i64 0] 3)).alloc (.cells #[.slice a zs.length cap] 22)) :=
    ((((Below.refl _ w).alloc (Nat.le_refl _) _).alloc (by simp) _).alloc (by simp; omega) _).alloc (by simp; omega) _
  have hseq := back_stops (6 - 1) (by omega) (w.heap.size + 1 + 1 + 1) a zs.length cap (At zs) hlen _ (reads_of_ints hI (w.heap.size + 1 + 1 + 1) (fun p v h => by rw [hB0.cell (cell_lt h)]; exact h) bN.cell)
  have ha : ∀ b off, a = some ⟨b, off, none⟩ → 0 < zs.length → b < w.heap.size := by
    intro b off e h0
    obtain ⟨a', c', hv, _, hc⟩ := hI
    obtain ⟨b', off', ha', hcell⟩ := hc (fun e => by subst e; simp at h0)
    simp only [Value.slice.injEq, true_and] at hv
    obtain ⟨rfl, rfl⟩ := hv
    rw [e] at ha'
    simp only [Option.some.injEq, Addr.mk.injEq] at ha'
    have := cell_lt (hcell 0 h0)
    rw [← ha'.1] at this; exact this
  refine wpIn_rangeFunc_ownG (α := BX zs.length (At zs)) (F := Fence.wide) (n := 6) (ps := #[12, 13]) rfl (by omega) (gf := 47) (lb := #[.pointer (some ⟨w.heap.size + 1 + 1 + 1, 0, none⟩)]) rfl trivial (enters_of Try.func47 (by kernel_rfl) rfl)
    hseq (fun h k x => k (h x))
    (fun W l o o' _ hl ho _ h => h.of_cells fun p v hp => cell_putObj hl ho hp) (Below.refl _ _) (fun _ => rfl)
    (fun pre W => EvI zs p x w.heap.size pre W ∧ Below w.heap.size w W)
    (fun _ _ _ => False)
    (OwnFrom.and (Own.from (evI_own zs p x w.heap.size) _) (ownFrom_below (Nat.le_refl _) (by simp; omega)))
    (fun _ _ _ _ _ hs _ _ => hs)
    ⟨⟨(((b0.alloc _).alloc _).alloc _).cell, ((b1.alloc _).alloc _).cell, (b2.alloc _).cell, (b2.alloc _).frozen⟩, hB0⟩
    (fun x' => { tmps := #[.int .i64 p, .slice a zs.length cap, .int .i64 x, .pointer (some ⟨w.heap.size, 0, none⟩), undef, .pointer (some ⟨w.heap.size + 1, 0, none⟩), .int .i64 0, .pointer (some ⟨w.heap.size + 1 + 1, 0, none⟩), undef, .int .i64 x'.1.2, .slice a zs.length cap, .func (.func 47) #[] #[.pointer (some ⟨w.heap.size + 1 + 1 + 1, 0, none⟩)], .int .i64 (x'.1.1 : Int), .int .i64 x'.1.2, undef, undef, undef, undef, undef, undef, undef, undef], defers := [] }) ?assign ?body ?done ?stop
  case assign =>
    intro l x W K hK
    gi_wp2
    exact hK
  case body =>
    rintro l pre b W ⟨hE, hB⟩ hlt
    have hcl : El p b.1.2 := by rw [show b.1.2 = zs.getD b.1.1 0 from b.2.2]; exact els_at hp hz _
    have hel := hor_el hp x pre
    obtain ⟨v, hv⟩ : ∃ v, b.1.2 = v := ⟨_, rfl⟩
    have hS := fun (h : b.1.2 = v) => evI_set h hE
    have HS := Lib.hid (hS hv)
    have ha' : ∀ b' off, a = some ⟨b', off, none⟩ → b' ≠ w.heap.size + 1 + 1 := fun b' off e => by have := ha b' off e (by omega); omega
    have HA := Lib.hid ha'
    clear hS ha ha'
    obtain ⟨h1, h2, h3, h4⟩ := hE
    rw [hv] at hcl ⊢
    have HV := Lib.hid hv
    clear hv
    generalize hor p x pre = y at *
    have hmx : Try.prog.follows .mixedOrders = true := by kernel_rfl
    gi_wp2
    refine round_still_tail 7 hmx (fun ⟨_, _, h⟩ => h) (by kernel_rfl) (by kernel_rfl) ?_
    simp only [List.take_succ_cons, List.take_zero, List.drop_succ_cons, List.drop_zero, drew_def]
    repeat still_step
    still_call (still_of (mul_el _ hp hp2 hel hx))
    repeat still_step
    still_call (still_of (add_el _ hp hp2 (el_mul hp _ _) hcl))
    repeat still_step
    refine wpStill_nil ?_
    go_wp2
    exact ⟨((KeepsOthers.drew _).trans (KeepsOthers.setCell _ _ _)).from _, (fun h => h.but ((But.set _ ⟨w.heap.size + 1 + 1, 0, none⟩ _).trans (But.drewN _ _ 1)) (by show w.heap.size + 1 + 1 + 1 ≠ w.heap.size + 1 + 1; omega) HA.out), HS.out, (hB.setCell (p := ⟨w.heap.size + 1 + 1, 0, none⟩) (by show w.heap.size ≤ w.heap.size + 1 + 1; omega) _).drew⟩
  case done =>
    rintro D ys W hD hys ⟨⟨_, _, hc, _⟩, hB⟩ hK
    have hd := Lib.hid (hor_all (p := p) x hys)
    clear hys
    gi_wp2
    refine ⟨by simp, .inl ⟨_, _, rfl, run_takeDeferred hK, ?_⟩⟩
    exact ⟨_, results_tmp rfl _ _ _, (by rw [hd.out]; rfl), hB.trans (belowK_b (w := w) (Nat.le_refl _) W D _ _ (by simp at hD; omega) hK rfl rfl)⟩
  case stop =>
    rintro D c pre W _ _ h _
    exact h.elim
theorem eval_any {p x : Int} {s : Value} {zs : List Int} (w : World) (hp : 1 ≤ p) (hp2 : p ≤ 1073741824) (hx : El p x) (hz : Els p zs) (hI : Ints w s zs) :
    Calls Try.prog 16 #[.int .i64 p, s, .int .i64 x] w fun e W' => e = .returned (.int .i64 (E zs x % p)) ∧ Below w.heap.size w W' := by
  obtain ⟨a, c, rfl, _, _⟩ := id hI
  exact callsIn_wide.1 (eval_in p x a c zs w hp hp2 hx hz hI)
end Go.Proofs.Ytpohhgbmdgjipaa
