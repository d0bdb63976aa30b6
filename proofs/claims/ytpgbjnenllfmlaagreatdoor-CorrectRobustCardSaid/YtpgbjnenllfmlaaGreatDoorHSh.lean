
/- Sums of shares: the document's Add. -/
import Derived.Test.YtpgbjnenllfmlaaGreatDoorHFit
import Derived.Test.YtpgbjnenllfmlaaGreatDoorOwn
/-! Sums of shares: the document's Add. -/
namespace Go.Proofs.YtpgbjnenllfmlaaGreatDoor
open Go.RowKit Go.Sort
open Num
set_option linter.unusedVariables false

noncomputable def addOk (p k n : Int) (a b : Shr) : Prop := planB p k n = true ∧ stB p n a = true ∧ stB p n b = true ∧ a.1 = b.1 ∧ a.2.length = b.2.length
open Classical in
noncomputable def addE (p k n : Int) (a b : Shr) : Int := if addOk p k n a b then 0 else 1
open Classical in
noncomputable def addR (p k n : Int) (a b : Shr) : Shr := if addOk p k n a b then (a.1, linF p a.2 b.2 1) else (0, [])
theorem addE_ok {p k n : Int} {a b : Shr} (h : addOk p k n a b) : addE p k n a b = 0 ∧ addR p k n a b = (a.1, linF p a.2 b.2 1) := by
  unfold addE addR
  exact ⟨if_pos h, if_pos h⟩
theorem addE_no {p k n : Int} {a b : Shr} (h : ¬ addOk p k n a b) : addE p k n a b = 1 ∧ addR p k n a b = (0, []) := by
  unfold addE addR
  exact ⟨if_neg h, if_neg h⟩

theorem ShAt.set0 {w : World} {g : Nat} {h : Int} {v : Value} (k : ShAt w g h v) (x : Int) : ShAt (w.setCell ⟨g, 0, none⟩ (.int .i64 x)) g x v := by
  obtain ⟨t, k⟩ := k
  exact ⟨t, by rw [heap_setCell_same w g 0 _ t _ k]; rfl⟩
/-- The boxes of a plan and two shares, and of the share to be returned. -/
structure AddW (w0 W : World) (g : Nat) (p k n h1 : Int) (v1 : Value) (h2 : Int) (v2 : Value) : Prop where
  pl : PlanAt W g p k n
  s1 : ShAt W (g + 1) h1 v1
  s2 : ShAt W (g + 1 + 1) h2 v2
  r : ShAt W (g + 1 + 1 + 1) 0 (.slice none 0 0)
  be : Below g w0 W
  sz : g + 1 + 1 + 1 < W.heap.size
theorem AddW.below {w0 W W' : World} {g : Nat} {p k n h1 : Int} {v1 : Value} {h2 : Int} {v2 : Value} (h : AddW w0 W g p k n h1 v1 h2 v2) (b : Below W.heap.size W W') : AddW w0 W' g p k n h1 v1 h2 v2 := by
  have hz := h.sz
  exact ⟨h.pl.below (by omega) b, h.s1.below b (by omega), h.s2.below b (by omega), h.r.below b (by omega), h.be.trans (b.mono (by omega)), Nat.lt_of_lt_of_le hz b.size⟩
theorem addW_new (w : World) (p k n h1 : Int) (v1 : Value) (h2 : Int) (v2 : Value) (t0 t1 t2 t3 : TypeId) : AddW w ((((w.alloc (Obj.cells #[Value.int IntKind.i64 p, Value.int IntKind.i64 k, Value.int IntKind.i64 n] t0)).alloc (Obj.cells #[Value.int IntKind.i64 h1, v1] t1)).alloc (Obj.cells #[Value.int IntKind.i64 h2, v2] t2)).alloc (Obj.cells #[Value.int IntKind.i64 0, .slice none 0 0] t3)) w.heap.size p k n h1 v1 h2 v2 := by
  have b1 : ∀ (W : World) (o : Obj), Below W.heap.size W (W.alloc o) := fun W o => (Below.refl _ _).alloc (Nat.le_refl _) o
  have e : ∀ (W : World) (o : Obj), (W.alloc o).heap.size = W.heap.size + 1 := fun W o => by simp
  have k0 := planAt_new w p k n t0
  have k1 := shAt_new (w.alloc (Obj.cells #[Value.int IntKind.i64 p, Value.int IntKind.i64 k, Value.int IntKind.i64 n] t0)) h1 v1 t1
  have k2 := shAt_new ((w.alloc (Obj.cells #[Value.int IntKind.i64 p, Value.int IntKind.i64 k, Value.int IntKind.i64 n] t0)).alloc (Obj.cells #[Value.int IntKind.i64 h1, v1] t1)) h2 v2 t2
  have k3 := shAt_new (((w.alloc (Obj.cells #[Value.int IntKind.i64 p, Value.int IntKind.i64 k, Value.int IntKind.i64 n] t0)).alloc (Obj.cells #[Value.int IntKind.i64 h1, v1] t1)).alloc (Obj.cells #[Value.int IntKind.i64 h2, v2] t2)) 0 (.slice none 0 0) t3
  simp only [e] at k1 k2 k3
  refine ⟨((k0.below (by rw [e]; omega) (b1 _ _)).below (by rw [e, e]; omega) (b1 _ _)).below (by rw [e, e, e]; omega) (b1 _ _), (k1.below (b1 _ _) (by rw [e, e]; omega)).below (b1 _ _) (by rw [e, e, e]; omega), k2.below (b1 _ _) (by rw [e, e, e]; omega), k3, ?_, by rw [e, e, e, e]; omega⟩
  exact ((((Below.refl _ _).alloc (Nat.le_refl _) _).alloc (by rw [e]; omega) _).alloc (by rw [e, e]; omega) _).alloc (by rw [e, e, e]; omega) _
end Go.Proofs.YtpgbjnenllfmlaaGreatDoor
/-! Products of shares: the document's Scale. -/
namespace Go.Proofs.YtpgbjnenllfmlaaGreatDoor
open Go.RowKit Go.Sort
open Num
set_option linter.unusedVariables false

end Go.Proofs.YtpgbjnenllfmlaaGreatDoor
/-! What is asked of the program's package share, and the sanity check of layer 6's statements. -/
namespace Go.Proofs.YtpgbjnenllfmlaaGreatDoor
open Go.RowKit Go.Sort
open Num
set_option linter.unusedVariables false

def ShC : Prop := ∀ (p k n : Int) (v : Value) (L : List Shr) (w : World), Wheel w → (Lit.int .i64 p).wf = true → Shares w v L → Calls Tryz.prog 32 #[planV p k n, v] w fun e w' => ∃ v', e = .returned (.tuple #[v', .int .i64 (combE p k n L)]) ∧ Ints w' v' (combL p k n L) ∧ Below w.heap.size w w'
theorem planB_of {p k n : Int} (hp : PrmI p) (hp2 : p ≤ 1073741824) (h1 : 1 ≤ k) (h2 : k ≤ n) (h3 : n ≤ 16) (h4 : n < p) : planB p k n = true := by
  have hv : vB p = true := by unfold vB; simp [hp, hp2]
  unfold planB
  simp [hv, h1, h2, h3, h4]
theorem elB_of {p : Int} {l : List Int} (hp : PrmI p) (hp2 : p ≤ 1073741824) (h : Els p l) : elB p l = true := by
  rw [elB_good (fun k hk => by
    have := els_getD (by have := hp.1; omega) h k
    exact this)]
  unfold vB; simp [hp, hp2]
theorem deal_ok_of {p k n : Int} {K N : Nat} {s r : List Int} (hp : planB p k n = true) (hk : k - 1 = (K : Int)) (hn : n = (N : Int)) (hs : Els p s) (hr : Els p r) (hl : r.length = s.length * K) : dealE p k n s r = 0 ∧ dealR p k n s r = dealF p K N s r := by
  obtain ⟨q1, q2, _⟩ := planB_parts hp
  have e : dealE p k n s r = 0 := by
    unfold dealE
    rw [if_pos hp, if_pos ⟨elB_of q1 q2 hs, elB_of q1 q2 hr, by rw [hk, hl]; push_cast; rfl⟩]
  refine ⟨e, ?_⟩
  unfold dealR
  rw [if_pos e, hk, hn, Int.toNat_natCast, Int.toNat_natCast]
theorem deal_ex : dealE 7 2 3 [3] [1] = 0 ∧ dealR 7 2 3 [3] [1] = [(1, [4]), (2, [5]), (3, [6])] := by
  have h := deal_ok_of (p := 7) (k := 2) (n := 3) (K := 1) (N := 3) (s := [3]) (r := [1]) (planB_of prm_7 (by omega) (by omega) (by omega) (by omega) (by omega)) rfl rfl (fun x hx => by simp at hx; subst hx; exact ⟨by omega, by omega⟩) (fun x hx => by simp at hx; subst hx; exact ⟨by omega, by omega⟩) rfl
  exact ⟨h.1, by rw [h.2]; rfl⟩
theorem slc_lit (w : World) (x : Int) : Slc (w.alloc (.cells #[.int .i64 x] 3)) (.slice (some ⟨w.heap.size, 0, none⟩) 1 1) [x] := by
  have h : Gath (w.alloc (.cells #[.int .i64 x] 3)) w.heap.size (.slice (some ⟨w.heap.size, 0, none⟩) 1 1) [x] := World.ownsRow_lit w _ 1 (Nat.le_refl _) (by unfold maxLen; omega) rfl
  exact h.slc (by simp)
end Go.Proofs.YtpgbjnenllfmlaaGreatDoor
/-! Secrets come back: the mathematics of ShareSecrets, and what a statement keeps. -/
namespace Go.Proofs.YtpgbjnenllfmlaaGreatDoor
open Go.RowKit Go.Sort
open Num
set_option linter.unusedVariables false

theorem wf_small {p : Int} (h1 : 1 ≤ p) (h2 : p ≤ 1073741824) : (Lit.int .i64 p).wf = true := wf64 (by omega) (by omega)
theorem goodB_of_gd {p : Int} {N m : Nat} {L : List Shr} (hp : PrmI p) (hp2 : p ≤ 1073741824) (h : Gd p N m L) (hm : m ≤ 2048) : goodB p (N : Int) L = true := by
  have hat : ∀ i, i < L.length → L.getD i (0, []) ∈ L := fun i hi => by
    rw [List.getD_eq_getElem?_getD, List.getElem?_eq_getElem hi]; exact List.getElem_mem _
  refine goodB_true fun i hi => ⟨?_, ?_, ?_, fun j hj e => ?_⟩
  · have h1 := h.hold _ (hat i hi)
    have h2 := elB_of hp hp2 (h.els _ (hat i hi))
    unfold stB
    rw [decide_eq_true h1.1, decide_eq_true h1.2, h2]; rfl
  · rw [h.len _ (hat i hi), h.len _ (hat 0 (by omega))]
  · rw [h.len _ (hat i hi)]; exact hm
  · have hn := h.one
    rw [List.nodup_iff_pairwise_ne, List.pairwise_iff_getElem] at hn
    have h3 := hn j i (by rw [List.length_map]; omega) (by rw [List.length_map]; exact hi) hj
    rw [List.getElem_map, List.getElem_map] at h3
    simp only [List.getD_eq_getElem?_getD, List.getElem?_eq_getElem hi, List.getElem?_eq_getElem (show j < L.length by omega), Option.getD_some] at e
    exact h3 e
theorem turn_gd {p : Int} {N m : Nat} {L L2 : List Shr} (h : Gd p N m L) (hp : L2.Perm L) (t : Nat) : Gd p N m (L2.take t) :=
  Gd.take (h.sub (fun s hs => hp.mem_iff.1 hs) ((hp.map (·.1)).nodup_iff.2 h.one)) t
theorem turn_on {p : Int} {k m : Nat} {f : Nat → List Int} {L L2 : List Shr} (h : On p k m f L) (hp : L2.Perm L) (t : Nat) : On p k m f (L2.take t) :=
  h.sub fun s hs => hp.mem_iff.1 (List.mem_of_mem_take hs)
theorem secret_back {p : Int} {K N : Nat} {S R : List Int} {Q : List Shr} (hp : PrmI p) (hn : (N : Int) < p) (hS : Els p S) (hg : Gd p N S.length Q) (ho : On p (K + 1) S.length (polyL K S R) Q) (hl : K + 1 ≤ Q.length) : cmbV p (K + 1) Q = S := by
  rw [cmb_on hp hn hg ho hl (by omega)]
  refine List.ext_getElem (by simp) fun i h1 h2 => ?_
  have hp1 : 1 ≤ p := by have := hp.1; omega
  rw [List.getElem_map, List.getElem_range, polyL_zero hp1 hS, getD_at h2]
theorem combE_ok {p k n : Int} {K : Nat} {L : List Shr} (h1 : planB p k n = true) (h2 : goodB p n L = true) (hk : k = (K : Int)) (hl : K ≤ L.length) : combE p k n L = 0 ∧ combL p k n L = cmbV p K L := by
  have e : combE p k n L = 0 := by
    unfold combE
    rw [if_pos ⟨h1, h2⟩, if_neg (by omega)]
  refine ⟨e, ?_⟩
  unfold combL
  rw [if_pos e, hk, Int.toNat_natCast]
theorem combE_few {p k n : Int} {K : Nat} {L : List Shr} (h1 : planB p k n = true) (h2 : goodB p n L = true) (hk : k = (K : Int)) (hl : L.length < K) : combE p k n L = 5 := by
  unfold combE
  rw [if_pos ⟨h1, h2⟩, if_pos (by omega)]
theorem fitB_on {p k n : Int} {K N m : Nat} {f : Nat → List Int} {L : List Shr} (h1 : planB p k n = true) (hk : k = (K : Int)) (hn : n = (N : Int)) (hg : Gd p N m L) (hm : m ≤ 2048) (ho : On p K m f L) : fitB p k n L = true := by
  obtain ⟨q1, q2, q3, q4, q5, q6⟩ := planB_parts h1
  subst hn
  refine fitB_true h1 (goodB_of_gd q1 q2 hg hm) ?_
  by_cases hl : K ≤ L.length
  · rw [hk, Int.toNat_natCast]
    exact .inr (fits_on q1 q6 hg ho hl)
  · exact .inl (by omega)

/-- What a statement keeps: the dice, the plan, the table. -/
structure StL (w0 W : World) (b gp : Nat) (s : Value) (l : List Int) (p k n : Int) : Prop where
  di : DiceAt W b s l
  pl : PlanAt W gp p k n
  wh : Wheel W
  be : Below b w0 W
  lt : b < gp
  sz : gp < W.heap.size
  ta : 1 < b
theorem StL.below {w0 W W' : World} {b gp : Nat} {s : Value} {l : List Int} {p k n : Int} (h : StL w0 W b gp s l p k n) (k' : Below W.heap.size W W') : StL w0 W' b gp s l p k n := by
  have h1 := h.lt
  have h2 := h.sz
  have h3 := h.ta
  exact ⟨h.di.below k' (by omega), h.pl.below h2 k', h.wh.below (by omega) k', h.be.trans (k'.mono (by omega)), h.lt, Nat.lt_of_lt_of_le h2 k'.size, h.ta⟩
theorem StL.but {w0 W W' : World} {b gp : Nat} {s : Value} {l : List Int} {p k n : Int} (h : StL w0 W b gp s l p k n) (k' : But b W W') (hd : DiceAt W' b s l) : StL w0 W' b gp s l p k n := by
  have h1 := h.lt
  have h2 := h.sz
  have h3 := h.ta
  have hb : Below b W W' := k'.below (Nat.le_refl _) (by omega)
  obtain ⟨t, fr, hp⟩ := h.pl
  exact ⟨hd, ⟨t, fr, by rw [k'.block gp h2 (by omega)]; exact hp⟩, h.wh.below h3 hb, h.be.trans hb, h.lt, Nat.lt_of_lt_of_le h2 k'.size, h.ta⟩
theorem Slc.but {w w' : World} {b : Nat} {v : Value} {l : List Int} (h : Slc w v l) (k : But b w w') (hb : ∀ g, v.ownBlock = some g → g ≠ b) : Slc w' v l := by
  obtain ⟨a, c, rfl, h1, h2, h3⟩ := h
  exact ⟨a, c, rfl, h1, h2, h3.but k hb⟩
end Go.Proofs.YtpgbjnenllfmlaaGreatDoor
