
/- Contract of poly.Weights. -/
import Derived.Test.YtpgbjnenllfmlaaGreatDoorThru
import Derived.Maps.AppendAt
import Derived.Lib.SliceRun
/-! Contract of poly.Weights. -/
namespace Go.Proofs.YtpgbjnenllfmlaaGreatDoor
open Go.RowKit Go.Shelf
open Num
set_option linter.unusedVariables false
attribute [local go_sem] Oper.semAt_some

/-! ### The marks that ranges over functions leave among the deferred calls -/
def markOf (D : Nat) : Deferred := { target := .collected D, args := #[] }
def Marks (B : Nat) (ds : List Deferred) (W : World) : Prop := ∃ Ds : List Nat, ds = Ds.map markOf ∧ Ds.Nodup ∧ ∀ D ∈ Ds, B ≤ D ∧ W.heap[D]? = some (.deferred (some []))
theorem marks_nil (B : Nat) (W : World) : Marks B [] W := ⟨[], rfl, List.nodup_nil, fun D h => by cases h⟩
theorem Marks.cons {B D : Nat} {ds : List Deferred} {W : World} (h : Marks B ds W) (hB : B ≤ D) (hK : W.heap[D]? = some (.deferred (some []))) (hD : ∀ D', markOf D' ∈ ds → D' < D) : Marks B (markOf D :: ds) W := by
  obtain ⟨Ds, rfl, hn, hd⟩ := h
  refine ⟨D :: Ds, rfl, List.nodup_cons.2 ⟨fun hm => ?_, hn⟩, fun D' hm => ?_⟩
  · have := hD D (List.mem_map.2 ⟨D, hm, rfl⟩); omega
  · rcases List.mem_cons.1 hm with rfl | hm
    · exact ⟨hB, hK⟩
    · exact hd D' hm
theorem Marks.lt {B D : Nat} {ds : List Deferred} {W : World} (h : Marks B ds W) (hD : markOf D ∈ ds) : D < W.heap.size ∧ W.heap[D]? = some (.deferred (some [])) := by
  obtain ⟨Ds, rfl, hn, hd⟩ := h
  obtain ⟨D', hm, e⟩ := List.mem_map.1 hD
  obtain rfl : D' = D := by unfold markOf at e; injection e with e1; injection e1
  exact ⟨(Array.getElem?_eq_some_iff.1 (hd _ hm).2).1, (hd _ hm).2⟩
theorem Marks.keep {B : Nat} {ds : List Deferred} {W W' : World} (h : Marks B ds W) (hk : ∀ D : Nat, W.heap[D]? = some (Obj.deferred (some [])) → W'.heap[D]? = some (Obj.deferred (some []))) : Marks B ds W' := by
  obtain ⟨Ds, e, hn, hd⟩ := h
  exact ⟨Ds, e, hn, fun D hm => ⟨(hd D hm).1, hk D (hd D hm).2⟩⟩
theorem leaves_marks {F : Fence} {n : Nat} {P : Program} {fn : Func} {tmps : Array Value} {R : Ending → World → Prop} {B : Nat} : ∀ (Ds : List Nat) (W : World), B ≤ W.heap.size → Ds.Nodup → (∀ D ∈ Ds, B ≤ D ∧ W.heap[D]? = some (.deferred (some []))) →
    (∀ W', Below B W W' → (∀ p v, W.cell? p = some v → W'.cell? p = some v) → LeavesIn F n P fn tmps R [] .returning W') → LeavesInM F n P fn tmps R (Ds.map markOf) .returning W
  | [], W, hB, _, _, h => h W (Below.refl _ _) (fun _ _ h => h)
  | D :: Ds, W, hB, hn, hd, h => by
    obtain ⟨h1, h2⟩ := List.nodup_cons.1 hn
    obtain ⟨hBD, hK⟩ := hd D (by simp)
    refine ⟨by simp, .inl ⟨D, _, rfl, run_takeDeferred hK, ?_⟩⟩
    have hb : Below B W (W.putObj D (.deferred none)) := (Below.refl B W).grown (grownBy_putObj' W D (.deferred none)) hB (fun k e => by cases e; exact hBD)
    refine leaves_marks Ds _ (Nat.le_trans hB hb.size) h2 (fun D' hm => ⟨(hd D' (by simp [hm])).1, ?_⟩) fun W' hb' hc' => h W' (hb.trans hb') fun p v hp => hc' p v (cell_putObj hK rfl hp)
    rw [World.putObj_heap_other (by rintro rfl; exact h1 hm)]
    exact (hd D' (by simp [hm])).2

theorem Ints.of_cells {w w' : World} {s : Value} {l : List Int} (h : Ints w s l) (hc : ∀ p v, w.cell? p = some v → w'.cell? p = some v) : Ints w' s l := by
  obtain ⟨a, c, e, h1, h2⟩ := h
  exact ⟨a, c, e, h1, fun hl => by obtain ⟨b, off, ha, hx⟩ := h2 hl; exact ⟨b, off, ha, fun i hi => hc _ _ (hx i hi)⟩⟩
/-! ### Weights -/
def prodV (p x : Int) (l : List Int) : Int := l.foldl (fun v y => mulF p v (subF p x y)) 1
theorem prodV_snoc (p x y : Int) (l : List Int) : prodV p x (l ++ [y]) = mulF p (prodV p x l) (subF p x y) := by simp [prodV]
theorem prodV_el {p : Int} (hp : 2 ≤ p) (x : Int) (l : List Int) : El p (prodV p x l) := by
  rcases List.eq_nil_or_concat l with rfl | ⟨l', b, rfl⟩
  · exact ⟨by simp [prodV], by simp [prodV]; omega⟩
  · rw [List.concat_eq_append, prodV_snoc]; exact el_mul (by omega) _ _
theorem prodV_cg (p x : Int) (n : Nat) : ∀ l : List Int, l.length = n → Cg p (prodV p x l) (prodE l x) := by
  induction n with
  | zero => intro l h; obtain rfl := List.length_eq_zero_iff.1 h; exact Cg.refl p 1
  | succ n ih =>
    intro l h
    rcases List.eq_nil_or_concat l with rfl | ⟨l', b, rfl⟩
    · simp at h
    · rw [List.concat_eq_append] at h ⊢
      rw [prodV_snoc, prodE_snoc]
      exact (Cg.mulF p _ _).trans ((ih l' (by simpa using h)).mul (Cg.subF p _ _))
theorem prodV_eq {p : Int} (hp : 2 ≤ p) (x : Int) (l : List Int) : prodV p x l = prodE l x % p := by
  have := (prodV_cg p x _ l rfl).eq
  rw [← this]
  have h := prodV_el hp x l
  exact (Int.emod_eq_of_lt h.1 h.2).symm

def WtI (p x : Int) (xs : List Int) (n : Nat) (w1 : World) (k : Nat) (wr : World) (ds : List Deferred) : Prop :=
  ∃ l : List Int, Row wr w1.heap.size l ∧ l.length = n ∧ (∀ j, j < k → l.getD j 0 = wt p xs x j) ∧ Below w1.heap.size w1 wr ∧ Marks w1.heap.size ds wr
/-- Between two rounds of the range. -/
structure WrI (p x o : Int) (P0 R S : Nat) (l : List Int) (ds : List Deferred) (w1 : World) (pre : List Int) (W : World) : Prop where
  c0 : W.cell? ⟨P0, 0, none⟩ = some (.int .i64 p)
  c1 : W.cell? ⟨P0 + 1, 0, none⟩ = some (.int .i64 x)
  c2 : W.cell? ⟨S, 0, none⟩ = some (.int .i64 o)
  c3 : W.cell? ⟨S + 1, 0, none⟩ = some (.int .i64 (prodV p x pre))
  f3 : W.frozen? ⟨S + 1, 0, none⟩ = false
  c4 : W.cell? ⟨S + 1 + 1, 0, none⟩ = some (.int .i64 (prodV p o pre))
  f4 : W.frozen? ⟨S + 1 + 1, 0, none⟩ = false
  row : Row W R l
  bel : Below w1.heap.size w1 W
  mks : Marks w1.heap.size ds W
theorem Row.kept {w w' : World} {g : Nat} {l : List Int} {row : Option Nat} (h : Row w g l) (hg : w.grownBy w' row) (hr : ∀ r, row = some r → ∃ o : Obj, w.heap[r]? = some o ∧ o.isCells = false) : Row w' g l := by
  refine World.rowIs.of_block h (hg.block g h.lt ?_)
  intro e
  obtain ⟨o, ho, hc⟩ := hr g e.symm
  obtain ⟨c, hb, _⟩ := h
  rw [hb] at ho
  have := Option.some.inj ho
  subst this
  cases hc
theorem wrI_own {xs : List Int} {p x o : Int} {P0 R S B : Nat} {l : List Int} {ds : List Deferred} {w1 : World} (hB : w1.heap.size ≤ B) (hds : ∀ D, markOf D ∈ ds → D < B) :
    OwnFrom B (fun (pre : List (InL xs)) W => WrI p x o P0 R S l ds w1 (pre.map (·.1)) W) := fun s A A' row h hg hr => by
  have hr' : ∀ r, row = some r → ∃ o : Obj, A.heap[r]? = some o ∧ o.isCells = false := fun r e => (hr r e).2
  refine ⟨cell_kept h.c0 hg hr', cell_kept h.c1 hg hr', cell_kept h.c2 hg hr', cell_kept h.c3 hg hr', (frozen_kept h.c3 hg hr').trans h.f3, cell_kept h.c4 hg hr', (frozen_kept h.c4 hg hr').trans h.f4, h.row.kept hg hr', ?_, ?_⟩
  · exact h.bel.grown hg h.bel.size (fun k e => Nat.le_trans hB (hr k e).1)
  · obtain ⟨Ds, e, hn, hd⟩ := h.mks
    refine ⟨Ds, e, hn, fun D hm => ⟨(hd D hm).1, ?_⟩⟩
    have hlt := hds D (by rw [e]; exact List.mem_map.2 ⟨D, hm, rfl⟩)
    rw [hg.block D (Array.getElem?_eq_some_iff.1 (hd D hm).2).1 (fun e' => by have := (hr D e'.symm).1; omega)]
    exact (hd D hm).2

set_option maxRecDepth 100000 in
set_option maxHeartbeats 4000000 in
theorem weights_in (p x : Int) (ax : Option Addr) (n cx : Nat) (xs : List Int) (w : World) (hp : PrmI p) (hp2 : p ≤ 1073741824) (hx : El p x) (hxs : Els p xs)
    (hsx : Ints w (.slice ax n cx) xs) (hnx : Hid (n = xs.length)) (hok : Hid (plc xs = 0)) (hn : n ≤ 1000) :
    CallsIn Fence.wide 6 Tryz.prog 81 #[.int .i64 p, .slice ax n cx, .int .i64 x] w fun e w' => ∃ v, e = .returned (.tuple #[v, .int .i64 0]) ∧ Ints w' v (wts p xs x) ∧ (∀ g, v.ownBlock = some g → w.heap.size ≤ g) ∧ Below w.heap.size w w' := by
  have hp0 := hp.1
  have hp1 : 1 ≤ p := by omega
  have hcp := Lib.hid (checkPlaces_any _ xs ((w.alloc (.cells #[.int .i64 p] 3)).alloc (.cells #[.int .i64 x] 3)) (hsx.below (Nat.le_refl _) (((Below.refl _ _).alloc (Nat.le_refl _) _).alloc (by simp) _)) (els_wf hp2 hxs))
  rw [hok.out] at hcp
  have hmk := run_make_row' (P := Tryz.prog) 22 3 (.int .i64 0) 8 Tryz.underlying22 infoInt rfl .i64 .i64 n (by omega) (by omega)
  refine callsIn_of_wp_marks Tryz.func81 rfl trivial ?_ rfl
  simp only [Tryz.ntmps81, List.size_toArray, List.length_cons, List.length_nil, Nat.reduceAdd, Nat.reduceSub, Array.replicate_succ, Array.replicate_zero, List.push_toArray, List.append_toArray, List.nil_append, List.cons_append]
  gi_wp2_with (refine ⟨trivial, ?_⟩; gi_at_call 99; refine (callsIn_wide.2 hcp.out).mono ?_; rintro e w1 ⟨rfl, hb1⟩)
  -- LOOP
  have hx0 : w1.cell? ⟨w.heap.size, 0, none⟩ = some (.int .i64 p) := by rw [hb1.cell (p := ⟨w.heap.size, 0, none⟩) (by simp <;> omega)]; exact ((Boxed.new w 3 (.int .i64 p)).alloc _).cell
  have hx1 : w1.cell? ⟨w.heap.size + 1, 0, none⟩ = some (.int .i64 x) := by
    rw [hb1.cell (p := ⟨w.heap.size + 1, 0, none⟩) (by simp)]; have h := (Boxed.new (w.alloc (.cells #[.int .i64 p] 3)) 3 (.int .i64 x)).cell; rw [World.size_alloc] at h; exact h
  have hbW : Below w.heap.size w w1 := (((Below.refl w.heap.size w).alloc (Nat.le_refl _) (.cells #[.int .i64 p] 3)).alloc (by simp) (.cells #[.int .i64 x] 3)).trans (hb1.mono (by simp; omega))
  have hsz : w.heap.size + 2 ≤ w1.heap.size := by have := hb1.size; simp at this; omega
  have HSX := Lib.hid (hsx.below (Nat.le_refl _) hbW)
  have HBW := Lib.hid hbW
  have HX0 := Lib.hid hx0
  have HX1 := Lib.hid hx1
  have HND : Hid xs.Nodup := nodup_of (by
    have h := hok.out
    unfold plc at h
    split at h
    · omega
    · split at h
      · omega
      · simpa using ‹¬ dupB xs = true›)
  have HST : Hid (WtI p x xs n w1 0 (w1.alloc (.cells (madeCells #[.int .i64 0] n) 3)) []) := ⟨List.replicate n 0, Row.made w1 n, by simp, fun j hj => by omega, (Below.refl _ _).alloc (Nat.le_refl _) _, marks_nil _ _⟩
  clear hb1 hsx hcp hbW hmk hx0 hx1 hok
  generalize w1.alloc (.cells (madeCells #[.int .i64 0] n) 3) = w2 at *
  refine wpIn_loop (fun a' wr => ∃ u10 u11 u12 u13 u14 u25 u26 u27 u28 u29 u30 u31 u32 u33 u34 u35 u36 u37 u38 u39 u40 u41 u42 u43 u44 u45 u46 u47 u48 u49 u50 u51 u52 u53 u54 u55 u56 u57 : Value, ∃ ds : List Deferred, ((∃ k : Nat, k ≤ n ∧ u25 = .int .i64 k ∧ WtI p x xs n w1 k wr ds) ∧ a' = { tmps := #[.int .i64 p, .slice ax n cx, .int .i64 x, .pointer (some ⟨w.heap.size, 0, none⟩), undef, .pointer (some ⟨w.heap.size + 1, 0, none⟩), .slice none 0 0, .int .i64 0, .int .i64 0, .slice (some ⟨w1.heap.size, 0, none⟩) n n, u10, u11, u12, u13, u14, .slice ax n cx, .int .i64 0, .int .i64 0, .bool false, undef, .slice ax n cx, .int .i64 n, .slice (some ⟨w1.heap.size, 0, none⟩) n n, .slice ax n cx, .int .i64 n, u25, u26, u27, u28, u29, u30, u31, u32, u33, u34, u35, u36, u37, u38, u39, u40, u41, u42, u43, u44, u45, u46, u47, u48, u49, u50, u51, u52, u53, u54, u55, u56, u57, undef], defers := ds })) (fun a' _ => n - (intOf (a'.tmps.getD 25 undef)).toNat) ?_ ?_
  · (repeat apply Exists.intro)
    exact ⟨⟨0, Nat.zero_le _, rfl, HST.out⟩, rfl⟩
  · intro _ wr hinv
    obtain ⟨u10, u11, u12, u13, u14, u25, u26, u27, u28, u29, u30, u31, u32, u33, u34, u35, u36, u37, u38, u39, u40, u41, u42, u43, u44, u45, u46, u47, u48, u49, u50, u51, u52, u53, u54, u55, u56, u57, ds, ⟨i, hi, rfl, hW⟩, rfl⟩ := hinv
    have HW := Lib.hid hW
    clear hW
    by_cases hlt : i < n
    · obtain ⟨l, hrow, hlen, hdone, hbel, hmks⟩ := HW.out
      obtain ⟨x0, off, rfl, hcx⟩ := ints_at (HSX.out.below (Nat.le_refl _) hbel) hnx.out (k := i) hlt
      have eo := els_at hp1 hxs i
      obtain ⟨o, hov⟩ : ∃ o, xs.getD i 0 = o := ⟨_, rfl⟩
      rw [hov] at hcx eo
      have HOV := Lib.hid hov
      have HROW := Lib.hid hrow
      have HLEN := Lib.hid hlen
      have HDONE := Lib.hid hdone
      have HBEL := Lib.hid hbel
      have HMKS := Lib.hid hmks
      clear hov hrow hlen hdone hbel hmks HW
      gi_wp2_with (refine ⟨trivial, ?_⟩; gi_at_call 100; refine (callsIn_wide.2 (others_any _ _ _ _ _)).mono ?_; rintro e w' ⟨rfl, rfl⟩)
      have a0 : Below w1.heap.size wr (((((wr.alloc (.cells #[.int .i64 o] 3)).alloc (.cells #[.int .i64 1] 3)).alloc (.cells #[.int .i64 1] 3)).alloc (.cells #[.slice (some ⟨x0, off, none⟩) n cx] 22)).alloc (.cells #[.int .i64 i] 3)) :=
        (((((Below.refl _ _).alloc HBEL.out.size _).alloc (by have := HBEL.out.size; simp; omega) _).alloc (by have := HBEL.out.size; simp; omega) _).alloc (by have := HBEL.out.size; simp; omega) _).alloc (by have := HBEL.out.size; simp; omega) _
      have a1 : Below wr.heap.size wr (((((wr.alloc (.cells #[.int .i64 o] 3)).alloc (.cells #[.int .i64 1] 3)).alloc (.cells #[.int .i64 1] 3)).alloc (.cells #[.slice (some ⟨x0, off, none⟩) n cx] 22)).alloc (.cells #[.int .i64 i] 3)) :=
        (((((Below.refl _ _).alloc (Nat.le_refl _) _).alloc (by simp) _).alloc (by simp <;> omega) _).alloc (by simp <;> omega) _).alloc (by simp <;> omega) _
      have b0 := Boxed.new wr 3 (.int .i64 o)
      have b1 := Boxed.new (wr.alloc (.cells #[.int .i64 o] 3)) 3 (.int .i64 1)
      have b2 := Boxed.new ((wr.alloc (.cells #[.int .i64 o] 3)).alloc (.cells #[.int .i64 1] 3)) 3 (.int .i64 1)
      have b3 := Boxed.new (((wr.alloc (.cells #[.int .i64 o] 3)).alloc (.cells #[.int .i64 1] 3)).alloc (.cells #[.int .i64 1] 3)) 22 (.slice (some ⟨x0, off, none⟩) n cx)
      have b4 := Boxed.new ((((wr.alloc (.cells #[.int .i64 o] 3)).alloc (.cells #[.int .i64 1] 3)).alloc (.cells #[.int .i64 1] 3)).alloc (.cells #[.slice (some ⟨x0, off, none⟩) n cx] 22)) 3 (.int .i64 i)
      simp only [World.size_alloc] at b1 b2 b3 b4
      have hsw : w1.heap.size + 0 < wr.heap.size := by have := HROW.out.lt; omega
      have hst : WrI p x o w.heap.size w1.heap.size wr.heap.size l ds w1 [] (((((wr.alloc (.cells #[.int .i64 o] 3)).alloc (.cells #[.int .i64 1] 3)).alloc (.cells #[.int .i64 1] 3)).alloc (.cells #[.slice (some ⟨x0, off, none⟩) n cx] 22)).alloc (.cells #[.int .i64 i] 3)) := by
        refine ⟨?_, ?_, ((((b0.alloc _).alloc _).alloc _).alloc _).cell, (((b1.alloc _).alloc _).alloc _).cell, (((b1.alloc _).alloc _).alloc _).frozen, ((b2.alloc _).alloc _).cell, ((b2.alloc _).alloc _).frozen, HROW.out.below a1 HROW.out.lt, HBEL.out.trans a0, HMKS.out.keep fun D h => by rw [a1.block D (Array.getElem?_eq_some_iff.1 h).1]; exact h⟩
        · rw [(HBEL.out.trans a0).cell (p := ⟨w.heap.size, 0, none⟩) (by show w.heap.size < w1.heap.size; omega)]; exact HX0.out
        · rw [(HBEL.out.trans a0).cell (p := ⟨w.heap.size + 1, 0, none⟩) (by show w.heap.size + 1 < w1.heap.size; omega)]; exact HX1.out
      have HST := Lib.hid hst
      have hax : x0 < wr.heap.size := cell_lt hcx
      have hq : OthR (wr.heap.size + 1 + 1 + 1) (wr.heap.size + 1 + 1 + 1 + 1) i xs (some ⟨x0, off, none⟩) cx (((((wr.alloc (.cells #[.int .i64 o] 3)).alloc (.cells #[.int .i64 1] 3)).alloc (.cells #[.int .i64 1] 3)).alloc (.cells #[.slice (some ⟨x0, off, none⟩) n cx] 22)).alloc (.cells #[.int .i64 i] 3)) := by
        have hI := HSX.out.below (Nat.le_refl _) HBEL.out
        have h3 := (b3.alloc (.cells #[.int .i64 i] 3)).cell
        have e := hnx.out
        have h3' := h3.trans (show some (Value.slice (some ⟨x0, off, none⟩) n cx) = some (.slice (some ⟨x0, off, none⟩) xs.length cx) by rw [e])
        rw [e] at hI
        exact ⟨reads_of_ints hI _ (fun q v h => by rw [a1.cell (cell_lt h)]; exact h) h3', b4.cell⟩
      have HQ := Lib.hid hq
      have hsz3 : (((((wr.alloc (.cells #[.int .i64 o] 3)).alloc (.cells #[.int .i64 1] 3)).alloc (.cells #[.int .i64 1] 3)).alloc (.cells #[.slice (some ⟨x0, off, none⟩) n cx] 22)).alloc (.cells #[.int .i64 i] 3)).heap.size = wr.heap.size + 5 := by simp
      have hmlt : ∀ D, markOf D ∈ ds → D < wr.heap.size := fun D h => (HMKS.out.lt h).1
      have HML := Lib.hid hmlt
      clear a0 a1 b0 b1 b2 b3 b4 hst hq hmlt HROW HBEL HMKS hcx
      generalize ((((wr.alloc (.cells #[.int .i64 o] 3)).alloc (.cells #[.int .i64 1] 3)).alloc (.cells #[.int .i64 1] 3)).alloc (.cells #[.slice (some ⟨x0, off, none⟩) n cx] 22)).alloc (.cells #[.int .i64 i] 3) = w3 at *
      have hseq := others_stops (6 - 1) (by omega) (wr.heap.size + 1 + 1 + 1) (wr.heap.size + 1 + 1 + 1 + 1) i xs (some ⟨x0, off, none⟩) cx (by rw [← hnx.out]; omega) (by rw [← hnx.out]; exact hlt) w3 HQ.out
      refine wpIn_rangeFunc_ownG (α := InL xs) (F := Fence.wide) (n := 6) (ps := #[33]) rfl (by omega) (gf := 119) (lb := #[.pointer (some ⟨wr.heap.size + 1 + 1 + 1, 0, none⟩), .pointer (some ⟨wr.heap.size + 1 + 1 + 1 + 1, 0, none⟩)]) rfl trivial (enters_of Tryz.func119 (by kernel_rfl) rfl)
        hseq (fun h k x => k (h x)) (fun W l o o' _ hl ho _ h => h.of_cells fun p v hp => cell_putObj hl ho hp) (Below.refl _ _) (fun _ => rfl)
        (fun pre W => WrI p x o w.heap.size w1.heap.size wr.heap.size l ds w1 (pre.map (·.1)) W)
        (fun _ _ _ => False)
        (wrI_own (by omega) (fun D h => by have := HML.out D h; omega))
        (fun _ _ _ _ _ hs _ _ => hs)
        HST.out
        (fun y => { tmps := #[.int .i64 p, .slice (some ⟨x0, off, none⟩) n cx, .int .i64 x, .pointer (some ⟨w.heap.size, 0, none⟩), undef, .pointer (some ⟨w.heap.size + 1, 0, none⟩), .slice none 0 0, .int .i64 0, .int .i64 0, .slice (some ⟨w1.heap.size, 0, none⟩) n n, .int .i64 i, .pointer (some ⟨wr.heap.size, 0, none⟩), .pointer (some ⟨wr.heap.size + 1, 0, none⟩), .pointer (some ⟨wr.heap.size + 1 + 1, 0, none⟩), .int .i64 y.1, .slice (some ⟨x0, off, none⟩) n cx, .int .i64 0, .int .i64 0, .bool false, undef, .slice (some ⟨x0, off, none⟩) n cx, .int .i64 n, .slice (some ⟨w1.heap.size, 0, none⟩) n n, .slice (some ⟨x0, off, none⟩) n cx, .int .i64 n, .int .i64 i, .bool true, .int .i64 i, .pointer (some ⟨x0, off + i, none⟩), .int .i64 o, .slice (some ⟨x0, off, none⟩) n cx, .int .i64 i, .func (.func 119) #[] #[.pointer (some ⟨wr.heap.size + 1 + 1 + 1, 0, none⟩), .pointer (some ⟨wr.heap.size + 1 + 1 + 1 + 1, 0, none⟩)], .int .i64 y.1, u34, u35, u36, u37, u38, u39, u40, u41, u42, u43, u44, u45, u46, u47, u48, u49, u50, u51, u52, u53, u54, u55, u56, u57, undef], defers := [] }) ?assign ?body ?done ?stop
      case assign =>
        intro l x W K hK
        gi_wp2
        exact hK
      case body =>
        rintro lp pre y W hE _
        obtain ⟨c0, c1, c2, c3, f3, c4, f4, hrow, hbel, hmk⟩ := hE
        have hmx : Tryz.prog.follows .mixedOrders = true := by kernel_rfl
        obtain ⟨yv, hym⟩ := y
        have ey : El p yv := hxs yv hym
        have ea := prodV_el hp0 x (pre.map (·.1))
        have eb := prodV_el hp0 o (pre.map (·.1))
        have eA := Lib.hid (prodV_snoc p x yv (pre.map (·.1)))
        have eB := Lib.hid (prodV_snoc p o yv (pre.map (·.1)))
        have EM : Hid ((pre ++ [(⟨yv, hym⟩ : InL xs)]).map (·.1) = pre.map (·.1) ++ [yv]) := by show _ = _; simp
        have HROW := Lib.hid hrow
        have HBEL := Lib.hid hbel
        have HMK := Lib.hid hmk
        clear hrow hbel hmk
        generalize hpa : prodV p x (pre.map (·.1)) = va at *
        generalize hpb : prodV p o (pre.map (·.1)) = vb at *
        clear hpa hpb
        dsimp only
        gi_wp2
        refine round_still_tail 7 hmx (fun ⟨_, _, h⟩ => h) (by kernel_rfl) (by kernel_rfl) ?_
        simp only [List.take_succ_cons, List.take_zero, List.drop_succ_cons, List.drop_zero, drew_def]
        repeat still_step
        still_call (still_of (sub_el _ hp1 hp2 hx ey))
        still_call (still_of (mul_el _ hp1 hp2 ea (el_sub hp1 x yv)))
        repeat still_step
        refine wpStill_nil ?_
        go_wp2
        have k1 : But (wr.heap.size + 1) W ((W.setCell ⟨wr.heap.size + 1, 0, none⟩ (.int .i64 (mulF p va (subF p x yv)))).drew) := (But.set W ⟨wr.heap.size + 1, 0, none⟩ _).trans (But.drewN _ _ 1)
        have o1 : KeepsOthers W ((W.setCell ⟨wr.heap.size + 1, 0, none⟩ (.int .i64 (mulF p va (subF p x yv)))).drew) := (KeepsOthers.setCell _ _ _).trans (KeepsOthers.drew _)
        have d3 : ((W.setCell ⟨wr.heap.size + 1, 0, none⟩ (.int .i64 (mulF p va (subF p x yv)))).drew).cell? ⟨wr.heap.size + 1, 0, none⟩ = some (.int .i64 (mulF p va (subF p x yv))) := World.cell?_setCell_same' _ _ _ (by rw [c3]; rfl)
        have g3 : ((W.setCell ⟨wr.heap.size + 1, 0, none⟩ (.int .i64 (mulF p va (subF p x yv)))).drew).frozen? ⟨wr.heap.size + 1, 0, none⟩ = false := by rw [frozen_drew_own, World.frozen?_setCell]; exact f3
        have g4 : ((W.setCell ⟨wr.heap.size + 1, 0, none⟩ (.int .i64 (mulF p va (subF p x yv)))).drew).frozen? ⟨wr.heap.size + 1 + 1, 0, none⟩ = false := by rw [frozen_drew_own, World.frozen?_setCell]; exact f4
        have r1 : Row ((W.setCell ⟨wr.heap.size + 1, 0, none⟩ (.int .i64 (mulF p va (subF p x yv)))).drew) w1.heap.size l := World.rowIs.of_block HROW.out (k1.block _ HROW.out.lt (by omega))
        have e1 : Below w1.heap.size w1 ((W.setCell ⟨wr.heap.size + 1, 0, none⟩ (.int .i64 (mulF p va (subF p x yv)))).drew) := (HBEL.out.setCell (p := ⟨wr.heap.size + 1, 0, none⟩) (by show w1.heap.size ≤ wr.heap.size + 1; omega) _).drew
        have q1 : Marks w1.heap.size ds ((W.setCell ⟨wr.heap.size + 1, 0, none⟩ (.int .i64 (mulF p va (subF p x yv)))).drew) := HMK.out.keep fun D h => o1.same D _ h rfl
        generalize (W.setCell ⟨wr.heap.size + 1, 0, none⟩ (.int .i64 (mulF p va (subF p x yv)))).drew = W1 at *
        have d0 := (k1.cell (p := ⟨w.heap.size, 0, none⟩) (cell_lt c0) (by show w.heap.size ≠ wr.heap.size + 1; omega)).trans c0
        have d1 := (k1.cell (p := ⟨w.heap.size + 1, 0, none⟩) (cell_lt c1) (by show w.heap.size + 1 ≠ wr.heap.size + 1; omega)).trans c1
        have d2 := (k1.cell (p := ⟨wr.heap.size, 0, none⟩) (cell_lt c2) (by show wr.heap.size ≠ wr.heap.size + 1; omega)).trans c2
        have d4 := (k1.cell (p := ⟨wr.heap.size + 1 + 1, 0, none⟩) (cell_lt c4) (by show wr.heap.size + 1 + 1 ≠ wr.heap.size + 1; omega)).trans c4
        have K1 := Lib.hid k1
        have O1 := Lib.hid o1
        have R1 := Lib.hid r1
        have E1 := Lib.hid e1
        have Q1 := Lib.hid q1
        clear k1 o1 r1 e1 q1 c0 c1 c2 c3 c4 f3 f4 HROW HBEL HMK
        refine round_still_tail 7 hmx (fun ⟨_, _, h⟩ => h) (by kernel_rfl) (by kernel_rfl) ?_
        simp only [List.take_succ_cons, List.take_zero, List.drop_succ_cons, List.drop_zero, drew_def]
        repeat still_step
        still_call (still_of (sub_el _ hp1 hp2 eo ey))
        still_call (still_of (mul_el _ hp1 hp2 eb (el_sub hp1 o yv)))
        repeat still_step
        refine wpStill_nil ?_
        go_wp2
        have k2 : But (wr.heap.size + 1 + 1) W1 ((W1.setCell ⟨wr.heap.size + 1 + 1, 0, none⟩ (.int .i64 (mulF p vb (subF p o yv)))).drew) := (But.set W1 ⟨wr.heap.size + 1 + 1, 0, none⟩ _).trans (But.drewN _ _ 1)
        have o2 : KeepsOthers W1 ((W1.setCell ⟨wr.heap.size + 1 + 1, 0, none⟩ (.int .i64 (mulF p vb (subF p o yv)))).drew) := (KeepsOthers.setCell _ _ _).trans (KeepsOthers.drew _)
        refine ⟨(O1.out.trans o2).from _, fun h => ?_, ?_⟩
        · have h1 : OthR (wr.heap.size + 1 + 1 + 1) (wr.heap.size + 1 + 1 + 1 + 1) i xs (some ⟨x0, off, none⟩) cx W1 := h.but K1.out (by omega) (by omega) (fun b off e => by cases e; omega)
          exact h1.but k2 (by omega) (by omega) (fun b off e => by cases e; omega)
        · show WrI p x o w.heap.size w1.heap.size wr.heap.size l ds w1 ((pre ++ [(⟨yv, hym⟩ : InL xs)]).map (·.1)) _
          rw [EM.out]
          refine ⟨?_, ?_, ?_, ?_, ?_, ?_, ?_, World.rowIs.of_block R1.out (k2.block _ R1.out.lt (by omega)), (E1.out.setCell (p := ⟨wr.heap.size + 1 + 1, 0, none⟩) (by show w1.heap.size ≤ wr.heap.size + 1 + 1; omega) _).drew, Q1.out.keep fun D h => o2.same D _ h rfl⟩
          · exact (k2.cell (p := ⟨w.heap.size, 0, none⟩) (cell_lt d0) (by show w.heap.size ≠ wr.heap.size + 1 + 1; omega)).trans d0
          · exact (k2.cell (p := ⟨w.heap.size + 1, 0, none⟩) (cell_lt d1) (by show w.heap.size + 1 ≠ wr.heap.size + 1 + 1; omega)).trans d1
          · exact (k2.cell (p := ⟨wr.heap.size, 0, none⟩) (cell_lt d2) (by show wr.heap.size ≠ wr.heap.size + 1 + 1; omega)).trans d2
          · rw [eA.out]; exact (k2.cell (p := ⟨wr.heap.size + 1, 0, none⟩) (cell_lt d3) (by show wr.heap.size + 1 ≠ wr.heap.size + 1 + 1; omega)).trans d3
          · rw [frozen_drew_own, World.frozen?_setCell]; exact g3
          · rw [eB.out]; exact World.cell?_setCell_same' _ _ _ (by rw [d4]; rfl)
          · rw [frozen_drew_own, World.frozen?_setCell]; exact g4
      case done =>
        rintro D ys W hD hys hE hK
        rw [hys] at hE
        obtain ⟨c0, c1, c2, c3, f3, c4, f4, hrow, hbel, hmk⟩ := hE
        have hmx : Tryz.prog.follows .mixedOrders = true := by kernel_rfl
        rw [prodV_eq hp0] at c3 c4
        have ea := el_mod hp1 (prodE (rest xs i) x)
        have eb := el_mod hp1 (prodE (rest xs i) o)
        have EW : Hid (mulF p (prodE (rest xs i) x % p) (iv0 p (prodE (rest xs i) o % p)) = wt p xs x i) := by show _ = _; rw [← HOV.out]; rfl
        have hil : i < l.length := by rw [HLEN.out]; exact hlt
        have hcl := hrow.cell hil
        have hfr := hrow.frozen i
        have HRS := Lib.hid (hrow.set hil (wt p xs x i))
        have HDN : Hid (∀ j, j < i + 1 → (l.set i (wt p xs x i)).getD j 0 = wt p xs x j) := fun j hj => by
          rw [getD_set _ _ _ _ hil]
          by_cases e : j = i
          · subst e; rw [if_pos rfl]
          · rw [if_neg e]; exact HDONE.out j (by omega)
        have HLS : Hid ((l.set i (wt p xs x i)).length = n) := by show _ = n; rw [List.length_set]; exact HLEN.out
        have HBEL := Lib.hid hbel
        have hmk2 := hmk.cons (D := D) (by omega) hK (fun D' h => by have := HML.out D' h; omega)
        have HMK := Lib.hid hmk2
        clear hrow hbel hmk hmk2 hys hK hil HDONE HLEN
        generalize hpa : prodE (rest xs i) x % p = va at *
        generalize hpb : prodE (rest xs i) o % p = vb at *
        clear hpa hpb
        gi_wp2
        refine wpIn_wide.2 (wp_region_still_tail 9 hmx (by kernel_rfl) ?_)
        simp only [List.take_succ_cons, List.take_zero, List.drop_succ_cons, List.drop_zero, drew_def]
        repeat still_step
        still_call (still_of (inverseOf_any _ hp0 hp2 eb))
        still_call (still_of (mul_el _ hp1 hp2 ea (iv0_el hp1 vb)))
        repeat still_step
        refine wpStill_nil ?_
        rw [EW.out]
        go_wp2
        have HRD := Lib.hid (Row.drew HRS.out)
        have HBD := Lib.hid (HBEL.out.setCell (p := ⟨w1.heap.size, i, none⟩) (Nat.le_refl _) (.int .i64 (wt p xs x i))).drew
        have HMD : Hid (Marks w1.heap.size (markOf D :: ds) ((W.setCell ⟨w1.heap.size, i, none⟩ (.int .i64 (wt p xs x i))).drew)) := HMK.out.keep fun D' h => ((KeepsOthers.setCell _ _ _).trans (KeepsOthers.drew _)).same D' _ h rfl
        gi_wp2
        refine ⟨⟨_, _, _, _, _, _, _, _, _, _, _, _, _, _, _, _, _, _, _, _, _, _, _, _, _, _, _, _, _, _, _, _, _, _, _, _, _, _, _, ⟨i + 1, by omega, by go_num, l.set i (wt p xs x i), HRD.out, HLS.out, HDN.out, HBD.out, HMD.out⟩, rfl⟩, ?_⟩
        simp [intOf]; omega
      case stop =>
        rintro D c pre W _ _ h _
        exact h.elim
    · obtain rfl : i = n := by omega
      obtain ⟨l, hrow, hlen, hdone, hbel, Ds, rfl, hnd, hDs⟩ := HW.out
      have hI : Ints wr (.slice (some ⟨w1.heap.size, 0, none⟩) i i) (wts p xs x) := by
        have hl : l = wts p xs x := ext_getD (by rw [hlen, wts_len, hnx.out]) fun j => by
          by_cases hj : j < i
          · rw [hdone j hj, wts_getD (by rw [← hnx.out]; exact hj)]
          · rw [getD_ge (by omega), getD_ge (by rw [wts_len, ← hnx.out]; omega)]
        have h := hrow.reads (cap := i) (by omega)
        rw [hlen, hl] at h
        exact h
      have HI := Lib.hid hI
      have HB := Lib.hid (HBW.out.trans (hbel.mono (by omega)))
      have HSZ := Lib.hid hbel.size
      have HND2 := Lib.hid hnd
      have HDS := Lib.hid hDs
      clear hI hrow hlen hdone hbel HW hnd hDs
      gi_wp2
      refine leaves_marks Ds _ HSZ.out HND2.out HDS.out fun W' hb hc => ⟨_, results_tmp2 rfl _ _ _, _, rfl, HI.out.of_cells hc, (fun g hg => by simp [Value.ownBlock] at hg; omega), HB.out.trans (hb.mono (by omega))⟩
theorem weights_ok {p x : Int} {s : Value} {xs : List Int} (w : World) (hp : PrmI p) (hp2 : p ≤ 1073741824) (hx : El p x) (hxs : Els p xs) (hsx : Ints w s xs) (hok : plc xs = 0) (hn : xs.length ≤ 1000) :
    Calls Tryz.prog 81 #[.int .i64 p, s, .int .i64 x] w fun e w' => ∃ v, e = .returned (.tuple #[v, .int .i64 0]) ∧ Ints w' v (wts p xs x) ∧ (∀ g, v.ownBlock = some g → w.heap.size ≤ g) ∧ Below w.heap.size w w' := by
  obtain ⟨a, c, rfl, _, _⟩ := id hsx
  exact callsIn_wide.1 (weights_in p x a xs.length c xs w hp hp2 hx hxs hsx (Lib.hid rfl) (Lib.hid hok) hn)
theorem weights_err {p x : Int} {s : Value} {xs : List Int} (w : World) (hp2 : p ≤ 1073741824) (hxs : Els p xs) (hsx : Ints w s xs) (hok : plc xs ≠ 0) :
    Calls Tryz.prog 81 #[.int .i64 p, s, .int .i64 x] w fun e w' => e = .returned (.tuple #[.slice none 0 0, .int .i64 (plc xs)]) ∧ Below w.heap.size w w' := by
  have hb0 : Below w.heap.size w ((w.alloc (.cells #[.int .i64 p] 3)).alloc (.cells #[.int .i64 x] 3)) := ((Below.refl _ _).alloc (Nat.le_refl _) _).alloc (by simp) _
  have hcp := Lib.hid (checkPlaces_any _ xs ((w.alloc (.cells #[.int .i64 p] 3)).alloc (.cells #[.int .i64 x] 3)) (hsx.below (Nat.le_refl _) hb0) (els_wf hp2 hxs))
  have HB := Lib.hid hb0
  have hbn : (plc xs != 0) = true := by simpa using hok
  have hbn' : (plc xs == 0) = false := by simpa using hok
  obtain ⟨a, c, rfl, _, _⟩ := hsx
  clear hok hb0
  generalize plc xs = e0 at *
  refine (callsIn_wide (n := 6)).1 (callsIn_of_wp_marks Tryz.func81 rfl trivial ?_ rfl)
  simp only [Tryz.ntmps81, List.size_toArray, List.length_cons, List.length_nil, Nat.reduceAdd, Nat.reduceSub, Array.replicate_succ, Array.replicate_zero, List.push_toArray, List.append_toArray, List.nil_append, List.cons_append]
  gi_wp2_with (refine ⟨trivial, ?_⟩; gi_at_call 99; refine (callsIn_wide.2 hcp.out).mono ?_; rintro e w1 ⟨rfl, hb1⟩)
  exact ⟨_, results_tmp2 rfl _ _ _, rfl, HB.out.trans (hb1.mono (by simp; omega))⟩
end Go.Proofs.YtpgbjnenllfmlaaGreatDoor
/-! The points that layer 2's statements draw; contract of poly.Interpolate; the sanity check. -/
namespace Go.Proofs.YtpgbjnenllfmlaaGreatDoor
open Go.RowKit Go.Sort
open Num
set_option linter.unusedVariables false

/-! ### Interpolate -/
def wsum (p : Int) (xs ys : List Int) (x : Int) (n : Nat) : Int := sumTo (fun i => wt p xs x i * ys.getD i 0) n
theorem interp_step {p a b c d s : Int} (h : Cg p a s) (hb : b = addF p a (mulF p c d)) : Cg p b (s + c * d) := by
  subst hb; exact (Cg.addF p _ _).trans (h.add (Cg.mulF p _ _))

/-! ### The sanity check -/
theorem thru_7 : Thru 7 [1, 2] [2, 3] [1, 1] := by
  refine ⟨fun x hx => ?_, rfl, by simp, fun j hj => ?_⟩
  · simp at hx; subst hx; exact ⟨by omega, by omega⟩
  · have : j = 0 ∨ j = 1 := by simp at hj; omega
    rcases this with rfl | rfl
    · exact Cg.of_eq (by simp [E])
    · exact Cg.of_eq (by simp [E])
end Go.Proofs.YtpgbjnenllfmlaaGreatDoor
/-! The points that layer 2's statements draw. -/
namespace Go.Proofs.YtpgbjnenllfmlaaGreatDoor
open Go.RowKit
open Num
set_option linter.unusedVariables false

theorem Gath.mono {w : World} {B B' : Nat} {v : Value} {zs : List Int} (h : Gath w B v zs) (hB : B' ≤ B) : Gath w B' v zs := by
  obtain ⟨h0, hn | ⟨g, cap, cur, rfl, hb, hr⟩⟩ := h
  · exact ⟨h0, .inl hn⟩
  · exact ⟨h0, .inr ⟨g, cap, cur, rfl, Nat.le_trans hB hb, hr⟩⟩
/-- What the drawn places are between two rounds. -/
structure PtI (p : Int) (b : Nat) (s : Value) (l : List Int) (w wr : World) (v : Value) (xs : List Int) : Prop where
  own : Gath wr w.heap.size v xs
  dice : DiceAt wr b s l
  but : But b w wr
  els : Els p xs
  nodup : xs.Nodup
theorem ptI_start {p : Int} {b : Nat} {s : Value} {l : List Int} {w : World} (h : DiceAt w b s l) : PtI p b s l w w (.slice none 0 0) [] :=
  ⟨gath_nil _ _, h, But.refl _ _, (fun x hx => by cases hx), List.nodup_nil⟩
theorem contains_take_succ {xs : List Int} {x y : Int} {k : Nat} (hk : k < xs.length) (h : xs.getD k 0 = y) : (xs.take (k + 1)).contains x = ((xs.take k).contains x || x == y) := by
  subst h
  rw [take_succ_getD hk, Bool.eq_iff_iff, Bool.or_eq_true, List.contains_iff_mem, List.contains_iff_mem, List.mem_append, List.mem_singleton, beq_iff_eq]
theorem nodup_snoc {xs : List Int} {x : Int} (h : xs.Nodup) (hx : xs.contains x = false) : (xs ++ [x]).Nodup := by
  rw [List.nodup_append]
  refine ⟨h, by simp, fun a ha b hb e => ?_⟩
  rw [List.mem_singleton] at hb
  subst hb; subst e
  rw [List.contains_iff_mem.2 ha] at hx; cases hx
theorem els_snoc {p : Int} {xs : List Int} {x : Int} (h : Els p xs) (hx : El p x) : Els p (xs ++ [x]) := fun z hz => by
  rcases List.mem_append.1 hz with h1 | h1
  · exact h z h1
  · rw [List.mem_singleton.1 h1]; exact hx
theorem ptI_step {p x : Int} {b : Nat} {s : Value} {l : List Int} {w wr w1 w2 : World} {v v' : Value} {xs : List Int} {o : Obj} (hown : Gath w1 w.heap.size v xs) (hd1 : DiceAt w1 b s l) (hbut : But b w w1) (hb : b < w.heap.size) (he : Els p xs) (hn : xs.Nodup) (hx : El p x) (hc : xs.contains x = false)
    (hown2 : Gath w2 w.heap.size v' (xs ++ [x])) (hgr : (w1.alloc o).grownBy w2 v.ownBlock) : PtI p b s l w w2 v' (xs ++ [x]) :=
  ⟨hown2, (hd1.below ((Below.refl _ _).alloc (Nat.le_refl _) o) hd1.size).grown (hown.alloc o) hgr hb, But.append (hbut.trans (But.alloc b w1 o)) (Nat.le_refl _) (hown.alloc o) hgr, els_snoc he hx, nodup_snoc hn hc⟩

end Go.Proofs.YtpgbjnenllfmlaaGreatDoor
/-! append of a whole slice to one of the call's own; contracts of slices.Clone and of the document's short. -/
namespace Go.Proofs.YtpgbjnenllfmlaaGreatDoor
open Go.RowKit
open Num
set_option linter.unusedVariables false

theorem append_no_source (w : World) (base : Nat) (ty : TypeId) (v : Value) (zs : List Int) (h : Gath w base v zs) (c : Nat) : (Builtin.append_ #[22, 22] ty #[v, .slice none 0 c]).run Tryz.prog w = .ok v w := by
  obtain ⟨i0, hi, _, _, _⟩ := info_parts infoInt
  obtain ⟨_, hn | ⟨g, cap, cur, rfl, _, _, h1, _⟩⟩ := h
  · obtain ⟨rfl, _⟩ := hn
    simp [Builtin.append_, run_underlying Tryz.underlying22, sizeOf, typeInfo, hi, Builtin.lenOf, Builtin.firstCells]
  · simp [Builtin.append_, run_underlying Tryz.underlying22, sizeOf, typeInfo, hi, Builtin.lenOf, Builtin.firstCells, h1, storeCells]

section
variable {ops : Array Oper} {rest : List Oper} {o : Oper} {a : Act} {Q : Exit → Act → World → Prop}
/-- 'append(v, l...)', v a slice of the call's own, l whatever reads as a list. -/
theorem append_list (w : World) (hgd : o.guard = none) (s x : Operand) (ho : o.op = .call { callee := .builtin .append, args := #[s, x], argTypes := #[22, 22] })
    (base : Nat) (v : Value) (zs l : List Int) (hs : a.eval s = v) (hown : Gath w base v zs) (sv : Value) (hx : a.eval x = sv) (hI : Ints w sv l)
    (hlen : zs.length + l.length < 17592186044416) (hbase : base ≤ w.heap.size)
    (h : ∀ v' w', Gath w' base v' (zs ++ l) → w.grownBy w' v.ownBlock → wpList Tryz.prog ops Q rest (a.put o.dst v') w') : wpList Tryz.prog ops Q (o :: rest) a w := by
  obtain ⟨aa, c, rfl, _, hc⟩ := hI
  cases aa with
  | none =>
    have hl : l = [] := by
      by_cases e : l = []
      · exact e
      · obtain ⟨b, off, h1, _⟩ := hc e; cases h1
    subst hl
    refine wpList_plain hgd fun K hK => ?_
    have hrun := append_no_source w base o.type v zs hown c
    unfold Oper.wp
    simp [execOp, ho, resolve, invoke, builtin, hs, hx, hrun, Result.andThen]
    exact hK _ _ (h v w (by simpa using hown) (World.grownBy.refl w _))
  | some ad =>
    obtain ⟨i0, hi, hz0, hz1, hz2⟩ := info_parts infoInt
    refine wpList_append_own w hgd s x 22 ho base 3 i0 (.int .i64 0) 1 8 Tryz.underlying22 hi hz0 hz1 hz2 rfl (by decide) v zs.length (zs.map (Value.int .i64)) hs hown ad l.length c (l.map (Value.int .i64)) hx (by simp) ?_ ?_ ?_ ?_ hbase ?_
    · intro j u hj
      have hjl : j < l.length := by
        by_cases e : j < l.length
        · exact e
        · rw [List.getElem?_eq_none (by simp; omega)] at hj; cases hj
      obtain ⟨b, off, e, hcell⟩ := hc (fun e => by subst e; simp at hjl)
      cases e
      have e2 : (⟨b, off, none⟩ : Addr).add j = ⟨b, off + j, none⟩ := by unfold Addr.add; split <;> simp_all
      rw [e2, hcell j hjl]
      simp [hjl, List.getD] at hj ⊢
      exact hj
    · intro u hu; obtain ⟨y, _, rfl⟩ := List.mem_map.1 hu; rfl
    · unfold maxLen; omega
    · omega
    · intro v' w' h1 h2 _
      refine h v' w' ?_ h2
      unfold Gath
      rw [List.length_append, List.map_append]
      exact h1
end

theorem clone_any (s : Value) (l : List Int) (w : World) (hI : Ints w s l) (hl : l.length ≤ 1000000) :
    Calls Tryz.prog 47 #[s] w fun e w' => ∃ v, e = .returned v ∧ Gath w' w.heap.size v l ∧ Below w.heap.size w w' := by
  obtain ⟨aa, c, rfl, _, hc⟩ := id hI
  have hnil := fun (w : World) => Lib.run_eql_slice_nil (P := Tryz.prog) w 22 3 aa l.length c 0 0 Tryz.underlying22
  cases aa with
  | none =>
    have hl0 : l = [] := by
      by_cases e : l = []
      · exact e
      · obtain ⟨b, off, h1, _⟩ := hc e; cases h1
    subst hl0
    have hnil2 := fun (w : World) => Lib.run_eql_slice_nil (P := Tryz.prog) w 22 3 none 0 c 0 0 Tryz.underlying22
    clear hc hI hnil
    go_enter Tryz.func47, Tryz.ntmps47
    go_wp2
    go_ret
    exact ⟨_, rfl, gath_nil _ _, Below.refl _ _⟩
  | some ad =>
    have h0 : Gath (w.alloc (.cells #[] 3)) w.heap.size (.slice (some ⟨w.heap.size, 0, none⟩) 0 0) [] := World.ownsRow_made w #[] 0 (Nat.le_refl _) (by unfold maxLen; omega) (by simp)
    have hb : Below w.heap.size w (w.alloc (.cells #[] 3)) := (Below.refl _ _).alloc (Nat.le_refl _) _
    have HI := Lib.hid (hI.below (Nat.le_refl _) hb)
    have H0 := Lib.hid h0
    have HB := Lib.hid hb
    clear hc hI h0 hb
    go_enter Tryz.func47, Tryz.ntmps47
    go_wp2_with (at_builtin; refine append_list _ rfl _ _ rfl w.heap.size _ [] l rfl H0.out _ rfl HI.out ?c1 ?c2 ?_)
    case c1 => simp; omega
    case c2 => simp
    intro v' w' hg hgr
    have HG := Lib.hid hg
    have HB2 := Lib.hid (HB.out.grown hgr (by simp) (fun g hg => by simp [Value.ownBlock] at hg; omega))
    clear hg hgr
    go_wp2
    go_ret
    exact ⟨_, rfl, HG.out, HB2.out⟩

/-- A store into a slice of the call's own. -/
theorem Gath.cell {w : World} {base g cap : Nat} {zs : List Int} {n : Nat} (h : Gath w base (.slice (some ⟨g, 0, none⟩) n cap) zs) {i : Nat} (hi : i < zs.length) : w.cell? ⟨g, i, none⟩ = some (.int .i64 (zs.getD i 0)) := by
  have hn : n = zs.length := by
    obtain ⟨h0, hn | ⟨g', cap', cur, e, _⟩⟩ := h
    · cases hn.1
    · injection e
  subst hn
  have := World.ownsRow.cellAt h i (by omega)
  rw [this]; simp [List.getD, hi]
theorem Gath.frozen {w : World} {base g cap : Nat} {zs : List Int} {n : Nat} (h : Gath w base (.slice (some ⟨g, 0, none⟩) n cap) zs) (i : Nat) : w.frozen? ⟨g, i, none⟩ = false := by
  have hn : n = zs.length := by
    obtain ⟨h0, hn | ⟨g', cap', cur, e, _⟩⟩ := h
    · cases hn.1
    · injection e
  subst hn
  exact World.ownsRow.frozenAt h i
theorem Gath.set {w : World} {base g cap : Nat} {zs : List Int} {n : Nat} (h : Gath w base (.slice (some ⟨g, 0, none⟩) n cap) zs) (i : Nat) (v : Int) : Gath (w.setCell ⟨g, i, none⟩ (.int .i64 v)) base (.slice (some ⟨g, 0, none⟩) n cap) (zs.set i v) := by
  have hn : n = zs.length := by
    obtain ⟨h0, hn | ⟨g', cap', cur, e, _⟩⟩ := h
    · cases hn.1
    · injection e
  subst hn
  have := (World.ownsRow.stored h i (.int .i64 v)).1
  unfold Gath
  rw [List.length_set, List.map_set]
  exact this
/-- A slice of the call's own that has elements lies at the head of a block. -/
theorem Gath.head {w : World} {base : Nat} {v : Value} {zs : List Int} (h : Gath w base v zs) (h0 : 0 < zs.length) : ∃ g cap, v = .slice (some ⟨g, 0, none⟩) zs.length cap ∧ base ≤ g ∧ g < w.heap.size := by
  obtain ⟨_, hn | ⟨g, cap, cur, rfl, hb, hg, _⟩⟩ := h
  · omega
  · exact ⟨g, cap, rfl, hb, (Array.getElem?_eq_some_iff.1 hg).1⟩
end Go.Proofs.YtpgbjnenllfmlaaGreatDoor
