
/- The values of the polynomials through points, by weights and combinations: the program's valuesAt. -/
import Derived.Test.YtpgbjnenllfmlaaGreatDoorHPa
import Derived.Test.YtpgbjnenllfmlaaGreatDoorHFit
import Derived.Test.YtpgbjnenllfmlaaGreatDoorHSh
import Derived.Test.YtpgbjnenllfmlaaGreatDoorHPj
/-! The values of the polynomials through points, by weights and combinations: the program's valuesAt. -/
namespace Go.Proofs.YtpgbjnenllfmlaaGreatDoor
open Go.RowKit Go.Sort
open Num
set_option linter.unusedVariables false

theorem linF_len (p : Int) (a b : List Int) (c : Int) : (linF p a b c).length = max a.length b.length := by simp [linF]
theorem linF_els {p : Int} (hp : 1 ≤ p) (a b : List Int) (c : Int) : Els p (linF p a b c) := fun x hx => by
  obtain ⟨i, _, rfl⟩ := List.mem_map.1 hx
  exact el_add hp _ _
theorem linF_at2 {p c : Int} {a b : List Int} {i : Nat} (h : i < max a.length b.length) : (linF p a b c).getD i 0 = (a.getD i 0 + c * b.getD i 0) % p := by
  have e : (linF p a b c).getD i 0 = linAt p a b c i := by simp [linF, List.getD, h]
  rw [e]
  unfold linAt addF mulF
  rw [Int.add_emod_emod]
/-- What has been summed up behind k rounds. -/
def vatL (p : Int) (xs : List Int) (L : List Shr) (x : Int) : Nat → List Int
  | 0 => []
  | k + 1 => linF p (vatL p xs L x k) (L.getD k (0, [])).2 (wt p xs x k)
theorem vatL_succ (p : Int) (xs : List Int) (L : List Shr) (x : Int) (k : Nat) : linF p (vatL p xs L x k) (L.getD k (0, [])).2 (wt p xs x k) = vatL p xs L x (k + 1) := rfl
theorem vatL_els {p : Int} (hp : 1 ≤ p) (xs : List Int) (L : List Shr) (x : Int) : ∀ k, Els p (vatL p xs L x k)
  | 0 => fun y hy => by cases hy
  | k + 1 => linF_els hp _ _ _
theorem vatL_le (p : Int) (xs : List Int) (L : List Shr) (x : Int) {m : Nat} (h : ∀ j, (L.getD j (0, [])).2.length ≤ m) : ∀ k, (vatL p xs L x k).length ≤ m
  | 0 => Nat.zero_le _
  | k + 1 => by
    have h1 := vatL_le p xs L x h k
    have h2 := h k
    rw [← vatL_succ, linF_len]; omega
theorem vatL_len (p : Int) (xs : List Int) (L : List Shr) (x : Int) {m : Nat} (h0 : (L.getD 0 (0, [])).2.length = m) (h : ∀ j, (L.getD j (0, [])).2.length ≤ m) : ∀ k, (vatL p xs L x (k + 1)).length = m
  | 0 => by rw [← vatL_succ, linF_len, h0]; simp [vatL]
  | k + 1 => by
    have h1 := vatL_len p xs L x h0 h k
    have h2 := h (k + 1)
    rw [← vatL_succ, linF_len, h1]; omega
theorem vatL_at (p : Int) (xs : List Int) (L : List Shr) (x : Int) {m : Nat} (h0 : (L.getD 0 (0, [])).2.length = m) (h : ∀ j, (L.getD j (0, [])).2.length ≤ m) {i : Nat} (hi : i < m) :
    ∀ k, (vatL p xs L x k).getD i 0 = sumTo (fun j => wt p xs x j * (L.getD j (0, [])).2.getD i 0) k % p
  | 0 => by simp [vatL, sumTo]
  | k + 1 => by
    have hl := vatL_len p xs L x h0 h k
    rw [← vatL_succ, linF_len] at hl
    rw [← vatL_succ, linF_at2 (by rw [hl]; exact hi), vatL_at p xs L x h0 h hi k, Int.emod_add_emod]
    rfl
theorem map_getD (L : List Shr) (i j : Nat) : (L.map fun s : Shr => s.2.getD i 0).getD j 0 = (L.getD j (0, [])).2.getD i 0 := by
  by_cases hj : j < L.length
  · simp [List.getD, hj]
  · simp [List.getD, show L.length ≤ j by omega]
/-- The values at x of the polynomials through all points. -/
def vatV (p : Int) (L : List Shr) (m : Nat) (x : Int) : List Int := (List.range m).map fun i => ipv p (L.map fun s : Shr => s.1) (L.map fun s : Shr => s.2.getD i 0) x
theorem vatL_all {p : Int} {L : List Shr} {x : Int} {m : Nat} (hl : 0 < L.length) (h0 : (L.getD 0 (0, [])).2.length = m) (h : ∀ j, (L.getD j (0, [])).2.length ≤ m) : vatL p (L.map fun s : Shr => s.1) L x L.length = vatV p L m x := by
  obtain ⟨n, hn⟩ : ∃ n, L.length = n + 1 := ⟨L.length - 1, by omega⟩
  have hlen : (vatL p (L.map fun s : Shr => s.1) L x L.length).length = m := by rw [hn]; exact vatL_len p _ L x h0 h n
  refine List.ext_getElem (by rw [hlen]; simp [vatV]) fun i h1 h2 => ?_
  rw [← getD_at h1, ← getD_at h2]
  rw [hlen] at h1
  rw [vatL_at p _ L x h0 h h1]
  have e : (vatV p L m x).getD i 0 = ipv p (L.map fun s : Shr => s.1) (L.map fun s : Shr => s.2.getD i 0) x := by simp [vatV, List.getD, h1]
  rw [e]
  unfold ipv
  rw [List.length_map]
  simp only [map_getD]
def plRow (L : List Shr) (k j : Nat) : Value := .int .i64 (if j < k then (L.getD j (0, [])).1 else 0)
theorem plRow_step {L : List Shr} {k : Nat} {h : Int} (e : (L.getD k (0, [])).1 = h) (j : Nat) : (if j = k then Value.int .i64 h else plRow L k j) = plRow L (k + 1) j := by
  subst e
  unfold plRow
  by_cases e : j = k
  · subst e; simp
  · rw [if_neg e]
    by_cases h1 : j < k
    · rw [if_pos h1, if_pos (by omega)]
    · rw [if_neg h1, if_neg (by omega)]
theorem hold_list (L : List Shr) : ((List.range L.length).map fun j => (L.getD j (0, [])).1) = L.map fun s : Shr => s.1 := by
  refine List.ext_getElem (by simp) fun i h1 h2 => ?_
  simp only [List.length_map, List.length_range] at h1
  simp [List.getD, h1]

set_option maxRecDepth 100000 in
set_option maxHeartbeats 8000000 in
theorem valuesAt_any (p x : Int) (v : Value) (L : List Shr) (m : Nat) (w : World) (hp : PrmI p) (hp2 : p ≤ 1073741824) (hx : El p x) (hs : Shares w v L) (h0 : 0 < L.length) (hxs : Els p (L.map fun s : Shr => s.1)) (hnd : (L.map fun s : Shr => s.1).Nodup)
    (hel : ∀ s ∈ L, Els p s.2) (hm : (L.getD 0 (0, [])).2.length = m) (hle : ∀ s ∈ L, s.2.length ≤ m) (hmb : m ≤ 1000000) :
    Calls Tryz.prog 55 #[.int .i64 p, v, .int .i64 x] w fun e w' => ∃ v', e = .returned v' ∧ Gath w' w.heap.size v' (vatV p L m x) ∧ Below w.heap.size w w' := by
  obtain ⟨a1, d1, rfl, hl, hld1, hd1, _⟩ := id hs
  have hle' : ∀ j, (L.getD j (0, [])).2.length ≤ m := fun j => by
    by_cases hj : j < L.length
    · rw [List.getD_eq_getElem?_getD, List.getElem?_eq_getElem hj]; exact hle _ (List.getElem_mem hj)
    · simp [List.getD, show L.length ≤ j by omega]
  have hp1 : 1 ≤ p := by have := hp.1; omega
  have HEL : Hid (∀ j, Els p (L.getD j (0, [])).2) := fun j => by
    by_cases hj : j < L.length
    · rw [List.getD_eq_getElem?_getD, List.getElem?_eq_getElem hj]; exact hel _ (List.getElem_mem hj)
    · simp [List.getD, show L.length ≤ j by omega]; intro x hx; cases hx
  have HVA : Hid (vatL p (L.map fun s : Shr => s.1) L x L.length = vatV p L m x) := vatL_all h0 hm hle'
  have HHO := Lib.hid (hold_list L)
  have HVL := Lib.hid (vatL_le p (L.map fun s : Shr => s.1) L x hle')
  have HVE := Lib.hid (vatL_els hp1 (L.map fun s : Shr => s.1) L x)
  have HPL := Lib.hid (plc_nodup (xs := L.map fun s : Shr => s.1) (by rw [List.length_map]; exact h0) hnd)
  have HLE := Lib.hid hle'
  have HXS := Lib.hid hxs
  have HXL : Hid ((L.map fun s : Shr => s.1).length = L.length) := by show _ = _; rw [List.length_map]
  obtain ⟨xs, hxx⟩ : ∃ xs, (L.map fun s : Shr => s.1) = xs := ⟨_, rfl⟩
  rw [hxx] at HVA HHO HVL HVE HPL HXS HXL
  obtain ⟨N, hN⟩ : ∃ N, L.length = N := ⟨_, rfl⟩
  rw [hN] at hs hl hld1 HVA HHO HXL h0 ⊢
  obtain ⟨g, hgw⟩ : ∃ g, w.heap.size = g := ⟨_, rfl⟩
  have hmk := run_make_row' (P := Tryz.prog) 22 3 (.int .i64 0) 8 Tryz.underlying22 infoInt rfl .i64 .i64 N (by omega) (by omega)
  have HS := Lib.hid hs
  have HGG := Lib.hid hgw
  have HNN := Lib.hid hN
  have HPP := Lib.hid hp
  rw [hgw]
  have HR0 : Hid ((w.alloc (.cells (madeCells #[.int .i64 0] N) 3)).rowIs g 3 N (plRow L 0)) := by rw [← hgw]; exact (World.rowIs_made w (.int .i64 0) N 3).congr (fun j _ => by simp [plRow])
  have HB0 : Hid (Below g w (w.alloc (.cells (madeCells #[.int .i64 0] N) 3))) := by rw [← hgw]; exact (Below.refl _ _).alloc (Nat.le_refl _) _
  clear hs hN hp hnd hel hm hle hle' hxs hxx
  go_enter Tryz.func55, Tryz.ntmps55
  go_wp2_with fail
  clear hmk
  go_loopw [8, 9, 20] (fun _ _ i wr => ∃ j : Nat, j ≤ N ∧ i = .int .i64 j ∧ Hid (wr.rowIs g 3 N (plRow L j)) ∧ Hid (Below g w wr)) (fun _ _ i _ => N - (intOf i).toNat)
  case atStart => exact ⟨0, Nat.zero_le _, rfl, HR0, HB0⟩
  case round =>
    obtain ⟨j, hj, rfl, HR, HB⟩ := hrel
    by_cases hlt : j < N
    · obtain ⟨b1, o1, v1, rfl, c0, c1, hi1⟩ := (HS.out.below (Nat.le_of_eq HGG.out) HB.out).at hlt
      obtain ⟨⟨h, l⟩, hsh⟩ : ∃ z, L.getD j (0, []) = z := ⟨_, rfl⟩
      rw [hsh] at c0 hi1
      simp only at c0 hi1
      obtain ⟨va1, vc1, rfl⟩ := hi1.shape
      have hblt := cell_lt c0
      have HR1 := Lib.hid (HR.out.alloc (.cells #[.int .i64 h, .slice va1 l.length vc1] 42))
      have hcl := HR1.out.cell hlt
      have hfr := HR1.out.frozen j
      have hgl := HR.out.lt
      have HRS : Hid (((wr.alloc (.cells #[.int .i64 h, .slice va1 l.length vc1] 42)).setCell ⟨g, j, none⟩ (.int .i64 h)).rowIs g 3 N (plRow L (j + 1))) := (HR1.out.set j _).congr fun i hi => plRow_step (by rw [hsh]) i
      have HBS : Hid (Below g w ((wr.alloc (.cells #[.int .i64 h, .slice va1 l.length vc1] 42)).setCell ⟨g, j, none⟩ (.int .i64 h))) := (HB.out.alloc (by omega) _).setCell (Nat.le_refl _) _
      have s0 := (shAt_new wr h (.slice va1 l.length vc1) 42).c0
      have hne : (⟨wr.heap.size, 0, none⟩ : Addr) ≠ ⟨g, j, none⟩ := fun e => by simp only [Addr.mk.injEq] at e; omega
      clear hi1 hblt hgl hsh
      go_wp2
      go_roundw
      case rel => exact ⟨j + 1, by omega, by go_num, HRS, HBS⟩
      case measure => simp [intOf]; omega
    · obtain rfl : j = N := by omega
      have HIN : Hid (Ints wr (.slice (some ⟨g, 0, none⟩) j j) xs) := by
        have h := row_gath (base := g) (f := fun i => (L.getD i (0, [])).1) (HR.out.congr fun i hi => by unfold plRow; rw [if_pos hi]) (Nat.le_refl _) (by unfold maxLen; omega)
        rw [HHO.out] at h
        exact h.reads (by rw [HXL.out]; omega)
      have HWT := Lib.hid (weights_ok wr HPP.out hp2 hx HXS.out HIN.out HPL.out (by rw [HXL.out]; omega))
      have hgl := HR.out.lt
      have HGL := Lib.hid hgl
      clear hgl HR HR0 HB0 HPL
      go_wp2_with fail
      refine HWT.out.mono ?_
      rintro e w2 ⟨vw, rfl, hiw, _, hb2⟩
      obtain ⟨aw, cw, rfl⟩ := hiw.shape
      have hwl : (wts p xs x).length = j := by rw [wts_len, HXL.out]
      rw [hwl] at hiw ⊢
      have HIW := Lib.hid hiw
      have HB2 : Hid (Below g w w2) := HB.out.trans (hb2.mono (by have := HGL.out; omega))
      have HZ2 : Hid (g ≤ w2.heap.size) := by show _ ≤ _; have := HGL.out; have := hb2.size; omega
      clear hiw hb2 hwl HWT HIN
      go_wp2_with fail
      have HG0 : Hid (Gath w2 g (.slice none 0 0) (vatL p xs L x 0)) := gath_nil _ _
      have HW0 : Hid (Below w2.heap.size w2 w2) := Below.refl _ _
      go_loopw [12, 13, 14, 40] (fun v _ _ i wq => ∃ k : Nat, k ≤ j ∧ i = .int .i64 k ∧ Hid (Gath wq g v (vatL p xs L x k)) ∧ Hid (Below w2.heap.size w2 wq)) (fun _ _ _ i _ => j - (intOf i).toNat)
      case atStart => exact ⟨0, Nat.zero_le _, rfl, HG0, HW0⟩
      case round =>
        obtain ⟨k, hk, rfl, HG, HW⟩ := hrel
        by_cases hlt2 : k < j
        · have HBQ : Hid (Below g w wr) := HB2.out.trans (HW.out.mono HZ2.out)
          obtain ⟨b1, o1, v1, rfl, c0, c1, hi1⟩ := (HS.out.below (Nat.le_of_eq HGG.out) HBQ.out).at hlt2
          obtain ⟨va1, vc1, rfl⟩ := hi1.shape
          obtain ⟨y0, offy, rfl, hcy⟩ := ints_at (HIW.out.below (Nat.le_refl _) HW.out) (by rw [wts_len, HXL.out]) hlt2
          rw [wts_getD (by rw [HXL.out]; exact hlt2)] at hcy
          have ew := wt_el hp1 xs x k
          have HLN := Lib.hid (linear_any p (wt p xs x k) u12 (.slice va1 (L.getD k (0, [])).2.length vc1) (vatL p xs L x k) (L.getD k (0, [])).2 wr hp1 hp2 ew (HVE.out k) (HEL.out k) (HG.out.reads (by have := HVL.out k; omega)) hi1 (by have := HVL.out k; omega) (by have := HLE.out k; omega))
          rw [vatL_succ] at HLN
          generalize wt p xs x k = c at *
          generalize (L.getD k (0, [])).2.length = lk at *
          have HZR : Hid (w2.heap.size ≤ wr.heap.size) := HW.out.size
          clear ew hi1 HG c0
          go_wp2_with fail
          refine HLN.out.mono ?_
          rintro e w3 ⟨v3, rfl, hg3, hb3⟩
          have HG3 : Hid (Gath w3 g v3 (vatL p xs L x (k + 1))) := hg3.mono (by have := HZR.out; have := HZ2.out; omega)
          have HW3 : Hid (Below w2.heap.size w2 w3) := HW.out.trans (hb3.mono HZR.out)
          clear hg3 hb3 HLN
          go_wp2
          go_roundw
          case rel => exact ⟨k + 1, by omega, by go_num, HG3, HW3⟩
          case measure => simp [intOf]; omega
        · obtain rfl : k = j := by omega
          have HGF : Hid (Gath wr g u12 (vatV p L m x)) := by rw [← HVA.out]; exact HG.out
          have HBF : Hid (Below g w wr) := HB2.out.trans (HW.out.mono HZ2.out)
          go_wp2
          go_ret
          exact ⟨_, rfl, HGF.out, HBF.out⟩
end Go.Proofs.YtpgbjnenllfmlaaGreatDoor
/-! Good lists of shares: the program's good. -/
namespace Go.Proofs.YtpgbjnenllfmlaaGreatDoor
open Go.RowKit Go.Sort
open Num
set_option linter.unusedVariables false

/-- Whether a holder was among the first j shares. -/
def seenB (L : List Shr) (j i : Nat) : Bool := (L.take j).any fun s => s.1 == (i : Int)
theorem seenB_zero (L : List Shr) (i : Nat) : seenB L 0 i = false := by simp [seenB]
theorem seenB_succ {L : List Shr} {j : Nat} {h : Int} (hj : j < L.length) (e : (L.getD j (0, [])).1 = h) (i : Nat) : seenB L (j + 1) i = (seenB L j i || h == (i : Int)) := by
  have e1 : L.getD j (0, []) = L[j] := by simp [List.getD, hj]
  unfold seenB
  rw [List.take_succ_eq_append_getElem hj, List.any_append, ← e, e1]
  simp
theorem seenB_true {L : List Shr} {j i : Nat} (hj : j ≤ L.length) (h : seenB L j i = true) : ∃ m, m < j ∧ (L.getD m (0, [])).1 = (i : Int) := by
  unfold seenB at h
  obtain ⟨s, hs, e⟩ := List.any_eq_true.1 h
  obtain ⟨m, hm, rfl⟩ := List.mem_iff_getElem.1 hs
  rw [List.length_take] at hm
  refine ⟨m, by omega, ?_⟩
  rw [List.getElem_take] at e
  simpa [List.getD, show m < L.length by omega] using e
theorem seenB_false {L : List Shr} {j i : Nat} (hj : j ≤ L.length) (h : seenB L j i = false) : ∀ m, m < j → (L.getD m (0, [])).1 ≠ (i : Int) := fun m hm e => by
  have h2 : seenB L j i = true := by
    unfold seenB
    refine List.any_eq_true.2 ⟨L[m], ?_, ?_⟩
    · rw [List.mem_iff_getElem]
      exact ⟨m, by rw [List.length_take]; omega, by rw [List.getElem_take]⟩
    · simpa [List.getD, show m < L.length by omega] using e
  rw [h] at h2; cases h2
def seenRow (L : List Shr) (j i : Nat) : Value := .bool (seenB L j i)
def zeros17 : Array Value := #[.bool false, .bool false, .bool false, .bool false, .bool false, .bool false, .bool false, .bool false, .bool false, .bool false, .bool false, .bool false, .bool false, .bool false, .bool false, .bool false, .bool false]
theorem rowIs_zeros17 (w : World) (c : Array Value) (t : TypeId) (L : List Shr) (h : c = zeros17) : (w.alloc (.cells c t)).rowIs w.heap.size t 17 (seenRow L 0) := by
  have e : zeros17 = Array.replicate 17 (.bool false) := rfl
  subst h
  rw [e]
  have h := World.rowIs_alloc w (Array.replicate 17 (.bool false)) t (seenRow L 0) (fun i hi => by
    rw [Array.size_replicate] at hi
    simp [hi, seenRow, seenB_zero])
  rw [Array.size_replicate] at h
  exact h
theorem stB_hold {p n h : Int} {l : List Int} (h1 : stB p n (h, l) = true) (hn : n ≤ 16) : ∃ H : Nat, h = (H : Int) ∧ H ≤ 16 := by
  unfold stB at h1
  simp only [Bool.and_eq_true, decide_eq_true_eq] at h1
  obtain ⟨H, rfl⟩ := Int.eq_ofNat_of_zero_le (show 0 ≤ h by omega)
  exact ⟨H, rfl, by omega⟩

set_option maxRecDepth 100000 in
set_option maxHeartbeats 8000000 in
theorem share_good (p k n : Int) (s : Value) (L : List Shr) (w : World) (hpl : PrmI p ∧ p ≤ 1073741824 ∧ n ≤ 16) (hs : Shares w s L) :
    Calls Tryz.prog 54 #[planV p k n, s] w fun e w' => e = .returned (.bool (goodB p n L)) ∧ Below w.heap.size w w' := by
  unfold planV
  obtain ⟨hprm, hp2, hn16⟩ := hpl
  obtain ⟨a1, d1, rfl, hl, hld1, hd1, _⟩ := id hs
  obtain ⟨N, hN⟩ : ∃ N, L.length = N := ⟨_, rfl⟩
  rw [hN] at hs hl hld1 ⊢
  obtain ⟨g, hg⟩ : ∃ g, w.heap.size = g := ⟨_, rfl⟩
  obtain ⟨w1, hw1⟩ : ∃ w1, (w.alloc (Obj.cells #[Value.int IntKind.i64 p, Value.int IntKind.i64 k, Value.int IntKind.i64 n] 31)).alloc (Obj.cells zeros17 59) = w1 := ⟨_, rfl⟩
  have hal : ∀ (W : World) (o : Obj), Below W.heap.size W (W.alloc o) := fun W o => (Below.refl _ _).alloc (Nat.le_refl _) o
  have hb1 : Below g w w1 := by rw [← hw1, ← hg]; exact (hal _ _).trans ((hal _ _).mono (by simp))
  have hp1 : PlanAt w1 g p k n := by rw [← hw1, ← hg]; exact (planAt_new _ _ _ _ _).below (by simp) (hal _ _)
  have hs1 : w1.heap.size = g + 1 + 1 := by rw [← hw1, ← hg]; simp
  have hr1 : w1.rowIs (g + 1) 59 17 (seenRow L 0) := by
    have h := rowIs_zeros17 (w.alloc (Obj.cells #[Value.int IntKind.i64 p, Value.int IntKind.i64 k, Value.int IntKind.i64 n] 31)) _ 59 L rfl
    rw [← hw1, ← hg]
    simpa using h
  have HGG := Lib.hid hg
  have HNN := Lib.hid hN
  have HPQ := Lib.hid (And.intro hprm hp2)
  have HN16 := Lib.hid hn16
  have HS := Lib.hid (hs.below (Nat.le_of_eq hg) hb1)
  have HPL := Lib.hid hp1
  have HB1 := Lib.hid hb1
  have HR1 := Lib.hid hr1
  have HW0 : Hid (Below g w w1) := hb1
  have HZ1 := Lib.hid hs1
  have HSW := Lib.hid hs
  have HA0 : Hid (∀ i, i < 0 → GoodAt p n L i) := fun i hi => by omega
  have HP0 := Lib.hid hp1
  rw [hg]
  clear hs hN hb1 hp1 hs1 hprm hp2 hn16 hr1 hal
  go_enter Tryz.func54, Tryz.ntmps54
  unfold zeros17 at hw1
  go_wp2_with fail
  clear hw1
  go_loopw [7, 10] (fun _ i wr => ∃ j : Nat, j ≤ N ∧ i = .int .i64 j ∧ Hid (∀ i, i < j → GoodAt p n L i) ∧ Hid (wr.rowIs (g + 1) 59 17 (seenRow L j)) ∧ Hid (PlanAt wr g p k n) ∧ Hid (Below g w wr)) (fun _ i _ => N - (intOf i).toNat)
  case atStart => exact ⟨0, Nat.zero_le _, rfl, HA0, HR1, HP0, HW0⟩
  case round =>
    obtain ⟨j, hj, rfl, HA, HR, HPP, HW⟩ := hrel
    by_cases hlt : j < N
    · obtain ⟨wo, hwo⟩ : ∃ wo, wo = wr := ⟨_, rfl⟩
      subst hwo
      have HSR := Lib.hid (HSW.out.below (Nat.le_of_eq HGG.out) HW.out)
      obtain ⟨b1, o1, v1, rfl, c0, c1, hi1⟩ := HSR.out.at hlt
      obtain ⟨b2, o2, v2, he, z0, z1, hi2⟩ := HSR.out.at (Nat.lt_of_le_of_lt (Nat.zero_le _) hlt)
      simp only [Option.some.injEq, Addr.mk.injEq, and_true] at he
      obtain ⟨rfl, rfl⟩ := he
      rw [Nat.zero_mul, Nat.add_zero] at z0 z1
      obtain ⟨⟨h, l⟩, hsh⟩ : ∃ z, L.getD j (0, []) = z := ⟨_, rfl⟩
      obtain ⟨⟨h0, l0⟩, hsh0⟩ : ∃ z, L.getD 0 (0, []) = z := ⟨_, rfl⟩
      have HSJ := Lib.hid hsh
      have HS0 := Lib.hid hsh0
      rw [hsh] at c0 hi1
      rw [hsh0] at z0 hi2
      simp only at c0 hi1 z0 hi2
      obtain ⟨va1, vc1, rfl⟩ := hi1.shape
      obtain ⟨va2, vc2, rfl⟩ := hi2.shape
      obtain ⟨ll, hll⟩ : ∃ ll, l.length = ll := ⟨_, rfl⟩
      obtain ⟨l2, hl2⟩ : ∃ l2, l0.length = l2 := ⟨_, rfl⟩
      have hlll : ll ≤ 140737488355328 := by rw [← hll]; obtain ⟨_, _, _, h, _⟩ := hi1; exact h
      have hll2 : l2 ≤ 140737488355328 := by rw [← hl2]; obtain ⟨_, _, _, h, _⟩ := hi2; exact h
      have HLL := Lib.hid hll
      have HL2 := Lib.hid hl2
      rw [hll] at c1 hi1
      rw [hl2] at z1 hi2
      obtain ⟨gs, hgs⟩ : ∃ gs, wo.heap.size = gs := ⟨_, rfl⟩
      have hrlt := HR.out.lt
      have hgg : g + 1 + 1 ≤ gs := by rw [← hgs]; omega
      have hba : Below gs wo (wo.alloc (.cells #[.int .i64 h, .slice va1 ll vc1] 42)) := by rw [← hgs]; exact (Below.refl _ _).alloc (Nat.le_refl _) _
      have HI1 := Lib.hid (hi1.below (Nat.le_of_eq hgs) hba)
      have hblt := cell_lt z1
      rw [hgs] at hblt
      have z1' : (wo.alloc (.cells #[.int .i64 h, .slice va1 ll vc1] 42)).cell? ⟨b1, o1 + 1, none⟩ = some (.slice va2 l2 vc2) := by rw [hba.cell (p := ⟨b1, o1 + 1, none⟩) hblt]; exact z1
      have hpr := HPP.out.below (show g < gs by omega) hba
      have hsa := shAt_new wo h (.slice va1 ll vc1) 42
      rw [hgs] at hsa
      have HRA := Lib.hid (HR.out.alloc (.cells #[.int .i64 h, .slice va1 ll vc1] 42))
      have HBA := Lib.hid (HW.out.trans (hba.mono (show g ≤ gs by omega)))
      have HGS := Lib.hid hgs
      have hza : (wo.alloc (.cells #[.int .i64 h, .slice va1 ll vc1] 42)).heap.size = gs + 1 := by rw [← hgs]; simp
      have HZA := Lib.hid hza
      have HPR := Lib.hid hpr
      have HSA := Lib.hid hsa
      have HZ1' := Lib.hid z1'
      clear hi1 hi2 hba hsh hsh0 hsa hpr z0 z1 z1' hll hl2 hza hblt hrlt
      go_wp2_with fail
      clear hgs c0 c1
      generalize wo.alloc (.cells #[.int .i64 h, .slice va1 ll vc1] 42) = w5 at *
      have s0 := cell_regrown HSA.out.c0
      have s1 := cell_regrown HSA.out.c1
      have p0 := cell_regrown HPR.out.c0
      have p1 := cell_regrown HPR.out.c1
      have p2 := cell_regrown HPR.out.c2
      have z1 := cell_regrown HZ1'.out
      obtain ⟨st, hst⟩ : ∃ st, stB p n (h, l) = st := ⟨_, rfl⟩
      have cST : ∀ d os, Calls Tryz.prog 80 #[.agg #[.int .i64 p, .int .i64 k, .int .i64 n], .agg #[.int .i64 h, .slice va1 ll vc1]] (grow (redrawn w5 d) os) fun e w'' => e = .returned (.bool st) ∧ ∃ p : Regrown, w'' = grow (redrawn w5 p.d) p.os := fun d os => by
        have h := share_stands p k n h (.slice va1 ll vc1) l (grow (redrawn w5 d) os) HPQ.out.1 HPQ.out.2 (HI1.out.below (Nat.le_refl _) (below_regrown w5 d os))
        rw [hst] at h
        unfold planV shareV at h
        exact Calls.regrown_of h
      have HSTB := Lib.hid hst
      clear hst
      cases st with
      | false =>
        have HNG : Hid (¬ GoodAt p n L j) := fun e => by
          have h := e.1
          rw [HSJ.out, HSTB.out] at h
          cases h
        refine wp_region_quiet_below (by kernel_rfl) (by kernel_rfl) ?_
        repeat (go_big_quiet_step (with_reducible exact cST _ _))
        refine wpQuiet_nil ?_
        intro _ hw'
        obtain ⟨⟨dq, osq⟩, hw''⟩ := hw'
        subst hw''
        have hbq := below_regrown w5 dq osq
        rw [HZA.out] at hbq
        have HBQ := Lib.hid hbq
        clear hbq cST s0 s1 p0 p1 p2 z1
        generalize grow (redrawn w5 dq) osq = W at *
        go_wp2
        go_ret
        exact ⟨by rw [goodB_false (i := j) (by rw [HNN.out]; exact hlt) (HNG.out)]; rfl, HBA.out.trans (HBQ.out.mono (by omega))⟩
      | true =>
        obtain ⟨H, rfl, hH⟩ := stB_hold HSTB.out HN16.out
        have hH17 : H < 17 := by omega
        obtain ⟨bs, hbs⟩ : ∃ b, seenB L j H = b := ⟨_, rfl⟩
        have hce := HRA.out.cell hH17
        unfold seenRow at hce
        rw [hbs] at hce
        have e1 := cell_regrown hce
        have HBS := Lib.hid hbs
        clear hbs hce hH
        cases bs with
        | true =>
          have HNG : Hid (¬ GoodAt p n L j) := fun e => by
            obtain ⟨m, hm, em⟩ := seenB_true (by rw [HNN.out]; exact hj) HBS.out
            have h := e.2.2.2 m hm
            rw [HSJ.out] at h
            exact h em
          refine wp_region_quiet_below (by kernel_rfl) (by kernel_rfl) ?_
          repeat (go_big_quiet_step (with_reducible exact cST _ _))
          refine wpQuiet_nil ?_
          intro _ hw'
          obtain ⟨⟨dq, osq⟩, hw''⟩ := hw'
          subst hw''
          have hbq := below_regrown w5 dq osq
          rw [HZA.out] at hbq
          have HBQ := Lib.hid hbq
          clear hbq cST s0 s1 p0 p1 p2 z1 e1
          generalize grow (redrawn w5 dq) osq = W at *
          go_wp2
          go_ret
          exact ⟨by rw [goodB_false (i := j) (by rw [HNN.out]; exact hlt) (HNG.out)]; rfl, HBA.out.trans (HBQ.out.mono (by omega))⟩
        | false =>
          by_cases hle : ll = l2
          · subst hle
            have n1 : ((ll : Int) != (ll : Int)) = false := by simp
            by_cases hbig : 2048 < ll
            · have HNG : Hid (¬ GoodAt p n L j) := fun e => by
                have h := e.2.2.1
                rw [HSJ.out] at h
                have h2 := HLL.out
                simp only at h
                omega
              have q1 : decide ((2048 : Int) < (ll : Int)) = true := decide_eq_true (by omega)
              refine wp_region_quiet_below (by kernel_rfl) (by kernel_rfl) ?_
              repeat (go_big_quiet_step (with_reducible exact cST _ _))
              refine wpQuiet_nil ?_
              intro _ hw'
              obtain ⟨⟨dq, osq⟩, hw''⟩ := hw'
              subst hw''
              have hbq := below_regrown w5 dq osq
              rw [HZA.out] at hbq
              have HBQ := Lib.hid hbq
              clear hbq cST s0 s1 p0 p1 p2 z1 e1
              generalize grow (redrawn w5 dq) osq = W at *
              go_wp2
              go_ret
              exact ⟨by rw [goodB_false (i := j) (by rw [HNN.out]; exact hlt) (HNG.out)]; rfl, HBA.out.trans (HBQ.out.mono (by omega))⟩
            · have q1 : decide ((2048 : Int) < (ll : Int)) = false := decide_eq_false (by omega)
              refine wp_region_quiet_below (by kernel_rfl) (by kernel_rfl) ?_
              repeat (go_big_quiet_step (with_reducible exact cST _ _))
              refine wpQuiet_nil ?_
              intro _ hw'
              obtain ⟨⟨dq, osq⟩, hw''⟩ := hw'
              subst hw''
              have hbq := below_regrown w5 dq osq
              rw [HZA.out] at hbq
              have HBQ := Lib.hid hbq
              clear hbq cST s0 s1 p0 p1 p2 z1 e1
              generalize grow (redrawn w5 dq) osq = W at *
              have HAW := (HSA.out.below HBQ.out (Nat.lt_succ_self gs)).c0
              have HRW := HRA.out.of_block (HBQ.out.block (g + 1) (by omega))
              have hce := HRW.cell hH17
              have hfr := HRW.frozen H
              have HRS : Hid ((W.setCell ⟨g + 1, H, none⟩ (.bool true)).rowIs (g + 1) 59 17 (seenRow L (j + 1))) := (HRW.set H _).congr fun i hi => by
                unfold seenRow
                rw [seenB_succ (by rw [HNN.out]; exact hlt) (by rw [HSJ.out])]
                by_cases e : i = H
                · subst e; simp
                · rw [if_neg e]
                  have : (((H : Nat) : Int) == (i : Int)) = false := by simp only [beq_eq_false_iff_ne]; omega
                  rw [this, Bool.or_false]
              have HPW : Hid (PlanAt (W.setCell ⟨g + 1, H, none⟩ (.bool true)) g p k n) := (HPR.out.below (show g < gs + 1 by omega) HBQ.out).below (Nat.lt_succ_self g) (set1_below _ _ _ (Nat.le_refl _))
              have HBW : Hid (Below g w (W.setCell ⟨g + 1, H, none⟩ (.bool true))) := (HBA.out.trans (HBQ.out.mono (by omega))).trans (set1_below _ _ _ (by omega))
              have HAN : Hid (∀ i, i < j + 1 → GoodAt p n L i) := fun i hi => by
                by_cases e : i = j
                · subst e
                  unfold GoodAt
                  rw [HSJ.out, HS0.out]
                  exact ⟨HSTB.out, by have h1 := HLL.out; have h2 := HL2.out; simp only; omega, by have h1 := HLL.out; simp only; omega, seenB_false (by rw [HNN.out]; exact hj) HBS.out⟩
                · exact HA.out i (by omega)
              clear HRW
              go_wp2
              go_roundw
              case rel => exact ⟨j + 1, by omega, by go_num, HAN, HRS, HPW, HBW⟩
              case measure => simp [intOf]; omega
          · have HNG : Hid (¬ GoodAt p n L j) := fun e => by
              have h := e.2.1
              rw [HSJ.out, HS0.out] at h
              have h2 := HLL.out
              have h3 := HL2.out
              simp only at h
              omega
            have n3 : ((ll : Int) != (l2 : Int)) = true := by simp only [bne_iff_ne]; omega
            refine wp_region_quiet_below (by kernel_rfl) (by kernel_rfl) ?_
            repeat (go_big_quiet_step (with_reducible exact cST _ _))
            refine wpQuiet_nil ?_
            intro _ hw'
            obtain ⟨⟨dq, osq⟩, hw''⟩ := hw'
            subst hw''
            have hbq := below_regrown w5 dq osq
            rw [HZA.out] at hbq
            have HBQ := Lib.hid hbq
            clear hbq cST s0 s1 p0 p1 p2 z1 e1
            generalize grow (redrawn w5 dq) osq = W at *
            go_wp2
            go_ret
            exact ⟨by rw [goodB_false (i := j) (by rw [HNN.out]; exact hlt) (HNG.out)]; rfl, HBA.out.trans (HBQ.out.mono (by omega))⟩
    · obtain rfl : j = N := by omega
      have HRR : Hid (goodB p n L = true) := goodB_true (fun i hi => HA.out i (by rw [← HNN.out]; exact hi))
      go_wp2
      go_ret
      exact ⟨by rw [HRR.out]; rfl, HW.out⟩
end Go.Proofs.YtpgbjnenllfmlaaGreatDoor
/-! The program's Add and Scale. -/
namespace Go.Proofs.YtpgbjnenllfmlaaGreatDoor
open Go.RowKit Go.Sort
open Num
set_option linter.unusedVariables false

end Go.Proofs.YtpgbjnenllfmlaaGreatDoor
/-! The program's Combine. -/
namespace Go.Proofs.YtpgbjnenllfmlaaGreatDoor
open Go.RowKit Go.Sort
open Num
set_option linter.unusedVariables false

theorem headD_getD (L : List Shr) : L.headD (0, []) = L.getD 0 (0, []) := by cases L <;> rfl
theorem cmbV_vat {p : Int} {K m : Nat} {L : List Shr} (hm : (L.getD 0 (0, [])).2.length = m) : cmbV p K L = vatV p (L.take K) m 0 := by
  unfold cmbV vatV
  rw [headD_getD, hm]
  rfl
set_option maxRecDepth 100000 in
set_option maxHeartbeats 8000000 in
theorem share_combine_ok (p k n : Int) (K : Nat) (s : Value) (L : List Shr) (w : World) (hw : Wheel w) (hp : (Lit.int .i64 p).wf = true) (hpl : planB p k n = true) (hg : goodB p n L = true) (hk : k = (K : Int)) (hlk : K ≤ L.length) (hs : Shares w s L) :
    Calls Tryz.prog 32 #[planV p k n, s] w fun e w' => ∃ v, e = .returned (.tuple #[v, .int .i64 0]) ∧ Gath w' w.heap.size v (cmbV p K L) ∧ Below w.heap.size w w' := by
  subst hk
  unfold planV
  obtain ⟨hprm, hp2, hk1, hkn, hn16, hnp⟩ := planB_parts hpl
  obtain ⟨N0, rfl⟩ := Int.eq_ofNat_of_zero_le (show 0 ≤ n by omega)
  obtain ⟨m, hm⟩ : ∃ m, (L.getD 0 (0, [])).2.length = m := ⟨_, rfl⟩
  have hgd := goodB_gd (N := N0) (m := m) rfl hg hm
  have hmb : m ≤ 2048 := by rw [← hm]; exact goodB_big hg (by omega)
  obtain ⟨a1, d1, rfl, hl, hld1, hd1, _⟩ := id hs
  have hK1 : 1 ≤ K := by omega
  have hK16 : K ≤ 16 := by omega
  have hCV : cmbV p K L = vatV p (L.take K) m 0 := by rw [cmbV_vat hm]
  have hkl : (L.take K).length = K := by rw [List.length_take]; omega
  have h0e : (L.take K).getD 0 (0, []) = L.getD 0 (0, []) := by simp [List.getD, show 0 < K by omega]
  have HVA := Lib.hid (fun W (hW : Below w.heap.size w W) => valuesAt_any p 0 (.slice a1 K d1) (L.take K) m W hprm hp2 ⟨by omega, by omega⟩ ((hs.below (Nat.le_refl _) hW).take K d1 hlk (by omega) hd1) (by rw [hkl]; exact hK1) ((hgd.take K).xs hnp) (hgd.take K).one (hgd.take K).els (by rw [h0e]; exact hm) (fun x hx => by rw [(hgd.take K).len x hx]; exact Nat.le_refl _) (by omega))
  rw [← hCV] at HVA
  obtain ⟨N, hN⟩ : ∃ N, L.length = N := ⟨_, rfl⟩
  rw [hN] at hs hl hld1 hlk ⊢
  obtain ⟨g, hgw⟩ : ∃ g, w.heap.size = g := ⟨_, rfl⟩
  obtain ⟨w1, hw1⟩ : ∃ w1, w.alloc (Obj.cells #[Value.int IntKind.i64 p, Value.int IntKind.i64 (K : Int), Value.int IntKind.i64 (N0 : Int)] 31) = w1 := ⟨_, rfl⟩
  have hb1 : Below g w w1 := by rw [← hw1, ← hgw]; exact (Below.refl _ _).alloc (Nat.le_refl _) _
  have hp1 : PlanAt w1 g p (K : Int) (N0 : Int) := by rw [← hw1, ← hgw]; exact planAt_new _ _ _ _ _
  have hs1 : w1.heap.size = g + 1 := by rw [← hw1, ← hgw]; simp
  have HV := Lib.hid (share_valid p (K : Int) (N0 : Int) w1 (hw.below (by rw [← hgw]; exact hw.size) hb1) hp)
  rw [hpl, hs1] at HV
  unfold planV at HV
  have HGO := Lib.hid (fun W (hW : Below (g + 1) w1 W) => share_good p (K : Int) (N0 : Int) (.slice a1 N d1) L W ⟨hprm, hp2, hn16⟩ (hs.below (Nat.le_of_eq hgw) (hb1.trans (hW.mono (Nat.le_succ g)))))
  rw [hg] at HGO
  unfold planV at HGO
  have HB1 := Lib.hid hb1
  have HP1 := Lib.hid hp1
  have HZ1 := Lib.hid hs1
  have d0' := hp1.c0
  have d1' := hp1.c1
  have d2' := hp1.c2
  have q5 : decide (N < K) = false := decide_eq_false (by omega)
  have q6 : decide ((N : Int) < (K : Int)) = false := decide_eq_false (by omega)
  have hKd : K ≤ d1 := by omega
  rw [hgw] at HVA ⊢
  clear hpl hg hs hb1 hp1 hN hm hprm hkn hn16 hnp hp hs1 hgd hCV hkl h0e hw
  go_enter Tryz.func32, Tryz.ntmps32
  go_wp2_with fail
  refine HV.out.mono ?_
  rintro e w2 ⟨rfl, hb2⟩
  have hp3 := HP1.out.below (Nat.lt_succ_self g) hb2
  have HB2 := Lib.hid hb2
  have c0 := hp3.c0
  have c1 := hp3.c1
  have c2 := hp3.c2
  have HP2 := Lib.hid hp3
  clear hw1 HV hb2 hp3 d0' d1' d2'
  go_wp2_with fail
  refine (HGO.out w2 HB2.out).mono ?_
  rintro e w3 ⟨rfl, hb3⟩
  have hz2 : g + 1 ≤ w2.heap.size := by have := HB2.out.size; have := HZ1.out; omega
  have hp3 := HP2.out.below (show g < w2.heap.size by omega) hb3
  have HB3 : Hid (Below g w w3) := HB1.out.trans ((HB2.out.trans (hb3.mono hz2)).mono (by omega))
  have c0 := hp3.c0
  have c1 := hp3.c1
  have c2 := hp3.c2
  have HP3 := Lib.hid hp3
  have HZ3 : Hid (g + 1 ≤ w3.heap.size) := Nat.le_trans hz2 hb3.size
  clear hp3 hb3 hz2 HB2 HP2 HGO
  go_wp2_with fail
  have HVC := Lib.hid (HVA.out w3.drew HB3.out.drew)
  have HKD : Hid (∀ W, Below w3.drew.heap.size w3.drew W → W.cell? ⟨g, 0, none⟩ = some (.int .i64 p) ∧ W.cell? ⟨g, 1, none⟩ = some (.int .i64 (K : Int))) := fun W hb => by
    have h := HP3.out.below (show g < w3.heap.size by have := HZ3.out; omega) (((Below.refl _ _).drew).trans hb)
    exact ⟨h.c0, h.c1⟩
  have HBD : Hid (Below g w w3.drew) := HB3.out.drew
  have HZD : Hid (g + 1 ≤ w3.drew.heap.size) := HZ3.out
  clear HVA
  go_region_held3 (fun W' => W'.cell? ⟨g, 0, none⟩ = some (.int .i64 p) ∧ W'.cell? ⟨g, 1, none⟩ = some (.int .i64 (K : Int))) (first | go_keep | exact HSK)
    (first | (go_at_call 55; refine HVC.out.mono ?_; rintro e W' ⟨v', rfl, hgv, hb⟩; have HSK := HKD.out W' hb; have HGV := Lib.hid (hgv.mono (show g ≤ _ by have := HZD.out; omega)); have HBF := Lib.hid (HBD.out.trans (hb.mono (by have := HZD.out; omega))); clear hgv hb))
  all_goals
    go_wp2
    go_ret2
    exact ⟨_, rfl, HGV.out, HBF.out⟩

set_option maxRecDepth 100000 in
set_option maxHeartbeats 8000000 in
theorem share_combine (p k n : Int) (s : Value) (L : List Shr) (w : World) (hw : Wheel w) (hp : (Lit.int .i64 p).wf = true) (hs : Shares w s L) :
    Calls Tryz.prog 32 #[planV p k n, s] w fun e w' => ∃ v, e = .returned (.tuple #[v, .int .i64 (combE p k n L)]) ∧ Gath w' w.heap.size v (combL p k n L) ∧ Below w.heap.size w w' := by
  by_cases hE : combE p k n L = 0
  · have h0 := hE
    unfold combE at h0
    have hpg : planB p k n = true ∧ goodB p n L = true := by
      by_cases h : planB p k n = true ∧ goodB p n L = true
      · exact h
      · rw [if_neg h] at h0; cases h0
    rw [if_pos hpg] at h0
    have hlk : ¬ (L.length : Int) < k := fun h => by rw [if_pos h] at h0; cases h0
    obtain ⟨_, _, hk1, _, _, _⟩ := planB_parts hpg.1
    obtain ⟨K, rfl⟩ := Int.eq_ofNat_of_zero_le (show 0 ≤ k by omega)
    have hL : combL p (K : Int) n L = cmbV p K L := by unfold combL; rw [if_pos hE, Int.toNat_natCast]
    rw [hL, hE]
    exact share_combine_ok p K n K s L w hw hp hpg.1 hpg.2 rfl (by omega) hs
  · have hL : combL p k n L = [] := by unfold combL; rw [if_neg hE]
    rw [hL]
    unfold planV
    obtain ⟨a1, d1, rfl, hl, hld1, hd1, _⟩ := id hs
    obtain ⟨N, hN⟩ : ∃ N, L.length = N := ⟨_, rfl⟩
    rw [hN] at hs hl hld1 ⊢
    obtain ⟨g, hgw⟩ : ∃ g, w.heap.size = g := ⟨_, rfl⟩
    obtain ⟨w1, hw1⟩ : ∃ w1, w.alloc (Obj.cells #[Value.int IntKind.i64 p, Value.int IntKind.i64 k, Value.int IntKind.i64 n] 31) = w1 := ⟨_, rfl⟩
    have hb1 : Below g w w1 := by rw [← hw1, ← hgw]; exact (Below.refl _ _).alloc (Nat.le_refl _) _
    have hp1 : PlanAt w1 g p k n := by rw [← hw1, ← hgw]; exact planAt_new _ _ _ _ _
    have hs1 : w1.heap.size = g + 1 := by rw [← hw1, ← hgw]; simp
    have HV := Lib.hid (share_valid p k n w1 (hw.below (by rw [← hgw]; exact hw.size) hb1) hp)
    have HGO := Lib.hid (fun W (hW : Below (g + 1) w1 W) (hq : PrmI p ∧ p ≤ 1073741824 ∧ n ≤ 16) => share_good p k n (.slice a1 N d1) L W hq (hs.below (Nat.le_of_eq hgw) (hb1.trans (hW.mono (Nat.le_succ g)))))
    rw [hs1] at HV
    unfold planV at HV HGO
    obtain ⟨bp, hbp⟩ : ∃ b, planB p k n = b := ⟨_, rfl⟩
    obtain ⟨bg, hbg⟩ : ∃ b, goodB p n L = b := ⟨_, rfl⟩
    rw [hbp] at HV
    rw [hbg] at HGO
    have HB1 := Lib.hid hb1
    have HP1 := Lib.hid hp1
    have HZ1 := Lib.hid hs1
    have d0' := hp1.c0
    have d1' := hp1.c1
    have d2' := hp1.c2
    rw [hgw]
    have HEE : Hid (combE p k n L = if bp = true ∧ bg = true then (if (N : Int) < k then 5 else 0) else 1) := by show _ = _; unfold combE; rw [hbp, hbg, hN]
    rw [HEE.out] at hE ⊢
    have HQQ : Hid (bp = true → PrmI p ∧ p ≤ 1073741824 ∧ n ≤ 16) := fun e => by
      subst e
      obtain ⟨q1, q2, _, _, q5, _⟩ := planB_parts hbp
      exact ⟨q1, q2, q5⟩
    clear hw hs hb1 hp1 hN hp hs1 hL hbp hbg HEE
    cases bp with
    | false =>
      rw [if_neg (by simp)]
      clear hE
      go_enter Tryz.func32, Tryz.ntmps32
      go_wp2_with fail
      refine HV.out.mono ?_
      rintro e w2 ⟨rfl, hb2⟩
      have HB2 := Lib.hid (HB1.out.trans (hb2.mono (by omega)))
      clear hb2 HV HGO
      go_wp2
      go_ret2
      exact ⟨_, rfl, gath_nil _ _, HB2.out⟩
    | true =>
      have HQ := Lib.hid (HQQ.out rfl)
      clear HQQ
      cases bg with
      | false =>
        rw [if_neg (by simp)]
        clear hE
        go_enter Tryz.func32, Tryz.ntmps32
        go_wp2_with fail
        refine HV.out.mono ?_
        rintro e w2 ⟨rfl, hb2⟩
        have hp3 := HP1.out.below (Nat.lt_succ_self g) hb2
        have HB2 := Lib.hid hb2
        have c0 := hp3.c0
        have c1 := hp3.c1
        have c2 := hp3.c2
        clear hb2 HV d0' d1' d2' hp3
        go_wp2_with fail
        refine (HGO.out w2 HB2.out HQ.out).mono ?_
        rintro e w3 ⟨rfl, hb3⟩
        have HB3 : Hid (Below g w w3) := HB1.out.trans ((HB2.out.trans (hb3.mono (by have := HB2.out.size; have := HZ1.out; omega))).mono (by omega))
        clear hb3 HGO
        go_wp2
        go_ret2
        exact ⟨_, rfl, gath_nil _ _, HB3.out⟩
      | true =>
        have hlt : (N : Int) < k := by
          by_cases h : (N : Int) < k
          · exact h
          · rw [if_pos ⟨rfl, rfl⟩, if_neg h] at hE; exact absurd rfl hE
        have q5 : decide ((N : Int) < k) = true := decide_eq_true hlt
        rw [if_pos ⟨rfl, rfl⟩, if_pos hlt]
        clear hE hlt
        go_enter Tryz.func32, Tryz.ntmps32
        go_wp2_with fail
        refine HV.out.mono ?_
        rintro e w2 ⟨rfl, hb2⟩
        have hp3 := HP1.out.below (Nat.lt_succ_self g) hb2
        have HB2 := Lib.hid hb2
        have c0 := hp3.c0
        have c1 := hp3.c1
        have c2 := hp3.c2
        have HP2 := Lib.hid hp3
        clear hb2 HV d0' d1' d2' hp3
        go_wp2_with fail
        refine (HGO.out w2 HB2.out HQ.out).mono ?_
        rintro e w3 ⟨rfl, hb3⟩
        have hp3 := HP2.out.below (show g < w2.heap.size by have := HB2.out.size; have := HZ1.out; omega) hb3
        have c1 := hp3.c1
        have HB3 : Hid (Below g w w3) := HB1.out.trans ((HB2.out.trans (hb3.mono (by have := HB2.out.size; have := HZ1.out; omega))).mono (by omega))
        clear hb3 HGO hp3
        go_wp2
        go_ret2
        exact ⟨_, rfl, gath_nil _ _, HB3.out⟩
end Go.Proofs.YtpgbjnenllfmlaaGreatDoor
/-! Which shares fit: the program's Fits. -/
namespace Go.Proofs.YtpgbjnenllfmlaaGreatDoor
open Go.RowKit Go.Sort
open Num
set_option linter.unusedVariables false

theorem vat_shV (p : Int) (K m : Nat) (L : List Shr) (h : Int) : vatV p (L.take K) m h = (List.range m).map fun i => shV p K L i h := rfl
theorem vat_fit {p : Int} {K m : Nat} {L : List Shr} {h : Int} {l : List Int} (hl : l.length = m) : vatV p (L.take K) m h = l ↔ ∀ i, i < m → shV p K L i h = l.getD i 0 := by
  rw [vat_shV]
  constructor
  · intro e i hi
    rw [← e]
    simp [List.getD, hi]
  · intro e
    refine List.ext_getElem (by simp [hl]) fun i h1 h2 => ?_
    have := e i (by rw [← hl]; exact h2)
    rw [getD_at h2] at this
    rw [← this]
    simp

end Go.Proofs.YtpgbjnenllfmlaaGreatDoor
/-! The program keeps the contracts that the statements ask of it. -/
namespace Go.Proofs.YtpgbjnenllfmlaaGreatDoor
open Go.RowKit Go.Sort
open Num
set_option linter.unusedVariables false

theorem sharesN_nil (w : World) (g : Nat) : SharesN w g (.slice none 0 0) [] := ⟨none, 0, rfl, by simp, by simp, by omega, fun h => absurd rfl h⟩
theorem combL_small (p k n : Int) (L : List Shr) : (combL p k n L).length ≤ 140737488355328 := by
  unfold combL
  by_cases h : combE p k n L = 0
  · rw [if_pos h]
    have h0 := h
    unfold combE at h0
    by_cases hpg : planB p k n = true ∧ goodB p n L = true
    · rw [if_pos hpg] at h0
      have hlk : ¬ (L.length : Int) < k := fun e => by rw [if_pos e] at h0; cases h0
      obtain ⟨_, _, hk1, _, _, _⟩ := planB_parts hpg.1
      have h1 := goodB_big hpg.2 (by omega)
      have e : (cmbV p k.toNat L).length = (L.headD (0, [])).2.length := by simp [cmbV]
      rw [e, headD_getD]
      omega
    · rw [if_neg hpg] at h0; cases h0
  · rw [if_neg h]; simp
end Go.Proofs.YtpgbjnenllfmlaaGreatDoor
