
/- Shares that come in, whose numbers are of 64 bits. -/
import Derived.Test.YtpgbjnenllfmlaaGreatDoorHFrm
import Derived.Test.YtpgbjnenllfmlaaGreatDoorQOdF
import Derived.Test.YtpgbjnenllfmlaaGreatDoorQRun
import Derived.Test.YtpgbjnenllfmlaaGreatDoorQMkd
import Derived.Test.YtpgbjnenllfmlaaGreatDoorHDlt
import Derived.Test.YtpgbjnenllfmlaaGreatDoorQAwk
import Derived.Deep.RegionHeld3
/-! Shares that come in, whose numbers are of 64 bits. -/
namespace Go.Proofs.YtpgbjnenllfmlaaGreatDoor
open Go.ChangeShapes Go.WideShapes Go.ChangeAt Go.RowKit Go.Joins
open Num
set_option linter.unusedVariables false

set_option maxRecDepth 100000 in
theorem shares_open64 {H : Type} {enc : TypeId × Value → H} {W : World} {base : Nat} {a : Option Addr} {len cap : Nat} {d : DataW H} {m : List MemPlace} {ts : List TypeId} {ds : List (DataW H)} (ht : Tryz.prog.underlying 23 = some (.slice 42))
    (hval : Value.okWide Tryz.prog W .any base 23 (.slice a len cap)) (h : DataW.Trod enc Tryz.prog W 0 (fun _ => true) true 23 (.slice a len cap) d m)
    (hsz : (DataW.weightsEach Tryz.prog ts ds).all (· ≤ reachBytes) = true) (j : Nat) (htj : ts[j]? = some 23) (hdj : ds[j]? = some d) : ∃ L, SharesU W (.slice a len cap) L ∧ ∀ x ∈ L, Fin64 x := by
  obtain ⟨hlc, hcm, _⟩ := okWide_room ht hval
  obtain ⟨fuel, hf⟩ := h
  rcases Go.Deep.open_slice_pairs ht Tryz.underlying42 cellsShare rfl rfl cellsInt cellsInts hf with ⟨hcs, _⟩ | ⟨x, n, c, m', fl, V0, V1, D0, D1, P0, P1, hcs, _, hl, hm, hmm, hx, hcell⟩
  · simp [Value.cells] at hcs
    obtain ⟨rfl, rfl, rfl⟩ := hcs
    exact ⟨[], ⟨none, 0, rfl, by simp, by simp, by omega, fun h => absurd rfl h⟩, fun x hx => by cases hx⟩
  · simp [Value.cells] at hcs
    obtain ⟨rfl, rfl, rfl⟩ := hcs
    simp only [if_true] at hmm
    simp only [Prod.mk.injEq] at hx
    obtain ⟨rfl, _⟩ := hx
    have hr := sized_slice hsz htj hdj ht
    rw [bytesShare] at hr
    have hb : len ≤ 140737488355328 := by
      simp only [List.length_map, List.length_range] at hr
      have := reachBytes_lt
      omega
    have each : ∀ i, i < len → ∃ y : Int × List Int, (V0 i = .int .i64 y.1 ∧ Ints W (V1 i) y.2) ∧ Fin64 y := fun i hi => by
      obtain ⟨_, _, t0, t1⟩ := hcell i (by omega)
      obtain ⟨h, e0, _, wh⟩ := DataW.trod_int Tryz.underlying3 t0
      simp at e0
      rcases open_ints Tryz.underlying22 Tryz.underlying3 cellsInt t1 with ⟨hcs, _⟩ | ⟨x', n', c', zs, hcs, _, hl', hm', hz', hx', hcell', hwz⟩
      · simp at hcs
        exact ⟨(h, []), ⟨e0, by rw [hcs]; exact ints_nil W⟩, wf_i64 wh, fun x hx => by cases hx⟩
      · simp at hcs
        simp only [if_true] at hz'
        simp only [Prod.mk.injEq] at hx'
        have hw := List.all_eq_true.1 hsz _ (DataW.weights_mem_each htj hdj ((lits (H := H) .i64 (zs.take n')).length * 8 + (lits (H := H) .i64 (zs.drop n')).length * 8) (by
          rw [DataW.weights, ht]
          refine List.mem_cons_of_mem _ (List.mem_append_left _ (weights_all (List.mem_map.2 ⟨i, List.mem_range.2 hi, rfl⟩) _ ?_))
          rw [DataW.weights, Tryz.underlying42, hx'.1]
          simp [DataW.weightsEach, DataW.weights, Tryz.underlying22, bytesInt, Nat.add_mul]))
        have hw2 : (lits (H := H) .i64 (zs.take n')).length * 8 + (lits (H := H) .i64 (zs.drop n')).length * 8 ≤ reachBytes := by simpa using hw
        simp only [lits, List.length_map, List.length_take, List.length_drop] at hw2
        have := reachBytes_lt
        exact ⟨(h, zs.take n'), ⟨e0, by rw [hcs]; exact ints_of_cells (by omega) (by omega) hcell'⟩, wf_i64 wh, fun x hx => wf_i64 (hwz x (List.mem_of_mem_take hx))⟩
    obtain ⟨y, hy⟩ := Go.Deep.choose_lt each
    have hlen : ((List.range len).map y).length = len := by simp
    refine ⟨(List.range len).map y, ⟨some x, cap, by rw [hlen], by omega, by omega, hcm, fun hne => ?_⟩, fun z hz => by
      obtain ⟨i, hi, rfl⟩ := List.mem_map.1 hz
      exact (hy i (List.mem_range.1 hi)).2⟩
    have h0 : 0 < len := by
      by_cases h : 0 < len
      · exact h
      · obtain rfl : len = 0 := by omega
        simp at hne
    obtain ⟨b, off, spot⟩ := x
    have hc0 := (hcell 0 (by omega)).1
    have hspot : spot = none := by simpa [Addr.add] using World.cell?_spot hc0
    subst hspot
    refine ⟨b, off, rfl, fun i hi => ?_⟩
    rw [hlen] at hi
    obtain ⟨k0, k1, _, _⟩ := hcell i (by omega)
    obtain ⟨⟨z0, z1⟩, _⟩ := hy i hi
    have ea : ∀ i, (⟨b, off, none⟩ : Addr).add i = ⟨b, off + i, none⟩ := fun i => by unfold Addr.add; split <;> simp_all
    have eg : ((List.range len).map y).getD i (0, []) = y i := by simp [List.getD, hi]
    rw [ea] at k0 k1
    rw [eg]
    exact ⟨V1 i, by rw [← z0]; exact k0, k1, z1⟩
end Go.Proofs.YtpgbjnenllfmlaaGreatDoor
/-! The walk through CorrectRobust. -/
namespace Go.Proofs.YtpgbjnenllfmlaaGreatDoor
open Go.RowKit Go.Sort
open Num
set_option linter.unusedVariables false

set_option maxRecDepth 100000 in
set_option maxHeartbeats 8000000 in
/-- kit.Lie of no shares. -/
theorem lie_nil (b : Nat) (s : Value) (l : List Int) (p : Int) (T : Nat) (sv : Value) (w : World) (hd : DiceAt w b s l) (hs : Shares w sv []) (hT : T ≤ 1000) :
    Calls Tryz.prog 11 #[.pointer (some ⟨b, 0, none⟩), .int .i64 p, sv, .int .i64 T] w fun e w' => ∃ v o, e = .returned (.tuple #[v, o]) ∧ SharesN w' w.heap.size v [] ∧ DiceAt w' b s l ∧ But b w w' := by
  have hsz := hd.size
  have HC := Lib.hid (copyS_any sv [] w hs (by simp) (by simp))
  have HDD := Lib.hid hd
  obtain ⟨g, hg⟩ : ∃ g, w.heap.size = g := ⟨_, rfl⟩
  obtain ⟨sa, sc, rfl, _⟩ := id hs
  rw [hg] at hsz HC ⊢
  have HGG := Lib.hid hg
  clear hs hd hg
  go_enter Tryz.func11, Tryz.ntmps11
  go_wp2_with fail
  refine HC.out.mono ?_
  rintro e w1 ⟨v, rfl, hT1, hB1⟩
  obtain ⟨va, vc, rfl, hvc, hvc2⟩ := hT1.shape
  have hsn : SharesN w1 g (.slice va 0 vc) [] := ⟨va, vc, rfl, by simp, by simp, hvc2, fun h => absurd rfl h⟩
  obtain ⟨gw, hgw⟩ : ∃ gw, w1.heap.size = gw := ⟨_, rfl⟩
  obtain ⟨w2, hw2⟩ : ∃ w2, w1.alloc (Obj.cells zeros17 59) = w2 := ⟨_, rfl⟩
  have hal : Below w1.heap.size w1 w2 := by rw [← hw2]; exact (Below.refl _ _).alloc (Nat.le_refl _) _
  have hr := lie_row w1 []
  rw [hw2, hgw] at hr
  have hb2 : Below g w w2 := hB1.trans (hal.mono (by have := hB1.size; have := HGG.out; omega))
  have HD2 := Lib.hid (HDD.out.below hb2 hsz)
  have HB2 := Lib.hid (But.of_below (b := b) hb2 (Nat.le_of_eq HGG.out))
  have HS2 := Lib.hid (hsn.below hal (Nat.le_refl _))
  obtain ⟨C, hC, hCs, hCi⟩ := hr
  have HCC := Lib.hid hC
  have HCI := Lib.hid hCi
  clear hT1 hB1 HC HDD hsn hal hb2 hC hCi
  unfold zeros17 at hw2
  go_wp2_with fail
  clear hw2 hgw
  go_loop [11, 12] (fun i _ => i = .int .i64 0) (fun _ _ => 0)
  case atStart => rfl
  case round =>
    obtain rfl := hrel
    have hcs : ¬ (0 : Int) < (T : Int) ∨ (0 : Int) < (T : Int) := by omega
    rcases hcs with hnt | hnt
    all_goals
      go_wp2_with (refine wpList_load_row rfl 59 (.tmp 10) rfl gw rfl 59 C (0, 0) _ HCC.out Tryz.underlying59 rfl (by rw [hCs]; exact info17) ?_)
      go_loop [13, 14, 15, 83] (fun o _ _ j => ∃ i : Nat, i ≤ 17 ∧ o = .slice none 0 0 ∧ j = .int .i64 i) (fun _ _ _ j => 17 - (intOf j).toNat)
      case atStart => exact ⟨0, Nat.zero_le _, rfl, rfl⟩
      case round =>
        obtain ⟨i, hi, rfl, rfl⟩ := hrel
        by_cases hi17 : i < 17
        · have hci := HCI.out i hi17
          have hwf : wfl [] 0 i = false := by simp [wfl]
          rw [hwf] at hci
          have hix := lie_index C i false hi17 hci
          clear hci hwf
          go_wp2_with fail
          exact ⟨⟨i + 1, by omega, rfl, by go_num⟩, by simp [intOf]; omega⟩
        · obtain rfl : i = 17 := by omega
          go_wp2_with fail
          go_ret2
          exact ⟨_, ⟨_, rfl⟩, HS2.out, HD2.out, HB2.out⟩
/-- kit.Lie of any shares. -/
theorem lie_few (b : Nat) (s : Value) (l : List Int) (p : Int) (T m : Nat) (sv : Value) (L : List Shr) (w : World) (hd : DiceAt w b s l) (hp : 2 ≤ p) (hp2 : p ≤ 1073741824) (hs : Shares w sv L) (hm1 : 1 ≤ m) (hm2 : m ≤ 1000) (hm : ∀ x ∈ L, x.2.length = m) (he : ∀ x ∈ L, Els p x.2) (hH : ∀ x ∈ L, 1 ≤ x.1 ∧ x.1 ≤ 16) (hT : T ≤ 1000) (hn2 : L.length ≤ 100) :
    Calls Tryz.prog 11 #[.pointer (some ⟨b, 0, none⟩), .int .i64 p, sv, .int .i64 T] w fun e w' => ∃ v o L', e = .returned (.tuple #[v, o]) ∧ SharesN w' w.heap.size v L' ∧ L'.length = L.length ∧ (∀ x ∈ L', (1 ≤ x.1 ∧ x.1 ≤ 16) ∧ x.2.length = m ∧ Els p x.2) ∧ DiceAt w' b s l ∧ But b w w' := by
  by_cases h0 : 0 < L.length
  · have hmin : min T L.length = T ∨ min T L.length = L.length := by omega
    refine (lie_anyM b s l p T (min T L.length) m sv L w hd hp hp2 hs hm1 hm2 hm he hH (by omega) (by omega) hmin (by omega) h0 hn2).mono ?_
    rintro e w' ⟨v, o, L', h1, h2, _, h3, h4, h5⟩
    refine ⟨v, o, L', h1, h2, h3.len, fun x hx => ?_, h4, h5⟩
    obtain ⟨j, hj, rfl⟩ := List.mem_iff_getElem.1 hx
    have hjl : j < L.length := by rw [← h3.len]; exact hj
    rw [← sget_eq hj]
    exact ⟨by rw [h3.hold j]; exact hH _ (sget hjl), h3.size j hjl, h3.els j hjl⟩
  · obtain rfl : L = [] := List.eq_nil_of_length_eq_zero (by omega)
    refine (lie_nil b s l p T sv w hd hs hT).mono ?_
    rintro e w' ⟨v, o, h1, h2, h4, h5⟩
    exact ⟨v, o, [], h1, h2, rfl, fun x hx => by simp at hx, h4, h5⟩
theorem el_fin {p x : Int} (hp : p ≤ 1073741824) (h : El p x) : in64 x := by
  have h1 := h.1
  have h2 := h.2
  constructor <;> omega
theorem mark_size (h : Int) (l : List Int) : (markB h l).size ≤ 140737488355328 := by
  have h1 : (markB h l).size = 32 := rfl
  omega
/-- What CorrectRobust keeps in memory. -/
structure RbW (w0 W : World) (g gp q : Nat) (p k n : Int) (mv ov : Value) (mk ow : List ByteArray) (LL : List (List Shr)) : Prop where
  pl : PlanAt W gp p k n
  wh : Wheel W
  tb : Tabs W
  ms : Strs W mv mk
  ow : Strs W ov ow
  ls : ∀ i, i < 4 → ∃ v, W.cell? ⟨q, i, none⟩ = some v ∧ Shares W v (LL.getD i [])
  be : Below g w0 W
  sz : g ≤ W.heap.size
theorem RbW.below {w0 W W' : World} {g gp q : Nat} {p k n : Int} {mv ov : Value} {mk ow : List ByteArray} {LL : List (List Shr)} (h : RbW w0 W g gp q p k n mv ov mk ow LL) (b : Below W.heap.size W W') : RbW w0 W' g gp q p k n mv ov mk ow LL :=
  ⟨h.pl.below h.pl.lt b, h.wh.below h.wh.size b, h.tb.below b h.tb.size, h.ms.below (Nat.le_refl _) b, h.ow.below (Nat.le_refl _) b, fun i hi => by
    obtain ⟨v, c, s⟩ := h.ls i hi
    exact ⟨v, by rw [b.cell (p := ⟨q, i, none⟩) (cell_lt c)]; exact c, s.below (Nat.le_refl _) b⟩, h.be.trans (b.mono h.sz), Nat.le_trans h.sz b.size⟩
theorem cells_four {W : World} {va vb vc vd : Value} {A B C D : List Shr} {t : TypeId} (ha : Shares W va A) (hb : Shares W vb B) (hc : Shares W vc C) (hd : Shares W vd D) {q : Nat} (hq : W.heap.size = q) :
    ∀ i, i < 4 → ∃ v, (W.alloc (.cells #[va, vb, vc, vd] t)).cell? ⟨q, i, none⟩ = some v ∧ Shares (W.alloc (.cells #[va, vb, vc, vd] t)) v ([A, B, C, D].getD i []) := by
  subst hq
  have hal : Below W.heap.size W (W.alloc (.cells #[va, vb, vc, vd] t)) := (Below.refl _ _).alloc (Nat.le_refl _) _
  intro i hi
  match i, hi with
  | 0, _ => exact ⟨va, by rw [cell_new]; rfl, ha.below (Nat.le_refl _) hal⟩
  | 1, _ => exact ⟨vb, by rw [cell_new]; rfl, hb.below (Nat.le_refl _) hal⟩
  | 2, _ => exact ⟨vc, by rw [cell_new]; rfl, hc.below (Nat.le_refl _) hal⟩
  | 3, _ => exact ⟨vd, by rw [cell_new]; rfl, hd.below (Nat.le_refl _) hal⟩
theorem strs_two {W : World} {x y : ByteArray} {t : TypeId} {q : Nat} (hq : W.heap.size = q) (hx : x.size ≤ 140737488355328) (hy : y.size ≤ 140737488355328) : Strs (W.alloc (.cells #[.string x, .string y] t)) (.slice (some ⟨q, 0, none⟩) 2 2) [x, y] := by
  subst hq
  refine ⟨_, 2, rfl, by simp, fun z hz => ?_, fun _ => ⟨W.heap.size, 0, rfl, fun i hi => ?_⟩⟩
  · have : z = x ∨ z = y := by simpa using hz
    rcases this with rfl | rfl
    · exact hx
    · exact hy
  · match i, hi with
    | 0, _ => rw [cell_new]; rfl
    | 1, _ => rw [cell_new]; rfl
theorem strs_but {w w' : World} {g q n c : Nat} {l : List ByteArray} (h : Strs w (.slice (some ⟨q, 0, none⟩) n c) l) (hb : But g w w') (hq : q ≠ g) : Strs w' (.slice (some ⟨q, 0, none⟩) n c) l := by
  obtain ⟨a, c', e, h1, h2, h3⟩ := h
  simp only [Value.slice.injEq] at e
  obtain ⟨rfl, rfl, rfl⟩ := e
  refine ⟨_, c, rfl, h1, h2, fun hl => ?_⟩
  obtain ⟨b, off, hb', hc⟩ := h3 hl
  simp only [Option.some.injEq, Addr.mk.injEq] at hb'
  obtain ⟨rfl, rfl, _⟩ := hb'
  refine ⟨q, 0, rfl, fun i hi => ?_⟩
  rw [hb.cell (p := ⟨q, 0 + i, none⟩) (cell_lt (hc i hi)) hq]
  exact hc i hi
theorem fair_of {Mx : Nat} {L : List Shr} (hM : Mx ≤ 100000) (h : ∀ x ∈ L, x.2.length ≤ Mx ∧ Fin64 x) : Fair L := fun x hx => ⟨(h x hx).2.1, Nat.le_trans (h x hx).1 hM, (h x hx).2.2⟩

set_option maxRecDepth 100000 in
set_option maxHeartbeats 32000000 in
theorem correctRobust_walk (s : Value) (l : List Int) (sr : Value) (R : List Shr) (mv : Value) (mk : List ByteArray) (w : World) (hw : Wheel w) (ht : Tabs w) (hs : Ints w s l) (hr : SharesU w sr R) (hR : ∀ x ∈ R, Fin64 x) (hm : Strs w mv mk) :
    Calls Tryz.prog 3 #[s, sr, mv] w fun e w' => e = .returned (.bool true) ∧ Below w.heap.size w w' := by
  have HL := Lib.hid (light_any s l w hs)
  have HSM := Lib.hid (small_any sr R w hr)
  have HAW := Lib.hid (awake7_any w hw)
  obtain ⟨g0, hg0⟩ : ∃ g, w.heap.size = g := ⟨_, rfl⟩
  obtain ⟨bl, hbl⟩ : ∃ b, decide ((l.length : Int) ≤ 500) = b := ⟨_, rfl⟩
  rw [hbl] at HL
  have HWW := Lib.hid hw
  have HTT := Lib.hid ht
  have HSS := Lib.hid hs
  have HRR := Lib.hid hr
  have HMM := Lib.hid hm
  have HRF := Lib.hid hR
  obtain ⟨sra, srn, src, rfl⟩ : ∃ a n c, sr = .slice a n c := by obtain ⟨a, c, h, _⟩ := hr; exact ⟨a, _, c, h⟩
  obtain ⟨ma, mc, rfl, _⟩ := id hm
  obtain ⟨mn, hmn⟩ : ∃ n, mk.length = n := ⟨_, rfl⟩
  rw [hmn] at HMM ⊢
  have HMN := Lib.hid hmn
  rw [hg0] at HSM HAW ⊢
  have HG0 := Lib.hid hg0
  clear hw ht hs hr hm hR hbl hg0 hmn
  cases bl with
  | false =>
    go_enter Tryz.func3, Tryz.ntmps3
    go_wp2_with fail
    refine HL.out.mono ?_
    rintro e w' ⟨rfl, rfl⟩
    go_wp2_with fail
    refine HAW.out.mono ?_
    rintro e w' ⟨rfl, hb⟩
    have HB := Lib.hid hb
    clear hb
    go_wp2
    go_ret
    exact ⟨rfl, HB.out⟩
  | true =>
    go_enter Tryz.func3, Tryz.ntmps3
    go_wp2_with fail
    refine HL.out.mono ?_
    rintro e w' ⟨rfl, rfl⟩
    go_wp2_with fail
    refine HSM.out.mono ?_
    rintro e w1 ⟨bs, rfl, hbs, hb1⟩
    have HB1 := Lib.hid hb1
    have HW1 := Lib.hid (HWW.out.below HWW.out.size (by rw [HG0.out]; exact hb1))
    clear hb1 HL HSM
    cases bs with
    | false =>
      clear hbs
      go_wp2_with fail
      refine (awake7_any w1 HW1.out).mono ?_
      rintro e w' ⟨rfl, hb⟩
      have HB := Lib.hid (HB1.out.trans (hb.mono (by rw [← HG0.out]; exact (HG0.out ▸ HB1.out).size)))
      clear hb
      go_wp2
      go_ret
      exact ⟨rfl, HB.out⟩
    | true =>
      obtain ⟨hr12, hr20⟩ := hbs rfl
      have HRL := Lib.hid (show R.length ≤ 12 ∧ ∀ x ∈ R, x.2.length ≤ 20 from ⟨hr12, hr20⟩)
      have HR1 := Lib.hid ((HRR.out.below (Nat.le_of_eq HG0.out) HB1.out).few (by omega))
      have HT1 := Lib.hid (HTT.out.below HB1.out (by rw [← HG0.out]; exact HTT.out.size))
      have HM1 := Lib.hid (HMM.out.below (Nat.le_of_eq HG0.out) HB1.out)
      have hs1 := HSS.out.below (Nat.le_of_eq HG0.out) HB1.out
      clear hbs hr12 hr20
      by_cases hmk : 20 < mn
      · have hmI : (20 : Int) < (mn : Int) := by omega
        clear hs1
        go_wp2_with fail
        refine (awake7_any w1 HW1.out).mono ?_
        rintro e w' ⟨rfl, hb⟩
        have HB := Lib.hid (HB1.out.trans (hb.mono (by rw [← HG0.out]; exact (HG0.out ▸ HB1.out).size)))
        clear hb
        go_wp2
        go_ret
        exact ⟨rfl, HB.out⟩
      have hmI : ¬ (20 : Int) < (mn : Int) := by omega
      have HMK : Hid (mn ≤ 20) := by show _ ≤ _; omega
      have hd0 := dice_new hs1
      have HRO := Lib.hid (roll_any s w1 (by obtain ⟨a, c, h, _⟩ := hs1; exact ⟨a, _, c, h⟩))
      obtain ⟨g, hg⟩ : ∃ g, w1.heap.size = g := ⟨_, rfl⟩
      have hta : 1 < g := by rw [← hg]; exact HW1.out.size
      have HTG : Hid (max 2 0 < g) := by show _ < _; rw [← hg]; exact HT1.out.size
      have HGG : Hid (g0 ≤ g) := by show _ ≤ _; rw [← hg, ← HG0.out]; exact (HG0.out ▸ HB1.out).size
      have HGE := Lib.hid hg
      rw [hg] at HRO hd0
      have HW0 := Lib.hid (HW1.out.below HW1.out.size ((Below.refl w1.heap.size w1).alloc (Nat.le_refl _) (.cells #[s, .int .i64 0] 56)))
      have HB0 : Hid (Below g w1 (w1.alloc (.cells #[s, .int .i64 0] 56))) := by rw [← hg]; exact (Below.refl _ _).alloc (Nat.le_refl _) _
      have HD0 := Lib.hid hd0
      clear hd0 hs1 hg hmk
      go_wp2_with fail
      refine HRO.out.mono ?_
      rintro e w2 ⟨rfl, rfl⟩
      clear hmI
      generalize w1.alloc (.cells #[s, .int .i64 0] 56) = w2 at *
      go_wp2_with fail
      refine (prime_any g s l w2 HD0.out).mono ?_
      rintro e w3 ⟨p, hprm, hp2, rfl, hd2, hb2⟩
      have HPRM := Lib.hid hprm
      have hpp : 2 ≤ p := by have := hprm.1; omega
      have HP2 := Lib.hid hp2
      have HD2 := Lib.hid hd2
      have HB2 := Lib.hid (HB0.out.trans (hb2.below (Nat.le_refl _) (Nat.le_of_lt HD0.out.size)))
      have HW2 := Lib.hid (HW0.out.below hta (hb2.below (Nat.le_refl _) (Nat.le_of_lt HD0.out.size)))
      clear hb2 hd2 hprm HD0 HB0 HW0 HRO
      go_wp2_with fail
      refine (plan_any g s l p w3 HD2.out hpp (by omega)).mono ?_
      rintro e w4 ⟨k, n, rfl, hk1, hkn, hn7, hnp, hd3, hb3⟩
      have HPB : Hid (planB p k n = true) := planB_of HPRM.out (by have := HP2.out; omega) hk1 hkn (by omega) hnp
      obtain ⟨K, hK⟩ := Int.eq_ofNat_of_zero_le (show 0 ≤ k - 1 by omega)
      obtain ⟨N, rfl⟩ := Int.eq_ofNat_of_zero_le (show 0 ≤ n by omega)
      obtain rfl : k = (K : Int) + 1 := by omega
      have HKN : Hid (K + 1 ≤ N ∧ N ≤ 7) := ⟨by omega, by omega⟩
      have hb3' := hb3.below (Nat.le_refl _) (Nat.le_of_lt HD2.out.size)
      have hg3 : g < w4.heap.size := hd3.size
      have hST : StL w1 (w4.alloc (.cells #[.int .i64 p, .int .i64 ((K : Int) + 1), .int .i64 (N : Int)] 31)) g w4.heap.size s l p ((K : Int) + 1) (N : Int) := by
        have hal : Below w4.heap.size w4 (w4.alloc (.cells #[.int .i64 p, .int .i64 ((K : Int) + 1), .int .i64 (N : Int)] 31)) := (Below.refl _ _).alloc (Nat.le_refl _) _
        exact ⟨hd3.below hal hg3, planAt_new _ _ _ _ _, (HW2.out.below hta hb3').below (by omega) hal, (HB2.out.trans hb3').trans (hal.mono (by omega)), hg3, by simp, hta⟩
      have HST := Lib.hid hST
      unfold planV
      clear hST hb3 hb3' hg3 hd3 HB2 HW2 HD2 hK hk1 hkn hn7 hnp hp2
      go_wp2_with fail
      obtain ⟨gp, hgp⟩ : ∃ gp, w4.heap.size = gp := ⟨_, rfl⟩
      rw [hgp] at HST ⊢
      generalize w4.alloc (.cells #[.int .i64 p, .int .i64 ((K : Int) + 1), .int .i64 (N : Int)] 31) = w5 at *
      clear hgp
      have c0 := HST.out.pl.c0
      have c1 := HST.out.pl.c1
      have c2 := HST.out.pl.c2
      have hpm : p ≤ 1073741824 := by have := HP2.out; omega
      have hp1 : 1 ≤ p := by omega
      have hde := dealt_all g s l p K N 3 w5 HST.out.di HPRM.out hpm HPB.out HKN.out ⟨by omega, by omega⟩
      unfold planV at hde
      rw [show ((3 : Nat) : Int) = 3 from rfl] at hde
      have HDE := Lib.hid hde
      clear hde
      go_wp2_with fail
      refine HDE.out.mono ?_
      rintro e w6 ⟨v1, v2, S, Rr, rfl, hS1, hS3, _, _, hn6, hd6, hb6⟩
      obtain ⟨D, hD⟩ : ∃ D, dealF p K N S Rr = D := ⟨_, rfl⟩
      have hDL : D.length = N := by rw [← hD]; exact dealF_len _ _ _ _ _
      have hGD : Gd p N S.length D := by rw [← hD]; exact dealF_gd hp1 K N S Rr
      rw [hD] at hn6
      have HDL := Lib.hid hDL
      have HGD := Lib.hid hGD
      have HSL : Hid (1 ≤ S.length ∧ S.length ≤ 3) := ⟨hS1, hS3⟩
      have HDH : Hid (∀ x ∈ D, 1 ≤ x.1 ∧ x.1 ≤ 16) := fun x hx => by have := hGD.hold x hx; have := HKN.out; omega
      have HDF : Hid (∀ x ∈ D, x.2.length ≤ 1000 ∧ Fin64 x) := fun x hx => ⟨by rw [hGD.len x hx]; omega, by have := hGD.hold x hx; have := HKN.out; constructor <;> omega, fun y hy => el_fin hpm (hGD.els x hx y hy)⟩
      have HS6 := Lib.hid (HST.out.but hb6 hd6)
      have hn6' := hn6.mono (Nat.succ_le_of_lt (Nat.lt_trans HST.out.lt HST.out.sz))
      obtain ⟨aD, cD, rfl, hcD, hcD2⟩ := hn6.shape
      rw [hDL] at hcD hn6' ⊢
      have HN6 := Lib.hid hn6'
      clear hd6 hb6 hn6 hn6' hD hDL hGD HDE HST c0 c1 c2 hS1 hS3
      have c0 := HS6.out.pl.c0
      have HSD : Hid (StL w1 w6.drew g gp s l p ((K : Int) + 1) (N : Int)) := HS6.out.below ((Below.refl _ _).drew)
      have HND : Hid (SharesN w6.drew (g + 1) (.slice aD N cD) D) := HN6.out
      have htu := turn_any g s l (.slice aD N cD) D 0 w6.drew HSD.out.di HND.out.shares (fun x hx => by have := (HDF.out x hx).1; omega) (by rw [HDL.out]; have := HKN.out; omega) (by omega)
      rw [show ((0 : Nat) : Int) = 0 from rfl] at htu
      have HTU := Lib.hid htu
      clear htu HS6 HN6
      go_wp2_with fail
      go_region_held3 (fun W' => W'.cell? ⟨gp, 0, none⟩ = some (.int .i64 p)) (first | go_keep | exact HSK)
        (first
          | (go_at_call 12; refine HTU.out.mono ?_; rintro e w7 ⟨v7, L2, m2, rfl, hpm7, _, hm7, hn7, hd7, hb7⟩; have HS7 := Lib.hid (HSD.out.but hb7 hd7); have HSK := HS7.out.pl.c0; have HN7 := Lib.hid (hn7.mono (Nat.succ_le_of_lt HSD.out.di.size)); have HND7 := Lib.hid (HND.out.but hb7 (Nat.lt_succ_self g)); have HT7 : Hid ((L2.take m2).length ≤ 7 ∧ ∀ x ∈ L2.take m2, x ∈ D) := (by refine ⟨?_, fun x hx => hpm7.mem_iff.1 (List.mem_of_mem_take hx)⟩; rw [List.length_take]; have h1 := HDL.out; have h2 := HKN.out; omega); clear hpm7 hm7 hn7 hd7 hb7)
          | (go_at_call 13; refine (next_any g s l 4 w7 HS7.out.di (by omega) (by omega)).mono ?_; rintro e w8 ⟨r, r0, r1, rfl, hd, hb⟩; have HS8 := Lib.hid (HS7.out.but hb hd); have HSK := HS8.out.pl.c0; obtain ⟨T, hT⟩ := Int.eq_ofNat_of_zero_le r0; subst hT; have HTT4 : Hid (T ≤ 3) := (by show _ ≤ _; omega); have HN8 := Lib.hid (HN7.out.but hb (Nat.lt_succ_self g)); have HND8 := Lib.hid (HND7.out.but hb (Nat.lt_succ_self g)); clear hd hb r1 r0)
          | (go_at_call 11; refine (lie_few g s l p T S.length v7 (L2.take m2) w8 HS8.out.di hpp hpm HN8.out.shares HSL.out.1 (by have := HSL.out; omega) (fun x hx => HGD.out.len x (HT7.out.2 x hx)) (fun x hx => HGD.out.els x (HT7.out.2 x hx)) (fun x hx => HDH.out x (HT7.out.2 x hx)) (by have := HTT4.out; omega) (by have := HT7.out.1; omega)).mono ?_; rintro e w9 ⟨v9, o9, L', rfl, hn9, hl9, hx9, hd, hb⟩; have HS9 := Lib.hid (HS8.out.but hb hd); have HSK := HS9.out.pl.c0; have HN9 := Lib.hid (hn9.mono (Nat.succ_le_of_lt HS8.out.di.size)); have HLF : Hid (L'.length ≤ 7 ∧ ∀ x ∈ L', x.2.length ≤ 1000 ∧ Fin64 x) := (by refine ⟨by rw [hl9]; exact HT7.out.1, fun x hx => ⟨by rw [(hx9 x hx).2.1]; have := HSL.out; omega, by have := (hx9 x hx).1; constructor <;> omega, fun y hy => el_fin hpm ((hx9 x hx).2.2 y hy)⟩⟩); have HND9 := Lib.hid (HND8.out.but hb (Nat.lt_succ_self g)); clear hd hb hn9 hl9 hx9))
      clear HSK HSD HND HTU HS7 HN7 HND7 HS8 HN8 HND8 HT7 HTT4 c0
      obtain ⟨a9, c9, rfl, hc9, hc9b⟩ := HN9.out.shape
      obtain ⟨n9, hn9⟩ : ∃ n, L'.length = n := ⟨_, rfl⟩
      rw [hn9] at HN9 HLF hc9 ⊢
      have HN9E := Lib.hid hn9
      have h0N : 0 < N := by have := HKN.out; omega
      obtain ⟨b1, o1, v1, hax, d0, d1, hi1⟩ := HND9.out.shares.at h0N
      subst hax
      have hdf0 := HDF.out (D.getD 0 (0, [])) (by rw [List.getD_eq_getElem?_getD, List.getElem?_eq_getElem (by rw [HDL.out]; exact h0N)]; exact List.getElem_mem _)
      obtain ⟨⟨h0, l0⟩, hsh0⟩ : ∃ z, D.getD 0 (0, []) = z := ⟨_, rfl⟩
      rw [hsh0] at d0 hi1 hdf0
      simp only [Nat.zero_mul, Nat.add_zero] at d0 d1 hi1 hdf0
      obtain ⟨va0, vc0, rfl⟩ := hi1.shape
      obtain ⟨ln0, hln0⟩ : ∃ m, l0.length = m := ⟨_, rfl⟩
      rw [hln0] at d1 hi1 hdf0
      have hmk0 := ref7_mark_any h0 va0 ln0 vc0 l0 w9 hi1 hln0.symm (by have := hdf0.1; omega) hdf0.2.1 hdf0.2.2
      have HMZ := Lib.hid (mark_size h0 l0)
      obtain ⟨mb, hmb⟩ : ∃ mb, markB h0 l0 = mb := ⟨_, rfl⟩
      rw [hmb] at hmk0 HMZ
      have HMK0 := Lib.hid hmk0
      have h0I : (0 : Int) < (N : Int) := by omega
      clear hmk0 hmb hln0 hi1 hsh0 hdf0 hn9
      go_wp2_with fail
      refine HMK0.out.mono ?_
      rintro e w10 ⟨rfl, hb10⟩
      have HS10 := Lib.hid (HS9.out.below hb10)
      have HN10 := Lib.hid (HN9.out.below hb10 (Nat.le_refl _))
      have HND10 := Lib.hid (HND9.out.below hb10 (Nat.le_refl _))
      clear hb10 HS9 HN9 HND9 HMK0 d0 d1 h0I
      obtain ⟨qo, hqo⟩ : ∃ q, w10.heap.size = q := ⟨_, rfl⟩
      have HQO : Hid (g < qo) := by show _ < _; rw [← hqo]; exact HS10.out.di.size
      have hal10 : Below w10.heap.size w10 (w10.alloc (.cells #[.string mb, .string { data := #[120] }] 9)) := (Below.refl _ _).alloc (Nat.le_refl _) _
      have HS11 := Lib.hid (HS10.out.below hal10)
      have HN11 := Lib.hid (HN10.out.below hal10 (Nat.le_refl _))
      have HND11 := Lib.hid (HND10.out.below hal10 (Nat.le_refl _))
      have HOW : Hid (Strs (w10.alloc (.cells #[.string mb, .string { data := #[120] }] 9)) (.slice (some ⟨qo, 0, none⟩) 2 2) [mb, { data := #[120] }]) := strs_two hqo HMZ.out (by decide)
      clear hal10 HS10 HN10 HND10
      go_wp2_with fail
      try rw [hqo]
      clear hqo
      generalize w10.alloc (.cells #[.string mb, .string { data := #[120] }] 9) = w11 at *
      generalize ([mb, { data := #[120] }] : List ByteArray) = own at *
      refine (odd_anyF 1000 (by omega) g s l (.slice a9 n9 c9) L' w11 HS11.out.di HN11.out.shares (fun x hx => (HLF.out.2 x hx).1) (fun x hx => (HLF.out.2 x hx).2) (by rw [HN9E.out]; have := HLF.out.1; omega)).mono ?_
      rintro e w12 ⟨v12, rfl, Lo, ho12, hlo, hxo, hd12, hb12⟩
      have HS12 := Lib.hid (HS11.out.but hb12 hd12)
      have HN12 := Lib.hid (HN11.out.but hb12 (Nat.lt_succ_self g))
      have HND12 := Lib.hid (HND11.out.but hb12 (Nat.lt_succ_self g))
      have HOW12 := Lib.hid (strs_but HOW.out hb12 (by have := HQO.out; omega))
      obtain ⟨ao, co, rfl, hco, hco2⟩ := ho12.1.shape
      have HO12 := Lib.hid ho12.1.shares
      obtain ⟨no, hno⟩ : ∃ n, Lo.length = n := ⟨_, rfl⟩
      have HLO : Hid (no ≤ 900 ∧ ∀ x ∈ Lo, x.2.length ≤ 1001 ∧ Fin64 x) := ⟨by rw [← hno]; rw [HN9E.out] at hlo; have := HLF.out.1; omega, hxo⟩
      rw [hno] at HO12 hco ⊢
      have HNO := Lib.hid hno
      clear hb12 hd12 ho12 hlo hxo hno HS11 HN11 HND11 HOW
      obtain ⟨q, hq⟩ : ∃ q, w12.heap.size = q := ⟨_, rfl⟩
      have hal : Below w12.heap.size w12 (w12.alloc (.cells #[.slice (some ⟨b1, o1, none⟩) N cD, .slice a9 n9 c9, .slice sra srn src, .slice ao no co] 23)) := (Below.refl _ _).alloc (Nat.le_refl _) _
      have hS := HS12.out.below hal
      have HRB : Hid (RbW w1 (w12.alloc (.cells #[.slice (some ⟨b1, o1, none⟩) N cD, .slice a9 n9 c9, .slice sra srn src, .slice ao no co] 23)) g gp q p ((K : Int) + 1) (N : Int) (.slice ma mn mc) (.slice (some ⟨qo, 0, none⟩) 2 2) mk own [D, L', R, Lo]) :=
        ⟨hS.pl, hS.wh, HT1.out.below hS.be HTG.out, HM1.out.below (Nat.le_of_eq HGE.out) hS.be, HOW12.out.below (Nat.le_refl _) hal, cells_four HND12.out.shares HN12.out.shares (HR1.out.below (Nat.le_of_eq HGE.out) HS12.out.be) HO12.out hq, hS.be, Nat.le_of_lt hS.di.size⟩
      have HFA : Hid (∀ j, j < 4 → ([D, L', R, Lo].getD j []).length ≤ 900 ∧ Fair ([D, L', R, Lo].getD j [])) := fun j hj =>
        match j, hj with
        | 0, _ => ⟨by show D.length ≤ 900; rw [HDL.out]; have := HKN.out; omega, fair_of (Mx := 1000) (by omega) HDF.out⟩
        | 1, _ => ⟨by show L'.length ≤ 900; rw [HN9E.out]; have := HLF.out.1; omega, fair_of (Mx := 1000) (by omega) HLF.out.2⟩
        | 2, _ => ⟨by show R.length ≤ 900; have := HRL.out.1; omega, fair_of (Mx := 20) (by omega) fun x hx => ⟨HRL.out.2 x hx, HRF.out x hx⟩⟩
        | 3, _ => ⟨by show Lo.length ≤ 900; rw [HNO.out]; exact HLO.out.1, fair_of (Mx := 1001) (by omega) HLO.out.2⟩
      have HOL : Hid (own.length ≤ 1000) := by show _ ≤ _; obtain ⟨_, _, e, h1, _⟩ := HOW12.out; simp only [Value.slice.injEq] at e; omega
      clear hS hal HS12 HN12 HND12 HOW12 HO12
      go_wp2_with fail
      try rw [hq]
      clear hq
      generalize w12.alloc (.cells #[.slice (some ⟨b1, o1, none⟩) N cD, .slice a9 n9 c9, .slice sra srn src, .slice ao no co] 23) = wL at *
      generalize [D, L', R, Lo] = LL at *
      have HB0 : Hid (Below wL.heap.size wL wL) := Below.refl _ _
      go_loopw [15, 16, 17, 18, 19, 20, 21, 23, 75] (fun _ _ _ _ _ _ _ _ i wr => ∃ j : Nat, j ≤ 4 ∧ i = .int .i64 j ∧ Hid (Below wL.heap.size wL wr)) (fun _ _ _ _ _ _ _ _ i _ => 4 - (intOf i).toNat)
      case atStart => exact ⟨0, Nat.zero_le _, rfl, HB0⟩
      case round =>
        obtain ⟨j, hj, rfl, HB⟩ := hrel
        have HC := Lib.hid (HRB.out.below HB.out)
        clear HB0
        by_cases hlt : j < 4
        · obtain ⟨wo, hwo⟩ : ∃ wo, wo = wr := ⟨_, rfl⟩
          subst hwo
          obtain ⟨vX, t0, hsX⟩ := HC.out.ls j hlt
          obtain ⟨hXl, hXf⟩ := HFA.out j hlt
          obtain ⟨X, hX⟩ : ∃ X, LL.getD j [] = X := ⟨_, rfl⟩
          rw [hX] at hsX hXl hXf
          obtain ⟨aX, cX, rfl, _⟩ := id hsX
          obtain ⟨nX, hnX⟩ : ∃ n, X.length = n := ⟨_, rfl⟩
          rw [hnX] at hsX hXl t0
          have HNX := Lib.hid hnX
          have HSX := Lib.hid hsX
          have HXF := Lib.hid hXf
          have hjl : (j : Int) < 4 := by omega
          have HK1 : Hid (∀ W, Wheel W → Shares W (.slice aX nX cX) X → Calls Tryz.prog 16 #[.agg #[.int .i64 p, .int .i64 ((K : Int) + 1), .int .i64 (N : Int)], .slice aX nX cX] W fun e w' => ∃ v1 v2 S W' c, e = .returned (.tuple #[v1, v2, .int .i64 c]) ∧ RobA p ((K : Int) + 1) (N : Int) X S W' c ∧ Ints w' v1 S ∧ Ints w' v2 W' ∧ Below W.heap.size W w') := fun W h1 h2 => by
            have h := robust_any p ((K : Int) + 1) (N : Int) _ X W h1 (wf_small hp1 hpm) h2
            unfold planV at h
            exact h
          have HK2 : Hid (∀ W, Shares W (.slice aX nX cX) X → Calls Tryz.prog 17 #[.agg #[.int .i64 p, .int .i64 ((K : Int) + 1), .int .i64 (N : Int)], .slice aX nX cX] W fun e w' => ∃ v1 v2 S W' c, e = .returned (.tuple #[v1, v2, .int .i64 c]) ∧ RobA p ((K : Int) + 1) (N : Int) X S W' c ∧ Ints w' v1 S ∧ Ints w' v2 W' ∧ Below W.heap.size W w') := fun W h2 => by
            have h := ref7_robust_any p ((K : Int) + 1) (N : Int) _ X W (wf_small hp1 hpm) h2
            unfold planV at h
            exact h
          have c0 := HC.out.pl.c0
          have c1 := HC.out.pl.c1
          have c2 := HC.out.pl.c2
          clear hX hsX hnX hXf
          go_wp2_with fail
          refine (HK1.out wo HC.out.wh HSX.out).mono ?_
          rintro e w13 ⟨v1, v2, S1, W1, cc, rfl, hr1, hi1, hi2, hb⟩
          have HR13 := Lib.hid hr1
          have HI1 := Lib.hid hi1
          have HI2 := Lib.hid hi2
          have HC13 := Lib.hid (HC.out.below hb)
          have HSX13 := Lib.hid (HSX.out.below (Nat.le_refl _) hb)
          have HB13 := Lib.hid (HB.out.trans (hb.mono HB.out.size))
          clear hr1 hi1 hi2 hb c0 c1 c2 t0 HC HSX HB HK1
          have c0 := HC13.out.pl.c0
          have c1 := HC13.out.pl.c1
          have c2 := HC13.out.pl.c2
          go_wp2_with fail
          refine (HK2.out w13 HSX13.out).mono ?_
          rintro e w14 ⟨v3, v4, S2, W2, cd, rfl, hr2, hi3, hi4, hb⟩
          obtain ⟨rfl, rfl, rfl⟩ := robA_unique HR13.out hr2
          have HC14 := Lib.hid (HC13.out.below hb)
          have HSX14 := Lib.hid (HSX13.out.below (Nat.le_refl _) hb)
          have HB14 := Lib.hid (HB13.out.trans (hb.mono HB13.out.size))
          have HSA := Lib.hid (same_yes _ _ _ w14 (HI1.out.below (Nat.le_refl _) hb) hi3)
          have HSB := Lib.hid (same_yes _ _ _ w14 (HI2.out.below (Nat.le_refl _) hb) hi4)
          have n1 : (cc != cc) = false := by simp
          clear hr2 hi3 hi4 hb c0 c1 c2 HC13 HSX13 HB13 HK2 HR13 HI1 HI2
          go_wp2_with fail
          refine HSA.out.mono ?_
          rintro e w15 ⟨rfl, rfl⟩
          go_wp2_with fail
          refine HSB.out.mono ?_
          rintro e w16 ⟨rfl, rfl⟩
          clear HSA HSB n1
          obtain ⟨wz, hwz⟩ : ∃ wz, wz = w14 := ⟨_, rfl⟩
          subst hwz
          have HZ0 : Hid (Below wz.heap.size wz wz) := Below.refl _ _
          go_wp2_with fail
          go_loopw [23, 110] (fun _ i wr => ∃ y : Nat, y ≤ nX ∧ i = .int .i64 y ∧ Hid (Below wz.heap.size wz wr)) (fun _ i _ => nX - (intOf i).toNat)
          case atStart => exact ⟨0, Nat.zero_le _, rfl, HZ0⟩
          case round =>
            obtain ⟨y, hy, rfl, HY⟩ := hrel
            clear HZ0
            have HCY := Lib.hid (HC14.out.below HY.out)
            have HSY := Lib.hid (HSX14.out.below (Nat.le_refl _) HY.out)
            by_cases hlt2 : y < nX
            · obtain ⟨wv, hwv⟩ : ∃ wv, wv = wr := ⟨_, rfl⟩
              subst hwv
              obtain ⟨b2, o2, v2', hax, d0, d1, hi1⟩ := HSY.out.at hlt2
              subst hax
              have hfk := HXF.out (X.getD y (0, [])) (by rw [List.getD_eq_getElem?_getD, List.getElem?_eq_getElem (by rw [HNX.out]; exact hlt2)]; exact List.getElem_mem _)
              obtain ⟨⟨h1, l1⟩, hsh1⟩ : ∃ z, X.getD y (0, []) = z := ⟨_, rfl⟩
              rw [hsh1] at d0 hi1 hfk
              simp only at d0 hi1 hfk
              obtain ⟨va1, vc1, rfl⟩ := hi1.shape
              obtain ⟨m1, hm1⟩ : ∃ m, l1.length = m := ⟨_, rfl⟩
              rw [hm1] at d1 hi1 hfk
              have HFK : Hid (in64 h1 ∧ m1 ≤ 100000 ∧ ∀ y ∈ l1, in64 y) := hfk
              have HLL := Lib.hid hm1
              obtain ⟨qs, hqs⟩ : ∃ q, wv.heap.size = q := ⟨_, rfl⟩
              have hba : Below wv.heap.size wv (wv.alloc (.cells #[.int .i64 h1, .slice va1 m1 vc1] 42)) := (Below.refl _ _).alloc (Nat.le_refl _) _
              have hsa := shAt_new wv h1 (.slice va1 m1 vc1) 42
              rw [hqs] at hsa
              have HSA := Lib.hid hsa
              have HI1 := Lib.hid (hi1.below (Nat.le_refl _) hba)
              have HCA := Lib.hid (HCY.out.below hba)
              have HBA := Lib.hid (HY.out.trans (hba.mono HY.out.size))
              have hy1 : (y : Int) < (nX : Int) := by omega
              clear hi1 hba hsa hfk hm1 hsh1 HCY HSY HY
              go_wp2_with fail
              try rw [hqs]
              clear hqs d0 d1
              generalize wv.alloc (.cells #[.int .i64 h1, .slice va1 m1 vc1] 42) = w5' at *
              have p0 := cell_regrown HSA.out.c0
              have p1 := cell_regrown HSA.out.c1
              have cM : ∀ d os, Calls Tryz.prog 19 #[.agg #[.int .i64 h1, .slice va1 m1 vc1]] (grow (redrawn w5' d) os) fun e w'' => e = .returned (.string (markB h1 l1)) ∧ ∃ p : Regrown, w'' = grow (redrawn w5' p.d) p.os := fun d os => Calls.regrown_of (mark_any h1 va1 m1 vc1 l1 _ (HCA.out.tb.below (below_regrown w5' d os) HCA.out.tb.size) (HI1.out.below (Nat.le_refl _) (below_regrown w5' d os)) HLL.out.symm HFK.out.2.1 HFK.out.1 HFK.out.2.2)
              have cR : ∀ d os, Calls Tryz.prog 14 #[.agg #[.int .i64 h1, .slice va1 m1 vc1]] (grow (redrawn w5' d) os) fun e w'' => e = .returned (.string (markB h1 l1)) ∧ ∃ p : Regrown, w'' = grow (redrawn w5' p.d) p.os := fun d os => Calls.regrown_of (ref7_mark_any h1 va1 m1 vc1 l1 _ (HI1.out.below (Nat.le_refl _) (below_regrown w5' d os)) HLL.out.symm HFK.out.2.1 HFK.out.1 HFK.out.2.2)
              obtain ⟨mb1, hmb1⟩ : ∃ mb, markB h1 l1 = mb := ⟨_, rfl⟩
              rw [hmb1] at cM cR
              clear hmb1
              have n1 : (mb1.toList == mb1.toList) = true := by simp
              have n2 : (mb1.toList != mb1.toList) = false := by simp
              refine wp_region_quiet_below (by kernel_rfl) (by kernel_rfl) ?_
              repeat (go_big_quiet_step (first | with_reducible exact cM _ _ | with_reducible exact cR _ _))
              refine wpQuiet_nil ?_
              intro _ hw'
              obtain ⟨⟨dq, osq⟩, hw''⟩ := hw'
              subst hw''
              have HB6 := Lib.hid (HBA.out.trans ((below_regrown w5' dq osq).mono HBA.out.size))
              clear cM cR p0 p1 HSA HI1 HCA HBA
              generalize grow (redrawn w5' dq) osq = w6' at *
              go_wp2
              go_roundw
              case rel => exact ⟨y + 1, by omega, by go_num, HB6⟩
              case measure => simp [intOf]; omega
            · obtain rfl : y = nX := by omega
              have HBY := Lib.hid (HB14.out.trans (HY.out.mono HB14.out.size))
              have hm1000 : mk.length ≤ 1000 := by rw [HMN.out]; have := HMK.out; omega
              have hX1000 : X.length < 1000 := by rw [HNX.out]; omega
              have HMA1 : Hid (∀ W, RbW w1 W g gp q p ((K : Int) + 1) (N : Int) (.slice ma mn mc) (.slice (some ⟨qo, 0, none⟩) 2 2) mk own LL → Shares W (.slice aX y cX) X → Calls Tryz.prog 21 #[.slice aX y cX, .slice ma mn mc] W fun e w' => ∃ v, e = .returned v ∧ GathS w' W.heap.size v (markedL mk X) ∧ Below W.heap.size W w') := fun W a b => marked_any _ _ X mk W a.tb b a.ms HXF.out hm1000 hX1000
              have HMA2 : Hid (∀ W, RbW w1 W g gp q p ((K : Int) + 1) (N : Int) (.slice ma mn mc) (.slice (some ⟨qo, 0, none⟩) 2 2) mk own LL → Shares W (.slice aX y cX) X → Calls Tryz.prog 22 #[.slice aX y cX, .slice ma mn mc] W fun e w' => ∃ v, e = .returned v ∧ GathS w' W.heap.size v (markedL mk X) ∧ Below W.heap.size W w') := fun W a b => ref7_marked_any _ _ X mk W b a.ms HXF.out hm1000 hX1000
              have HMA3 : Hid (∀ W, RbW w1 W g gp q p ((K : Int) + 1) (N : Int) (.slice ma mn mc) (.slice (some ⟨qo, 0, none⟩) 2 2) mk own LL → Shares W (.slice aX y cX) X → Calls Tryz.prog 21 #[.slice aX y cX, .slice (some ⟨qo, 0, none⟩) 2 2] W fun e w' => ∃ v, e = .returned v ∧ GathS w' W.heap.size v (markedL own X) ∧ Below W.heap.size W w') := fun W a b => marked_any _ _ X own W a.tb b a.ow HXF.out HOL.out hX1000
              have HMA4 : Hid (∀ W, RbW w1 W g gp q p ((K : Int) + 1) (N : Int) (.slice ma mn mc) (.slice (some ⟨qo, 0, none⟩) 2 2) mk own LL → Shares W (.slice aX y cX) X → Calls Tryz.prog 22 #[.slice aX y cX, .slice (some ⟨qo, 0, none⟩) 2 2] W fun e w' => ∃ v, e = .returned v ∧ GathS w' W.heap.size v (markedL own X) ∧ Below W.heap.size W w') := fun W a b => ref7_marked_any _ _ X own W b a.ow HXF.out HOL.out hX1000
              have HL1 : Hid ((markedL mk X).length ≤ 1000) := Nat.le_trans (markedL_len mk X) (Nat.le_of_lt hX1000)
              have HL2 : Hid ((markedL own X).length ≤ 1000) := Nat.le_trans (markedL_len own X) (Nat.le_of_lt hX1000)
              generalize markedL mk X = M1 at *
              generalize markedL own X = M2 at *
              clear hm1000 hX1000
              obtain ⟨wq, hwq⟩ : ∃ wq, wq = wr := ⟨_, rfl⟩
              subst hwq
              go_wp2_with fail
              refine (HMA1.out wq HCY.out HSY.out).mono ?_
              rintro e w20 ⟨v20, rfl, hg, hb⟩
              have HC20 := Lib.hid (HCY.out.below hb)
              have HS20 := Lib.hid (HSY.out.below (Nat.le_refl _) hb)
              have HB20 := Lib.hid (HBY.out.trans (hb.mono HBY.out.size))
              have HG20 := Lib.hid (hg.shares HL1.out)
              clear hg hb HCY HSY HBY HY
              go_wp2_with fail
              refine (HMA2.out w20 HC20.out HS20.out).mono ?_
              rintro e w21 ⟨v21, rfl, hg, hb⟩
              have HC21 := Lib.hid (HC20.out.below hb)
              have HS21 := Lib.hid (HS20.out.below (Nat.le_refl _) hb)
              have HB21 := Lib.hid (HB20.out.trans (hb.mono HB20.out.size))
              have HSM1 := Lib.hid (sameS_yes _ _ M1 w21 (HG20.out.below (Nat.le_refl _) hb) (hg.shares HL1.out))
              clear hg hb HC20 HS20 HB20 HG20
              go_wp2_with fail
              refine HSM1.out.mono ?_
              rintro e w22 ⟨rfl, hb⟩
              have HC22 := Lib.hid (HC21.out.below hb)
              have HS22 := Lib.hid (HS21.out.below (Nat.le_refl _) hb)
              have HB22 := Lib.hid (HB21.out.trans (hb.mono HB21.out.size))
              clear hb HC21 HS21 HB21 HSM1
              go_wp2_with fail
              refine (HMA3.out w22 HC22.out HS22.out).mono ?_
              rintro e w23 ⟨v23, rfl, hg, hb⟩
              have HC23 := Lib.hid (HC22.out.below hb)
              have HS23 := Lib.hid (HS22.out.below (Nat.le_refl _) hb)
              have HB23 := Lib.hid (HB22.out.trans (hb.mono HB22.out.size))
              have HG23 := Lib.hid (hg.shares HL2.out)
              clear hg hb HC22 HS22 HB22
              go_wp2_with fail
              refine (HMA4.out w23 HC23.out HS23.out).mono ?_
              rintro e w24 ⟨v24, rfl, hg, hb⟩
              have HB24 := Lib.hid (HB23.out.trans (hb.mono HB23.out.size))
              have HSM2 := Lib.hid (sameS_yes _ _ M2 w24 (HG23.out.below (Nat.le_refl _) hb) (hg.shares HL2.out))
              clear hg hb HC23 HS23 HB23 HG23
              go_wp2_with fail
              refine HSM2.out.mono ?_
              rintro e w25 ⟨rfl, hb⟩
              have HB25 := Lib.hid (HB24.out.trans (hb.mono HB24.out.size))
              clear hb HB24 HSM2 HMA1 HMA2 HMA3 HMA4
              go_wp2
              go_roundw
              case rel => exact ⟨j + 1, by omega, by go_num, HB25⟩
              case measure => simp [intOf]; omega
        · obtain rfl : j = 4 := by omega
          have HW := Lib.hid HC.out.wh
          clear HRB
          go_wp2_with fail
          refine (awake7_any wr HW.out).mono ?_
          rintro e w' ⟨rfl, hb⟩
          have HBF := Lib.hid (HB1.out.trans ((HC.out.be.trans (hb.mono HC.out.sz)).mono HGG.out))
          clear hb
          go_wp2
          go_ret
          exact ⟨rfl, HBF.out⟩
end Go.Proofs.YtpgbjnenllfmlaaGreatDoor
