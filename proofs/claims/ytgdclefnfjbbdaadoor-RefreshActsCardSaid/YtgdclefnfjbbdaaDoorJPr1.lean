
/- The program's package refresh: good, ofAll, the search for a holder. -/
import Derived.Test.YtgdclefnfjbbdaaDoorJMth
import Derived.Test.YtgdclefnfjbbdaaDoorHPk
namespace Go.Proofs.YtgdclefnfjbbdaaDoor
open Go.RowKit Go.Sort
open Num
set_option linter.unusedVariables false

/-- Whether a plan is valid and a list good. -/
noncomputable def gdB (p k n : Int) (L : List Shr) : Bool := planB p k n && goodB p n L
theorem gdB_and {p k n : Int} {L : List Shr} : gdB p k n L = true ↔ planB p k n = true ∧ goodB p n L = true := by unfold gdB; rw [Bool.and_eq_true]
theorem combE_gd (p k n : Int) (L : List Shr) : (combE p k n L != 1) = gdB p k n L := by
  cases h : gdB p k n L with
  | true =>
    have h2 := gdB_and.1 h
    have : combE p k n L ≠ 1 := by
      unfold combE
      rw [if_pos h2]
      split <;> omega
    simpa using this
  | false =>
    have h2 : ¬ (planB p k n = true ∧ goodB p n L = true) := fun e => by rw [gdB_and.2 e] at h; cases h
    have : combE p k n L = 1 := by unfold combE; rw [if_neg h2]
    simp [this]
set_option maxRecDepth 100000 in
set_option maxHeartbeats 4000000 in
theorem refresh_good (p k n : Int) (v : Value) (L : List Shr) (w : World) (hw : Wheel w) (hp : (Lit.int .i64 p).wf = true) (hs : Shares w v L) :
    Calls Tryd.prog 39 #[planV p k n, v] w fun e w' => e = .returned (.bool (gdB p k n L)) ∧ Below w.heap.size w w' := by
  obtain ⟨g, hg⟩ : ∃ g, w.heap.size = g := ⟨_, rfl⟩
  have hb1 : Below g w (w.alloc (.cells #[.int .i64 p, .int .i64 k, .int .i64 n] 30)) := by rw [← hg]; exact (Below.refl _ _).alloc (Nat.le_refl _) _
  have HP := Lib.hid (planAt_new w p k n 30)
  have HC := Lib.hid (share_combine p k n v L _ (hw.below (by rw [← hg]; exact hw.size) hb1) hp (hs.below (Nat.le_of_eq hg) hb1))
  have hcg := combE_gd p k n L
  unfold planV at HC ⊢
  obtain ⟨E, hE⟩ : ∃ E, combE p k n L = E := ⟨_, rfl⟩
  obtain ⟨b, hb⟩ : ∃ b, gdB p k n L = b := ⟨_, rfl⟩
  rw [hE] at HC hcg
  rw [hb] at hcg ⊢
  have HB1 := Lib.hid hb1
  have HSZ : Hid ((w.alloc (.cells #[.int .i64 p, .int .i64 k, .int .i64 n] 30)).heap.size = g + 1) := by show _ = _; rw [← hg]; simp
  obtain ⟨sa, sc, rfl, _⟩ := hs
  rw [hg]
  clear hw hp hb1 hE hb
  go_enter Tryd.func39, Tryd.ntmps39
  go_wp2_with fail
  refine HC.out.mono ?_
  rintro e w2 ⟨v', rfl, hi, hb2⟩
  obtain ⟨va, vc, rfl⟩ := hi.shape
  have HB2 := Lib.hid (HB1.out.trans (hb2.mono (by rw [HSZ.out]; omega)))
  clear hb2 hi HC
  go_wp2
  go_ret
  exact ⟨rfl, HB2.out⟩

/-- Whether one share is that of a holder. -/
theorem holder_eq (hz h : Int) (az : Option Addr) (nz cz gs : Nat) (w : World) (hc : w.cell? ⟨gs, 0, none⟩ = some (.int .i64 h)) :
    Calls Tryd.prog 42 #[.agg #[.int .i64 hz, .slice az nz cz], .pointer (some ⟨gs, 0, none⟩)] w fun e w' => e = .returned (.bool (hz == h)) ∧ Below w.heap.size w w' := by
  have hb1 : Below w.heap.size w (w.alloc (.cells #[.int .i64 hz, .slice az nz cz] 36)) := (Below.refl _ _).alloc (Nat.le_refl _) _
  have hlt := cell_lt hc
  have c0 : (w.alloc (.cells #[.int .i64 hz, .slice az nz cz] 36)).cell? ⟨gs, 0, none⟩ = some (.int .i64 h) := cell_alloc_old _ _ _ _ hc
  have HB1 := Lib.hid hb1
  obtain ⟨b, hb⟩ : ∃ b, (hz == h) = b := ⟨_, rfl⟩
  rw [hb]
  clear hb1 hc
  go_enter Tryd.func42, Tryd.ntmps42
  go_wp2
  go_ret
  exact ⟨rfl, HB1.out⟩
/-- The place of a holder's share, or -1. -/
def IdxR (Z : List Shr) (h r : Int) : Prop := (∃ i : Nat, i < Z.length ∧ r = (i : Int) ∧ (Z.getD i (0, [])).1 = h) ∨ (r = -1 ∧ hasB Z h = false)
theorem hasB_none {Z : List Shr} {h : Int} (hn : ∀ j, j < Z.length → (Z.getD j (0, [])).1 ≠ h) : hasB Z h = false := by
  unfold hasB
  refine List.any_eq_false.2 fun z hz e => ?_
  obtain ⟨j, hj, rfl⟩ := List.mem_iff_getElem.1 hz
  have := hn j hj
  rw [getS_at hj] at this
  exact this (by simpa using e)
set_option maxRecDepth 100000 in
set_option maxHeartbeats 8000000 in
theorem index_holder (az : Option Addr) (n cz : Nat) (Z : List Shr) (h : Int) (gs : Nat) (w : World) (hs : Shares w (.slice az n cz) Z) (hn : Z.length = n) (hn2 : n ≤ 1000) (hc : w.cell? ⟨gs, 0, none⟩ = some (.int .i64 h)) :
    Calls Tryd.prog 41 #[.slice az n cz, .func (.func 42) #[] #[.pointer (some ⟨gs, 0, none⟩)]] w fun e w' => ∃ r, e = .returned (.int .i64 r) ∧ IdxR Z h r ∧ Below w.heap.size w w' := by
  obtain ⟨g, hg⟩ : ∃ g, w.heap.size = g := ⟨_, rfl⟩
  have HS := Lib.hid hs
  have HN := Lib.hid hn
  have HC := Lib.hid hc
  have HLT := Lib.hid (cell_lt hc)
  have HGG := Lib.hid hg
  have HW0 : Hid (Below g w w) := Below.refl _ _
  rw [hg]
  clear hs hn hc hg
  go_enter Tryd.func41, Tryd.ntmps41
  go_wp2_with fail
  go_loopw [5, 8] (fun _ i wr => ∃ k : Nat, k ≤ n ∧ i = .int .i64 k ∧ Hid (∀ j, j < k → (Z.getD j (0, [])).1 ≠ h) ∧ Hid (Below g w wr)) (fun _ i _ => n - (intOf i).toNat)
  case atStart => exact ⟨0, Nat.zero_le _, rfl, fun j hj => by omega, HW0⟩
  case round =>
    obtain ⟨k, hk, rfl, HA, HW⟩ := hrel
    by_cases hlt : k < n
    · obtain ⟨b1, o1, v1, rfl, c0, c1, hi1⟩ := (HS.out.below (Nat.le_of_eq HGG.out) HW.out).at hlt
      obtain ⟨a1, d1, rfl⟩ := hi1.shape
      obtain ⟨hz, hhz⟩ : ∃ hz, (Z.getD k (0, [])).1 = hz := ⟨_, rfl⟩
      rw [hhz] at c0
      have hcell : wr.cell? ⟨gs, 0, none⟩ = some (.int .i64 h) := by rw [HW.out.cell (p := ⟨gs, 0, none⟩) (by show gs < g; have := HLT.out; have := HGG.out; omega)]; exact HC.out
      have HQ := Lib.hid (holder_eq hz h a1 (Z.getD k (0, [])).2.length d1 gs wr hcell)
      have hgw : g ≤ wr.heap.size := by have := HW.out.size; have := HGG.out; omega
      have HGW := Lib.hid hgw
      clear hcell hi1 hgw
      cases hob : (hz == h) with
      | true =>
        rw [hob] at HQ
        have HX : Hid (IdxR Z h (k : Int)) := .inl ⟨k, by rw [HN.out]; exact hlt, rfl, by rw [hhz]; simpa using hob⟩
        clear hob hhz
        generalize (Z.getD k (0, [])).2.length = n1 at *
        go_wp2_with (go_at_call 42; refine HQ.out.mono ?_; rintro e w' ⟨rfl, hb⟩)
        have HB := Lib.hid (HW.out.trans (hb.mono HGW.out))
        clear hb
        go_ret
        exact ⟨_, rfl, HX.out, HB.out⟩
      | false =>
        rw [hob] at HQ
        have HX : Hid (∀ j, j < k + 1 → (Z.getD j (0, [])).1 ≠ h) := fun j hj => by
          by_cases e : j = k
          · subst e; rw [hhz]; simpa using hob
          · exact HA.out j (by omega)
        clear hob hhz
        generalize (Z.getD k (0, [])).2.length = n1 at *
        go_wp2_with (go_at_call 42; refine HQ.out.mono ?_; rintro e w' ⟨rfl, hb⟩)
        have HB := Lib.hid (HW.out.trans (hb.mono HGW.out))
        clear hb
        go_roundw
        case rel => exact ⟨k + 1, by omega, by go_num, HX, HB⟩
        case measure => simp [intOf]; omega
    · obtain rfl : k = n := by omega
      have HX : Hid (IdxR Z h (-1)) := .inr ⟨rfl, hasB_none fun j hj => HA.out j (by rw [← HN.out]; exact hj)⟩
      go_wp2
      go_ret
      exact ⟨_, rfl, HX.out, HW.out⟩
/-- The closure that finds a holder. -/
theorem place_any (az : Option Addr) (n cz : Nat) (Z : List Shr) (h : Int) (av : Option Addr) (nv cv gz : Nat) (w : World) (hs : Shares w (.slice az n cz) Z) (hn : Z.length = n) (hn2 : n ≤ 1000) (hc : w.cell? ⟨gz, 0, none⟩ = some (.slice az n cz)) :
    Calls Tryd.prog 40 #[.agg #[.int .i64 h, .slice av nv cv], .pointer (some ⟨gz, 0, none⟩)] w fun e w' => ∃ r, e = .returned (.int .i64 r) ∧ IdxR Z h r ∧ Below w.heap.size w w' := by
  have hb1 : Below w.heap.size w (w.alloc (.cells #[.int .i64 h, .slice av nv cv] 36)) := (Below.refl _ _).alloc (Nat.le_refl _) _
  have c0 : (w.alloc (.cells #[.int .i64 h, .slice av nv cv] 36)).cell? ⟨gz, 0, none⟩ = some (.slice az n cz) := cell_alloc_old _ _ _ _ hc
  have HI := Lib.hid (index_holder az n cz Z h w.heap.size _ (hs.below (Nat.le_refl _) hb1) hn hn2 (shAt_new w h (.slice av nv cv) 36).c0)
  have HB1 := Lib.hid hb1
  clear hb1 hs hn hc
  go_enter Tryd.func40, Tryd.ntmps40
  go_wp2_with fail
  refine HI.out.mono ?_
  rintro e w2 ⟨r, rfl, hr, hb⟩
  have HR := Lib.hid hr
  have HB := Lib.hid (HB1.out.trans (hb.mono (by simp)))
  clear hr hb HI
  go_wp2
  go_ret
  exact ⟨_, rfl, HR.out, HB.out⟩
theorem IdxR.neg {Z : List Shr} {h r : Int} (x : IdxR Z h r) : decide (r < 0) = !hasB Z h := by
  rcases x with ⟨i, hi, rfl, e⟩ | ⟨rfl, e⟩
  · have : hasB Z h = true := by rw [← e, getS_at hi]; exact hasB_at (List.getElem_mem _)
    rw [this]; simp
  · rw [e]; rfl
/-- The closure that tells whether a holder is missing. -/
theorem lacks_any (az : Option Addr) (n cz : Nat) (Z : List Shr) (h : Int) (av : Option Addr) (nv cv gz ga : Nat) (w : World) (hs : Shares w (.slice az n cz) Z) (hn : Z.length = n) (hn2 : n ≤ 1000) (hc : w.cell? ⟨gz, 0, none⟩ = some (.slice az n cz))
    (ha : w.cell? ⟨ga, 0, none⟩ = some (.func (.func 40) #[] #[.pointer (some ⟨gz, 0, none⟩)])) :
    Calls Tryd.prog 44 #[.agg #[.int .i64 h, .slice av nv cv], .pointer (some ⟨ga, 0, none⟩)] w fun e w' => e = .returned (.bool (!hasB Z h)) ∧ Below w.heap.size w w' := by
  have hb1 : Below w.heap.size w (w.alloc (.cells #[.int .i64 h, .slice av nv cv] 36)) := (Below.refl _ _).alloc (Nat.le_refl _) _
  have c0 : (w.alloc (.cells #[.int .i64 h, .slice av nv cv] 36)).cell? ⟨ga, 0, none⟩ = some (.func (.func 40) #[] #[.pointer (some ⟨gz, 0, none⟩)]) := cell_alloc_old _ _ _ _ ha
  have HI := Lib.hid (place_any az n cz Z h av nv cv gz _ (hs.below (Nat.le_refl _) hb1) hn hn2 (cell_alloc_old w (.cells #[.int .i64 h, .slice av nv cv] 36) _ _ hc))
  have HB1 := Lib.hid hb1
  clear hb1 hs hn hc
  go_enter Tryd.func44, Tryd.ntmps44
  go_wp2_with (go_at_fn 40)
  refine HI.out.mono ?_
  rintro e w2 ⟨r, rfl, hr, hb⟩
  have HR := Lib.hid hr.neg
  have HB := Lib.hid (HB1.out.trans (hb.mono (by simp)))
  clear hr hb HI
  go_wp2
  go_ret
  exact ⟨congrArg (fun b => Ending.returned (Value.bool b)) HR.out, HB.out⟩
set_option maxRecDepth 100000 in
set_option maxHeartbeats 8000000 in
theorem index_lacks (al : Option Addr) (m cl : Nat) (L : List Shr) (az : Option Addr) (n cz : Nat) (Z : List Shr) (gz ga : Nat) (w : World) (hl : Shares w (.slice al m cl) L) (hm : L.length = m) (hm2 : m ≤ 1000) (hs : Shares w (.slice az n cz) Z) (hn : Z.length = n) (hn2 : n ≤ 1000) (hc : w.cell? ⟨gz, 0, none⟩ = some (.slice az n cz))
    (ha : w.cell? ⟨ga, 0, none⟩ = some (.func (.func 40) #[] #[.pointer (some ⟨gz, 0, none⟩)])) :
    Calls Tryd.prog 41 #[.slice al m cl, .func (.func 44) #[] #[.pointer (some ⟨ga, 0, none⟩)]] w fun e w' => ∃ r, e = .returned (.int .i64 r) ∧ decide (0 ≤ r) = L.any (fun s => !hasB Z s.1) ∧ Below w.heap.size w w' := by
  obtain ⟨g, hg⟩ : ∃ g, w.heap.size = g := ⟨_, rfl⟩
  have HL := Lib.hid hl
  have HS := Lib.hid hs
  have HM := Lib.hid hm
  have HN := Lib.hid hn
  have HC := Lib.hid hc
  have HA := Lib.hid ha
  have HLT := Lib.hid (And.intro (cell_lt hc) (cell_lt ha))
  have HGG := Lib.hid hg
  have HW0 : Hid (Below g w w) := Below.refl _ _
  rw [hg]
  clear hs hn hc hg hl hm ha
  go_enter Tryd.func41, Tryd.ntmps41
  go_wp2_with fail
  go_loopw [5, 8] (fun _ i wr => ∃ k : Nat, k ≤ m ∧ i = .int .i64 k ∧ Hid (∀ j, j < k → hasB Z (L.getD j (0, [])).1 = true) ∧ Hid (Below g w wr)) (fun _ i _ => m - (intOf i).toNat)
  case atStart => exact ⟨0, Nat.zero_le _, rfl, fun j hj => by omega, HW0⟩
  case round =>
    obtain ⟨k, hk, rfl, HX0, HW⟩ := hrel
    by_cases hlt : k < m
    · obtain ⟨b1, o1, v1, rfl, c0, c1, hi1⟩ := (HL.out.below (Nat.le_of_eq HGG.out) HW.out).at hlt
      obtain ⟨a1, d1, rfl⟩ := hi1.shape
      obtain ⟨hz, hhz⟩ : ∃ hz, (L.getD k (0, [])).1 = hz := ⟨_, rfl⟩
      rw [hhz] at c0
      have hcz : wr.cell? ⟨gz, 0, none⟩ = some (.slice az n cz) := by rw [HW.out.cell (p := ⟨gz, 0, none⟩) (by show gz < g; have := HLT.out.1; have := HGG.out; omega)]; exact HC.out
      have hca : wr.cell? ⟨ga, 0, none⟩ = some (.func (.func 40) #[] #[.pointer (some ⟨gz, 0, none⟩)]) := by rw [HW.out.cell (p := ⟨ga, 0, none⟩) (by show ga < g; have := HLT.out.2; have := HGG.out; omega)]; exact HA.out
      have HQ := Lib.hid (lacks_any az n cz Z hz a1 (L.getD k (0, [])).2.length d1 gz ga wr (HS.out.below (Nat.le_of_eq HGG.out) HW.out) HN.out hn2 hcz hca)
      have hgw : g ≤ wr.heap.size := by have := HW.out.size; have := HGG.out; omega
      have HGW := Lib.hid hgw
      clear hcz hca hi1 hgw
      cases hob : hasB Z hz with
      | false =>
        rw [hob] at HQ
        have HX : Hid (L.any (fun s => !hasB Z s.1) = true) := List.any_eq_true.2 ⟨L.getD k (0, []), by rw [getS_at (by rw [HM.out]; exact hlt)]; exact List.getElem_mem _, by rw [hhz, hob]; rfl⟩
        clear hob hhz
        generalize (L.getD k (0, [])).2.length = n1 at *
        go_wp2_with (go_at_call 44; refine HQ.out.mono ?_; rintro e w' ⟨rfl, hb⟩)
        have HB := Lib.hid (HW.out.trans (hb.mono HGW.out))
        clear hb
        go_ret
        exact ⟨_, rfl, by rw [HX.out]; simp, HB.out⟩
      | true =>
        rw [hob] at HQ
        have HX : Hid (∀ j, j < k + 1 → hasB Z (L.getD j (0, [])).1 = true) := fun j hj => by
          by_cases e : j = k
          · subst e; rw [hhz]; exact hob
          · exact HX0.out j (by omega)
        clear hob hhz
        generalize (L.getD k (0, [])).2.length = n1 at *
        go_wp2_with (go_at_call 44; refine HQ.out.mono ?_; rintro e w' ⟨rfl, hb⟩)
        have HB := Lib.hid (HW.out.trans (hb.mono HGW.out))
        clear hb
        go_roundw
        case rel => exact ⟨k + 1, by omega, by go_num, HX, HB⟩
        case measure => simp [intOf]; omega
    · obtain rfl : k = m := by omega
      have HX : Hid (L.any (fun s => !hasB Z s.1) = false) := List.any_eq_false.2 fun s hs => by
        obtain ⟨j, hj, rfl⟩ := List.mem_iff_getElem.1 hs
        have := HX0.out j (by rw [← HM.out]; exact hj)
        rw [getS_at hj] at this
        rw [this]; simp
      go_wp2
      go_ret
      exact ⟨_, rfl, by rw [HX.out]; simp, HW.out⟩
theorem contains_lacks (al : Option Addr) (m cl : Nat) (L : List Shr) (az : Option Addr) (n cz : Nat) (Z : List Shr) (gz ga : Nat) (w : World) (hl : Shares w (.slice al m cl) L) (hm : L.length = m) (hm2 : m ≤ 1000) (hs : Shares w (.slice az n cz) Z) (hn : Z.length = n) (hn2 : n ≤ 1000) (hc : w.cell? ⟨gz, 0, none⟩ = some (.slice az n cz))
    (ha : w.cell? ⟨ga, 0, none⟩ = some (.func (.func 40) #[] #[.pointer (some ⟨gz, 0, none⟩)])) :
    Calls Tryd.prog 43 #[.slice al m cl, .func (.func 44) #[] #[.pointer (some ⟨ga, 0, none⟩)]] w fun e w' => e = .returned (.bool (L.any fun s => !hasB Z s.1)) ∧ Below w.heap.size w w' := by
  have HI := Lib.hid (index_lacks al m cl L az n cz Z gz ga w hl hm hm2 hs hn hn2 hc ha)
  obtain ⟨y, hy⟩ : ∃ y, (L.any fun s => !hasB Z s.1) = y := ⟨_, rfl⟩
  rw [hy] at HI ⊢
  clear hl hm hm2 hs hn hn2 hc ha hy
  go_enter Tryd.func43, Tryd.ntmps43
  go_wp2_with fail
  refine HI.out.mono ?_
  rintro e w' ⟨r, rfl, hr, hb⟩
  have HR := Lib.hid hr
  have HB := Lib.hid hb
  clear hr hb
  go_wp2
  go_ret
  exact ⟨congrArg (fun b => Ending.returned (Value.bool b)) HR.out, HB.out⟩

/-- Whether a number is not 0. -/
theorem nonzero_any (x : Int) (w : World) : Calls Tryd.prog 52 #[.int .i64 x] w fun e w' => e = .returned (.bool (x != 0)) ∧ w = w' := by
  obtain ⟨b, hb⟩ : ∃ b, (x != 0) = b := ⟨_, rfl⟩
  rw [hb]
  go_enter Tryd.func52, Tryd.ntmps52
  go_wp2
  go_ret
  exact ⟨rfl, rfl⟩
set_option maxRecDepth 100000 in
set_option maxHeartbeats 8000000 in
theorem index_nonzero (ax : Option Addr) (n cx : Nat) (xs : List Int) (w : World) (hsx : Ints w (.slice ax n cx) xs) (hnx : xs.length = n) (hn : n ≤ 140737488355328) :
    Calls Tryd.prog 69 #[.slice ax n cx, .func (.func 52) #[] #[]] w fun e w' => ∃ r, e = .returned (.int .i64 r) ∧ (decide (0 ≤ r) = xs.any (· != 0)) ∧ w = w' := by
  have HSX := Lib.hid hsx
  have HNX := Lib.hid hnx
  clear hsx hnx
  go_enter Tryd.func69, Tryd.ntmps69
  go_wp2_with fail
  go_loop [5, 8] (fun _ i => ∃ k : Nat, k ≤ n ∧ i = .int .i64 k ∧ Hid (∀ j, j < k → (xs.getD j 0 != 0) = false)) (fun _ i => n - (intOf i).toNat)
  case atStart => exact ⟨0, Nat.zero_le _, rfl, fun j hj => by omega⟩
  case round =>
    obtain ⟨k, hk, rfl, HA⟩ := hrel
    by_cases hlt : k < n
    · obtain ⟨bx, ox, rfl, cx0⟩ := HSX.out.pos hlt
      obtain ⟨x, hx⟩ : ∃ x, xs.getD k 0 = x := ⟨_, rfl⟩
      rw [hx] at cx0
      have HX := Lib.hid hx
      have HOU := Lib.hid (nonzero_any x w)
      clear hx
      cases hob : (x != 0) with
      | true =>
        rw [hob] at HOU
        have HAN : Hid (xs.any (· != 0) = true) := List.any_eq_true.2 ⟨x, by rw [← HX.out, getD_lt (by rw [HNX.out]; exact hlt)]; exact List.getElem_mem _, hob⟩
        clear hob
        go_wp2_with (go_at_call 52; refine HOU.out.mono ?_; rintro e w' ⟨rfl, rfl⟩)
        go_ret
        exact ⟨_, rfl, by rw [HAN.out]; simp, rfl⟩
      | false =>
        rw [hob] at HOU
        have HAN : Hid (∀ j, j < k + 1 → (xs.getD j 0 != 0) = false) := fun j hj => by
          by_cases e : j = k
          · subst e; rw [HX.out]; exact hob
          · exact HA.out j (by omega)
        clear hob
        go_wp2_with (go_at_call 52; refine HOU.out.mono ?_; rintro e w' ⟨rfl, rfl⟩)
        go_round
        case rel => exact ⟨k + 1, by omega, by go_num, HAN⟩
        case measure => simp [intOf]; omega
    · obtain rfl : k = n := by omega
      have HAN : Hid (xs.any (· != 0) = false) := List.any_eq_false.2 fun x hx => by
        obtain ⟨j, hj, rfl⟩ := List.mem_iff_getElem.1 hx
        have := HA.out j (by rw [← HNX.out]; exact hj)
        rw [getD_lt hj] at this
        rw [this]; simp
      go_wp2
      go_ret
      exact ⟨_, rfl, by rw [HAN.out]; simp, rfl⟩
theorem contains_nonzero (ax : Option Addr) (n cx : Nat) (xs : List Int) (w : World) (hsx : Ints w (.slice ax n cx) xs) (hnx : xs.length = n) (hn : n ≤ 140737488355328) :
    Calls Tryd.prog 51 #[.slice ax n cx, .func (.func 52) #[] #[]] w fun e w' => e = .returned (.bool (xs.any (· != 0))) ∧ w = w' := by
  have HI := Lib.hid (index_nonzero ax n cx xs w hsx hnx hn)
  obtain ⟨y, hy⟩ : ∃ y, xs.any (· != 0) = y := ⟨_, rfl⟩
  rw [hy] at HI ⊢
  clear hsx hnx hy
  go_enter Tryd.func51, Tryd.ntmps51
  go_wp2_with fail
  refine HI.out.mono ?_
  rintro e w' ⟨r, rfl, hr, rfl⟩
  have HR := Lib.hid hr
  clear hr
  go_wp2
  go_ret
  exact ⟨congrArg (fun b => Ending.returned (Value.bool b)) HR.out, rfl⟩
set_option maxRecDepth 100000 in
set_option maxHeartbeats 8000000 in
theorem refresh_ofAll (p k n : Int) (v : Value) (L : List Shr) (w : World) (hs : Shares w v L) :
    Calls Tryd.prog 48 #[planV p k n, v] w fun e w' => e = .returned (.bool (ofAllB n L)) ∧ Below w.heap.size w w' := by
  obtain ⟨a, c, rfl, hl, _⟩ := id hs
  obtain ⟨N, hN⟩ : ∃ N, L.length = N := ⟨_, rfl⟩
  rw [hN] at hs hl ⊢
  obtain ⟨g, hg⟩ : ∃ g, w.heap.size = g := ⟨_, rfl⟩
  have hb1 : Below g w (w.alloc (.cells #[.int .i64 p, .int .i64 k, .int .i64 n] 30)) := by rw [← hg]; exact (Below.refl _ _).alloc (Nat.le_refl _) _
  have HP : Hid (PlanAt (w.alloc (.cells #[.int .i64 p, .int .i64 k, .int .i64 n] 30)) g p k n) := by rw [← hg]; exact planAt_new w p k n _
  have hsz : (w.alloc (.cells #[.int .i64 p, .int .i64 k, .int .i64 n] 30)).heap.size = g + 1 := by rw [← hg]; simp
  have HS := Lib.hid hs
  have HN := Lib.hid hN
  have HB1 := Lib.hid hb1
  have HSZ := Lib.hid hsz
  have HGG := Lib.hid hg
  unfold planV
  rw [hg]
  clear hs hN hb1 hsz
  go_enter Tryd.func48, Tryd.ntmps48
  go_wp2_with fail
  generalize w.alloc (.cells #[.int .i64 p, .int .i64 k, .int .i64 n] 30) = w1 at *
  clear hg
  have HW0 : Hid (Below (g + 1) w1 w1) := Below.refl _ _
  go_loopw [5, 6, 9] (fun _ _ i wr => ∃ j : Nat, j ≤ N ∧ i = .int .i64 j ∧ Hid (∀ t, t < j → (L.getD t (0, [])).1 = ((t + 1 : Nat) : Int)) ∧ Hid (Below (g + 1) w1 wr)) (fun _ _ i _ => N - (intOf i).toNat)
  case atStart => exact ⟨0, Nat.zero_le _, rfl, fun t ht => by omega, HW0⟩
  case round =>
    obtain ⟨j, hj, rfl, HA, HW⟩ := hrel
    have HBW : Hid (Below g w wr) := HB1.out.trans (HW.out.mono (by omega))
    by_cases hlt : j < N
    · obtain ⟨b1, o1, v1, rfl, c0, c1, hi1⟩ := (HS.out.below (Nat.le_of_eq HGG.out) HBW.out).at hlt
      obtain ⟨a1, d1, rfl⟩ := hi1.shape
      obtain ⟨h, hh⟩ : ∃ h, (L.getD j (0, [])).1 = h := ⟨_, rfl⟩
      rw [hh] at c0
      have hw1 : IntKind.i64.wrap ((j : Int) + 1) = (j : Int) + 1 := by rw [IntKind.wrap_i64]; omega
      have hgw : g + 1 ≤ wr.heap.size := by have := HW.out.size; have := HSZ.out; omega
      have HBA : Hid (Below (g + 1) w1 (wr.alloc (.cells #[.int .i64 h, .slice a1 (L.getD j (0, [])).2.length d1] 36))) := HW.out.alloc hgw _
      by_cases he : h = (j : Int) + 1
      · have HX : Hid (∀ t, t < j + 1 → (L.getD t (0, [])).1 = ((t + 1 : Nat) : Int)) := fun t ht => by
          by_cases e : t = j
          · subst e; rw [hh, he]; push_cast; rfl
          · exact HA.out t (by omega)
        subst he
        clear hi1 hgw hh
        generalize (L.getD j (0, [])).2.length = n1 at *
        go_wp2_with fail
        go_roundw
        case rel => exact ⟨j + 1, by omega, by go_num, HX, HBA⟩
        case measure => simp [intOf]; omega
      · have HX : Hid (ofAllB n L = false) := by
          show _ = _
          unfold ofAllB
          rw [decide_eq_false (p := ∀ i, i < L.length → _) (fun h2 => he (by have := h2 j (by rw [HN.out]; exact hlt); rw [hh] at this; rw [this]; push_cast; rfl)), Bool.and_false]
        have hne : (h != (j : Int) + 1) = true := by simpa using he
        have HBF : Hid (Below g w (wr.alloc (.cells #[.int .i64 h, .slice a1 (L.getD j (0, [])).2.length d1] 36))) := HB1.out.trans (HBA.out.mono (by omega))
        clear hi1 hgw hh
        generalize (L.getD j (0, [])).2.length = n1 at *
        go_wp2_with fail
        go_ret
        exact ⟨congrArg (fun b => Ending.returned (Value.bool b)) HX.out.symm, HBF.out⟩
    · obtain rfl : j = N := by omega
      have HX : Hid (ofAllB n L = ((j : Int) == n)) := by
        show _ = _
        unfold ofAllB
        rw [decide_eq_true (p := ∀ i, i < L.length → _) (fun t ht => HA.out t (by rw [← HN.out]; exact ht)), Bool.and_true, HN.out]
        by_cases e : (j : Int) = n <;> simp [e]
      have hp := HP.out.below (Nat.lt_succ_self g) HW.out
      have c2 := hp.c2
      obtain ⟨b, hb⟩ : ∃ b, ((j : Int) == n) = b := ⟨_, rfl⟩
      have HY : Hid (ofAllB n L = b) := HX.out.trans hb
      clear hp
      go_wp2_with fail
      go_ret
      exact ⟨congrArg (fun b => Ending.returned (Value.bool b)) HY.out.symm, HBW.out⟩
end Go.Proofs.YtgdclefnfjbbdaaDoor
