
/- Contracts of poly.short, poly.inverseOf and poly.checkPlaces; a look-up in a map of bools that the call made. -/
import Derived.Test.YtpohhgbmdgjipaaDeg
import Derived.Test.YtpohhgbmdgjipaaPi
import Derived.Maps.OwnOps
import Derived.Maps.Views
namespace Go.Proofs.Ytpohhgbmdgjipaa
open Go.RowKit Go.Maps
open Num
set_option linter.unusedVariables false

theorem short_any (a : Option Addr) (cap : Nat) (zs : List Int) (w : World) (hI : Ints w (.slice a zs.length cap) zs) (hcap : dg zs ≤ cap) (hcap2 : cap ≤ 9223372036854775807) :
    Calls Try.prog 37 #[.slice a zs.length cap] w fun e W' => e = .returned (.slice a (dg zs) cap) ∧ Below w.heap.size w W' := by
  have hd := dg_le zs
  have hlen : zs.length ≤ 140737488355328 := by obtain ⟨_, _, _, h, _⟩ := hI; exact h
  obtain ⟨g, hg⟩ : ∃ g, dg zs = g := ⟨_, rfl⟩
  have hdeg := Lib.hid (degree_any _ zs w hI)
  rw [hg] at hcap hd hdeg ⊢
  have e1 : IntKind.i64.wrap ((g : Int) - 1 + 1) = (g : Int) := by rw [IntWalk.i64_in _ (by omega)]; omega
  have e2 : (g : Int) - 1 + 1 = (g : Int) := by omega
  clear hg hI
  go_enter Try.func37, Try.ntmps37
  go_wp2_with (go_at_call 18; refine hdeg.out.mono ?_; rintro e w1 ⟨rfl, hb1⟩)
  go_ret
  exact ⟨rfl, hb1⟩
theorem ints_take {w : World} {a : Option Addr} {cap : Nat} {zs : List Int} (k : Nat) (hk : k ≤ zs.length) (h : Ints w (.slice a zs.length cap) zs) : Ints w (.slice a k cap) (zs.take k) := by
  obtain ⟨a', c', hv, hl, hc⟩ := h
  simp only [Value.slice.injEq, true_and] at hv
  obtain ⟨rfl, rfl⟩ := hv
  have e : (zs.take k).length = k := by simp; omega
  refine ⟨a, cap, by rw [e], by rw [e]; omega, fun hne => ?_⟩
  obtain ⟨b, off, ha, hx⟩ := hc (fun e' => by subst e'; simp at hne)
  refine ⟨b, off, ha, fun i hi => ?_⟩
  rw [e] at hi
  have : (zs.take k).getD i 0 = zs.getD i 0 := by simp only [List.getD]; rw [List.getElem?_take_of_lt hi]
  rw [this]; exact hx i (by omega)
theorem ints_sh {w : World} {a : Option Addr} {cap : Nat} {zs : List Int} (h : Ints w (.slice a zs.length cap) zs) : Ints w (.slice a (dg zs) cap) (sh zs) := ints_take (dg zs) (dg_le zs) h

theorem inverseOf_any {p a : Int} (w : World) (hp : 2 ≤ p) (hp2 : p ≤ 1073741824) (ha : El p a) :
    Calls Try.prog 32 #[.int .i64 p, .int .i64 a] w fun e w' => e = .returned (.int .i64 (iv0 p a)) ∧ w = w' := by
  unfold iv0
  by_cases h0 : a = 0
  · subst h0
    rw [if_pos rfl]
    go_enter Try.func32, Try.ntmps32
    go_wp2_with (go_at_call 46; refine (inverse_none _ _ hp hp2).mono ?_; rintro e w' ⟨rfl, rfl⟩)
    go_ret
    exact ⟨rfl, rfl⟩
  · rw [if_neg h0]
    have h1 : 0 < a := by have := ha.1; omega
    have h2 := ha.2
    clear h0 ha
    go_enter Try.func32, Try.ntmps32
    go_wp2_with (go_at_call 46; refine (inverse_some _ _ _ hp hp2 h1 h2).mono ?_; rintro e w' ⟨rfl, rfl⟩)
    go_ret
    exact ⟨rfl, rfl⟩

/-! ### A map of bools -/
section
variable {H : Type} {P : Program}
theorem plainElem_bool_inv {e : TypeId} (he : P.underlying e = some .bool) {v : Value} {z : DataW H × List MemPlace} (h : plainElem P e v = some z) : ∃ x, v = .bool x ∧ z = (.lit (.bool x), []) := by
  unfold plainElem at h
  rw [he] at h
  cases v <;> simp at h
  subst h
  exact ⟨_, rfl, rfl⟩
theorem lookup_own_bool (w : World) {ops : Array Oper} {rest : List Oper} {o : Oper} {a : Act} {Q : Exit → Act → World → Prop}
    (hg : o.guard = none) (m x : Operand) (t : TypeId) (hop : o.op = Op.lookup t m x false)
    (k e : TypeId) (K : Keyed P k) (ht : P.underlying t = some (.map k e)) (he : P.underlying e = some .bool) (hz : (zeroValue e).run P w = .ok (.bool false) w) (b n : Nat) (D : DataW H)
    (hm : a.eval m = .map (some b)) (hown : w.ownsMap P k (plainElem P e) b n D) (key : Value) (kl : Lit) (hx : a.eval x = key) (hkey : keyOf P k key = some kl)
    (c : Bool) (hat : D.atKey kl (.lit (.bool false)) = .lit (.bool c)) (hK : wpList P ops Q rest (a.put o.dst (.bool c)) w) :
    wpList P ops Q (o :: rest) a w := by
  refine wpList_plain hg fun K' hK' => ?_
  obtain ⟨v, ps, hrun, hv⟩ := hown.lookup K ht hz (plainElem_bool he false) hkey
  obtain ⟨y, rfl, hy⟩ := plainElem_bool_inv he hv
  simp only [Prod.mk.injEq] at hy
  have : y = c := by have := hy.1.symm.trans hat; injection this with h; injection h
  subst this
  unfold Oper.wp
  simp [execOp, hop, hm, hx, hrun, Result.andThen]
  exact hK' _ _ hK
end
def keysOf (l : List Int) : List Lit := l.map (Lit.int .i64)
def seenOf {H : Type} (l : List Int) : DataW H := setOf (.lit (.bool true)) (keysOf l)
theorem seenOf_snoc {H : Type} (l : List Int) (x : Int) : (seenOf (l ++ [x]) : DataW H) = (seenOf l).put (.int .i64 x) (.lit (.bool true)) := by
  unfold seenOf keysOf; rw [List.map_append]; exact setOf_snoc _ _ _
theorem seenOf_isMap {H : Type} (l : List Int) : IsMap (seenOf l : DataW H) := by
  refine (tidy_setOf _ _ fun x hx => ?_).isMap
  obtain ⟨n, _, rfl⟩ := List.mem_map.1 hx
  simp [WideAt.IsKeyLit]
theorem seenOf_at {H : Type} (x : Int) : ∀ (n : Nat) (l : List Int), l.length = n → (seenOf l : DataW H).atKey (.int .i64 x) (.lit (.bool false)) = .lit (.bool (l.contains x))
  | 0, l, h => by obtain rfl := List.length_eq_zero_iff.1 h; rfl
  | n + 1, l, h => by
    rcases List.eq_nil_or_concat l with rfl | ⟨l', y, rfl⟩
    · simp at h
    · rw [List.concat_eq_append] at h ⊢
      rw [seenOf_snoc]
      by_cases e : x = y
      · subst e
        rw [atKey_put_same (seenOf_isMap l') (by simp [WideAt.IsKeyLit])]
        simp
      · rw [atKey_put_other (fun h => e (by injection h)), seenOf_at x n l' (by simpa using h)]
        simp [e]

/-- Whether a place occurs before it. -/
def dupB (xs : List Int) : Bool := (List.range xs.length).any fun k => (xs.take k).contains (xs.getD k 0)
theorem dupB_true {xs : List Int} {k : Nat} (hk : k < xs.length) (h : (xs.take k).contains (xs.getD k 0) = true) : dupB xs = true :=
  List.any_eq_true.2 ⟨k, List.mem_range.2 hk, h⟩
theorem dupB_false {xs : List Int} (h : ∀ k, k < xs.length → (xs.take k).contains (xs.getD k 0) = false) : dupB xs = false := by
  unfold dupB
  rw [List.any_eq_false]
  intro k hk
  rw [h k (List.mem_range.1 hk)]; simp
theorem nodup_of {xs : List Int} (h : dupB xs = false) : xs.Nodup := by
  rw [List.Nodup, List.pairwise_iff_getElem]
  intro i j hi hj hij e
  have h1 : (xs.take j).contains (xs.getD j 0) = true := by
    rw [List.contains_iff_mem, getD_lt hj, ← e]
    exact List.mem_take_iff_getElem.2 ⟨i, by omega, rfl⟩
  rw [dupB_true hj h1] at h; cases h
theorem dup_of_nodup {xs : List Int} (h : xs.Nodup) : dupB xs = false := by
  refine dupB_false fun k hk => ?_
  cases hc : (xs.take k).contains (xs.getD k 0) with
  | false => rfl
  | true =>
    exfalso
    rw [List.contains_iff_mem, getD_lt hk] at hc
    obtain ⟨i, hi, e⟩ := List.mem_take_iff_getElem.1 hc
    rw [List.Nodup, List.pairwise_iff_getElem] at h
    exact h i k (by omega) hk (by omega) e
def plc (xs : List Int) : Int := if xs = [] then 1 else if dupB xs = true then 6 else 0
theorem plc_nil : plc [] = 1 := rfl
theorem plc_dup {xs : List Int} (h0 : xs ≠ []) (h : dupB xs = true) : plc xs = 6 := by unfold plc; rw [if_neg h0, if_pos h]
theorem plc_ok {xs : List Int} (h0 : xs ≠ []) (h : dupB xs = false) : plc xs = 0 := by unfold plc; rw [if_neg h0, if_neg (by rw [h]; simp)]

theorem makeMap_hint (n : Int) (w : World) : (Instr.makeMap 60 (some (.int .i64 n))).run Try.prog w = .ok (.map (some w.heap.size)) (w.alloc (.map #[] 0)) := by
  simp [Instr.makeMap, run_underlying Try.underlying60, Result.andThen]
  rfl
theorem keyedInt : Keyed Try.prog 3 := int_keyed Try.underlying3
theorem zeroBool (w : World) : (zeroValue 4).run Try.prog w = .ok (.bool false) w := by kernel_rfl

set_option maxRecDepth 100000 in
set_option maxHeartbeats 1000000 in
theorem checkPlaces_some (a : Option Addr) (cap : Nat) (xs : List Int) (w : World) (hI : Ints w (.slice a xs.length cap) xs) (hw : ∀ x ∈ xs, (Lit.int .i64 x).wf = true) (h0 : 0 < xs.length) :
    Calls Try.prog 42 #[.slice a xs.length cap] w fun e W' => e = .returned (.int .i64 (plc xs)) ∧ Below w.heap.size w W' := by
  have hne : xs ≠ [] := fun e => by subst e; simp at h0
  obtain ⟨a', c', hv, hlen, hc⟩ := hI
  simp only [Value.slice.injEq, true_and] at hv
  obtain ⟨rfl, rfl⟩ := hv
  obtain ⟨b, off, rfl, hcell⟩ := hc hne
  have hb : b < w.heap.size := cell_lt (hcell 0 h0)
  clear hc
  have hmm := makeMap_hint
  obtain ⟨len, hL⟩ : ∃ len, xs.length = len := ⟨_, rfl⟩
  have HC : Hid (∀ i, i < len → w.cell? ⟨b, off + i, none⟩ = some (.int .i64 (xs.getD i 0))) := by rw [← hL]; exact hcell
  have HW := Lib.hid hw
  have HN := Lib.hid hne
  rw [hL] at h0 hlen ⊢
  have HL := Lib.hid hL
  have hn0 : ((len : Int) == 0) = false := by simp; omega
  clear hcell hw hL hne
  go_enter Try.func42, Try.ntmps42
  go_wp2
  go_loopw [5, 14] (fun _ i wr => ∃ k : Nat, k ≤ len ∧ i = .int .i64 k ∧ Hid (∀ j, j < k → (xs.take j).contains (xs.getD j 0) = false) ∧ Hid (wr.ownsMap Try.prog 3 (plainElem (H := Unit) Try.prog 4) w.heap.size k (seenOf (xs.take k))) ∧ Below w.heap.size w wr) (fun _ i _ => len - (intOf i).toNat)
  case atStart => exact ⟨0, Nat.zero_le _, rfl, fun j hj => by omega, World.ownsMap_made _ _ _ _, (Below.refl _ _).alloc (Nat.le_refl _) _⟩
  case round =>
    obtain ⟨k, hk, rfl, hd, hown, hnx⟩ := hrel
    have HX := Lib.hid hnx
    clear hnx
    by_cases hlt : k < len
    · have hcx : wr.cell? ⟨b, off + k, none⟩ = some (.int .i64 (xs.getD k 0)) := (HX.out.cell (p := ⟨b, off + k, none⟩) hb).trans (HC.out k hlt)
      have hkl : k < xs.length := by rw [HL.out]; exact hlt
      have hwx := HW.out (xs.getD k 0) (by rw [getD_lt hkl]; exact List.getElem_mem _)
      have hkey : keyOf Try.prog 3 (.int .i64 (xs.getD k 0)) = some (.int .i64 (xs.getD k 0)) := keyOf_int_mk Try.underlying3 hwx
      have hat := seenOf_at (H := Unit) (xs.getD k 0) _ (xs.take k) rfl
      have hsn := seenOf_snoc (H := Unit) (xs.take k) (xs.getD k 0)
      have htk : xs.take k ++ [xs.getD k 0] = xs.take (k + 1) := by rw [getD_lt hkl, List.take_succ_eq_append_getElem hkl]
      rw [htk] at hsn
      have HSN := Lib.hid hsn
      have HAT := Lib.hid hat
      have HKEY := Lib.hid hkey
      have HDT := Lib.hid (dupB_true hkl)
      have HDN : Hid ((xs.take k).contains (xs.getD k 0) = false → ∀ j, j < k + 1 → (xs.take j).contains (xs.getD j 0) = false) := fun h j hj => by
        by_cases e : j = k
        · subst e; exact h
        · exact hd.out j (by omega)
      clear hsn hat hkey hwx htk hkl hd
      generalize xs.getD k 0 = x at *
      cases hct : (xs.take k).contains x with
      | true =>
        have HP := Lib.hid (plc_dup HN.out (HDT.out hct))
        rw [hct] at HAT
        clear hct
        go_wp2_with (at_lookup; refine lookup_own_bool _ rfl _ _ 60 rfl 3 4 keyedInt Try.underlying60 Try.underlying4 (zeroBool _) w.heap.size k _ rfl hown.out _ _ rfl HKEY.out true HAT.out ?_)
        go_ret
        exact ⟨ret_int HP.out.symm, HX.out⟩
      | false =>
        have HD := Lib.hid (HDN.out hct)
        rw [hct] at HAT
        clear hct
        go_wp2_with (first
          | (at_lookup; refine lookup_own_bool _ rfl _ _ 60 rfl 3 4 keyedInt Try.underlying60 Try.underlying4 (zeroBool _) w.heap.size k _ rfl hown.out _ _ rfl HKEY.out false HAT.out ?_)
          | (at_mapUpdate; refine wpList_mapUpdate_own _ rfl _ _ _ 60 rfl 3 4 keyedInt Try.underlying60 _ w.heap.size k _ rfl hown.out (by unfold maxLen; omega) _ _ _ rfl rfl HKEY.out _ [] (plainElem_bool Try.underlying4 true) ?_; intro w1 hown1 hgrow1))
        rw [← HSN.out] at hown1
        have HO := Lib.hid hown1
        have HB := Lib.hid (HX.out.grown hgrow1 HX.out.size (fun j hj => by cases hj; exact Nat.le_refl _))
        clear hown1 hgrow1
        go_wp2
        go_roundw
        case rel => exact ⟨k + 1, by omega, by go_num, HD, HO, HB.out⟩
        case measure => simp [intOf]; omega
    · obtain rfl : k = len := by omega
      have HP := Lib.hid (plc_ok HN.out (dupB_false (xs := xs) fun j hj => hd.out j (by rw [HL.out] at hj; exact hj)))
      go_wp2
      go_ret
      exact ⟨ret_int HP.out.symm, HX.out⟩
theorem checkPlaces_any (s : Value) (xs : List Int) (w : World) (hI : Ints w s xs) (hw : ∀ x ∈ xs, (Lit.int .i64 x).wf = true) :
    Calls Try.prog 42 #[s] w fun e W' => e = .returned (.int .i64 (plc xs)) ∧ Below w.heap.size w W' := by
  obtain ⟨a, c, rfl, _, _⟩ := id hI
  by_cases h0 : 0 < xs.length
  · exact checkPlaces_some a c xs w hI hw h0
  · obtain rfl : xs = [] := List.length_eq_zero_iff.1 (by omega)
    rw [plc_nil]
    clear hI hw h0
    go_enter Try.func42, Try.ntmps42
    go_wp2
    go_ret
    exact ⟨rfl, Below.refl _ _⟩
end Go.Proofs.Ytpohhgbmdgjipaa
