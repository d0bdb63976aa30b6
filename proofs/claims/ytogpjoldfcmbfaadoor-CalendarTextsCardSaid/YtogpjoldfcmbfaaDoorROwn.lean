
/- Slices of bytes of the call's own that grow, whatever mark their row bears. -/
import Derived.Test.YtogpjoldfcmbfaaDoorSApp
namespace Go.Proofs.YtogpjoldfcmbfaaDoor
open Go.RowKit
set_option linter.unusedVariables false

theorem u8Info : ∃ i : TypeInfo, Tryd.prog.info? 5 = some i ∧ i.size = 1 ∧ i.bytes = 1 ∧ i.zero = some (.int .u8 0) := by
  obtain ⟨i, hi, hzz⟩ := Option.map_eq_some_iff.1 infoU8
  simp only [Prod.mk.injEq] at hzz
  exact ⟨i, hi, hzz.2.1, hzz.2.2, hzz.1⟩

/-- The slice v holds the bytes l, in a block from 'base' on. -/
def OwnB (w : World) (base : Nat) (v : Value) (l : List UInt8) : Prop :=
  (v = .slice none 0 0 ∧ l = []) ∨ ∃ g cap cur fr, v = .slice (some ⟨g, 0, none⟩) l.length cap ∧ base ≤ g ∧ w.heap[g]? = some (.cells cur 5 fr) ∧ (fr = (0, 0) ∨ cur.size ≤ fr.1) ∧ l.length ≤ cap ∧ cap ≤ maxLen ∧ cur.size = cap ∧
    ∀ j, j < l.length → cur[j]? = some (.int .u8 (Sha.bt l j))
theorem OwnB.below {w w' : World} {base N : Nat} {v : Value} {l : List UInt8} (h : OwnB w base v l) (hN : w.heap.size ≤ N) (b : Below N w w') : OwnB w' base v l := by
  rcases h with h | ⟨g, cap, cur, fr, h1, h2, h3, h4⟩
  · exact .inl h
  · have hg := (Array.getElem?_eq_some_iff.1 h3).1
    exact .inr ⟨g, cap, cur, fr, h1, h2, by rw [b.block g (by omega)]; exact h3, h4⟩
theorem OwnB.cell {w : World} {base g len cap : Nat} {l : List UInt8} (h : OwnB w base (.slice (some ⟨g, 0, none⟩) len cap) l) {j : Nat} (hj : j < l.length) : w.cell? ⟨g, j, none⟩ = some (.int .u8 (Sha.bt l j)) := by
  rcases h with ⟨h, _⟩ | ⟨g', cap', cur, fr, h1, _, h3, _, _, _, _, h8⟩
  · cases h
  · simp only [Value.slice.injEq, Option.some.injEq, Addr.mk.injEq] at h1
    obtain ⟨⟨rfl, _⟩, _⟩ := h1
    simp [World.cell?, h3, h8 j hj]
theorem setCells_heap {g : Nat} {t : TypeId} {fr : Nat × Nat} : ∀ (vs : List Value) (o : Nat) (w : World) (cur : Array Value), w.heap[g]? = some (.cells cur t fr) →
    ∃ c', (w.setCells g o vs).heap[g]? = some (.cells c' t fr) ∧ c'.size = cur.size ∧ ∀ j, j < cur.size → c'[j]? = if o ≤ j ∧ j < o + vs.length then vs[j - o]? else cur[j]?
  | [], o, w, cur, h => ⟨cur, h, rfl, fun j hj => by rw [if_neg (by simp)]⟩
  | v :: r, o, w, cur, h => by
    have h1 : (w.setCell ⟨g, o, none⟩ v).heap[g]? = some (.cells (cur.setIfInBounds o v) t fr) := by simp [World.setCell, Array.getElem?_modify, h]
    obtain ⟨c', h2, h3, h4⟩ := setCells_heap r (o + 1) _ _ h1
    refine ⟨c', h2, by rw [h3]; simp, fun j hj => ?_⟩
    rw [h4 j (by simpa using hj)]
    by_cases e : j = o
    · subst e
      rw [if_neg (by omega), if_pos (by simp), Nat.sub_self]
      simp [hj]
    · by_cases h5 : o + 1 ≤ j ∧ j < o + 1 + r.length
      · rw [if_pos h5, if_pos (by simp; omega), show j - o = (j - (o + 1)) + 1 by omega, List.getElem?_cons_succ]
      · rw [if_neg h5, if_neg (by simp; omega)]
        have e' : ¬ o = j := fun h => e h.symm
        simp [e']
theorem bt_app (l x : List UInt8) (j : Nat) : Sha.bt (l ++ x) j = if j < l.length then Sha.bt l j else Sha.bt x (j - l.length) := by
  unfold Sha.bt
  by_cases h : j < l.length
  · rw [if_pos h]; simp only [List.getD, List.getElem?_append_left h]
  · rw [if_neg h]; simp only [List.getD, List.getElem?_append_right (show l.length ≤ j by omega)]
theorem map_bt (x : List UInt8) (j : Nat) (hj : j < x.length) : (x.map fun b => Value.int .u8 (b.toNat : Int))[j]? = some (.int .u8 (Sha.bt x j)) := by
  unfold Sha.bt
  simp [List.getD, hj]

/-- Bytes appended to such a slice. -/
theorem append_own {w : World} {base : Nat} {v : Value} {l : List UInt8} (h : OwnB w base v l) (hbase : base ≤ w.heap.size) (x : Value) (tx : TypeId) (bs : List UInt8) (k : Nat) (hk : bs.length = k)
    (hsrc : Src Tryd.prog 1 tx x k (bs.map fun b => Value.int .u8 (b.toNat : Int)) w) (hb : l.length + k ≤ 1000000000000) (ty : TypeId) :
    ∃ v' W', (Builtin.append_ #[44, tx] ty #[v, x]).run Tryd.prog w = .ok v' W' ∧ OwnB W' base v' (l ++ bs) ∧ Below base w W' := by
  subst hk
  obtain ⟨i, hi, hs1, hb1, hz⟩ := u8Info
  have hsrc' := hsrc
  rw [← hs1] at hsrc'
  have grown : ∀ (old : Nat) (olds : List Value), olds = (l.map fun b => Value.int .u8 (b.toNat : Int)) → old < l.length + bs.length →
      OwnB (w.drew.alloc (.cells ((olds ++ (bs.map fun b => Value.int .u8 (b.toNat : Int))).toArray ++ Builtin.zeroCells (Value.int .u8 0).cells (grownCap w (l.length + bs.length) old 5 - (l.length + bs.length))) 5)) base
        (.slice (some ⟨w.heap.size, 0, none⟩) (l.length + bs.length) (grownCap w (l.length + bs.length) old 5)) (l ++ bs) := by
    intro old olds ho hold
    subst ho
    have hge := grownCap_ge w (l.length + bs.length) old 5
    have hcm : grownCap w (l.length + bs.length) old 5 ≤ maxLen := grownCap_le_maxLen w (l.length + bs.length) old 5 (by unfold maxLen; omega)
    refine .inr ⟨w.heap.size, _, _, (0, 0), by rw [List.length_append], hbase, heap_alloc_new w.drew _, .inl rfl, by rw [List.length_append]; exact hge, hcm, ?_, fun j hj => ?_⟩
    · have hz1 : (Value.int .u8 0).cells.size = 1 := rfl
      simp only [Array.size_append, List.size_toArray, size_zeroCells, List.length_append, List.length_map, hz1]
      omega
    · rw [List.length_append] at hj
      rw [Array.getElem?_append_left (by simp; omega), List.getElem?_toArray, bt_app]
      by_cases h1 : j < l.length
      · rw [List.getElem?_append_left (by simpa using h1), if_pos h1, map_bt l j h1]
      · rw [List.getElem?_append_right (by simp; omega), if_neg h1, List.length_map, map_bt bs _ (by omega)]
  have gbelow : ∀ o, Below base w (w.drew.alloc o) := fun o => ((Below.refl base w).drew).alloc hbase o
  rcases h with ⟨rfl, rfl⟩ | ⟨g, cap, cur, fr, rfl, hbg, hg, hfr, hlc, hcm, hcs, hcell⟩
  · by_cases h0 : bs.length = 0
    · have hbs : bs = [] := List.eq_nil_of_length_eq_zero h0
      subst hbs
      refine ⟨.slice none 0 0, w, ?_, .inl ⟨rfl, rfl⟩, Below.refl _ _⟩
      have hlen0 := hsrc'.len w
      have hc0 := hsrc'.cells
      rcases hsrc'.kind with ⟨e', hk⟩ | hk <;> simp [Builtin.append_, run_underlying Tryd.underlying44, run_underlying hk, sizeOf, typeInfo, hi, hlen0] <;> simp at hc0 <;> simp [hc0]
    · have hr := run_append_grow_src (P := Tryd.prog) w 44 tx ty 5 i (.int .u8 0) Tryd.underlying44 hi hz none 0 0 [] (run_firstCells_none w.drew i.size 0 0 0) x bs.length _ hsrc' (by omega) (by simp at hb; omega)
        (by rw [hb1]; simp only [Nat.zero_add]; simp at hb; have := growslice_fits (need := bs.length) (old := 0) (bytes := 1) (by omega) (by omega); exact this)
      have hgr := grown 0 [] (by simp) (by simp; omega)
      simp only [List.length_nil, Nat.zero_add, List.nil_append] at hgr hr ⊢
      exact ⟨_, _, hr, hgr, gbelow _⟩
  · by_cases hroom : l.length + bs.length ≤ cap
    · have hr := run_append_room_src (P := Tryd.prog) w 44 tx ty 5 i Tryd.underlying44 hi g 0 l.length cap x bs.length _ hsrc' hroom
        (fun j hj => by
          simp only [List.length_map] at hj
          have hlt : 0 + l.length * i.size + j < cur.size := by rw [hs1]; omega
          have hsome := Array.getElem?_eq_getElem hlt
          show (match w.heap[g]? with | some (.cells c _ _) => c[0 + l.length * i.size + j]? | _ => none).isSome = true
          rw [hg]
          show (cur[0 + l.length * i.size + j]?).isSome = true
          rw [hsome]; rfl)
        (fun j hj => by
          simp only [List.length_map] at hj
          have hlt : 0 + l.length * i.size + j < cur.size := by rw [hs1]; omega
          simp only [World.frozen?, hg]
          rcases hfr with rfl | hf
          · simp
          · obtain ⟨lo, hi'⟩ := fr
            simp only at hf ⊢
            have : ¬ lo ≤ 0 + l.length * i.size + j := by omega
            rw [decide_eq_false this]; rfl)
      rw [hs1, Nat.zero_add, Nat.mul_one] at hr
      obtain ⟨c', h1, h2, h3⟩ := setCells_heap (bs.map fun b => Value.int .u8 (b.toNat : Int)) l.length w cur hg
      refine ⟨_, _, hr, .inr ⟨g, cap, c', fr, by rw [List.length_append], hbg, h1, by rw [h2]; exact hfr, by rw [List.length_append]; exact hroom, hcm, by rw [h2]; exact hcs, fun j hj => ?_⟩, ?_⟩
      · rw [List.length_append] at hj
        rw [h3 j (by omega), bt_app]
        by_cases h4 : j < l.length
        · rw [if_neg (by omega), if_pos h4, hcell j h4]
        · rw [if_pos (by simp; omega), if_neg h4, map_bt bs _ (by omega)]
      · exact Go.below_setCells hbg _ _ w (Below.refl _ _)
    · have hold : (Builtin.firstCells i.size l.length (.slice (some ⟨g, 0, none⟩) l.length cap)).run Tryd.prog w.drew = .ok (l.map fun b => Value.int .u8 (b.toNat : Int)).toArray w.drew :=
        run_firstCells_some w.drew i.size l.length ⟨g, 0, none⟩ l.length cap _ (by simp [hs1]) (fun j u hj => by
          have hjl : j < l.length := by
            have := (List.getElem?_eq_some_iff.1 hj).1
            simpa using this
          have ha : (⟨g, 0, none⟩ : Addr).add j = ⟨g, j, none⟩ := by unfold Addr.add; split <;> simp_all
          rw [map_bt l j hjl] at hj
          rw [ha, ← hj]
          show (match w.heap[g]? with | some (.cells c _ _) => c[j]? | _ => none) = _
          rw [hg]
          exact hcell j hjl)
      have hr := run_append_grow_src (P := Tryd.prog) w 44 tx ty 5 i (.int .u8 0) Tryd.underlying44 hi hz (some ⟨g, 0, none⟩) l.length cap _ hold x bs.length _ hsrc' (by omega) (by omega)
        (by rw [hb1]; exact growslice_fits (by omega) (by omega))
      have hgr := grown cap _ rfl (by omega)
      exact ⟨_, _, hr, hgr, gbelow _⟩
theorem src_slice {w : World} {g k c2 : Nat} {bs : List UInt8} (hk : bs.length = k) (hcell : ∀ j, j < k → w.cell? ⟨g, j, none⟩ = some (.int .u8 (Sha.bt bs j))) :
    Src Tryd.prog 1 44 (.slice (some ⟨g, 0, none⟩) k c2) k (bs.map fun b => Value.int .u8 (b.toNat : Int)) w :=
  Src.ofSlice (P := Tryd.prog) (e' := 5) w Tryd.underlying44 ⟨g, 0, none⟩ k c2 _ (by simp [hk]) (fun j u hj => by
    have hjk : j < bs.length := by
      have := (List.getElem?_eq_some_iff.1 hj).1
      simpa using this
    have ha : (⟨g, 0, none⟩ : Addr).add j = ⟨g, j, none⟩ := by unfold Addr.add; split <;> simp_all
    rw [map_bt bs j hjk] at hj
    rw [ha, hcell j (by omega), hj]) (fun u hu => by
    obtain ⟨_, _, rfl⟩ := List.mem_map.1 hu
    rfl)
theorem string_own {w : World} {base : Nat} {v : Value} {l : List UInt8} (h : OwnB w base v l) : (convert 44 9 v).run Tryd.prog w = .ok (.string ⟨l.toArray⟩) w := by
  rcases id h with ⟨rfl, rfl⟩ | ⟨g, cap, cur, fr, rfl, _⟩
  · exact run_convert_bytes_nil (P := Tryd.prog) w 44 5 Tryd.underlying44 Tryd.underlying5 0 0 9 Tryd.underlying9
  · refine run_convert_bytes_back (P := Tryd.prog) w 44 9 5 ⟨g, 0, none⟩ cap l Tryd.underlying44 Tryd.underlying5 Tryd.underlying9 (fun j hj => ?_)
    have ha : (⟨g, 0, none⟩ : Addr).add j = ⟨g, j, none⟩ := by unfold Addr.add; split <;> simp_all
    rw [ha, h.cell hj]
    unfold Sha.bt
    simp [List.getD, hj]
end Go.Proofs.YtogpjoldfcmbfaaDoor
