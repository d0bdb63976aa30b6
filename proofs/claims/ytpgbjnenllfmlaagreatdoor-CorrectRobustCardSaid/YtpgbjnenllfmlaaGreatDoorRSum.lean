
/- Slices of bytes of the call's own that grow, whatever mark their row bears. -/
import Derived.Test.YtpgbjnenllfmlaaGreatDoorSSum
import Derived.Test.YtpgbjnenllfmlaaGreatDoorSMix
import Derived.Deep.WholeRow
import Derived.Laws.Tables
import Derived.Lib.BufferWrite
/-! Slices of bytes of the call's own that grow, whatever mark their row bears. -/
/-! Slices of bytes of the call's own that grow, whatever mark their row bears. -/
namespace Go.Proofs.YtpgbjnenllfmlaaGreatDoor
open Go.RowKit
set_option linter.unusedVariables false

theorem u8Info : ∃ i : TypeInfo, Tryz.prog.info? 5 = some i ∧ i.size = 1 ∧ i.bytes = 1 ∧ i.zero = some (.int .u8 0) := by
  obtain ⟨i, hi, hzz⟩ := Option.map_eq_some_iff.1 infoU8
  simp only [Prod.mk.injEq] at hzz
  exact ⟨i, hi, hzz.2.1, hzz.2.2, hzz.1⟩

/-- The slice v holds the bytes l, in a block from 'base' on. -/
def OwnB (w : World) (base : Nat) (v : Value) (l : List UInt8) : Prop :=
  (v = .slice none 0 0 ∧ l = []) ∨ ∃ g cap cur fr, v = .slice (some ⟨g, 0, none⟩) l.length cap ∧ base ≤ g ∧ w.heap[g]? = some (.cells cur 5 fr) ∧ (fr = (0, 0) ∨ cur.size ≤ fr.1) ∧ l.length ≤ cap ∧ cap ≤ maxLen ∧ cur.size = cap ∧
    ∀ j, j < l.length → cur[j]? = some (.int .u8 (Sha.bt l j))
theorem OwnB.below {w w' : World} {base N : Nat} {v : Value} {l : List UInt8} (h : OwnB w base v l) (hN : w.heap.size ≤ N) (b : Below N w w') : OwnB w' base v l := by
  rcases h with h | ⟨g, cap, cur, fr, h1, h2, h3, h4⟩
  · exact .inl h
  · have hg := (Array.getElem?_eq_some_iff.1 h3).1
    exact .inr ⟨g, cap, cur, fr, h1, h2, by rw [b.block g (by omega)]; exact h3, h4⟩
theorem OwnB.cell {w : World} {base g len cap : Nat} {l : List UInt8} (h : OwnB w base (.slice (some ⟨g, 0, none⟩) len cap) l) {j : Nat} (hj : j < l.length) : w.cell? ⟨g, j, none⟩ = some (.int .u8 (Sha.bt l j)) := by
  rcases h with ⟨h, _⟩ | ⟨g', cap', cur, fr, h1, _, h3, _, _, _, _, h8⟩
  · cases h
  · simp only [Value.slice.injEq, Option.some.injEq, Addr.mk.injEq] at h1
    obtain ⟨⟨rfl, _⟩, _⟩ := h1
    simp [World.cell?, h3, h8 j hj]
theorem setCells_heap {g : Nat} {t : TypeId} {fr : Nat × Nat} : ∀ (vs : List Value) (o : Nat) (w : World) (cur : Array Value), w.heap[g]? = some (.cells cur t fr) →
    ∃ c', (w.setCells g o vs).heap[g]? = some (.cells c' t fr) ∧ c'.size = cur.size ∧ ∀ j, j < cur.size → c'[j]? = if o ≤ j ∧ j < o + vs.length then vs[j - o]? else cur[j]?
  | [], o, w, cur, h => ⟨cur, h, rfl, fun j hj => by rw [if_neg (by simp)]⟩
  | v :: r, o, w, cur, h => by
    have h1 : (w.setCell ⟨g, o, none⟩ v).heap[g]? = some (.cells (cur.setIfInBounds o v) t fr) := by simp [World.setCell, Array.getElem?_modify, h]
    obtain ⟨c', h2, h3, h4⟩ := setCells_heap r (o + 1) _ _ h1
    refine ⟨c', h2, by rw [h3]; simp, fun j hj => ?_⟩
    rw [h4 j (by simpa using hj)]
    by_cases e : j = o
    · subst e
      rw [if_neg (by omega), if_pos (by simp), Nat.sub_self]
      simp [hj]
    · by_cases h5 : o + 1 ≤ j ∧ j < o + 1 + r.length
      · rw [if_pos h5, if_pos (by simp; omega), show j - o = (j - (o + 1)) + 1 by omega, List.getElem?_cons_succ]
      · rw [if_neg h5, if_neg (by simp; omega)]
        have e' : ¬ o = j := fun h => e h.symm
        simp [e']
theorem bt_app (l x : List UInt8) (j : Nat) : Sha.bt (l ++ x) j = if j < l.length then Sha.bt l j else Sha.bt x (j - l.length) := by
  unfold Sha.bt
  by_cases h : j < l.length
  · rw [if_pos h]; simp only [List.getD, List.getElem?_append_left h]
  · rw [if_neg h]; simp only [List.getD, List.getElem?_append_right (show l.length ≤ j by omega)]
theorem map_bt (x : List UInt8) (j : Nat) (hj : j < x.length) : (x.map fun b => Value.int .u8 (b.toNat : Int))[j]? = some (.int .u8 (Sha.bt x j)) := by
  unfold Sha.bt
  simp [List.getD, hj]

/-- Bytes appended to such a slice. -/
theorem append_own {w : World} {base : Nat} {v : Value} {l : List UInt8} (h : OwnB w base v l) (hbase : base ≤ w.heap.size) (x : Value) (tx : TypeId) (bs : List UInt8) (k : Nat) (hk : bs.length = k)
    (hsrc : Src Tryz.prog 1 tx x k (bs.map fun b => Value.int .u8 (b.toNat : Int)) w) (hb : l.length + k ≤ 1000000000000) (ty : TypeId) :
    ∃ v' W', (Builtin.append_ #[88, tx] ty #[v, x]).run Tryz.prog w = .ok v' W' ∧ OwnB W' base v' (l ++ bs) ∧ Below base w W' := by
  subst hk
  obtain ⟨i, hi, hs1, hb1, hz⟩ := u8Info
  have hsrc' := hsrc
  rw [← hs1] at hsrc'
  have grown : ∀ (old : Nat) (olds : List Value), olds = (l.map fun b => Value.int .u8 (b.toNat : Int)) → old < l.length + bs.length →
      OwnB (w.drew.alloc (.cells ((olds ++ (bs.map fun b => Value.int .u8 (b.toNat : Int))).toArray ++ Builtin.zeroCells (Value.int .u8 0).cells (grownCap w (l.length + bs.length) old 5 - (l.length + bs.length))) 5)) base
        (.slice (some ⟨w.heap.size, 0, none⟩) (l.length + bs.length) (grownCap w (l.length + bs.length) old 5)) (l ++ bs) := by
    intro old olds ho hold
    subst ho
    have hge := grownCap_ge w (l.length + bs.length) old 5
    have hcm : grownCap w (l.length + bs.length) old 5 ≤ maxLen := grownCap_le_maxLen w (l.length + bs.length) old 5 (by unfold maxLen; omega)
    refine .inr ⟨w.heap.size, _, _, (0, 0), by rw [List.length_append], hbase, heap_alloc_new w.drew _, .inl rfl, by rw [List.length_append]; exact hge, hcm, ?_, fun j hj => ?_⟩
    · have hz1 : (Value.int .u8 0).cells.size = 1 := rfl
      simp only [Array.size_append, List.size_toArray, size_zeroCells, List.length_append, List.length_map, hz1]
      omega
    · rw [List.length_append] at hj
      rw [Array.getElem?_append_left (by simp; omega), List.getElem?_toArray, bt_app]
      by_cases h1 : j < l.length
      · rw [List.getElem?_append_left (by simpa using h1), if_pos h1, map_bt l j h1]
      · rw [List.getElem?_append_right (by simp; omega), if_neg h1, List.length_map, map_bt bs _ (by omega)]
  have gbelow : ∀ o, Below base w (w.drew.alloc o) := fun o => ((Below.refl base w).drew).alloc hbase o
  rcases h with ⟨rfl, rfl⟩ | ⟨g, cap, cur, fr, rfl, hbg, hg, hfr, hlc, hcm, hcs, hcell⟩
  · by_cases h0 : bs.length = 0
    · have hbs : bs = [] := List.eq_nil_of_length_eq_zero h0
      subst hbs
      refine ⟨.slice none 0 0, w, ?_, .inl ⟨rfl, rfl⟩, Below.refl _ _⟩
      have hlen0 := hsrc'.len w
      have hc0 := hsrc'.cells
      rcases hsrc'.kind with ⟨e', hk⟩ | hk <;> simp [Builtin.append_, run_underlying Tryz.underlying88, run_underlying hk, sizeOf, typeInfo, hi, hlen0] <;> simp at hc0 <;> simp [hc0]
    · have hr := run_append_grow_src (P := Tryz.prog) w 88 tx ty 5 i (.int .u8 0) Tryz.underlying88 hi hz none 0 0 [] (run_firstCells_none w.drew i.size 0 0 0) x bs.length _ hsrc' (by omega) (by simp at hb; omega)
        (by rw [hb1]; simp only [Nat.zero_add]; simp at hb; have := growslice_fits (need := bs.length) (old := 0) (bytes := 1) (by omega) (by omega); exact this)
      have hgr := grown 0 [] (by simp) (by simp; omega)
      simp only [List.length_nil, Nat.zero_add, List.nil_append] at hgr hr ⊢
      exact ⟨_, _, hr, hgr, gbelow _⟩
  · by_cases hroom : l.length + bs.length ≤ cap
    · have hr := run_append_room_src (P := Tryz.prog) w 88 tx ty 5 i Tryz.underlying88 hi g 0 l.length cap x bs.length _ hsrc' hroom
        (fun j hj => by
          simp only [List.length_map] at hj
          have hlt : 0 + l.length * i.size + j < cur.size := by rw [hs1]; omega
          have hsome := Array.getElem?_eq_getElem hlt
          show (match w.heap[g]? with | some (.cells c _ _) => c[0 + l.length * i.size + j]? | _ => none).isSome = true
          rw [hg]
          show (cur[0 + l.length * i.size + j]?).isSome = true
          rw [hsome]; rfl)
        (fun j hj => by
          simp only [List.length_map] at hj
          have hlt : 0 + l.length * i.size + j < cur.size := by rw [hs1]; omega
          simp only [World.frozen?, hg]
          rcases hfr with rfl | hf
          · simp
          · obtain ⟨lo, hi'⟩ := fr
            simp only at hf ⊢
            have : ¬ lo ≤ 0 + l.length * i.size + j := by omega
            rw [decide_eq_false this]; rfl)
      rw [hs1, Nat.zero_add, Nat.mul_one] at hr
      obtain ⟨c', h1, h2, h3⟩ := setCells_heap (bs.map fun b => Value.int .u8 (b.toNat : Int)) l.length w cur hg
      refine ⟨_, _, hr, .inr ⟨g, cap, c', fr, by rw [List.length_append], hbg, h1, by rw [h2]; exact hfr, by rw [List.length_append]; exact hroom, hcm, by rw [h2]; exact hcs, fun j hj => ?_⟩, ?_⟩
      · rw [List.length_append] at hj
        rw [h3 j (by omega), bt_app]
        by_cases h4 : j < l.length
        · rw [if_neg (by omega), if_pos h4, hcell j h4]
        · rw [if_pos (by simp; omega), if_neg h4, map_bt bs _ (by omega)]
      · exact Go.below_setCells hbg _ _ w (Below.refl _ _)
    · have hold : (Builtin.firstCells i.size l.length (.slice (some ⟨g, 0, none⟩) l.length cap)).run Tryz.prog w.drew = .ok (l.map fun b => Value.int .u8 (b.toNat : Int)).toArray w.drew :=
        run_firstCells_some w.drew i.size l.length ⟨g, 0, none⟩ l.length cap _ (by simp [hs1]) (fun j u hj => by
          have hjl : j < l.length := by
            have := (List.getElem?_eq_some_iff.1 hj).1
            simpa using this
          have ha : (⟨g, 0, none⟩ : Addr).add j = ⟨g, j, none⟩ := by unfold Addr.add; split <;> simp_all
          rw [map_bt l j hjl] at hj
          rw [ha, ← hj]
          show (match w.heap[g]? with | some (.cells c _ _) => c[j]? | _ => none) = _
          rw [hg]
          exact hcell j hjl)
      have hr := run_append_grow_src (P := Tryz.prog) w 88 tx ty 5 i (.int .u8 0) Tryz.underlying88 hi hz (some ⟨g, 0, none⟩) l.length cap _ hold x bs.length _ hsrc' (by omega) (by omega)
        (by rw [hb1]; exact growslice_fits (by omega) (by omega))
      have hgr := grown cap _ rfl (by omega)
      exact ⟨_, _, hr, hgr, gbelow _⟩
theorem src_slice {w : World} {g k c2 : Nat} {bs : List UInt8} (hk : bs.length = k) (hcell : ∀ j, j < k → w.cell? ⟨g, j, none⟩ = some (.int .u8 (Sha.bt bs j))) :
    Src Tryz.prog 1 88 (.slice (some ⟨g, 0, none⟩) k c2) k (bs.map fun b => Value.int .u8 (b.toNat : Int)) w :=
  Src.ofSlice (P := Tryz.prog) (e' := 5) w Tryz.underlying88 ⟨g, 0, none⟩ k c2 _ (by simp [hk]) (fun j u hj => by
    have hjk : j < bs.length := by
      have := (List.getElem?_eq_some_iff.1 hj).1
      simpa using this
    have ha : (⟨g, 0, none⟩ : Addr).add j = ⟨g, j, none⟩ := by unfold Addr.add; split <;> simp_all
    rw [map_bt bs j hjk] at hj
    rw [ha, hcell j (by omega), hj]) (fun u hu => by
    obtain ⟨_, _, rfl⟩ := List.mem_map.1 hu
    rfl)
theorem string_own {w : World} {base : Nat} {v : Value} {l : List UInt8} (h : OwnB w base v l) : (convert 88 9 v).run Tryz.prog w = .ok (.string ⟨l.toArray⟩) w := by
  rcases id h with ⟨rfl, rfl⟩ | ⟨g, cap, cur, fr, rfl, _⟩
  · exact run_convert_bytes_nil (P := Tryz.prog) w 88 5 Tryz.underlying88 Tryz.underlying5 0 0 9 Tryz.underlying9
  · refine run_convert_bytes_back (P := Tryz.prog) w 88 9 5 ⟨g, 0, none⟩ cap l Tryz.underlying88 Tryz.underlying5 Tryz.underlying9 (fun j hj => ?_)
    have ha : (⟨g, 0, none⟩ : Addr).add j = ⟨g, j, none⟩ := by unfold Addr.add; split <;> simp_all
    rw [ha, h.cell hj]
    unfold Sha.bt
    simp [List.getD, hj]
end Go.Proofs.YtpgbjnenllfmlaaGreatDoor
/-! The document's padded string. -/
namespace Go.Proofs.YtpgbjnenllfmlaaGreatDoor
open Go.RowKit
set_option linter.unusedVariables false

theorem bytes_own (w : World) (s : ByteArray) (hs : s.size ≤ 1000000000) : ∃ g cap W', (convert 9 88 (.string s)).run Tryz.prog w = .ok (.slice (some ⟨g, 0, none⟩) s.size cap) W' ∧ OwnB W' w.heap.size (.slice (some ⟨g, 0, none⟩) s.size cap) s.data.toList ∧ Below w.heap.size w W' := by
  have hr := run_bytes_of_string (P := Tryz.prog) w 9 88 5 s Tryz.underlying9 Tryz.underlying88 Tryz.underlying5
  have hge := grownCap_ge w s.size 0 5
  have hcm : grownCap w s.size 0 5 ≤ maxLen := grownCap_le_maxLen w s.size 0 5 (by unfold maxLen; omega)
  have hsz : (bytesRow s (grownCap w s.size 0 5)).size = grownCap w s.size 0 5 := by
    unfold bytesRow
    simp
    omega
  refine ⟨_, _, _, hr, .inr ⟨w.heap.size, _, _, _, by rw [← Lib.size_eq], Nat.le_refl _, heap_alloc_new w.drew _, .inr (Nat.le_refl _), by rw [← Lib.size_eq]; exact hge, hcm, hsz, fun j hj => ?_⟩, ((Below.refl _ _).drew).alloc (Nat.le_refl _) _⟩
  rw [← Lib.size_eq] at hj
  unfold bytesRow Sha.bt
  rw [Array.getElem?_append_left (by simp; exact hj)]
  simp [List.getD, hj]

def lenSl : Value → Nat
  | .slice _ n _ => n
  | _ => 0
theorem OwnB.slc {w : World} {base : Nat} {v : Value} {l : List UInt8} (h : OwnB w base v l) (hl : 0 < l.length) : ∃ g cap, v = .slice (some ⟨g, 0, none⟩) l.length cap := by
  rcases h with ⟨_, rfl⟩ | ⟨g, cap, _, _, h, _⟩
  · simp at hl
  · exact ⟨g, cap, h⟩

section
variable {ops : Array Oper} {rest : List Oper} {o : Oper} {a : Act} {Q : Exit → Act → World → Prop}
theorem wpList_append_ex (w : World) (hgd : o.guard = none) (s x : Operand) (t1 t2 : TypeId) (ho : o.op = .call { callee := .builtin .append, args := #[s, x], argTypes := #[t1, t2] })
    (v sv : Value) (hs : a.eval s = v) (hx : a.eval x = sv) (R : Value → World → Prop) (hrun : ∃ v' W', (Builtin.append_ #[t1, t2] o.type #[v, sv]).run Tryz.prog w = .ok v' W' ∧ R v' W')
    (h : ∀ v' W', R v' W' → wpList Tryz.prog ops Q rest (a.put o.dst v') W') : wpList Tryz.prog ops Q (o :: rest) a w := by
  obtain ⟨v', W', hr, hR⟩ := hrun
  exact wpList_append_run w hgd s x t1 t2 ho v sv v' W' hs hx hr (h v' W' hR)
end
structure Pushed (B : Nat) (W : World) (l : List UInt8) (v' : Value) (W' : World) : Prop where
  own : OwnB W' B v' l
  bel : Below B W W'
/-- One byte more, by a slice literal of one. -/
theorem push_one {W : World} {B : Nat} {v : Value} {l : List UInt8} (h : OwnB W B v l) (hB : B ≤ W.heap.size) (b : UInt8) (bv : Int) (hb : bv = (b.toNat : Int)) (hl : l.length + 1 ≤ 1000000000000) (ty : TypeId) :
    ∃ v' W', (Builtin.append_ #[88, 88] ty #[v, .slice (some ⟨W.heap.size, 0, none⟩) 1 1]).run Tryz.prog (W.alloc (.cells #[.int .u8 bv] 5)) = .ok v' W' ∧ Pushed B W (l ++ [b]) v' W' := by
  have hba : Below W.heap.size W (W.alloc (.cells #[.int .u8 bv] 5)) := (Below.refl _ _).alloc (Nat.le_refl _) _
  have hc : (W.alloc (.cells #[.int .u8 bv] 5)).heap[W.heap.size]? = some (.cells #[.int .u8 bv] 5 (0, 0)) := heap_alloc_new _ _
  obtain ⟨v', W', h1, h2, h3⟩ := append_own (h.below (Nat.le_refl _) hba) (Nat.le_trans hB hba.size) (.slice (some ⟨W.heap.size, 0, none⟩) 1 1) 88 [b] 1 rfl (src_slice rfl (fun j hj => by
    obtain rfl : j = 0 := by omega
    show (match (W.alloc (.cells #[.int .u8 bv] 5)).heap[W.heap.size]? with | some (.cells c _ _) => c[0]? | _ => none) = _
    rw [hc, hb]
    rfl)) hl ty
  exact ⟨v', W', h1, h2, (hba.mono hB).trans h3⟩
theorem eight_take (n j : Nat) (hj : j < 8) : (Sha.eight n).take j ++ [hfb n 8 j] = (Sha.eight n).take (j + 1) := by
  rw [← hf8, List.take_add_one]
  congr 1
  simp [hf, hj]

theorem eb_val (N j e : Nat) (hj : j < 8) (he : e = 8 * (7 - j)) : (N : Int) * 8 / 2 ^ e % 256 = ((hfb (8 * N) 8 j).toNat : Int) := by
  have h := shift_val (8 * N) (7 - j)
  rw [hfb_val, show 8 - 1 - j = 7 - j by omega, ← h, he, show ((8 * N : Nat) : Int) = (N : Int) * 8 by omega]
set_option maxRecDepth 100000 in
set_option maxHeartbeats 4000000 in
theorem pad_any (s : ByteArray) (w : World) (hs : s.size ≤ 1000000000) :
    Calls Tryz.prog 51 #[.string s] w fun e w' => e = .returned (.string ⟨(Sha.pad s.data.toList).toArray⟩) ∧ Below w.heap.size w w' := by
  obtain ⟨g1, c1, w1, hcv, hO1, hb1⟩ := bytes_own w s hs
  obtain ⟨m, hm⟩ : ∃ m, s.data.toList = m := ⟨_, rfl⟩
  obtain ⟨N, hN⟩ : ∃ N, s.size = N := ⟨_, rfl⟩
  have HN : Hid (m.length = N) := by show _ = _; rw [← hm, ← hN, ← Lib.size_eq]
  rw [hm] at hO1 ⊢
  rw [hN] at hcv hO1 hs
  obtain ⟨B, hB⟩ : ∃ B, w.heap.size = B := ⟨_, rfl⟩
  rw [hB] at hO1 hb1 ⊢
  have HO1 := Lib.hid hO1
  have HB1 := Lib.hid hb1
  have hB1 : B ≤ w1.heap.size := by have := hb1.size; omega
  have HHN := Lib.hid hN
  clear hm hO1 hb1
  go_enter Tryz.func51, Tryz.ntmps51
  go_wp2_with (at_builtin; refine wpList_append_ex _ rfl _ _ _ _ rfl _ _ rfl rfl _ (push_one HO1.out hB1 128 _ rfl (by rw [HN.out]; omega) _) ?_)
  intro v2 w2 hp2
  have hO2 := hp2.own
  have hb2 := hp2.bel
  obtain ⟨g2, c2, rfl⟩ := hO2.slc (by simp)
  have HO2 : Hid (OwnB w2 B _ (m ++ 128 :: List.replicate 0 0)) := hO2
  have HB2 := Lib.hid (HB1.out.trans hb2)
  have hll : (m ++ [128]).length = N + 1 := by rw [List.length_append, HN.out]; rfl
  rw [hll] at HO2 ⊢
  clear hp2 hO2 hb2 HO1 HB1 hcv hll
  go_wp2
  go_loopw [3] (fun v wr => ∃ z g c : Nat, z ≤ Sha.zs N ∧ v = .slice (some ⟨g, 0, none⟩) (N + 1 + z) c ∧ Hid (OwnB wr B v (m ++ 128 :: List.replicate z 0)) ∧ Hid (Below B w wr)) (fun v _ => N + 200 - lenSl v)
  case atStart => exact ⟨0, g2, c2, Nat.zero_le _, rfl, HO2, HB2⟩
  case round =>
    obtain ⟨z, g, c, hz, rfl, HO, HB⟩ := hrel
    have hBr : B ≤ wr.heap.size := by have := HB.out.size; omega
    have hll : (m ++ 128 :: List.replicate z 0).length = N + 1 + z := by rw [List.length_append, HN.out]; simp; omega
    have HLL := Lib.hid hll
    have hzl : Sha.zs N < 64 := by unfold Sha.zs; omega
    have hzs := Sha.zs_eq N
    obtain ⟨q, hq⟩ : ∃ q : Int, ((N + 1 + z : Nat) : Int).tmod 64 = q := ⟨_, rfl⟩
    have hq2 : q = ((N + 1 + z) % 64 : Nat) := by rw [← hq, Int.tmod_eq_emod_of_nonneg (by omega)]; omega
    by_cases hd : z < Sha.zs N
    · have hqn : (q != 56) = true := by
        have : ¬ q = 56 := by unfold Sha.zs at hzs hd; omega
        simpa using this
      have hqq : ((N : Int) + 1 + (z : Int)).tmod 64 = q := by rw [← hq]; congr 1
      clear hq2 hll hzs hq
      go_wp2_with (at_builtin; refine wpList_append_ex _ rfl _ _ _ _ rfl _ _ rfl rfl _ (push_one HO.out hBr 0 _ rfl (by rw [HLL.out]; omega) _) ?_)
      intro v2 w2 hp2
      have hO2 := hp2.own
      have hb2 := hp2.bel
      have e1 : m ++ 128 :: (List.replicate z 0 ++ [0]) = m ++ 128 :: List.replicate (z + 1) 0 := by rw [← List.replicate_succ']
      have hO3 : OwnB w2 B v2 (m ++ 128 :: List.replicate (z + 1) 0) := by rw [← e1]; simpa using hO2
      obtain ⟨g2, c2, rfl⟩ := hO3.slc (by simp; omega)
      have hll : (m ++ 128 :: List.replicate (z + 1) 0).length = N + 1 + (z + 1) := by rw [List.length_append, HN.out]; simp; omega
      have HO3 := Lib.hid hO3
      have HB3 := Lib.hid (HB.out.trans hb2)
      rw [hll] at HO3 ⊢
      clear hp2 hO2 hb2 hO3 e1 hll HO HB
      go_wp2
      exact ⟨⟨z + 1, g2, c2, by omega, rfl, HO3, HB3⟩, by show N + 200 - (N + 1 + (z + 1)) < N + 200 - (N + 1 + z); omega⟩
    · have hqn : q = 56 := by unfold Sha.zs at hzs hd hz; omega
      have hqq : ((N : Int) + 1 + (z : Int)).tmod 64 = 56 := by rw [← hqn, ← hq]; congr 1
      obtain rfl : z = Sha.zs N := by omega
      obtain ⟨P, hP⟩ : ∃ P, m ++ 128 :: List.replicate (Sha.zs N) 0 = P := ⟨_, rfl⟩
      obtain ⟨M, hM⟩ : ∃ M, N + 1 + Sha.zs N = M := ⟨_, rfl⟩
      have hMb : M ≤ 2000000000 := by omega
      rw [hP] at HO
      have HPL : Hid (P.length = M) := by show _ = _; rw [← hP, ← hM]; exact HLL.out
      have HPD : Hid (P ++ Sha.eight (8 * N) = Sha.pad m) := by
        show _ = _
        rw [← hP]
        unfold Sha.pad
        rw [HN.out, Nat.mod_eq_of_lt (by omega)]
      have hqq2 : (M : Int).tmod 64 = 56 := by rw [← hM, ← hqq]; congr 1
      rw [hM] at HO ⊢
      have HO0 : Hid (OwnB wr B (Value.slice (some ⟨g, 0, none⟩) (M + 0) c) (P ++ (Sha.eight (8 * N)).take 0)) := by
        show OwnB _ _ _ _
        rw [List.take_zero, List.append_nil]
        exact HO.out
      have hw8 : IntKind.u64.wrap (N : Int) = (N : Int) := by rw [IntKind.wrap_u64]; omega
      have hN8 : IntKind.u64.wrap ((N : Int) * 8) = (N : Int) * 8 := by rw [IntKind.wrap_u64]; omega
      have HS1 := HLL
      clear hq2 hll hzs hq hqn hd HS1 HLL hqq hP hM hzl hz HO
      go_wp2
      go_loopw [3, 4] (fun v i wr => ∃ (j g c : Nat) (q : Int), j ≤ 8 ∧ Hid (q = 56 - 8 * (j : Int)) ∧ i = .int .i64 q ∧ v = .slice (some ⟨g, 0, none⟩) (M + j) c ∧ Hid (OwnB wr B v (P ++ (Sha.eight (8 * N)).take j)) ∧ Hid (Below B w wr)) (fun _ i _ => (intOf i + 8).toNat)
      case atStart => exact ⟨0, g, c, 56, by omega, Lib.hid (by omega), rfl, rfl, HO0, HB⟩
      case round =>
        obtain ⟨j, g, c, q, hj, HQ, rfl, rfl, HO, HB⟩ := hrel
        have hBr : B ≤ wr.heap.size := by have := HB.out.size; omega
        by_cases hj8 : j < 8
        · obtain ⟨e, he⟩ : ∃ e : Nat, e = 8 * (7 - j) := ⟨_, rfl⟩
          obtain rfl : q = (e : Int) := by have := HQ.out; omega
          have hwe : IntKind.u64.wrap (e : Int) = (e : Int) := by rw [IntKind.wrap_u64]; omega
          have he56 : e ≤ 56 := by omega
          have HE := Lib.hid he
          have HLE : Hid ((P ++ (Sha.eight (8 * N)).take j).length = M + j) := by
            show _ = _
            rw [List.length_append, List.length_take, HPL.out, Sha.eight_len]; omega
          clear he
          have HEB := Lib.hid (eb_val N j e hj8 HE.out)
          go_wp2_with (at_builtin; refine wpList_append_ex _ rfl _ _ _ _ rfl _ _ rfl rfl _ (push_one HO.out hBr (hfb (8 * N) 8 j) _ HEB.out (by rw [HLE.out]; omega) _) ?_)
          intro v2 w2 hp2
          have hO2 := hp2.own
          have hb2 := hp2.bel
          have hO3 : OwnB w2 B v2 (P ++ (Sha.eight (8 * N)).take (j + 1)) := by rw [← eight_take (8 * N) j hj8, ← List.append_assoc]; simpa using hO2
          have hll : (P ++ (Sha.eight (8 * N)).take (j + 1)).length = M + (j + 1) := by rw [List.length_append, List.length_take, HPL.out, Sha.eight_len]; omega
          obtain ⟨g2, c2, rfl⟩ := hO3.slc (by rw [hll]; omega)
          have HO3 := Lib.hid hO3
          have HB3 := Lib.hid (HB.out.trans hb2)
          rw [hll] at HO3 ⊢
          have HQ2 : Hid ((e : Int) - 8 = 56 - 8 * ((j + 1 : Nat) : Int)) := by show _ = _; have := HQ.out; omega
          clear hp2 hO2 hb2 hO3 hll HO HB HEB HQ
          go_wp2
          exact ⟨⟨j + 1, g2, c2, (e : Int) - 8, by omega, HQ2, by go_num, rfl, HO3, HB3⟩, by simp [intOf]; omega⟩
        · obtain rfl : j = 8 := by omega
          have hq : q = -8 := by have := HQ.out; omega
          subst hq
          have HF : Hid (P ++ (Sha.eight (8 * N)).take 8 = Sha.pad m) := by
            show _ = _
            rw [List.take_of_length_le (by rw [Sha.eight_len]; omega)]; exact HPD.out
          have hconv := string_own HO.out
          obtain ⟨sr, hsr⟩ : ∃ r : ByteArray, (⟨(P ++ (Sha.eight (8 * N)).take 8).toArray⟩ : ByteArray) = r := ⟨_, rfl⟩
          rw [hsr] at hconv
          have HSR := Lib.hid hsr
          clear hsr HO
          go_wp2
          go_ret
          exact ⟨by rw [← HF.out, HSR.out]; rfl, HB.out⟩
end Go.Proofs.YtpgbjnenllfmlaaGreatDoor
/-! The document's tables, words and rotations. -/
/-! The document's tables, words and rotations. -/
namespace Go.Proofs.YtpgbjnenllfmlaaGreatDoor
open Go.RowKit
set_option linter.unusedVariables false

theorem info8 : (Tryz.prog.info? 83).map (·.size) = some 8 := by kernel_rfl
theorem info64 : (Tryz.prog.info? 85).map (·.size) = some 64 := by kernel_rfl
theorem results_cell_at {P : Program} {fn : Func} {p : Tmp} {ty : TypeId} (h : fn.results = #[.cell p ty]) (tmps : Array Value) (w : World) (ad : Addr) (hp : tmps.getD p undef = .pointer (some ad)) (v : Value) (hl : (loadVar ty ad).run P w = .ok v w) :
    (results fn tmps).run P w = .ok v w := by
  rw [results_cell h, hp]
  simp [asAddr, Result.andThen, hl]
theorem hsCells_all : HsCells.all (·.oneCell') = true := by kernel_rfl
theorem ksCells_all : KsCells.all (·.oneCell') = true := by kernel_rfl
theorem ksCells_size : KsCells.size = 64 := by rfl
theorem hsCells_size : HsCells.size = 8 := by rfl
theorem wpList_build_is {P : Program} {ops : Array Oper} {rest : List Oper} {o : Oper} {a : Act} {w : World} {Q : Exit → Act → World → Prop} (hg : o.guard = none) (t : TypeId) (parts : Array (Nat × Operand)) (ho : o.op = .build t parts) (T : Array Value)
    (hf : P.built t (parts.map fun (i, x) => (i, a.eval x)).toList = some T) (h : wpList P ops Q rest (a.put o.dst (.agg T)) w) : wpList P ops Q (o :: rest) a w :=
  wpList_build hg t parts ho (by rw [hf]; rfl) (by rw [hf]; exact h)
theorem built_ks : Tryz.prog.built 85 (Sha.Ks.zipIdx.map fun xi => (xi.2, Value.int .u32 xi.1)) = some KsCells := by kernel_rfl
def ksParts : Array (Nat × Operand) := #[(0, .const (.int .u32 1116352408)), (1, .const (.int .u32 1899447441)), (2, .const (.int .u32 3049323471)), (3, .const (.int .u32 3921009573)), (4, .const (.int .u32 961987163)), (5, .const (.int .u32 1508970993)), (6, .const (.int .u32 2453635748)), (7, .const (.int .u32 2870763221)), (8, .const (.int .u32 3624381080)), (9, .const (.int .u32 310598401)), (10, .const (.int .u32 607225278)), (11, .const (.int .u32 1426881987)), (12, .const (.int .u32 1925078388)), (13, .const (.int .u32 2162078206)), (14, .const (.int .u32 2614888103)), (15, .const (.int .u32 3248222580)), (16, .const (.int .u32 3835390401)), (17, .const (.int .u32 4022224774)), (18, .const (.int .u32 264347078)), (19, .const (.int .u32 604807628)), (20, .const (.int .u32 770255983)), (21, .const (.int .u32 1249150122)), (22, .const (.int .u32 1555081692)), (23, .const (.int .u32 1996064986)), (24, .const (.int .u32 2554220882)), (25, .const (.int .u32 2821834349)), (26, .const (.int .u32 2952996808)), (27, .const (.int .u32 3210313671)), (28, .const (.int .u32 3336571891)), (29, .const (.int .u32 3584528711)), (30, .const (.int .u32 113926993)), (31, .const (.int .u32 338241895)), (32, .const (.int .u32 666307205)), (33, .const (.int .u32 773529912)), (34, .const (.int .u32 1294757372)), (35, .const (.int .u32 1396182291)), (36, .const (.int .u32 1695183700)), (37, .const (.int .u32 1986661051)), (38, .const (.int .u32 2177026350)), (39, .const (.int .u32 2456956037)), (40, .const (.int .u32 2730485921)), (41, .const (.int .u32 2820302411)), (42, .const (.int .u32 3259730800)), (43, .const (.int .u32 3345764771)), (44, .const (.int .u32 3516065817)), (45, .const (.int .u32 3600352804)), (46, .const (.int .u32 4094571909)), (47, .const (.int .u32 275423344)), (48, .const (.int .u32 430227734)), (49, .const (.int .u32 506948616)), (50, .const (.int .u32 659060556)), (51, .const (.int .u32 883997877)), (52, .const (.int .u32 958139571)), (53, .const (.int .u32 1322822218)), (54, .const (.int .u32 1537002063)), (55, .const (.int .u32 1747873779)), (56, .const (.int .u32 1955562222)), (57, .const (.int .u32 2024104815)), (58, .const (.int .u32 2227730452)), (59, .const (.int .u32 2361852424)), (60, .const (.int .u32 2428436474)), (61, .const (.int .u32 2756734187)), (62, .const (.int .u32 3204031479)), (63, .const (.int .u32 3329325298))]
theorem hf_ks (a : Act) : Tryz.prog.built 85 (ksParts.map fun (i, x) => (i, a.eval x)).toList = some KsCells := by
  have e : (ksParts.map fun (i, x) => (i, a.eval x)).toList = (Sha.Ks.zipIdx.map fun xi => (xi.2, Value.int .u32 xi.1)) := by
    unfold ksParts
    simp only [List.map_toArray]
    rfl
  rw [e]
  exact built_ks
/-- The tables, with their sizes, as values that the walk does not look into. -/
structure Tab8 (cs : Array Value) : Prop where
  size : cs.size = 8
  all : cs.all (·.oneCell') = true
structure Tab64 (cs : Array Value) : Prop where
  size : cs.size = 64
  all : cs.all (·.oneCell') = true
set_option maxRecDepth 100000 in
set_option maxHeartbeats 4000000 in
theorem first_any (w : World) : Calls Tryz.prog 49 #[] w fun e w' => e = .returned (.agg HsCells) ∧ Below w.heap.size w w' := by
  obtain ⟨T, hT⟩ : ∃ T, HsCells = T := ⟨_, rfl⟩
  have hall : T.all (·.oneCell') = true := by rw [← hT]; exact hsCells_all
  have hsz : T.size = 8 := by rw [← hT]; exact hsCells_size
  have HTT := Lib.hid hT
  go_enter Tryz.func49, Tryz.ntmps49
  go_wp2_with (first
    | (refine wpList_build_is rfl 83 _ rfl T (by rw [← HTT.out]; kernel_rfl) ?_)
    | (refine wpList_store_row rfl 83 (.tmp 0) (.tmp 1) rfl w.heap.size T rfl rfl 83 _ (heap_alloc_new _ _) (by rw [hsz]; exact info8) (by rw [hsz]; rfl) hall ?_))
  rw [World.setRow_alloc_new]
  refine bodyPost_ret (v := .agg T) ?_ rfl ⟨by rw [HTT.out], (Below.refl _ _).alloc (Nat.le_refl _) _⟩
  rw [results_cell rfl]
  exact run_loadVar_row (P := Tryz.prog) (w.alloc (.cells T 83)) w.heap.size 83 83 T (0, 0) _ (heap_alloc_new _ _) Tryz.underlying83 rfl (by rw [hsz]; exact info8)
set_option maxRecDepth 100000 in
set_option maxHeartbeats 4000000 in
theorem constants_any (w : World) : Calls Tryz.prog 50 #[] w fun e w' => e = .returned (.agg KsCells) ∧ Below w.heap.size w w' := by
  obtain ⟨T, hT⟩ : ∃ T, KsCells = T := ⟨_, rfl⟩
  have hall : T.all (·.oneCell') = true := by rw [← hT]; exact ksCells_all
  have hsz : T.size = 64 := by rw [← hT]; exact ksCells_size
  have HTT := Lib.hid hT
  rw [hT]
  clear hT
  go_enter Tryz.func50, Tryz.ntmps50
  go_wp2_with (first
    | (refine wpList_build_is rfl 85 ksParts rfl T (by rw [← HTT.out]; exact hf_ks _) ?_)
    | (refine wpList_store_row rfl 85 (.tmp 0) (.tmp 1) rfl w.heap.size T rfl rfl 85 zeros64 (heap_alloc_new _ _) (by rw [hsz]; exact info64) (by rw [hsz]; rfl) hall ?_))
  rw [World.setRow_alloc_new]
  have hb : Below w.heap.size w (w.alloc (.cells T 85)) := (Below.refl _ _).alloc (Nat.le_refl _) _
  have hld := run_loadVar_row (P := Tryz.prog) (w.alloc (.cells T 85)) w.heap.size 85 85 T (0, 0) _ (heap_alloc_new _ _) Tryz.underlying85 rfl (by rw [hsz]; exact info64)
  exact bodyPost_ret (results_cell_at rfl _ _ _ rfl _ hld) rfl ⟨rfl, hb⟩
theorem word_eq (a b c d : Int) (ha : 0 ≤ a ∧ a < 256) (hb : 0 ≤ b ∧ b < 256) (hc : 0 ≤ c ∧ c < 256) (hd : 0 ≤ d ∧ d < 256) :
    bits .or .u32 (bits .or .u32 (bits .or .u32 (IntKind.u32.wrap (IntKind.u32.wrap a * 16777216)) (IntKind.u32.wrap (IntKind.u32.wrap b * 65536))) (IntKind.u32.wrap (IntKind.u32.wrap c * 256))) (IntKind.u32.wrap d) = ((a * 256 + b) * 256 + c) * 256 + d := by
  obtain ⟨A, rfl⟩ := Int.eq_ofNat_of_zero_le ha.1
  obtain ⟨B, rfl⟩ := Int.eq_ofNat_of_zero_le hb.1
  obtain ⟨C, rfl⟩ := Int.eq_ofNat_of_zero_le hc.1
  obtain ⟨D, rfl⟩ := Int.eq_ofNat_of_zero_le hd.1
  have hA : A < 256 := by omega
  have hB : B < 256 := by omega
  have hC : C < 256 := by omega
  have hD : D < 256 := by omega
  simp only [IntKind.wrap_u32']
  have eA : ((A : Int) % 4294967296 * 16777216 % 4294967296) = ((2 ^ 24 * A : Nat) : Int) := by omega
  have eB : ((B : Int) % 4294967296 * 65536 % 4294967296) = ((B * 65536 : Nat) : Int) := by omega
  have eC : ((C : Int) % 4294967296 * 256 % 4294967296) = ((C * 256 : Nat) : Int) := by omega
  have eD : ((D : Int) % 4294967296) = ((D : Nat) : Int) := by omega
  rw [eA, eB, eC, eD, u32_or_nat _ _ (by omega) (by omega), ← Nat.two_pow_add_eq_or_of_lt (i := 24) (by omega)]
  have e2 : 2 ^ 24 * A + B * 65536 = 2 ^ 16 * (A * 256 + B) := by omega
  rw [e2, u32_or_nat _ _ (by omega) (by omega), ← Nat.two_pow_add_eq_or_of_lt (i := 16) (by omega)]
  have e3 : 2 ^ 16 * (A * 256 + B) + C * 256 = 2 ^ 8 * ((A * 256 + B) * 256 + C) := by omega
  rw [e3, u32_or_nat _ _ (by omega) (by omega), ← Nat.two_pow_add_eq_or_of_lt (i := 8) (by omega)]
  omega
set_option maxRecDepth 100000 in
set_option maxHeartbeats 1000000 in
theorem word_any (s : ByteArray) (w : World) (hs : 4 ≤ s.size) : Calls Tryz.prog 77 #[.string s] w fun e w' => e = .returned (.int .u32 (Sha.wd s.data.toList 0)) ∧ ∃ q, w' = w.drewN q := by
  have hmx : Tryz.prog.follows .mixedOrders = true := by kernel_rfl
  go_enter Tryz.func77, Tryz.ntmps77
  go_wp2
  have i0 : ∀ w, (Instr.index 9 (.string s) (.int .i64 0)).run Tryz.prog w = .ok (.int .u8 (Sha.bt s.data.toList 0)) w := fun w => index_str s 0 (by omega) w
  have i1 : ∀ w, (Instr.index 9 (.string s) (.int .i64 1)).run Tryz.prog w = .ok (.int .u8 (Sha.bt s.data.toList 1)) w := fun w => index_str s 1 (by omega) w
  have i2 : ∀ w, (Instr.index 9 (.string s) (.int .i64 2)).run Tryz.prog w = .ok (.int .u8 (Sha.bt s.data.toList 2)) w := fun w => index_str s 2 (by omega) w
  have i3 : ∀ w, (Instr.index 9 (.string s) (.int .i64 3)).run Tryz.prog w = .ok (.int .u8 (Sha.bt s.data.toList 3)) w := fun w => index_str s 3 (by omega) w
  have b0 := Sha.bt_in s.data.toList 0
  have b1 := Sha.bt_in s.data.toList 1
  have b2 := Sha.bt_in s.data.toList 2
  have b3 := Sha.bt_in s.data.toList 3
  go_still hmx
  go_wp2
  go_ret
  refine ⟨?_, 1, rfl⟩
  show Ending.returned (Value.int .u32 _) = _
  congr 2
  exact word_eq _ _ _ _ b0 b1 b2 b3
end Go.Proofs.YtpgbjnenllfmlaaGreatDoor
/-! The document's block. -/
namespace Go.Proofs.YtpgbjnenllfmlaaGreatDoor
open Go.RowKit
set_option linter.unusedVariables false

theorem still_ofD {P : Program} {f : FuncId} {args : Array Value} {w : World} {v : Value} (h : Calls P f args w fun e w' => e = .returned v ∧ w = w') : Calls P f args w fun e w' => e = .returned v ∧ w' = w :=
  h.mono fun _ _ ⟨a, b⟩ => ⟨a, b.symm⟩
def zeros8 : Array Value := Array.replicate 8 (.int .u32 0)
def rowA (l : List UInt8) (k j : Nat) : Value := .int .u32 (if j < k then Sha.wd l j else 0)
theorem rowA_step (l : List UInt8) (k : Nat) (x : Int) (h : Sha.wd l k = x) (j : Nat) : (if j = k then Value.int .u32 x else rowA l k j) = rowA l (k + 1) j := by
  subst h
  unfold rowA
  by_cases e : j = k
  · subst e; simp
  · rw [if_neg e]
    by_cases h1 : j < k
    · rw [if_pos h1, if_pos (by omega)]
    · rw [if_neg h1, if_neg (by omega)]
theorem rowA_end (l : List UInt8) (j : Nat) : rowA l 16 j = row2 (Sha.W l) 0 j := by
  unfold rowA row2
  by_cases h : j < 16
  · rw [if_pos h, if_pos (by omega), Sha.W_first l j h]
  · rw [if_neg h, if_neg (by omega)]
theorem wd_drop (l : List UInt8) (k : Nat) : Sha.wd (l.drop (4 * k)) 0 = Sha.wd l k := by
  unfold Sha.wd Sha.bt
  simp only [List.getD, List.getElem?_drop]
  simp
/-- Eight words as cells. -/
structure Eight (cs : Array Value) (H : Sha.St) : Prop where
  size : cs.size = 8
  all : cs.all (·.oneCell') = true
  cell : ∀ j, j < 8 → cs[j]? = some (.int .u32 (H.list.getD j 0))
theorem ex_toList (s : ByteArray) (k n : Nat) (h : n = s.size) : (s.extract k n).data.toList = s.data.toList.drop k := by
  subst h
  rw [ByteArray.data_extract, Array.toList_extract]
  simp only [List.extract]
  rw [List.take_of_length_le]
  rw [List.length_drop, ← Lib.size_eq]
  omega

/-- The four blocks that the function lays first. -/
structure Lay4 (w wr : World) (n0 : Nat) (hc kc : Array Value) : Prop where
  h : wr.heap[n0]? = some (.cells hc 83 (0, 0))
  k : wr.heap[n0 + 1]? = some (.cells kc 85 (0, 0))
  r : wr.heap[n0 + 1 + 1]? = some (.cells zeros8 83 (0, 0))
  bel : Below n0 w wr
  sz : n0 + 1 + 1 + 1 < wr.heap.size
theorem Lay4.next {w wr wr' : World} {n0 : Nat} {hc kc : Array Value} (h : Lay4 w wr n0 hc kc) (b : Below (n0 + 1 + 1 + 1) wr wr') : Lay4 w wr' n0 hc kc :=
  ⟨by rw [b.block _ (by omega)]; exact h.h, by rw [b.block _ (by omega)]; exact h.k, by rw [b.block _ (by omega)]; exact h.r, h.bel.trans (b.mono (by omega)), Nat.lt_of_lt_of_le h.sz b.size⟩
theorem t1_eq2 (a b c d e f g h kk x : Int) : IntKind.u32.wrap (IntKind.u32.wrap (IntKind.u32.wrap (IntKind.u32.wrap (h + bits BinOp.xor IntKind.u32 (bits BinOp.xor IntKind.u32 (Sha.rr e 6) (Sha.rr e 11)) (Sha.rr e 25)) +
    bits BinOp.xor IntKind.u32 (bits BinOp.and IntKind.u32 e f) (bits BinOp.and IntKind.u32 (bits BinOp.xor IntKind.u32 IntKind.u32.max e) g)) + kk) + x) = Sha.t1 ⟨a, b, c, d, e, f, g, h⟩ kk x := t1_eq a b c d e f g h kk x
theorem t2_eq2 (a b c d e f g h : Int) : IntKind.u32.wrap (bits BinOp.xor IntKind.u32 (bits BinOp.xor IntKind.u32 (Sha.rr a 2) (Sha.rr a 13)) (Sha.rr a 22) +
    bits BinOp.xor IntKind.u32 (bits BinOp.xor IntKind.u32 (bits BinOp.and IntKind.u32 a b) (bits BinOp.and IntKind.u32 a c)) (bits BinOp.and IntKind.u32 b c)) = Sha.t2 ⟨a, b, c, d, e, f, g, h⟩ := by
  simp only [IntKind.wrap_u32']
  rfl
def p8row (U Y : Nat → Int) (k j : Nat) : Value := .int .u32 (part8 U Y k j)
theorem p8row_step (U Y : Nat → Int) (k : Nat) (v y : Int) (hv : U k = v) (hy : Y k = y) (j : Nat) : (if j = k then Value.int .u32 (Sha.ad v y) else p8row U Y k j) = p8row U Y (k + 1) j := by
  subst hv hy
  unfold p8row part8
  by_cases e : j = k
  · subst e; simp
  · rw [if_neg e]
    by_cases h1 : j < k
    · rw [if_pos h1, if_pos (by omega)]
    · rw [if_neg h1, if_neg (by omega)]
theorem eight_all (a b c d e f g h : Int) : (#[Value.int .u32 a, .int .u32 b, .int .u32 c, .int .u32 d, .int .u32 e, .int .u32 f, .int .u32 g, .int .u32 h] : Array Value).all (·.oneCell') = true := by
  simp [Value.oneCell']
theorem eight_lit (a b c d e f g h : Int) : Eight #[.int .u32 a, .int .u32 b, .int .u32 c, .int .u32 d, .int .u32 e, .int .u32 f, .int .u32 g, .int .u32 h] ⟨a, b, c, d, e, f, g, h⟩ :=
  ⟨rfl, eight_all a b c d e f g h, fun j hj => list8 a b c d e f g h j hj⟩
/-- All that a step of the rounds reads. -/
structure Seen (w wr : World) (n0 gv : Nat) (hc kc cs : Array Value) (V : Nat → Int) : Prop where
  v : wr.heap[gv]? = some (.cells cs 83 (0, 0))
  r : wr.rowIs (n0 + 1 + 1 + 1) 85 64 (fun j => .int .u32 (V j))
  y : Lay4 w wr n0 hc kc
theorem Seen.next {w wr wr' : World} {n0 gv : Nat} {hc kc cs : Array Value} {V : Nat → Int} (h : Seen w wr n0 gv hc kc cs V) (b : Below wr.heap.size wr wr') : Seen w wr' n0 gv hc kc cs V :=
  ⟨by rw [b.block _ (Array.getElem?_eq_some_iff.1 h.v).1]; exact h.v, World.rowIs.of_block h.r (b.block _ h.r.lt), h.y.next (b.mono (Nat.le_of_lt h.y.sz))⟩
theorem Seen.cv {w wr : World} {n0 gv : Nat} {hc kc cs : Array Value} {V : Nat → Int} {H : Sha.St} (h : Seen w wr n0 gv hc kc cs V) (he : Eight cs H) {j : Nat} (hj : j < 8) : wr.cell? ⟨gv, j, none⟩ = some (.int .u32 (H.list.getD j 0)) := by
  simp [World.cell?, h.v, he.cell j hj]
theorem Seen.ck {w wr : World} {n0 gv : Nat} {hc kc cs : Array Value} {V : Nat → Int} (h : Seen w wr n0 gv hc kc cs V) {t : Nat} {x : Int} (hk : kc[t]? = some (.int .u32 x)) : wr.cell? ⟨n0 + 1, t, none⟩ = some (.int .u32 x) := by
  simp [World.cell?, h.y.k, hk]
theorem lay4_start (w : World) (n0 : Nat) (hc kc c d : Array Value) (hn : w.heap.size = n0) (h8 : c = zeros8) (h64 : d = zeros64) :
    Lay4 w ((((w.alloc (.cells hc 83)).alloc (.cells kc 85)).alloc (.cells c 83)).alloc (.cells d 85)) n0 hc kc ∧
      ((((w.alloc (.cells hc 83)).alloc (.cells kc 85)).alloc (.cells c 83)).alloc (.cells d 85)).rowIs (n0 + 1 + 1 + 1) 85 64 (fun _ => .int .u32 0) := by
  subst h8 h64 hn
  obtain ⟨w1, h1⟩ : ∃ w1, w.alloc (.cells hc 83) = w1 := ⟨_, rfl⟩
  have s1 : w1.heap.size = w.heap.size + 1 := by rw [← h1]; simp
  have f1 : w1.heap[w.heap.size]? = some (.cells hc 83 (0, 0)) := by rw [← h1]; exact heap_alloc_new _ _
  have b1 : Below w.heap.size w w1 := by rw [← h1]; exact (Below.refl _ _).alloc (Nat.le_refl _) _
  rw [h1]
  obtain ⟨w2, h2⟩ : ∃ w2, w1.alloc (.cells kc 85) = w2 := ⟨_, rfl⟩
  have s2 : w2.heap.size = w.heap.size + 1 + 1 := by rw [← h2]; simp [s1]
  have f2 : w2.heap[w.heap.size + 1]? = some (.cells kc 85 (0, 0)) := by rw [← h2, ← s1]; exact heap_alloc_new _ _
  have b2 : Below w1.heap.size w1 w2 := by rw [← h2]; exact (Below.refl _ _).alloc (Nat.le_refl _) _
  rw [h2]
  obtain ⟨w3, h3⟩ : ∃ w3, w2.alloc (.cells zeros8 83) = w3 := ⟨_, rfl⟩
  have s3 : w3.heap.size = w.heap.size + 1 + 1 + 1 := by rw [← h3]; simp [s2]
  have f3 : w3.heap[w.heap.size + 1 + 1]? = some (.cells zeros8 83 (0, 0)) := by rw [← h3, ← s2]; exact heap_alloc_new _ _
  have b3 : Below w2.heap.size w2 w3 := by rw [← h3]; exact (Below.refl _ _).alloc (Nat.le_refl _) _
  rw [h3]
  obtain ⟨w4, h4⟩ : ∃ w4, w3.alloc (.cells zeros64 85) = w4 := ⟨_, rfl⟩
  have b4 : Below w3.heap.size w3 w4 := by rw [← h4]; exact (Below.refl _ _).alloc (Nat.le_refl _) _
  have r4 : w4.rowIs (w.heap.size + 1 + 1 + 1) 85 64 (fun _ => .int .u32 0) := by rw [← h4, ← s3]; exact rowIs_zeros w3 _ _ rfl
  rw [h4]
  refine ⟨⟨?_, ?_, ?_, ?_, r4.lt⟩, r4⟩
  · rw [b4.block _ (by omega), b3.block _ (by omega), b2.block _ (by omega)]; exact f1
  · rw [b4.block _ (by omega), b3.block _ (by omega)]; exact f2
  · rw [b4.block _ (by omega)]; exact f3
  · exact ((b1.trans (b2.mono (by omega))).trans (b3.mono (by omega))).trans (b4.mono (by omega))

set_option maxRecDepth 100000 in
set_option maxHeartbeats 8000000 in
theorem block_any (hc kc : Array Value) (H : Sha.St) (s : ByteArray) (w : World) (hH : Eight hc H) (hkc : kc = KsCells) (hs : s.size = 64) :
    Calls Tryz.prog 52 #[.agg hc, .agg kc, .string s] w fun e w' => ∃ rc, e = .returned (.agg rc) ∧ Eight rc (Sha.comp H s.data.toList) ∧ Below w.heap.size w w' := by
  have hmx : Tryz.prog.follows .mixedOrders = true := by kernel_rfl
  obtain ⟨l, hl⟩ : ∃ l, s.data.toList = l := ⟨_, rfl⟩
  have HL := Lib.hid hl
  obtain ⟨K, hK⟩ : ∃ K : Nat → Int, (fun t => Sha.Ks.getD t 0) = K := ⟨_, rfl⟩
  have hkz : kc.size = 64 := by rw [hkc]; rfl
  have HKC : Hid (∀ k, k < 64 → kc[k]? = some (.int .u32 (K k))) := fun k hk => by
    have hl : Sha.Ks.length = 64 := by decide
    rw [hkc, ← hK]
    simp [KsCells, List.getD, hl, hk]
  obtain ⟨S, hS⟩ : ∃ S, Sha.vs H l = S := ⟨_, rfl⟩
  obtain ⟨V, hV⟩ : ∃ V, Sha.W l = V := ⟨_, rfl⟩
  have HST : Hid (Steps H V K S) := by rw [← hS, ← hV, ← hK]; exact steps_vs H l
  have HV : Hid (Rec V) := by rw [← hV]; exact W_rec l
  have HVE := Lib.hid hV
  have HSE : Hid (Sha.comp H l = Sha.plus H (S 64)) := by show _ = _; rw [← hS]; rfl
  have HHH := Lib.hid hH
  have hhz := hH.size
  have HSS := Lib.hid hs
  have hkall : kc.all (·.oneCell') = true := by rw [hkc]; exact ksCells_all
  have hhall := hH.all
  rw [hl]
  clear hl hK hS hV hH hkc
  obtain ⟨n0, hn0⟩ : ∃ n, w.heap.size = n := ⟨_, rfl⟩
  rw [hn0]
  go_enter Tryz.func52, Tryz.ntmps52
  go_wp2_with fail
  go_loopw [8, 21] (fun _ i wr => ∃ k : Nat, k ≤ 16 ∧ i = .int .i64 k ∧ Hid (wr.rowIs (n0 + 1 + 1 + 1) 85 64 (rowA l k)) ∧ Hid (Lay4 w wr n0 hc kc)) (fun _ i _ => 16 - (intOf i).toNat)
  case atStart =>
    obtain ⟨h1, h2⟩ := lay4_start w n0 hc kc _ _ hn0 rfl rfl
    exact ⟨0, by omega, rfl, h2.congr (fun j _ => by simp [rowA]), h1⟩
  case round =>
    obtain ⟨k, hk, rfl, HR, HY⟩ := hrel
    by_cases hlt : k < 16
    · have h4k : IntKind.i64.wrap (4 * (k : Int)) = ((4 * k : Nat) : Int) := by rw [IntKind.wrap_i64]; omega
      have h4b : 4 * k ≤ s.size := by rw [HSS.out]; omega
      have hcl := HR.out.cell (i := k) (by omega)
      have hfr := HR.out.frozen k
      obtain ⟨q4, hq4⟩ : ∃ q : Nat, q = 4 * k := ⟨_, rfl⟩
      rw [← hq4] at h4k h4b
      have hsz := HSS.out
      have hq64 : q4 ≤ 60 := by omega
      have HQ4 := Lib.hid hq4
      clear hq4
      have hxl : (s.extract q4 64).data.toList = l.drop (4 * k) := by rw [ex_toList s q4 64 hsz.symm, HL.out, HQ4.out]
      have HWC := Lib.hid (word_any (s.extract q4 64) wr (by rw [ByteArray.size_extract]; omega))
      have HWD : Hid (Sha.wd l k = Sha.wd (s.extract q4 64).data.toList 0) := by show _ = _; rw [hxl, wd_drop]
      clear hxl
      go_wp2_with fail
      refine HWC.out.mono ?_
      rintro e w2 ⟨rfl, qd, hw2⟩
      obtain ⟨x, hx⟩ : ∃ x, Sha.wd (s.extract q4 64).data.toList 0 = x := ⟨_, rfl⟩
      rw [hx] at HWD ⊢
      have HR2 : Hid (w2.rowIs (n0 + 1 + 1 + 1) 85 64 (rowA l k)) := by rw [hw2]; exact HR.out
      have HY2 : Hid (Lay4 w w2 n0 hc kc) := by rw [hw2]; exact HY.out.next ⟨rfl, rfl, rfl, Nat.le_refl _, fun _ _ => rfl⟩
      have hcl2 := HR2.out.cell (i := k) (by omega)
      have hfr2 := HR2.out.frozen k
      have HRS : Hid ((w2.setCell ⟨n0 + 1 + 1 + 1, k, none⟩ (.int .u32 x)).rowIs (n0 + 1 + 1 + 1) 85 64 (rowA l (k + 1))) := (HR2.out.set k _).congr fun j _ => rowA_step l k x HWD.out j
      have HYS := Lib.hid (HY2.out.next ((Below.refl (n0 + 1 + 1 + 1) w2).setCell (p := ⟨n0 + 1 + 1 + 1, k, none⟩) (Nat.le_refl _) (.int .u32 x)))
      clear hx hw2 HR HY hcl hfr HWC
      go_wp2
      exact ⟨⟨k + 1, by omega, by go_num, HRS, HYS⟩, by simp [intOf]; omega⟩
    · have HQ : Hid (wr.rowIs (n0 + 1 + 1 + 1) 85 64 (row2 V 0)) := by
        obtain rfl : k = 16 := by omega
        rw [← HVE.out]
        exact HR.out.congr fun j hj => rowA_end l j
      clear HR
      go_wp2
      go_loopw [9, 10, 11, 12, 13] (fun i _ _ _ _ wr => ∃ t : Nat, 16 ≤ t ∧ t ≤ 64 ∧ i = .int .i64 t ∧ Hid (wr.rowIs (n0 + 1 + 1 + 1) 85 64 (row2 V (t - 16))) ∧ Hid (Lay4 w wr n0 hc kc)) (fun i _ _ _ _ _ => 64 - (intOf i).toNat)
      case atStart => exact ⟨16, by omega, by omega, rfl, HQ, HY⟩
      case round =>
        obtain ⟨t, ht, ht2, rfl, HR, HY⟩ := hrel
        by_cases hlt : t < 64
        · obtain ⟨j15, e15⟩ : ∃ j : Nat, t = j + 15 := ⟨t - 15, by omega⟩
          obtain ⟨j2, e2⟩ : ∃ j : Nat, t = j + 2 := ⟨t - 2, by omega⟩
          obtain ⟨j7, e7⟩ : ∃ j : Nat, t = j + 7 := ⟨t - 7, by omega⟩
          obtain ⟨j16, e16⟩ : ∃ j : Nat, t = j + 16 := ⟨t - 16, by omega⟩
          have H15 : Hid (IntKind.i64.wrap ((t : Int) - 15) = (j15 : Int)) := Lib.hid <| by rw [IntKind.wrap_i64]; omega
          have H2 : Hid (IntKind.i64.wrap ((t : Int) - 2) = (j2 : Int)) := Lib.hid <| by rw [IntKind.wrap_i64]; omega
          have H7 : Hid (IntKind.i64.wrap ((t : Int) - 7) = (j7 : Int)) := Lib.hid <| by rw [IntKind.wrap_i64]; omega
          have H16 : Hid (IntKind.i64.wrap ((t : Int) - 16) = (j16 : Int)) := Lib.hid <| by rw [IntKind.wrap_i64]; omega
          have c15 := HR.out.cell (i := j15) (by omega)
          have c2 := HR.out.cell (i := j2) (by omega)
          rw [row2_old V _ _ (by omega)] at c15 c2
          have hj15 : j15 < 64 := by omega
          have hj2 : j2 < 64 := by omega
          have hj7 : j7 < 64 := by omega
          have hj16 : j16 < 64 := by omega
          have E2 := Lib.hid e2
          have E7 := Lib.hid e7
          have E15 := Lib.hid e15
          have E16 := Lib.hid e16
          clear e15 e2 e7 e16
          obtain ⟨x, hx⟩ : ∃ x, V j15 = x := ⟨_, rfl⟩
          obtain ⟨y, hy⟩ : ∃ y, V j2 = y := ⟨_, rfl⟩
          rw [hx] at c15
          rw [hy] at c2
          have HX := Lib.hid hx
          have HYV := Lib.hid hy
          clear hx hy
          go_wp2_with fail
          have h15 := H15.out
          have h2 := H2.out
          go_quiet (fail)
          clear h15 h2
          have HR3 : Hid ((wr.drewN nq).rowIs (n0 + 1 + 1 + 1) 85 64 (row2 V (t - 16))) := HR.out
          have HY3 : Hid (Lay4 w (wr.drewN nq) n0 hc kc) := HY.out.next ⟨rfl, rfl, rfl, Nat.le_refl _, fun _ _ => rfl⟩
          clear HR HY c15 c2
          generalize wr.drewN nq = w3 at *
          have c7 := HR3.out.cell (i := j7) hj7
          have c16 := HR3.out.cell (i := j16) hj16
          rw [row2_old V _ _ (by have := E7.out; omega)] at c7
          rw [row2_old V _ _ (by have := E16.out; omega)] at c16
          have hcl := HR3.out.cell (i := t) hlt
          have hfr := HR3.out.frozen t
          have HN := Lib.hid (HV.out t j2 j7 j15 j16 ht hlt E2.out E7.out E15.out E16.out)
          obtain ⟨x7, hx7⟩ : ∃ x, V j7 = x := ⟨_, rfl⟩
          obtain ⟨x16, hx16⟩ : ∃ x, V j16 = x := ⟨_, rfl⟩
          rw [hx7] at c7 HN
          rw [hx16] at c16 HN
          rw [HX.out, HYV.out] at HN
          clear hx7 hx16
          go_wp2_with (go_at_call 78; refine (right_any _ _ _ (by omega) (by omega)).mono ?_; rintro e w' ⟨rfl, rfl⟩)
          have h7 := H7.out
          have h16 := H16.out
          have b7 : (j7 : Int) < 64 := by omega
          have b16 : (j16 : Int) < 64 := by omega
          have bt : (t : Int) < 64 := by omega
          refine wp_region_still_tail 15 hmx (by kernel_rfl) ?_
          simp only [List.take_succ_cons, List.take_zero, List.drop_succ_cons, List.drop_zero, drew_def]
          repeat still_step
          refine wpStill_nil ?_
          clear h7 h16 b7 b16
          go_wp2
          have HS : Hid ((w3.setCell ⟨n0 + 1 + 1 + 1, t, none⟩ (.int .u32 (V t))).rowIs (n0 + 1 + 1 + 1) 85 64 (row2 V (t - 16 + 1))) :=
            (HR3.out.set t _).congr fun j hj => row2_step V (t - 16) t (V t) (by omega) rfl j
          rw [HN.out, Sha.ad4] at HS
          refine ⟨⟨t + 1, by omega, by omega, by go_num, ?_, ?_⟩, by simp [intOf]; omega⟩
          · rw [show t + 1 - 16 = t - 16 + 1 by omega]
            exact HS
          · exact Lib.hid (HY3.out.next (((Below.refl (n0 + 1 + 1 + 1) w3).setCell (p := ⟨n0 + 1 + 1 + 1, t, none⟩) (Nat.le_refl _) _).drew))
        · have HRV : Hid (wr.rowIs (n0 + 1 + 1 + 1) 85 64 (fun j => .int .u32 (V j))) := HR.out.congr fun j hj => row2_old V _ _ (by omega)
          clear HR
          have hgv : n0 + 1 + 1 + 1 < wr.heap.size := HY.out.sz
          have hz8 : (wr.alloc (.cells zeros8 83)).heap[wr.heap.size]? = some (.cells zeros8 83 (0, 0)) := heap_alloc_new _ _
          go_wp2_with (first
            | (refine wpList_load_row rfl 83 (.tmp 3) rfl n0 rfl 83 hc (0, 0) _ HY.out.h Tryz.underlying83 rfl (by rw [hhz]; exact info8) ?_)
            | (refine wpList_store_row rfl 83 (.tmp 14) (.tmp 75) rfl wr.heap.size hc rfl rfl 83 zeros8 hz8 (by rw [hhz]; exact info8) (by rw [hhz]; rfl) hhall ?_))
          have hba : Below wr.heap.size wr ((wr.alloc (.cells zeros8 83)).setRow wr.heap.size hc) := by
            rw [World.setRow_alloc_new]; exact (Below.refl _ _).alloc (Nat.le_refl _) _
          have hcv : ((wr.alloc (.cells zeros8 83)).setRow wr.heap.size hc).heap[wr.heap.size]? = some (.cells hc 83 (0, 0)) := by
            rw [World.setRow_alloc_new]; exact heap_alloc_new _ _
          have HY4 : Hid (Lay4 w ((wr.alloc (.cells zeros8 83)).setRow wr.heap.size hc) n0 hc kc) := HY.out.next (hba.mono (by omega))
          have HR4 : Hid (((wr.alloc (.cells zeros8 83)).setRow wr.heap.size hc).rowIs (n0 + 1 + 1 + 1) 85 64 (fun j => .int .u32 (V j))) := World.rowIs.of_block HRV.out (hba.block _ hgv)
          obtain ⟨gv, hgvv⟩ : ∃ g, wr.heap.size = g := ⟨_, rfl⟩
          have HCV : Hid (((wr.alloc (.cells zeros8 83)).setRow wr.heap.size hc).heap[gv]? = some (.cells hc 83 (0, 0))) := by show _ = _; rw [← hgvv]; exact hcv
          have HE0 : Hid (Eight hc (S 0)) := by show Eight _ _; rw [HST.out.start]; exact HHH.out
          rw [hgvv] at hgv HY4 HR4 HCV ⊢
          clear hba hcv hz8 hgvv HY HRV
          go_loopw [15, 16, 17, 18, 19, 76] (fun _ _ _ _ _ i wr => ∃ (t : Nat) (cs : Array Value), t ≤ 64 ∧ i = .int .i64 t ∧ Hid (wr.heap[gv]? = some (.cells cs 83 (0, 0))) ∧ Hid (Eight cs (S t)) ∧ Hid (wr.rowIs (n0 + 1 + 1 + 1) 85 64 (fun j => .int .u32 (V j))) ∧ Hid (Lay4 w wr n0 hc kc)) (fun _ _ _ _ _ i _ => 64 - (intOf i).toNat)
          case atStart => exact ⟨0, hc, by omega, rfl, HCV, HE0, HR4, HY4⟩
          case round =>
            obtain ⟨t, cs, ht, rfl, HCV, HE, HR, HY⟩ := hrel
            by_cases hlt : t < 64
            · obtain ⟨s0, hs0⟩ : ∃ s, S t = s := ⟨_, rfl⟩
              have HN := Lib.hid (HST.out.step t hlt)
              obtain ⟨x, hx⟩ : ∃ x, V t = x := ⟨_, rfl⟩
              obtain ⟨kk, hkk⟩ : ∃ x, K t = x := ⟨_, rfl⟩
              have hkc := HKC.out t hlt
              have hcw := HR.out.cell (i := t) hlt
              rw [hs0, hx, hkk] at HN
              rw [hs0] at HE
              rw [hx] at hcw
              rw [hkk] at hkc
              have HKK := Lib.hid hkc
              have HXX := Lib.hid hx
              have HSN : Hid (Seen w wr n0 gv hc kc cs V) := ⟨HCV.out, HR.out, HY.out⟩
              clear hs0 hx hkk hkc hcw HCV HR HY
              obtain ⟨a, b, c, d, e, f, gg, hh⟩ := s0
              have hsc := HE.out.size
              have hsg : IntKind.u32.signed = false := rfl
              have c0 := HSN.out.cv HE.out (j := 0) (by omega)
              have c4 := HSN.out.cv HE.out (j := 4) (by omega)
              simp only [Sha.St.list, List.getD_cons_zero, List.getD_cons_succ] at c0 c4
              have hti : (t : Int) < 64 := by omega
              go_wp2_with fail
              go_quiet (fail)
              have HS5 : Hid (Seen w (wr.drewN nq) n0 gv hc kc cs V) := HSN.out.next ⟨rfl, rfl, rfl, Nat.le_refl _, fun _ _ => rfl⟩
              clear HSN c0 c4
              generalize wr.drewN nq = w5 at *
              have c5 := HS5.out.cv HE.out (j := 5) (by omega)
              have c6 := HS5.out.cv HE.out (j := 6) (by omega)
              have c7 := HS5.out.cv HE.out (j := 7) (by omega)
              have hck := HS5.out.ck HKK.out
              have hcw := HS5.out.r.cell (i := t) hlt
              rw [HXX.out] at hcw
              simp only [Sha.St.list, List.getD_cons_zero, List.getD_cons_succ] at c5 c6 c7
              go_wp2_with fail
              refine wp_region_still_tail 30 hmx (by kernel_rfl) ?_
              simp only [List.take_succ_cons, List.take_zero, List.drop_succ_cons, List.drop_zero, drew_def]
              repeat (first | still_step | still_call (still_of (right_any _ _ _ (by omega) (by omega))))
              refine wpStill_nil ?_
              have HS6 : Hid (Seen w w5.drew n0 gv hc kc cs V) := HS5.out.next ⟨rfl, rfl, rfl, Nat.le_refl _, fun _ _ => rfl⟩
              clear HS5 c5 c6 c7 hck hcw
              generalize w5.drew = w6 at *
              rw [t1_eq2 a b c d e f gg hh kk x]
              obtain ⟨T1, hT1⟩ : ∃ T, Sha.t1 ⟨a, b, c, d, e, f, gg, hh⟩ kk x = T := ⟨_, rfl⟩
              rw [hT1]
              have HT1 := Lib.hid hT1
              clear hT1
              have c1 := HS6.out.cv HE.out (j := 1) (by omega)
              have c2 := HS6.out.cv HE.out (j := 2) (by omega)
              simp only [Sha.St.list, List.getD_cons_zero, List.getD_cons_succ] at c1 c2
              go_wp2_with fail
              refine wp_region_still_tail 24 hmx (by kernel_rfl) ?_
              simp only [List.take_succ_cons, List.take_zero, List.drop_succ_cons, List.drop_zero, drew_def]
              repeat (first | still_step | still_call (still_of (right_any _ _ _ (by omega) (by omega))))
              refine wpStill_nil ?_
              have HS7 : Hid (Seen w w6.drew n0 gv hc kc cs V) := HS6.out.next ⟨rfl, rfl, rfl, Nat.le_refl _, fun _ _ => rfl⟩
              clear HS6 c1 c2
              generalize w6.drew = w7 at *
              rw [t2_eq2 a b c d e f gg hh]
              obtain ⟨T2, hT2⟩ : ∃ T, Sha.t2 ⟨a, b, c, d, e, f, gg, hh⟩ = T := ⟨_, rfl⟩
              rw [hT2]
              have HT2 := Lib.hid hT2
              clear hT2
              have c1 := HS7.out.cv HE.out (j := 1) (by omega)
              have c2 := HS7.out.cv HE.out (j := 2) (by omega)
              have c3 := HS7.out.cv HE.out (j := 3) (by omega)
              have c5 := HS7.out.cv HE.out (j := 5) (by omega)
              have c6 := HS7.out.cv HE.out (j := 6) (by omega)
              simp only [Sha.St.list, List.getD_cons_zero, List.getD_cons_succ] at c1 c2 c3 c5 c6
              go_wp2_with (refine wpList_store_row rfl 83 (.tmp 14) (.tmp 154) rfl gv _ rfl rfl 83 cs HS7.out.v info8 (by rw [hsc]; rfl) (eight_all _ _ _ _ _ _ _ _) ?_)
              have hbg := below_setRow (Below.refl gv w7) (Nat.le_refl gv) #[.int .u32 ((T1 + T2) % 4294967296), .int .u32 a, .int .u32 b, .int .u32 c, .int .u32 ((d + T1) % 4294967296), .int .u32 e, .int .u32 f, .int .u32 gg]
              have hvn := setRow_heap w7 gv cs #[.int .u32 ((T1 + T2) % 4294967296), .int .u32 a, .int .u32 b, .int .u32 c, .int .u32 ((d + T1) % 4294967296), .int .u32 e, .int .u32 f, .int .u32 gg] 83 (0, 0) HS7.out.v
              have HEN : Hid (Eight #[.int .u32 ((T1 + T2) % 4294967296), .int .u32 a, .int .u32 b, .int .u32 c, .int .u32 ((d + T1) % 4294967296), .int .u32 e, .int .u32 f, .int .u32 gg] (S (t + 1))) := by
                show Eight _ _
                rw [HN.out]
                unfold Sha.rnd
                rw [HT1.out, HT2.out]
                exact eight_lit _ _ _ _ _ _ _ _
              exact ⟨⟨t + 1, _, by omega, by go_num, hvn, HEN, World.rowIs.of_block HS7.out.r (hbg.block _ hgv), HS7.out.y.next (hbg.mono (Nat.le_of_lt hgv))⟩, by simp [intOf]; omega⟩
            · have ht64 : t = 64 := by omega
              have HSC : Hid (Sha.comp H l = Sha.plus H (S t)) := by show _ = _; rw [ht64]; exact HSE.out
              obtain ⟨U, hU⟩ : ∃ U : Nat → Int, (fun j => (S t).list.getD j 0) = U := ⟨_, rfl⟩
              obtain ⟨Y, hY⟩ : ∃ Y : Nat → Int, (fun j => H.list.getD j 0) = Y := ⟨_, rfl⟩
              have HUU := Lib.hid (congrFun hU)
              have HYY := Lib.hid (congrFun hY)
              have HP0 : Hid (wr.rowIs gv 83 8 (p8row U Y 0)) := ⟨cs, HCV.out, HE.out.size, fun j hj => by
                rw [HE.out.cell j hj]
                unfold p8row part8
                rw [if_neg (by omega), ← HUU.out j]⟩
              clear ht64 hU hY HCV HE HR
              go_wp2
              go_loopw [20, 156] (fun _ i wr => ∃ k : Nat, k ≤ 8 ∧ i = .int .i64 k ∧ Hid (wr.rowIs gv 83 8 (p8row U Y k)) ∧ Hid (Lay4 w wr n0 hc kc)) (fun _ i _ => 8 - (intOf i).toNat)
              case atStart => exact ⟨0, by omega, rfl, HP0, HY⟩
              case round =>
                obtain ⟨k, hk, rfl, HP, HY⟩ := hrel
                by_cases hlt : k < 8
                · have hcu := HP.out.cell hlt
                  have hfr := HP.out.frozen k
                  have hcy : wr.cell? ⟨n0, k, none⟩ = some (.int .u32 (H.list.getD k 0)) := by simp [World.cell?, HY.out.h, HHH.out.cell k hlt]
                  rw [HYY.out k] at hcy
                  have e1 : p8row U Y k k = .int .u32 (U k) := by unfold p8row part8; rw [if_neg (by omega)]
                  rw [e1] at hcu
                  obtain ⟨u, hu⟩ : ∃ v, U k = v := ⟨_, rfl⟩
                  obtain ⟨y, hy⟩ : ∃ y, Y k = y := ⟨_, rfl⟩
                  have HPS := Lib.hid (fun j => p8row_step U Y k u y hu hy j)
                  rw [hu] at hcu
                  rw [hy] at hcy
                  have hk8 : (k : Int) < 8 := by omega
                  clear hu hy e1
                  go_wp2_with fail
                  refine wp_region_still_tail 8 hmx (by kernel_rfl) ?_
                  simp only [List.take_succ_cons, List.take_zero, List.drop_succ_cons, List.drop_zero, drew_def]
                  repeat still_step
                  refine wpStill_nil ?_
                  go_wp2
                  have HRS : Hid ((wr.setCell ⟨gv, k, none⟩ (.int .u32 (Sha.ad u y))).rowIs gv 83 8 (p8row U Y (k + 1))) := (HP.out.set k _).congr fun j _ => HPS.out j
                  exact ⟨⟨k + 1, by omega, by go_num, HRS, Lib.hid (HY.out.next (((Below.refl (n0 + 1 + 1 + 1) wr).setCell (p := ⟨gv, k, none⟩) (Nat.le_of_lt hgv) _).drew))⟩, by simp [intOf]; omega⟩
                · obtain ⟨rc, hrc, hrz, hrv⟩ := HP.out
                  have HRC : Hid (Eight rc (Sha.comp H l)) := by
                    obtain rfl : k = 8 := by omega
                    refine ⟨hrz, ?_, fun j hj => ?_⟩
                    · rw [Array.all_eq_true]
                      intro i hi
                      have := hrv i (by omega)
                      rw [Array.getElem?_eq_getElem hi] at this
                      rw [Option.some.inj this]; rfl
                    · rw [hrv j hj, HSC.out, plus_list _ _ j hj]
                      unfold p8row part8
                      rw [if_pos hj, ← HUU.out j, ← HYY.out j, Sha.ad_comm]
                  have HRR := Lib.hid hrc
                  clear hrv hrc
                  go_wp2_with (first
                    | (refine wpList_load_row rfl 83 (.tmp 14) rfl gv rfl 83 rc (0, 0) _ HRR.out Tryz.underlying83 rfl (by rw [hrz]; exact info8) ?_)
                    | (refine wpList_store_row rfl 83 (.tmp 6) (.tmp 168) rfl (n0 + 1 + 1) rc rfl rfl 83 zeros8 HY.out.r (by rw [hrz]; exact info8) (by rw [hrz]; rfl) HRC.out.all ?_))
                  have hnew := setRow_heap wr (n0 + 1 + 1) zeros8 rc 83 (0, 0) HY.out.r
                  have hld := run_loadVar_row (P := Tryz.prog) (wr.setRow (n0 + 1 + 1) rc) (n0 + 1 + 1) 83 83 rc (0, 0) _ hnew Tryz.underlying83 rfl (by rw [hrz]; exact info8)
                  exact bodyPost_ret (results_cell_at rfl _ _ _ rfl _ hld) rfl ⟨rc, rfl, HRC.out, below_setRow HY.out.bel (by omega) _⟩
end Go.Proofs.YtpgbjnenllfmlaaGreatDoor
/-! SHA-256 of a string: the document's Sum. -/
namespace Go.Proofs.YtpgbjnenllfmlaaGreatDoor
open Go.RowKit
set_option linter.unusedVariables false

theorem wpStill_load_row {P : Program} {ops : Array Oper} {w : World} {Q : Act → Prop} {a : Act} {o : Oper} {rest : List Oper} (hgd : o.guard = none) (ty : TypeId) (x : Operand) (ho : o.op = .load ty x)
    (g : Nat) (hx : a.eval x = .pointer (some ⟨g, 0, none⟩)) (t : TypeId) (cs : Array Value) (fr : Nat × Nat) (d : TypeDesc) (hg : w.heap[g]? = some (.cells cs t fr))
    (hu : P.underlying ty = some d) (hd : (match d with | .struct _ | .array _ _ => true | _ => false) = true) (hi : (P.info? ty).map (·.size) = some cs.size)
    (h : wpStill P ops w Q rest (a.put o.dst (.agg cs))) : wpStill P ops w Q (o :: rest) a := by
  refine wpStill_step fun K hK => ?_
  have hw : Region.wanted o (yielded ops a.tmps) = true := by simp [Region.wanted, hgd]
  rw [if_pos hw]
  unfold Oper.still execOp
  simp only [ho, hx, Instr.loadAt, Instr.sureAddr, Sem.run_bind, Sem.run_pure, Result.andThen_ok, run_loadVar_row w g t ty cs fr d hg hu hd hi]
  rw [Oper.stillUpon_value]
  exact hK _ h
/-- Bytes more, by a slice literal. -/
theorem push_many {W : World} {B : Nat} {v : Value} {l : List UInt8} (h : OwnB W B v l) (hB : B ≤ W.heap.size) (bs : List UInt8) (cs : Array Value) (k : Nat) (hk : bs.length = k) (hcs : ∀ j, j < k → cs[j]? = some (.int .u8 (Sha.bt bs j))) (hl : l.length + k ≤ 1000000000000) (ty : TypeId) :
    ∃ v' W', (Builtin.append_ #[88, 88] ty #[v, .slice (some ⟨W.heap.size, 0, none⟩) k k]).run Tryz.prog (W.alloc (.cells cs 5)) = .ok v' W' ∧ Pushed B W (l ++ bs) v' W' := by
  have hba : Below W.heap.size W (W.alloc (.cells cs 5)) := (Below.refl _ _).alloc (Nat.le_refl _) _
  have hc : (W.alloc (.cells cs 5)).heap[W.heap.size]? = some (.cells cs 5 (0, 0)) := heap_alloc_new _ _
  obtain ⟨v', W', h1, h2, h3⟩ := append_own (h.below (Nat.le_refl _) hba) (Nat.le_trans hB hba.size) (.slice (some ⟨W.heap.size, 0, none⟩) k k) 88 bs k hk (src_slice hk (fun j hj => by
    show (match (W.alloc (.cells cs 5)).heap[W.heap.size]? with | some (.cells c _ _) => c[j]? | _ => none) = _
    rw [hc]
    exact hcs j hj)) hl ty
  exact ⟨v', W', h1, h2, (hba.mono hB).trans h3⟩
theorem four_cells (x a b c d : Int) (hx : Sha.In x) (ha : a = x / 16777216 % 256) (hb : b = x / 65536 % 256) (hc : c = x / 256 % 256) (hd : d = x % 256) (j : Nat) (hj : j < 4) : (#[Value.int .u8 a, .int .u8 b, .int .u8 c, .int .u8 d] : Array Value)[j]? = some (.int .u8 (Sha.bt (Sha.four x) j)) := by
  obtain ⟨n, rfl⟩ := Int.eq_ofNat_of_zero_le hx.1
  have e1 : ((n : Int) / 16777216).toNat = n / 16777216 := by omega
  have e2 : ((n : Int) / 65536).toNat = n / 65536 := by omega
  have e3 : ((n : Int) / 256).toNat = n / 256 := by omega
  have : j = 0 ∨ j = 1 ∨ j = 2 ∨ j = 3 := by omega
  rcases this with rfl | rfl | rfl | rfl
  · simp [Sha.bt, Sha.four, e1, ha]
  · simp [Sha.bt, Sha.four, e2, hb]
  · simp [Sha.bt, Sha.four, e3, hc]
  · simp [Sha.bt, Sha.four, hd]
theorem hsCells_eight : Eight HsCells Sha.H0 := ⟨hsCells_size, hsCells_all, fun j hj => by
  have : j = 0 ∨ j = 1 ∨ j = 2 ∨ j = 3 ∨ j = 4 ∨ j = 5 ∨ j = 6 ∨ j = 7 := by omega
  rcases this with rfl | rfl | rfl | rfl | rfl | rfl | rfl | rfl <;> rfl⟩
theorem pad_mod (m : List UInt8) : (Sha.pad m).length % 64 = 0 := by
  have h := Sha.zs_eq m.length
  rw [Sha.pad_len]
  omega

theorem two_new (w : World) (c d : Array Value) (t1 t2 : TypeId) : ((w.alloc (.cells c t1)).alloc (.cells d t2)).heap[w.heap.size]? = some (.cells c t1 (0, 0)) ∧ ((w.alloc (.cells c t1)).alloc (.cells d t2)).heap[w.heap.size + 1]? = some (.cells d t2 (0, 0)) := by
  obtain ⟨w1, h1⟩ : ∃ w1, w.alloc (.cells c t1) = w1 := ⟨_, rfl⟩
  have s1 : w1.heap.size = w.heap.size + 1 := by rw [← h1]; simp
  have f1 : w1.heap[w.heap.size]? = some (.cells c t1 (0, 0)) := by rw [← h1]; exact heap_alloc_new _ _
  have b2 : Below w1.heap.size w1 (w1.alloc (.cells d t2)) := (Below.refl _ _).alloc (Nat.le_refl _) _
  rw [h1]
  refine ⟨by rw [b2.block _ (by omega)]; exact f1, ?_⟩
  rw [← s1]
  exact heap_alloc_new _ _
theorem setRow_ne (w : World) (g k : Nat) (c : Array Value) (h : k ≠ g) : (w.setRow g c).heap[k]? = w.heap[k]? := by
  simp only [World.setRow, Array.getElem?_modify]
  rw [if_neg (fun e => h e.symm)]
theorem sum_start (w : World) (T kc c d : Array Value) (h8 : c = zeros8) (h64 : d = zeros64) :
    ((((w.alloc (.cells c 83)).alloc (.cells d 85)).setRow w.heap.size T).setRow (w.heap.size + 1) kc).heap[w.heap.size]? = some (.cells T 83 (0, 0)) ∧
    ((((w.alloc (.cells c 83)).alloc (.cells d 85)).setRow w.heap.size T).setRow (w.heap.size + 1) kc).heap[w.heap.size + 1]? = some (.cells kc 85 (0, 0)) ∧
    Below w.heap.size w ((((w.alloc (.cells c 83)).alloc (.cells d 85)).setRow w.heap.size T).setRow (w.heap.size + 1) kc) := by
  obtain ⟨f1, f2⟩ := two_new w c d 83 85
  have g1 := setRow_heap _ w.heap.size c T 83 (0, 0) f1
  have g2 : (((w.alloc (.cells c 83)).alloc (.cells d 85)).setRow w.heap.size T).heap[w.heap.size + 1]? = some (.cells d 85 (0, 0)) := by rw [setRow_ne _ _ _ _ (by omega)]; exact f2
  refine ⟨?_, setRow_heap _ (w.heap.size + 1) d kc 85 (0, 0) g2, ?_⟩
  · rw [setRow_ne _ _ _ _ (by omega)]; exact g1
  · exact below_setRow (below_setRow (((Below.refl _ _).alloc (Nat.le_refl _) _).alloc (by simp) _) (Nat.le_refl _) _) (by omega) _

set_option maxRecDepth 100000 in
set_option maxHeartbeats 8000000 in
theorem refSum_any (s : ByteArray) (w : World) (hs : s.size ≤ 100000000) :
    Calls Tryz.prog 29 #[.string s] w fun e w' => e = .returned (.string ⟨(Sha.sum s.data.toList).toArray⟩) ∧ Below w.heap.size w w' := by
  have hmx : Tryz.prog.follows .mixedOrders = true := by kernel_rfl
  obtain ⟨m, hm⟩ : ∃ m, s.data.toList = m := ⟨_, rfl⟩
  have hml : m.length ≤ 100000000 := by rw [← hm, ← Lib.size_eq]; exact hs
  have HPA := Lib.hid (fun w => pad_any s w (by omega))
  rw [hm] at HPA ⊢
  obtain ⟨T, hT⟩ : ∃ T, HsCells = T := ⟨_, rfl⟩
  obtain ⟨kc, hkc⟩ : ∃ T, KsCells = T := ⟨_, rfl⟩
  have HFI := Lib.hid (fun w => first_any w)
  have HCO := Lib.hid (fun w => constants_any w)
  have hTs : T.size = 8 := by rw [← hT]; exact hsCells_size
  have hTa : T.all (·.oneCell') = true := by rw [← hT]; exact hsCells_all
  have hks : kc.size = 64 := by rw [← hkc]; exact ksCells_size
  have hka : kc.all (·.oneCell') = true := by rw [← hkc]; exact ksCells_all
  have HE0 : Hid (Eight T Sha.H0) := by rw [← hT]; exact hsCells_eight
  have HKE : Hid (kc = KsCells) := hkc.symm
  rw [hT] at HFI
  rw [hkc] at HCO
  clear hT hkc hm hs
  obtain ⟨n0, hn0⟩ : ∃ n, w.heap.size = n := ⟨_, rfl⟩
  rw [hn0]
  go_enter Tryz.func29, Tryz.ntmps29
  go_wp2_with fail
  refine (HFI.out w).mono ?_
  rintro e w1 ⟨rfl, hb1⟩
  rw [hn0] at hb1
  have HB1 := Lib.hid hb1
  have HN0 := Lib.hid hn0
  have hs1 : n0 ≤ w1.heap.size := by have := hb1.size; omega
  clear hb1 hn0
  go_wp2_with fail
  refine (HCO.out w1).mono ?_
  rintro e w2 ⟨rfl, hb2⟩
  have HB2 := Lib.hid (HB1.out.trans (hb2.mono hs1))
  have hs2 : n0 ≤ w2.heap.size := Nat.le_trans hs1 hb2.size
  clear hb2 HB1
  go_wp2_with fail
  refine (HPA.out w2).mono ?_
  rintro e w3 ⟨rfl, hb3⟩
  have HB3 := Lib.hid (HB2.out.trans (hb3.mono hs2))
  have hs3 : n0 ≤ w3.heap.size := Nat.le_trans hs2 hb3.size
  obtain ⟨P, hP⟩ : ∃ P, Sha.pad m = P := ⟨_, rfl⟩
  have hPm : P.length % 64 = 0 := by rw [← hP]; exact pad_mod m
  have hPl : P.length ≤ 200000000 := by rw [← hP, Sha.pad_len]; unfold Sha.zs; omega
  have HSU : Hid (Sha.sum m = Sha.bytes (Sha.hs P (P.length / 64))) := by show _ = _; rw [← hP]; rfl
  rw [hP]
  obtain ⟨p, hp⟩ : ∃ r : ByteArray, (⟨P.toArray⟩ : ByteArray) = r := ⟨_, rfl⟩
  have hpl : p.data.toList = P := by rw [← hp]
  have hps : p.size = P.length := by rw [Lib.size_eq, hpl]
  rw [hp]
  have HPD := Lib.hid hpl
  clear hP hp hpl hb3 HB2
  go_wp2_with (first
    | (refine wpList_store_row rfl 83 (.tmp 3) (.tmp 10) rfl w3.heap.size T rfl rfl 83 zeros8 ?h1 (by rw [hTs]; exact info8) (by rw [hTs]; rfl) hTa ?_)
    | (refine wpList_store_row rfl 85 (.tmp 4) (.tmp 11) rfl (w3.heap.size + 1) kc rfl rfl 85 zeros64 ?h2 (by rw [hks]; exact info64) (by rw [hks]; rfl) hka ?_))
  case h1 => exact (two_new w3 zeros8 zeros64 _ _).1
  case h2 =>
    have h := (two_new w3 zeros8 zeros64 83 85).2
    rw [← setRow_ne _ w3.heap.size _ T (by omega)] at h
    exact h
  obtain ⟨g, hg⟩ : ∃ g, w3.heap.size = g := ⟨_, rfl⟩
  have hst := fun c d h8 h64 => sum_start w3 T kc c d h8 h64
  rw [hg] at hst hs3 ⊢
  clear hg
  go_loopw [6] (fun i wr => ∃ (k : Nat) (cs : Array Value), 64 * k ≤ P.length ∧ i = .int .i64 ((64 * k : Nat) : Int) ∧ Hid (wr.heap[g]? = some (.cells cs 83 (0, 0))) ∧ Hid (Eight cs (Sha.hs P k)) ∧ Hid (wr.heap[g + 1]? = some (.cells kc 85 (0, 0))) ∧ Hid (Below n0 w wr)) (fun i _ => P.length + 1 - (intOf i).toNat)
  case atStart =>
    obtain ⟨h1, h2, h3⟩ := hst _ _ rfl rfl
    exact ⟨0, T, by omega, rfl, h1, HE0, h2, HB3.out.trans (h3.mono hs3)⟩
  case round =>
    obtain ⟨k, cs, hk, rfl, HC, HE, HK, HB⟩ := hrel
    clear hst
    obtain ⟨i, hi⟩ : ∃ i, 64 * k = i := ⟨_, rfl⟩
    rw [hi] at hk ⊢
    have hcz := HE.out.size
    have hgk : g + 1 < wr.heap.size := (Array.getElem?_eq_some_iff.1 HK.out).1
    by_cases hlt : i < P.length
    · have hi64 : i + 64 ≤ P.length := by omega
      have HI := Lib.hid hi
      obtain ⟨e, he⟩ : ∃ e, e = i + 64 := ⟨_, rfl⟩
      have hwe : IntKind.i64.wrap ((i : Int) + 64) = (e : Int) := by rw [IntKind.wrap_i64]; omega
      have hie : (i : Int) ≤ (e : Int) := by omega
      have hep : (e : Int) ≤ (P.length : Int) := by omega
      have hie2 : i ≤ e := by omega
      have hep2 : e ≤ P.length := by omega
      have HEI := Lib.hid he
      clear he hi64
      clear hi
      go_wp2_with fail
      refine wp_region_still_tail 7 hmx (by kernel_rfl) ?_
      simp only [List.take_succ_cons, List.take_zero, List.drop_succ_cons, List.drop_zero, drew_def]
      refine wpStill_load_row rfl 83 (.tmp 3) rfl g rfl 83 cs (0, 0) _ HC.out Tryz.underlying83 rfl (by rw [hcz]; exact info8) ?_
      refine wpStill_load_row rfl 85 (.tmp 4) rfl (g + 1) rfl 85 kc (0, 0) _ HK.out Tryz.underlying85 rfl (by rw [hks]; exact info64) ?_
      repeat still_step
      refine wpStill_nil ?_
      go_wp2_with fail
      have hxs : (p.extract i e).size = 64 := by rw [ByteArray.size_extract, hps]; have := HEI.out; omega
      have hxl : (p.extract i e).data.toList = (P.drop (64 * k)).take 64 := by
        rw [ByteArray.data_extract, Array.toList_extract, HPD.out]
        simp only [List.extract]
        rw [HI.out, show e - i = 64 by have := HEI.out; omega]
      refine (block_any cs kc (Sha.hs P k) (p.extract i e) wr.drew HE.out HKE.out hxs).mono ?_
      rintro e' w5 ⟨rc, rfl, hrc, hb5⟩
      rw [hxl] at hrc
      have HRC : Hid (Eight rc (Sha.hs P (k + 1))) := hrc
      have hrz := hrc.size
      have hb6 : Below wr.heap.size wr w5 := ⟨hb5.os, hb5.tape, hb5.output, hb5.size, hb5.block⟩
      have HC5 : Hid (w5.heap[g]? = some (.cells cs 83 (0, 0))) := by show _ = _; rw [hb6.block g (by omega)]; exact HC.out
      have HK5 : Hid (w5.heap[g + 1]? = some (.cells kc 85 (0, 0))) := by show _ = _; rw [hb6.block (g + 1) hgk]; exact HK.out
      have HB5 := Lib.hid (HB.out.trans (hb6.mono (by omega)))
      clear hrc hb5 hb6 hxs hxl HC HK HB
      go_wp2_with (refine wpList_store_row rfl 83 (.tmp 3) (.tmp 27) rfl g rc rfl rfl 83 cs HC5.out (by rw [hrz]; exact info8) (by rw [hrz]; exact hcz) HRC.out.all ?_)
      have hC6 := setRow_heap w5 g cs rc 83 (0, 0) HC5.out
      have hK6 : (w5.setRow g rc).heap[g + 1]? = some (.cells kc 85 (0, 0)) := by rw [setRow_ne _ _ _ _ (by omega)]; exact HK5.out
      have hei := HEI.out
      have hii := HI.out
      exact ⟨⟨k + 1, rc, by omega, by congr 1; omega, hC6, HRC, hK6, below_setRow HB5.out hs3 _⟩, by simp [intOf]; omega⟩
    · have hik : Hid (P.length / 64 = k) := by show _ = _; omega
      have HHE : Hid (Eight cs (Sha.hs P (P.length / 64))) := by show Eight _ _; rw [hik.out]; exact HE.out
      obtain ⟨LL, hLL⟩ : ∃ L, (Sha.hs P (P.length / 64)).list = L := ⟨_, rfl⟩
      have HLE : Hid (LL.length = 8) := by rw [← hLL]; rfl
      have HSB : Hid (Sha.sum m = LL.flatMap Sha.four) := by show _ = _; rw [HSU.out, ← hLL]; rfl
      have HIN : Hid (∀ k, k < 8 → Sha.In (LL.getD k 0)) := by rw [← hLL]; exact fun k hk => hs_in _ _ k hk
      have HIX : Hid (∀ k : Nat, k < 8 → ∀ w, (Instr.index 83 (.agg cs) (.int .i64 k)).run Tryz.prog w = .ok (.int .u32 (LL.getD k 0)) w) := by
        rw [← hLL]
        exact fun k hk w => index_arr Tryz.underlying83 hk (HHE.out.cell k hk) w
      have HO0 : Hid (OwnB wr n0 (.slice none 0 0) ((LL.take 0).flatMap Sha.four)) := .inl ⟨rfl, rfl⟩
      clear hi hLL HE HK HHE HSU
      go_wp2_with (refine wpList_load_row rfl 83 (.tmp 3) rfl g rfl 83 cs (0, 0) _ HC.out Tryz.underlying83 rfl (by rw [hcz]; exact info8) ?_)
      go_loopw [7, 9, 29] (fun v _ i wr => ∃ (k : Nat) (o : Value), k ≤ 8 ∧ v = o ∧ i = .int .i64 k ∧ Hid (OwnB wr n0 o ((LL.take k).flatMap Sha.four)) ∧ Hid (Below n0 w wr)) (fun _ _ i _ => 8 - (intOf i).toNat)
      case atStart => exact ⟨0, _, by omega, rfl, rfl, HO0, HB⟩
      case round =>
        obtain ⟨k, o, hk, rfl, rfl, HO, HB⟩ := hrel
        have hfl := flat_len (LL.take k)
        rw [List.length_take, HLE.out, Nat.min_eq_left hk] at hfl
        have HFL := Lib.hid hfl
        have hBr : n0 ≤ wr.heap.size := by have := HB.out.size; have := HN0.out; omega
        clear hfl
        by_cases hlt : k < 8
        · have hix := HIX.out k hlt wr
          have hin := HIN.out k hlt
          have HFN := Lib.hid (flat_next LL k (by rw [HLE.out]; exact hlt))
          obtain ⟨x, hx⟩ : ∃ x, LL.getD k 0 = x := ⟨_, rfl⟩
          rw [hx] at hix hin HFN
          have HXI := Lib.hid hin
          clear hx hin
          go_wp2_with (at_builtin; refine wpList_append_ex _ rfl _ _ _ _ rfl _ _ rfl rfl _ (push_many HO.out hBr (Sha.four x) _ 4 rfl (fun j hj => four_cells x _ _ _ _ HXI.out rfl rfl rfl rfl j hj) (by rw [HFL.out]; omega) _) ?_)
          intro v2 w2 hp2
          have hO2 := hp2.own
          have hb2 := hp2.bel
          rw [HFN.out] at hO2
          have HO2 := Lib.hid hO2
          have HB2 := Lib.hid (HB.out.trans hb2)
          clear hp2 hO2 hb2 HO HB hix
          go_wp2
          exact ⟨⟨k + 1, _, by omega, rfl, by go_num, HO2, HB2⟩, by simp [intOf]; omega⟩
        · have HEQ : Hid ((LL.take k).flatMap Sha.four = Sha.sum m) := by
            show _ = _
            rw [HSB.out, List.take_of_length_le (by rw [HLE.out]; omega)]
          have hconv := string_own HO.out
          obtain ⟨sr, hsr⟩ : ∃ r : ByteArray, (⟨((LL.take k).flatMap Sha.four).toArray⟩ : ByteArray) = r := ⟨_, rfl⟩
          have HSR := Lib.hid hsr
          rw [hsr] at hconv
          clear hsr HO
          go_wp2
          go_ret
          exact ⟨by rw [← HEQ.out, HSR.out]; rfl, HB.out⟩
end Go.Proofs.YtpgbjnenllfmlaaGreatDoor
