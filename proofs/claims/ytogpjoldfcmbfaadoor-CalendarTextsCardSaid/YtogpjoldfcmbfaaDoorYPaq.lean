
/- The days of texts: Parse, the program's. -/
import Derived.Test.YtogpjoldfcmbfaaDoorYPas
import Derived.Test.YtogpjoldfcmbfaaDoorPars
import Derived.Test.YtogpjoldfcmbfaaDoorYLaw
import Derived.Deep.CutBlock
import Derived.LoopN
namespace Go.Proofs.YtogpjoldfcmbfaaDoor
open Go.RowKit Go.Sort Go.Shelf
open Cal
set_option linter.unusedVariables false
set_option linter.unusedSimpArgs false

/-- What reading texts reads, too: the library's error of what is no number. -/
def Txp (w : World) : Prop := Txs w ∧ ∃ tp p, w.var? Tryd.prog "strconv.ErrSyntax" = some #[.iface tp p]
theorem Txp.below {w w' : World} (h : Txp w) (b : Below w.heap.size w w') : Txp w' := by
  obtain ⟨h1, tp, p, h2⟩ := h
  exact ⟨h1.below b, tp, p, var_below h2 b⟩

/-- Three numbers in a block that may be written to. -/
def Tri (w : World) (g : Nat) (l : List Int) : Prop := l.length = 3 ∧ ∃ t, w.heap[g]? = some (.cells (l.map (Value.int .i64)).toArray t (0, 0))
section
variable {w w' : World} {g : Nat} {l : List Int}
theorem Tri.lt (h : Tri w g l) : g < w.heap.size := by
  obtain ⟨_, t, h⟩ := h
  by_cases hz : g < w.heap.size
  · exact hz
  · rw [Array.getElem?_eq_none (by omega)] at h; cases h
theorem Tri.fr (h : Tri w g l) (j : Nat) : w.frozen? ⟨g, j, none⟩ = false := by
  obtain ⟨_, t, h⟩ := h
  exact frozen_of_row w g j _ t h
theorem Tri.cell (h : Tri w g l) (j : Nat) (hj : j < 3) : w.cell? ⟨g, j, none⟩ = some (.int .i64 (l.getD j 0)) := by
  obtain ⟨hl, t, h⟩ := h
  unfold World.cell?
  simp only [h]
  have : j < l.length := by omega
  simp [List.getD, this]
theorem Tri.below (h : Tri w g l) (k : Below w.heap.size w w') : Tri w' g l := by
  have hl := h.lt
  obtain ⟨h3, t, h⟩ := h
  exact ⟨h3, t, by rw [k.block _ hl]; exact h⟩
theorem Tri.set (h : Tri w g l) (j : Nat) (x : Int) : Tri (w.setCell ⟨g, j, none⟩ (.int .i64 x)) g (l.set j x) := by
  obtain ⟨h3, t, h⟩ := h
  refine ⟨by simp [h3], t, ?_⟩
  rw [heap_setCell_same w g j _ t _ h]
  simp [List.map_set]
end
theorem part_index (a b c : ByteArray) (j : Nat) (hj : j < 3) (w : World) : (Instr.index 46 (.agg #[.string a, .string b, .string c]) (.int .i64 (j : Int))).run Tryd.prog w = .ok (.string ([a, b, c].getD j ⟨#[]⟩)) w := by
  have : j = 0 ∨ j = 1 ∨ j = 2 := by omega
  rcases this with rfl | rfl | rfl <;> simp [Instr.index, run_underlying Tryd.underlying46, asIntOf, go_sem, part]

theorem puint_ok (s : ByteArray) (u : Nat) (w : World) (h0 : 1 ≤ s.size) (h4 : s.size ≤ 4) (h : numO 0 s.data.toList = some u) :
    Calls Tryd.prog 33 #[.string s, .int .i64 10, .int .i64 64] w fun e w' => e = .returned (.tuple #[.int .u64 u, .nilIface]) ∧ Below w.heap.size w w' := by
  have hp := parse_num (l := s.data.toList) (fun e => by have : s.size = 0 := by rw [← size_list, e]; rfl
                                                         omega) h4
  rw [h] at hp
  refine (Any.strconv_ParseUint_10_at64_ok Tryd.pars s (by omega) u hp w).mono ?_
  rintro e w' ⟨rfl, hw⟩
  refine ⟨rfl, ?_⟩
  rcases hw with rfl | rfl
  · exact Below.refl _ _
  · exact Lib.bytesWorld_below _ _ _
theorem puint_no (s : ByteArray) (w : World) (hw : Txp w) (h0 : 1 ≤ s.size) (h4 : s.size ≤ 4) (h : numO 0 s.data.toList = none) :
    Calls Tryd.prog 33 #[.string s, .int .i64 10, .int .i64 64] w fun e w' => (∃ T N, e = .returned (.tuple #[.int .u64 0, .iface T (.pointer (some ⟨N, 0, none⟩))])) ∧ Below w.heap.size w w' := by
  have hp := parse_num (l := s.data.toList) (fun e => by have : s.size = 0 := by rw [← size_list, e]; rfl
                                                         omega) h4
  rw [h] at hp
  obtain ⟨_, tp, p, hv⟩ := hw
  refine (Any.strconv_ParseUint_10_at64_syntax_var Tryd.pars s (by omega) hp tp p w hv).mono ?_
  rintro e w' ⟨N, rfl, _, _, hb⟩
  exact ⟨⟨_, N, rfl⟩, hb⟩

theorem ret_ii {a b c d : Int} (h : a = b) (g : c = d) : Ending.returned (.tuple #[.int .i64 a, .int .i64 c]) = .returned (.tuple #[.int .i64 b, .int .i64 d]) := by rw [h, g]
theorem num_no {l : List UInt8} (h : numO 0 l = none) : numL l = -1 := by unfold numL; rw [h]
theorem num_yes {l : List UInt8} {u : Nat} (h : numO 0 l = some u) : numL l = u := by unfold numL; rw [h]

set_option maxRecDepth 100000 in
set_option maxHeartbeats 4000000 in
theorem parse_any (s : ByteArray) (w : World) (hw : Txp w) :
    Calls Tryd.prog 20 #[.string s] w fun e w' => e = .returned (.tuple #[.int .i64 (parV s.data.toList), .int .i64 (parE s.data.toList)]) ∧ Below w.heap.size w w' := by
  rcases form s with ⟨h, ho⟩ | ⟨h, c4, c7, b4, b7, hix4, hix7, hx⟩
  · obtain ⟨e1, e2⟩ := par_bad ho
    rw [e1, e2]
    have h' : ((s.size : Int) != 10) = true := by simp only [bne_iff_ne]; omega
    have h'' : ((s.size : Int) == 10) = false := by simp only [beq_eq_false_iff_ne]; omega
    clear ho e1 e2 h
    go_enter Tryd.func20, Tryd.ntmps20
    go_wp2
    go_ret2
    exact ⟨rfl, Below.refl _ _⟩
  · have hz : ((s.size : Int) != 10) = false := by simp only [bne_eq_false_iff_eq]; omega
    rcases hx with ⟨hc, ho⟩ | ⟨hc, hc2, ho⟩ | ⟨hc, hc2, ho⟩
    · obtain ⟨e1, e2⟩ := par_bad ho
      rw [e1, e2]
      have h' : ((c4 : Int) != 45) = true := by simp only [bne_iff_ne]; omega
      have h'' : ((c4 : Int) == 45) = false := by simp only [beq_eq_false_iff_ne]; omega
      clear ho e1 e2 hc
      go_enter Tryd.func20, Tryd.ntmps20
      go_wp2
      go_ret2
      exact ⟨rfl, Below.refl _ _⟩
    · obtain ⟨e1, e2⟩ := par_bad ho
      rw [e1, e2]
      subst hc
      have h' : ((c7 : Int) != 45) = true := by simp only [bne_iff_ne]; omega
      have h'' : ((c7 : Int) == 45) = false := by simp only [beq_eq_false_iff_ne]; omega
      clear ho e1 e2 hc2
      go_enter Tryd.func20, Tryd.ntmps20
      go_wp2
      go_ret2
      exact ⟨rfl, Below.refl _ _⟩
    · obtain ⟨e1, e2⟩ := par_good ho
      rw [e1, e2]
      subst hc hc2
      obtain ⟨a, b, c, za, zb, zc, la, lb, lc, hsa, hsb, hsc⟩ := cuts s h
      rw [← la, ← lb, ← lc]
      have HW := Lib.hid hw
      clear ho e1 e2 la lb lc hw
      have HPS : Hid (∀ j, j < 3 → 1 ≤ ([a, b, c].getD j ⟨#[]⟩).size ∧ ([a, b, c].getD j ⟨#[]⟩).size ≤ 4) := fun j hj => by
        have : j = 0 ∨ j = 1 ∨ j = 2 := by omega
        rcases this with rfl | rfl | rfl
        · show 1 ≤ a.size ∧ a.size ≤ 4; omega
        · show 1 ≤ b.size ∧ b.size ≤ 4; omega
        · show 1 ≤ c.size ∧ c.size ≤ 4; omega
      have HIX : Hid (∀ (j : Nat), j < 3 → ∀ W, (Instr.index 46 (.agg #[.string a, .string b, .string c]) (.int .i64 (j : Int))).run Tryd.prog W = .ok (.string ([a, b, c].getD j ⟨#[]⟩)) W) := fun j hj W => part_index a b c j hj W
      have HEND : Hid (∀ l : List Int, (∀ j, j < 3 → numL ([a, b, c].getD j ⟨#[]⟩).data.toList = l.getD j 0) → numL a.data.toList = l.getD 0 0 ∧ numL b.data.toList = l.getD 1 0 ∧ numL c.data.toList = l.getD 2 0) := fun l hl => ⟨hl 0 (by omega), hl 1 (by omega), hl 2 (by omega)⟩
      have HBAD : Hid (∀ j, j < 3 → numL ([a, b, c].getD j ⟨#[]⟩).data.toList = -1 → dayV (numL a.data.toList) (numL b.data.toList) (numL c.data.toList) = 0 ∧ dayE 10 (numL a.data.toList) (numL b.data.toList) (numL c.data.toList) = 10) := fun j hj hn => by
        have : j = 0 ∨ j = 1 ∨ j = 2 := by omega
        rcases this with rfl | rfl | rfl
        · have hn' : numL a.data.toList = -1 := hn
          exact v_bad (by omega)
        · have hn' : numL b.data.toList = -1 := hn
          exact v_bad (by omega)
        · have hn' : numL c.data.toList = -1 := hn
          exact v_bad (by omega)
      generalize numL a.data.toList = A at *
      generalize numL b.data.toList = B at *
      generalize numL c.data.toList = C at *
      go_enter Tryd.func20, Tryd.ntmps20
      go_upto_region 4 with fail
      go_quiet (fail)
      go_wp2
      obtain ⟨W1, hW1⟩ : ∃ W, (w.alloc (Obj.cells #[Value.int IntKind.i64 0, Value.int IntKind.i64 0, Value.int IntKind.i64 0] 45)).drewN nq = W := ⟨_, rfl⟩
      have HB1 : Hid (Below w.heap.size w W1) := by rw [← hW1]; exact (al_below w _).trans ⟨rfl, rfl, rfl, Nat.le_refl _, fun _ _ => rfl⟩
      have HT1 : Hid (Tri W1 w.heap.size [0, 0, 0]) := by rw [← hW1]; exact ⟨rfl, 45, heap_alloc_new w _⟩
      have HW1 := Lib.hid (HW.out.below HB1.out)
      rw [hW1]
      clear hW1
      obtain ⟨g, hg⟩ : ∃ g, w.heap.size = g := ⟨_, rfl⟩
      rw [hg] at HB1 HT1 ⊢
      clear hsa hsb hsc za zb zc hix4 hix7 b4 b7 hz h
      go_loopw [5, 6, 7, 8, 29] (fun _ _ _ _ i W => ∃ (j : Nat) (l : List Int), j ≤ 3 ∧ i = .int .i64 j ∧ Hid (Below g w W ∧ Tri W g l ∧ Txp W) ∧ Hid (∀ k, k < j → numL ([a, b, c].getD k ⟨#[]⟩).data.toList = l.getD k 0)) (fun _ _ _ _ i _ => 3 - (intOf i).toNat)
      case atStart => exact ⟨0, [0, 0, 0], by omega, rfl, ⟨HB1.out, HT1.out, HW1.out⟩, fun k hk => by omega⟩
      case round =>
        obtain ⟨j, l, hj, rfl, HR, HN⟩ := hrel
        have HR' := HR.out
        clear HR
        have HR := Lib.hid HR'
        clear HR'
        by_cases hlt : j < 3
        · have hix := HIX.out j hlt
          obtain ⟨p1, p4⟩ := HPS.out j hlt
          have HBD := Lib.hid (HBAD.out j hlt)
          have HSTEP : Hid (∀ u : Nat, numL ([a, b, c].getD j ⟨#[]⟩).data.toList = u → ∀ k, k < j + 1 → numL ([a, b, c].getD k ⟨#[]⟩).data.toList = (l.set j u).getD k 0) := fun u hu k hk => by
            have h3 := HR.out.2.1.1
            by_cases e : k = j
            · subst e
              rw [hu, List.getD_eq_getElem?_getD, List.getElem?_set_self (by omega)]; rfl
            · rw [HN.out k (by omega), List.getD_eq_getElem?_getD, List.getD_eq_getElem?_getD, List.getElem?_set_ne (by omega)]
          generalize [a, b, c].getD j ⟨#[]⟩ = P at *
          cases hn : numO 0 P.data.toList with
          | none =>
            have HPU := Lib.hid (puint_no P wr HR.out.2.2 p1 p4 hn)
            obtain ⟨f1, f2⟩ := HBD.out (num_no hn)
            have F1 := Lib.hid f1
            have F2 := Lib.hid f2
            clear hn f1 f2 HBD HSTEP
            go_wp2_with fail
            refine HPU.out.mono ?_
            rintro e w2 ⟨⟨T, N, rfl⟩, hb⟩
            have HB2 := Lib.hid (HR.out.1.trans (hb.mono (by rw [← hg]; exact HR.out.1.size)))
            clear hb
            go_wp2
            go_ret2
            exact ⟨ret_ii F1.out.symm F2.out.symm, by rw [hg]; exact HB2.out⟩
          | some u =>
            have HPU := Lib.hid (puint_ok P u wr p1 p4 hn)
            have HST := Lib.hid (HSTEP.out u (num_yes hn))
            have hub := num_bound _ _ _ hn
            have hub2 : u < 100000000 := by
              have : 10 ^ P.data.toList.length ≤ 10 ^ 4 := Nat.pow_le_pow_right (by omega) (by rw [size_list]; exact p4)
              omega
            clear hn HBD HSTEP hub
            go_wp2_with fail
            refine HPU.out.mono ?_
            rintro e w2 ⟨rfl, hb⟩
            have HT2 := Lib.hid (HR.out.2.1.below hb)
            have HB2 := Lib.hid (HR.out.1.trans (hb.mono (by rw [← hg]; exact HR.out.1.size)))
            have HX2 := Lib.hid (HR.out.2.2.below hb)
            have hfr := HT2.out.fr j
            have hce := HT2.out.cell j hlt
            clear hb HR
            have HB3 := Lib.hid (HB2.out.setCell (p := ⟨g, j, none⟩) (Nat.le_refl _) (.int .i64 (u : Int)))
            have HT3 := Lib.hid (HT2.out.set j (u : Int))
            clear HB2 HT2 HX2
            go_wp2
            go_roundw
            case rel => exact ⟨j + 1, l.set j (u : Int), by omega, by go_num, ⟨HB3.out, HT3.out, HW.out.below (by rw [hg]; exact HB3.out)⟩, HST.out⟩
            case measure => simp [intOf]; omega
        · obtain rfl : j = 3 := by omega
          obtain ⟨f1, f2, f3⟩ := HEND.out l HN.out
          have k0 := HR.out.2.1.cell 0 (by omega)
          have k1 := HR.out.2.1.cell 1 (by omega)
          have k2 := HR.out.2.1.cell 2 (by omega)
          rw [← f1] at k0
          rw [← f2] at k1
          rw [← f3] at k2
          have ND := Lib.hid (day_any A B C wr HR.out.2.2.1.1)
          clear f1 f2 f3 HBAD HEND HIX HPS
          go_wp2_with fail
          refine ND.out.mono ?_
          rintro e w' ⟨rfl, rfl⟩
          go_wp2
          go_ret2
          exact ⟨rfl, by rw [hg]; exact HR.out.1⟩
end Go.Proofs.YtogpjoldfcmbfaaDoor
