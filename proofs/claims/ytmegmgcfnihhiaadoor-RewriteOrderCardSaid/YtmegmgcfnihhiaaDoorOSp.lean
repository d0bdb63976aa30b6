
/- The spelling of a text, before it is cut into words. -/
import Derived.Test.YtmegmgcfnihhiaaDoorOPr
import Derived.Test.YtmegmgcfnihhiaaDoorOMap
import Derived.WalkSpells
namespace Go.Proofs.YtmegmgcfnihhiaaDoor
open Go.RowKit Go.Shelf
set_option linter.unusedVariables false
set_option linter.unusedSimpArgs false

theorem dl_max (l : List UInt8) : (Lib.decodeL l).1 ≤ 1114111 := by
  rw [Lib.decodeL_N]
  have hb := (l.getD 0 0).toNat_lt
  rcases Lib.decodeN_shape l.length (l.getD 0 0).toNat (l.getD 1 0).toNat (l.getD 2 0).toNat (l.getD 3 0).toNat with ⟨h, e⟩ | ⟨h1, h2, h3, h4, e⟩ | ⟨h1, h2, h3, h4, h5, h6, e⟩ | ⟨h1, h2, h3, h4, h5, h6, h7, e⟩ | e <;> rw [e] <;> simp only <;> omega
theorem rune_cells {q : Nat} (h : q ≤ 122) : Lib.runeCells (q : Int) = Lib.byteCells [q.toUInt8] := by
  rw [← Lib.byteCells_encodeRune]
  unfold Lib.encodeRune
  rw [Lib.encodeRuneZ_one (by omega) (by omega)]
  rfl
theorem mark_len (n : Nat) : (markT n).length ≤ 2 := by
  unfold markT
  split <;> decide
theorem small_len (q : Nat) : (smallT q).length ≤ 2 := by
  unfold smallT
  split
  · simp
  · split
    · exact mark_len _
    · split <;> simp
theorem flat_len : ∀ A : List Nat, (A.flatMap spR).length ≤ 2 * A.length
  | [] => by simp
  | r :: A => by
    rw [List.flatMap_cons, List.length_append, List.length_cons]
    have h1 := flat_len A
    have h2 := small_len (lowR r)
    unfold spR at h1 ⊢
    omega

theorem LetAt.of_block {w w' : World} {b n : Nat} {f : Int → List UInt8} (h : LetAt w b n f) (e : w'.heap[b]? = w.heap[b]?) : LetAt w' b n f := by
  obtain ⟨D, ⟨es, clock, hb, F, hs, hD⟩, h2⟩ := h
  exact ⟨D, ⟨es, clock, e.trans hb, F, hs, hD⟩, h2⟩
theorem LetAt.others {w w' : World} {b n B : Nat} {e : TypeId} {f : Int → List UInt8} (h : LetAt w b n f) (k : Lib.OthersKept e (some B) w w') (hb : b ≠ B) : LetAt w' b n f := by
  obtain ⟨D, ⟨es, clock, hbl, F, hs, hD⟩, h2⟩ := h
  exact ⟨D, ⟨es, clock, k b _ hbl (fun e1 => hb (Option.some.inj e1)) (fun _ _ e1 => by cases e1), F, hs, hD⟩, h2⟩
theorem rune_wf : ∀ k : Fin 33, (Lit.int .i32 ((223 + k.val : Nat) : Int)).wf = true := by decide
theorem Letters.look {w : World} {b q : Nat} (h : Letters w b) (h1 : 223 ≤ q) (h2 : q ≤ 255) : (Instr.lookup 65 (.map (some b)) (.int .i32 (q : Int)) false).run Tryd.prog w = .ok (.string ⟨(markT (q - 223)).toArray⟩) w := by
  have hw := rune_wf ⟨q - 223, by omega⟩
  simp only at hw
  rw [show 223 + (q - 223) = q from by omega] at hw
  rw [← letF_mk h1 h2]
  exact LetAt.look h Tryd.underlying65 _ hw
/-- The variable letters: nil, or the map of all letters. -/
def MpS (I B : Nat) (w : World) (v : Value) : Prop := v = .map none ∨ ∃ b, v = .map (some b) ∧ Letters w b ∧ b ≠ I ∧ b ≠ B
theorem MpS.iterAt {I B : Nat} {w : World} {v : Value} (h : MpS I B w v) (s : ByteArray) (pos : Nat) : MpS I B (w.iterAt I s pos) v := by
  rcases h with h | ⟨b, h1, h2, h3, h4⟩
  · exact .inl h
  · exact .inr ⟨b, h1, LetAt.of_block h2 (Lib.iterAt_other w I b s pos h3), h3, h4⟩
theorem MpS.others {I B : Nat} {e : TypeId} {w w' : World} {v : Value} (h : MpS I B w v) (k : Lib.OthersKept e (some B) w w') : MpS I B w' v := by
  rcases h with h | ⟨b, h1, h2, h3, h4⟩
  · exact .inl h
  · exact .inr ⟨b, h1, LetAt.others h2 k h4, h3, h4⟩

set_option maxHeartbeats 4000000 in
set_option maxRecDepth 1000000 in
theorem spell_any (s : ByteArray) (w : World) (hT : Lib.Utf8Tabs 4 5 w) (hs : s.size ≤ 1000000) :
    Calls Tryd.prog 24 #[.string s] w fun e w' => e = .returned (.string ⟨(spellL s.data.toList).toArray⟩) ∧ Below w.heap.size w w' := by
  have hg3 : 4 < w.heap.size := cell_lt (hT.1 0 (by decide))
  have hg4 : 5 < w.heap.size := cell_lt (hT.2 0 (by decide)).1
  obtain ⟨B, hB⟩ : ∃ B, w.heap.size = B := ⟨_, rfl⟩
  have HBS := Lib.hid hB
  have hal1 : Below B w (w.alloc (.cells #[.pointer none, .slice none 0 0] 55)) := by rw [← hB]; exact (Below.refl _ w).alloc (Nat.le_refl _) _
  have HV := Lib.hid (tovalid_any s (w.alloc (.cells #[.pointer none, .slice none 0 0] 55)) (tabs_below hT hal1 (by omega) (by omega)) (by omega))
  have HI0 : Hid (Lib.IsBuilderF 55 5 B B [] (w.alloc (.cells #[.pointer none, .slice none 0 0] 55))) := by
    have h := Lib.IsBuilderF.of (Lib.fresh_isBuilder 55 5 w)
    rw [hB] at h
    exact h
  have HA1 := Lib.hid hal1
  have HSZ : Hid ((w.alloc (.cells #[.pointer none, .slice none 0 0] 55)).heap.size = B + 1) := by show _ = _; simp [hB]
  have HLN : Hid (s.data.toList.length = s.size) := (Lib.size_eq s).symm
  rw [hB]
  obtain ⟨SP, hSP⟩ : ∃ SP, spellL s.data.toList = SP := ⟨_, rfl⟩
  rw [hSP]
  have HSP := Lib.hid hSP
  clear hT hal1 hg3 hg4 hSP
  go_enter Tryd.func24, Tryd.ntmps24
  go_wp2_with fail
  refine HV.out.mono ?_
  rintro e w2 ⟨rfl, hb2⟩
  generalize w.alloc (.cells #[.pointer none, .slice none 0 0] 55) = w1 at *
  have HI2 := Lib.hid (builder_below HI0.out hb2)
  have HA2 := Lib.hid (HA1.out.trans (hb2.mono (by have := HSZ.out; omega)))
  obtain ⟨I, hI⟩ : ∃ I, w2.heap.size = I := ⟨_, rfl⟩
  have HBI : Hid (B < I) := by show _ < _; have h1 := hb2.size; have h2 := HSZ.out; omega
  obtain ⟨vl, hvl⟩ : ∃ vl, keepL s.data.toList = vl := ⟨_, rfl⟩
  have HVL : Hid (vl.length ≤ s.size) := by show _ ≤ _; rw [← hvl, ← HLN.out]; exact keepL_len _ _ (Nat.le_refl _)
  obtain ⟨v, hv⟩ : ∃ v : ByteArray, (⟨vl.toArray⟩ : ByteArray) = v := ⟨_, rfl⟩
  have HVD : Hid (v.data.toList = vl ∧ v.size = vl.length) := by
    have e : v.data.toList = vl := by rw [← hv]
    exact ⟨e, by rw [Lib.size_eq, e]⟩
  have HST : Hid ([] ++ (allR (vl.drop 0)).flatMap spR = SP) := by
    show _ = _
    rw [← HSP.out, List.drop_zero, List.nil_append, ← hvl, allR_keep _ _ (Nat.le_refl _)]
    rfl
  rw [hvl, hv]
  have hit0 : (w2.iter v 0).heap[I]? = some (.stringIter v 0) := by
    have := World.iter_heap w2 v 0
    rw [hI] at this
    exact this
  have HW0 : Hid ((w2.iter v 0).heap[I]? = some (.stringIter v 0) ∧ Lib.IsBuilderF 55 5 B B (Lib.byteCells []) (w2.iter v 0) ∧ Below B w (w2.iter v 0)) :=
    ⟨hit0, HI2.out.alloc (.stringIter v 0), HA2.out.alloc (by rw [hI]; exact Nat.le_of_lt HBI.out) (.stringIter v 0)⟩
  have HI := Lib.hid hI
  clear hb2 hvl hv hit0 HV HI0 HI2 HA1 HA2 HSZ
  go_wp2_with fail
  go_loopw [3, 6, 15, 25, 39] (fun v3 _ _ _ _ wr => ∃ (pos : Nat) (acc : List UInt8), pos ≤ vl.length ∧ Hid (wr.heap[I]? = some (.stringIter v pos) ∧ Lib.IsBuilderF 55 5 B B (Lib.byteCells acc) wr ∧ Below B w wr) ∧ Hid (acc ++ (allR (vl.drop pos)).flatMap spR = SP) ∧ Hid (acc.length ≤ 2 * pos) ∧ Hid (MpS I B wr v3)) (fun _ _ _ _ _ wr => vl.length - wr.iterPos I)
  case atStart => exact ⟨0, [], Nat.zero_le _, HW0, HST, Nat.zero_le _, .inl rfl⟩
  case round =>
    obtain ⟨pos, acc, hps, HW, HAc, HAl, HM⟩ := hrel
    clear HW0 HST
    have hit := HW.out.1
    by_cases hp : pos < vl.length
    · have hpv : pos < v.size := by rw [HVD.out.2]; exact hp
      have hnx : ∀ ty, (Instr.next (.pointer (some ⟨I, 0, none⟩)) true ty).run Tryd.prog wr = _ := fun ty => Lib.run_next_any_at wr I v pos ty hit hpv
      have hd : Utf8.decode v pos = Lib.decodeL (vl.drop pos) := by rw [← HVD.out.1, Lib.decodeL_drop]
      rw [hd] at hnx
      have hwd := dl_pos (vl.drop pos)
      have hne : vl.drop pos ≠ [] := fun e => by have := congrArg List.length e; simp at this; omega
      have hle := Lib.decodeL_le (vl.drop pos) hne
      have hmx := dl_max (vl.drop pos)
      have hst := allR_step hne
      rw [List.length_drop] at hle
      rw [List.drop_drop] at hst
      obtain ⟨r, hr⟩ : ∃ r, (Lib.decodeL (vl.drop pos)).1 = r := ⟨_, rfl⟩
      obtain ⟨wd, hwd'⟩ : ∃ wd, (Lib.decodeL (vl.drop pos)).2 = wd := ⟨_, rfl⟩
      rw [hr, hwd'] at hnx hst
      rw [hwd'] at hwd hle
      rw [hr] at hmx
      have hsz : I < wr.heap.size := (Array.getElem?_eq_some_iff.1 hit).1
      have hit2 := Lib.iterAt_heap wr I v pos (pos + wd) hit
      have hbu2 := HW.out.2.1.iterAt hit (pos + wd)
      have hbw2 := Lib.below_iterAt HW.out.2.2 (k := I) (Nat.le_of_lt HBI.out) v (pos + wd)
      have hsz2 : B ≤ (wr.iterAt I v (pos + wd)).heap.size := by rw [Lib.iterAt_size]; have := HBI.out; omega
      have H2 : Hid ((wr.iterAt I v (pos + wd)).heap[I]? = some (.stringIter v (pos + wd)) ∧ Lib.IsBuilderF 55 5 B B (Lib.byteCells acc) (wr.iterAt I v (pos + wd)) ∧ Below B w (wr.iterAt I v (pos + wd))) := ⟨hit2, hbu2, hbw2⟩
      have HPS : Hid (vl.length - pos ≥ 1 ∧ pos + wd ≤ vl.length ∧ 1 ≤ wd) := ⟨by omega, by omega, hwd⟩
      have HIT : Hid (wr.heap[I]? = some (.stringIter v pos)) := hit
      have HME : Hid (∀ W : World, W.heap[I]? = some (.stringIter v (pos + wd)) → vl.length - W.iterPos I < vl.length - wr.iterPos I) := fun W h => by
        simp only [World.iterPos, h, HIT.out]
        have := HPS.out
        omega
      obtain ⟨q, hq⟩ : ∃ q, lowR r = q := ⟨_, rfl⟩
      have HQM : Hid (q ≤ 1114143) := by rw [← hq]; exact lowR_max hmx
      have HNX : Hid (∀ x, smallT q = x → acc ++ x ++ (allR (vl.drop (pos + wd))).flatMap spR = SP) := fun x hx => by
        rw [← HAc.out, hst, List.flatMap_cons, ← List.append_assoc]
        unfold spR
        rw [hq, hx]
      have HSM := Lib.hid (lower_any r (wr.iterAt I v (pos + wd)) hmx)
      have HLB : Hid (acc.length ≤ 2000000) := by show _ ≤ _; have h1 := HAl.out; have h2 := HVL.out; omega
      have HS2 : Hid (B ≤ (wr.iterAt I v (pos + wd)).heap.size) := hsz2
      have HIB : Hid (I ≠ B) := by show _ ≠ _; have := HBI.out; omega
      rw [hq] at HSM
      have HM3 := Lib.hid (HM.out.iterAt v (pos + wd))
      clear hit hr hwd' hwd hle hst hit2 hbu2 hbw2 hsz hsz2 hd hne hq HW hmx HAc HM
      go_wp2_with fail
      refine HSM.out.mono ?_
      rintro e w3 ⟨rfl, rfl⟩
      clear hnx HSM
      generalize wr.iterAt I v (pos + wd) = w3 at *
      by_cases hq1 : q ≤ 122
      · cases hlt : letR q with
        | true =>
          have g1 : (q : Int) ≤ 122 := by omega
          have hw8 : IntKind.u8.wrap (q : Int) = (q : Int) := by rw [IntKind.wrap_u8]; omega
          have HLT := Lib.hid (letter_any q w3 (by omega))
          rw [hlt] at HLT
          have HNN := Lib.hid (HNX.out [q.toUInt8] (by unfold smallT; rw [if_pos hlt]))
          have HLL : Hid ((acc ++ [q.toUInt8]).length ≤ 2 * (pos + wd)) := by show _ ≤ _; rw [List.length_append]; have h1 := HAl.out; have h2 := HPS.out.2.2; have h3 : ([q.toUInt8] : List UInt8).length ≤ 2 := (by simp); omega
          have HRC := Lib.hid (rune_cells hq1)
          have HWR := Lib.hid (Tryd.Builder_WriteRune_k B B (Lib.byteCells acc) q (by omega) (by omega) w3 H2.out.2.1 (by rw [Lib.byteCells_length]; have := HLB.out; omega) HS2.out)
          go_wp2_with fail
          refine HLT.out.mono ?_
          rintro e w4 ⟨rfl, rfl⟩
          go_wp2_with fail
          refine HWR.out.mono ?_
          rintro e w5 ⟨rfl, h1, b1, k1⟩
          have HW5 : Hid (w5.heap[I]? = some (.stringIter v (pos + wd)) ∧ Lib.IsBuilderF 55 5 B B (Lib.byteCells (acc ++ [q.toUInt8])) w5 ∧ Below B w w5) := by
            refine ⟨k1.iter H2.out.1 HIB.out, ?_, H2.out.2.2.trans b1⟩
            rw [HRC.out, ← Lib.byteCells_append] at h1
            exact .inr h1
          have HM5 := Lib.hid (HM3.out.others k1)
          clear h1 b1 k1
          go_wp2_with fail
          go_roundw
          case rel => exact ⟨pos + wd, acc ++ [q.toUInt8], HPS.out.2.1, HW5, HNN, HLL, HM5⟩
          case measure => exact HME.out _ HW5.out.1
        | false =>
          have HLT := Lib.hid (letter_any q w3 (by omega))
          rw [hlt] at HLT
          have g1 : (q : Int) ≤ 122 := by omega
          have hw8 : IntKind.u8.wrap (q : Int) = (q : Int) := by rw [IntKind.wrap_u8]; omega
          have g2 : ¬ (223 : Int) ≤ (q : Int) := by omega
          by_cases hd : q = 39 ∨ q = 8217 ∨ q = 46
          · have HNN := Lib.hid (HNX.out [] (by unfold smallT; rw [if_neg (by rw [hlt]; simp), if_neg (by omega), if_pos hd]))
            rw [List.append_nil] at HNN
            have HLL : Hid (acc.length ≤ 2 * (pos + wd)) := by show _ ≤ _; have h1 := HAl.out; omega
            rcases hd with hd | hd | hd
            · subst hd
              go_wp2_with fail
              refine HLT.out.mono ?_
              rintro e w4 ⟨rfl, rfl⟩
              go_wp2_with fail
              go_roundw
              case rel => exact ⟨pos + wd, acc, HPS.out.2.1, H2, HNN, HLL, HM3⟩
              case measure => exact HME.out _ H2.out.1
            · exfalso; omega
            · subst hd
              go_wp2_with fail
              refine HLT.out.mono ?_
              rintro e w4 ⟨rfl, rfl⟩
              go_wp2_with fail
              go_roundw
              case rel => exact ⟨pos + wd, acc, HPS.out.2.1, H2, HNN, HLL, HM3⟩
              case measure => exact HME.out _ H2.out.1
          · have d1 : ((q : Int) != 39) = true := by simp; omega
            have d2 : ((q : Int) != 8217) = true := by simp; omega
            have d3 : ((q : Int) != 46) = true := by simp; omega
            have HNN := Lib.hid (HNX.out [32] (by unfold smallT; rw [if_neg (by rw [hlt]; simp), if_neg (by omega), if_neg hd]))
            have HLL : Hid ((acc ++ [32]).length ≤ 2 * (pos + wd)) := by show _ ≤ _; rw [List.length_append]; have h1 := HAl.out; have h2 := HPS.out.2.2; have h3 : ([32] : List UInt8).length ≤ 2 := (by simp); omega
            have HWB := Lib.hid (Tryd.Builder_WriteByte_k B B (Lib.byteCells acc) 32 w3 H2.out.2.1 (by rw [Lib.byteCells_length]; have := HLB.out; omega) HS2.out)
            go_wp2_with fail
            refine HLT.out.mono ?_
            rintro e w4 ⟨rfl, rfl⟩
            go_wp2_with fail
            refine HWB.out.mono ?_
            rintro e w5 ⟨rfl, h1, b1, k1⟩
            have HW5 : Hid (w5.heap[I]? = some (.stringIter v (pos + wd)) ∧ Lib.IsBuilderF 55 5 B B (Lib.byteCells (acc ++ [32])) w5 ∧ Below B w w5) := by
              refine ⟨k1.iter H2.out.1 HIB.out, ?_, H2.out.2.2.trans b1⟩
              rw [Lib.byteCells_append]
              exact .inr h1
            have HM5 := Lib.hid (HM3.out.others k1)
            clear h1 b1 k1
            go_wp2_with fail
            go_roundw
            case rel => exact ⟨pos + wd, acc ++ [32], HPS.out.2.1, HW5, HNN, HLL, HM5⟩
            case measure => exact HME.out _ HW5.out.1
      · have hlt : letR q = false := by
          unfold letR
          have h1 : ¬ q ≤ 122 := hq1
          have h2 : ¬ q ≤ 57 := by omega
          simp [h1, h2]
        have g1 : ¬ (q : Int) ≤ 122 := by omega
        by_cases hm : 223 ≤ q ∧ q ≤ 255
        · have g2 : (223 : Int) ≤ (q : Int) := by omega
          have g3 : (q : Int) ≤ 255 := by omega
          have HNN := Lib.hid (HNX.out (markT (q - 223)) (by unfold smallT; rw [if_neg (by rw [hlt]; simp), if_pos hm]))
          have HLL : Hid ((acc ++ markT (q - 223)).length ≤ 2 * (pos + wd)) := by show _ ≤ _; rw [List.length_append]; have h1 := HAl.out; have h2 := HPS.out.2.2; have h3 : (markT (q - 223) : List UInt8).length ≤ 2 := mark_len _; omega
          obtain ⟨mk, hmk⟩ : ∃ mk, markT (q - 223) = mk := ⟨_, rfl⟩
          have HML : Hid (mk.length ≤ 2) := by rw [← hmk]; exact mark_len _
          have HLK : Hid (∀ W b, Letters W b → (Instr.lookup 65 (.map (some b)) (.int .i32 (q : Int)) false).run Tryd.prog W = .ok (.string ⟨mk.toArray⟩) W) := fun W b h => by rw [← hmk]; exact Letters.look h hm.1 hm.2
          have hnl := fun (W : World) (r : Option Nat) => run_eql_map_nil W 65 _ _ r Tryd.underlying65
          rw [hmk] at HNN HLL
          clear hmk
          rcases HM3.out with hv | ⟨b, hv, hLb, hbI, hbB⟩
          · rw [hv]
            clear HM3 hv
            go_wp2_with fail
            refine (marked_any w3).mono ?_
            rintro e w4 ⟨rfl, hL, hb4⟩
            have hIl : I < w3.heap.size := (Array.getElem?_eq_some_iff.1 H2.out.1).1
            have H4 : Hid (w4.heap[I]? = some (.stringIter v (pos + wd)) ∧ Lib.IsBuilderF 55 5 B B (Lib.byteCells acc) w4 ∧ Below B w w4) := ⟨(hb4.block I hIl).trans H2.out.1, builder_below H2.out.2.1 hb4, H2.out.2.2.trans (hb4.mono HS2.out)⟩
            obtain ⟨b, hbs⟩ : ∃ b, w3.heap.size = b := ⟨_, rfl⟩
            rw [hbs] at hL hb4 hIl ⊢
            have hlk := HLK.out w4 b hL
            have HM4 : Hid (MpS I B w4 (.map (some b))) := .inr ⟨b, rfl, hL, by omega, by have := HIB.out; have := HBI.out; omega⟩
            have HS4 : Hid (B ≤ w4.heap.size) := by show _ ≤ _; have := hb4.size; have := HBI.out; omega
            have HWS := Lib.hid (Tryd.Builder_WriteString_k B B (Lib.byteCells acc) ⟨mk.toArray⟩ w4 H4.out.2.1 (by rw [Lib.byteCells_length, Lib.size_eq]; have := HLB.out; have := HML.out; show _ + mk.length ≤ _; omega) HS4.out)
            clear hL hb4 hIl hbs HLK
            go_wp2_with fail
            refine HWS.out.mono ?_
            rintro e w5 ⟨rfl, h1, b1, k1⟩
            have HW5 : Hid (w5.heap[I]? = some (.stringIter v (pos + wd)) ∧ Lib.IsBuilderF 55 5 B B (Lib.byteCells (acc ++ mk)) w5 ∧ Below B w w5) := by
              refine ⟨k1.iter H4.out.1 HIB.out, ?_, H4.out.2.2.trans b1⟩
              rw [show Lib.strCells ⟨mk.toArray⟩ = Lib.byteCells mk from rfl, ← Lib.byteCells_append] at h1
              exact .inr h1
            have HM5 := Lib.hid (HM4.out.others k1)
            clear h1 b1 k1
            go_wp2_with fail
            go_roundw
            case rel => exact ⟨pos + wd, acc ++ mk, HPS.out.2.1, HW5, HNN, HLL, HM5⟩
            case measure => exact HME.out _ HW5.out.1
          · rw [hv] at HM3 ⊢
            have hlk := HLK.out w3 b hLb
            have HWS := Lib.hid (Tryd.Builder_WriteString_k B B (Lib.byteCells acc) ⟨mk.toArray⟩ w3 H2.out.2.1 (by rw [Lib.byteCells_length, Lib.size_eq]; have := HLB.out; have := HML.out; show _ + mk.length ≤ _; omega) HS2.out)
            clear hv hLb hbI hbB HLK
            go_wp2_with fail
            refine HWS.out.mono ?_
            rintro e w5 ⟨rfl, h1, b1, k1⟩
            have HW5 : Hid (w5.heap[I]? = some (.stringIter v (pos + wd)) ∧ Lib.IsBuilderF 55 5 B B (Lib.byteCells (acc ++ mk)) w5 ∧ Below B w w5) := by
              refine ⟨k1.iter H2.out.1 HIB.out, ?_, H2.out.2.2.trans b1⟩
              rw [show Lib.strCells ⟨mk.toArray⟩ = Lib.byteCells mk from rfl, ← Lib.byteCells_append] at h1
              exact .inr h1
            have HM5 := Lib.hid (HM3.out.others k1)
            clear h1 b1 k1
            go_wp2_with fail
            go_roundw
            case rel => exact ⟨pos + wd, acc ++ mk, HPS.out.2.1, HW5, HNN, HLL, HM5⟩
            case measure => exact HME.out _ HW5.out.1
        · have hmI : (¬ (223 : Int) ≤ (q : Int)) ∨ ((223 : Int) ≤ (q : Int) ∧ ¬ (q : Int) ≤ 255) := by omega
          rcases hmI with g2 | ⟨g2, g3⟩
          · by_cases hd : q = 39 ∨ q = 8217 ∨ q = 46
            · have HNN := Lib.hid (HNX.out [] (by unfold smallT; rw [if_neg (by rw [hlt]; simp), if_neg (by omega), if_pos hd]))
              rw [List.append_nil] at HNN
              have HLL : Hid (acc.length ≤ 2 * (pos + wd)) := by show _ ≤ _; have h1 := HAl.out; omega
              rcases hd with hd | hd | hd
              · exfalso; omega
              · subst hd
                go_wp2_with fail
                go_roundw
                case rel => exact ⟨pos + wd, acc, HPS.out.2.1, H2, HNN, HLL, HM3⟩
                case measure => exact HME.out _ H2.out.1
              · exfalso; omega
            · have d1 : ((q : Int) != 39) = true := by simp; omega
              have d2 : ((q : Int) != 8217) = true := by simp; omega
              have d3 : ((q : Int) != 46) = true := by simp; omega
              have HNN := Lib.hid (HNX.out [32] (by unfold smallT; rw [if_neg (by rw [hlt]; simp), if_neg (by omega), if_neg hd]))
              have HLL : Hid ((acc ++ [32]).length ≤ 2 * (pos + wd)) := by show _ ≤ _; rw [List.length_append]; have h1 := HAl.out; have h2 := HPS.out.2.2; have h3 : ([32] : List UInt8).length ≤ 2 := (by simp); omega
              have HWB := Lib.hid (Tryd.Builder_WriteByte_k B B (Lib.byteCells acc) 32 w3 H2.out.2.1 (by rw [Lib.byteCells_length]; have := HLB.out; omega) HS2.out)
              go_wp2_with fail
              refine HWB.out.mono ?_
              rintro e w5 ⟨rfl, h1, b1, k1⟩
              have HW5 : Hid (w5.heap[I]? = some (.stringIter v (pos + wd)) ∧ Lib.IsBuilderF 55 5 B B (Lib.byteCells (acc ++ [32])) w5 ∧ Below B w w5) := by
                refine ⟨k1.iter H2.out.1 HIB.out, ?_, H2.out.2.2.trans b1⟩
                rw [Lib.byteCells_append]
                exact .inr h1
              have HM5 := Lib.hid (HM3.out.others k1)
              clear h1 b1 k1
              go_wp2_with fail
              go_roundw
              case rel => exact ⟨pos + wd, acc ++ [32], HPS.out.2.1, HW5, HNN, HLL, HM5⟩
              case measure => exact HME.out _ HW5.out.1
          · by_cases hd : q = 39 ∨ q = 8217 ∨ q = 46
            · have HNN := Lib.hid (HNX.out [] (by unfold smallT; rw [if_neg (by rw [hlt]; simp), if_neg (by omega), if_pos hd]))
              rw [List.append_nil] at HNN
              have HLL : Hid (acc.length ≤ 2 * (pos + wd)) := by show _ ≤ _; have h1 := HAl.out; omega
              rcases hd with hd | hd | hd
              · exfalso; omega
              · subst hd
                go_wp2_with fail
                go_roundw
                case rel => exact ⟨pos + wd, acc, HPS.out.2.1, H2, HNN, HLL, HM3⟩
                case measure => exact HME.out _ H2.out.1
              · exfalso; omega
            · have d1 : ((q : Int) != 39) = true := by simp; omega
              have d2 : ((q : Int) != 8217) = true := by simp; omega
              have d3 : ((q : Int) != 46) = true := by simp; omega
              have HNN := Lib.hid (HNX.out [32] (by unfold smallT; rw [if_neg (by rw [hlt]; simp), if_neg (by omega), if_neg hd]))
              have HLL : Hid ((acc ++ [32]).length ≤ 2 * (pos + wd)) := by show _ ≤ _; rw [List.length_append]; have h1 := HAl.out; have h2 := HPS.out.2.2; have h3 : ([32] : List UInt8).length ≤ 2 := (by simp); omega
              have HWB := Lib.hid (Tryd.Builder_WriteByte_k B B (Lib.byteCells acc) 32 w3 H2.out.2.1 (by rw [Lib.byteCells_length]; have := HLB.out; omega) HS2.out)
              go_wp2_with fail
              refine HWB.out.mono ?_
              rintro e w5 ⟨rfl, h1, b1, k1⟩
              have HW5 : Hid (w5.heap[I]? = some (.stringIter v (pos + wd)) ∧ Lib.IsBuilderF 55 5 B B (Lib.byteCells (acc ++ [32])) w5 ∧ Below B w w5) := by
                refine ⟨k1.iter H2.out.1 HIB.out, ?_, H2.out.2.2.trans b1⟩
                rw [Lib.byteCells_append]
                exact .inr h1
              have HM5 := Lib.hid (HM3.out.others k1)
              clear h1 b1 k1
              go_wp2_with fail
              go_roundw
              case rel => exact ⟨pos + wd, acc ++ [32], HPS.out.2.1, HW5, HNN, HLL, HM5⟩
              case measure => exact HME.out _ HW5.out.1
    · have hpv : ¬ pos < v.size := by rw [HVD.out.2]; exact hp
      have hnx : ∀ ty, (Instr.next (.pointer (some ⟨I, 0, none⟩)) true ty).run Tryd.prog wr = _ := fun ty => Lib.run_next_end_at wr I v pos ty hit hpv
      have hacc : acc = SP := by
        have h := HAc.out
        rw [List.drop_eq_nil_of_le (by omega), allR_nil, List.flatMap_nil, List.append_nil] at h
        exact h
      subst hacc
      have HS2 : Hid (B ≤ wr.heap.size) := by show _ ≤ _; have h1 := (Array.getElem?_eq_some_iff.1 hit).1; have := HBI.out; omega
      clear hit
      go_wp2_with fail
      refine (Tryd.Builder_String_any_k B B acc wr HW.out.2.1 HS2.out).mono ?_
      rintro e w7 ⟨rfl, _, b7, _⟩
      have HE7 := Lib.hid (HW.out.2.2.trans b7)
      clear b7
      go_wp2
      go_ret
      exact ⟨rfl, HE7.out⟩
end Go.Proofs.YtmegmgcfnihhiaaDoor
