
/- strings.ToValidUTF8 with nothing in the place of what is not valid: the valid bytes. -/
import Derived.Test.YtmegmgcfnihhiaaDoorOMth
import Derived.Test.YtmegmgcfnihhiaaDoorOwn
import Derived.Test.YtmegmgcfnihhiaaDoorShelf
import Derived.Test.YtmegmgcfnihhiaaDoorLay4
import Derived.WalkKit
import Derived.BigCall
namespace Go.Proofs.YtmegmgcfnihhiaaDoor
open Go.RowKit Go.Shelf
set_option linter.unusedVariables false
set_option linter.unusedSimpArgs false

theorem o_slice_mid (s : ByteArray) (l h : Nat) (hl : l ≤ h) (hh : h ≤ s.size) (w : World) : (Instr.slice 9 (.string s) (some (.int .i64 l)) (some (.int .i64 h)) none).run Tryd.prog w = .ok (.string (s.extract l h)) w := by
  have e1 : (0 : Int) ≤ (l : Int) ∧ (l : Int) ≤ (h : Int) := by omega
  have e2 : (0 : Int) ≤ (h : Int) ∧ (h : Int) ≤ (s.size : Int) := by omega
  simp [Instr.slice, run_underlying Tryd.underlying9, Instr.sliceBounds, Instr.sliceBound, asIntOf, part, go_sem, hl, hh]
theorem o_slice_to (s : ByteArray) (h : Nat) (hh : h ≤ s.size) (w : World) : (Instr.slice 9 (.string s) none (some (.int .i64 h)) none).run Tryd.prog w = .ok (.string (s.extract 0 h)) w := by
  simp [Instr.slice, run_underlying Tryd.underlying9, Instr.sliceBounds, Instr.sliceBound, asIntOf, part, go_sem, hh]
theorem o_slice_from (s : ByteArray) (l : Nat) (hl : l ≤ s.size) (w : World) : (Instr.slice 9 (.string s) (some (.int .i64 l)) none none).run Tryd.prog w = .ok (.string (s.extract l s.size)) w := by
  simp [Instr.slice, run_underlying Tryd.underlying9, Instr.sliceBounds, Instr.sliceBound, asIntOf, part, go_sem, hl]
theorem data_from (s : ByteArray) (p : Nat) : (s.extract p s.size).data.toList = s.data.toList.drop p := by
  rw [Lib.extract_data, List.take_of_length_le (by rw [List.length_drop, ← Lib.size_eq]; omega)]
theorem dgo_from (s : ByteArray) (p : Nat) (h : p < s.size) : Lib.decodeGo (s.extract p s.size) = Lib.decodeL (s.data.toList.drop p) := by
  have hsz : (s.extract p s.size).size ≠ 0 := by rw [Lib.size_eq, data_from, List.length_drop, ← Lib.size_eq]; omega
  unfold Lib.decodeGo
  rw [if_neg hsz, ← Lib.decodeL_drop, data_from, List.drop_zero]
theorem dl_w1 (l : List UInt8) (h0 : 128 ≤ (l.getD 0 0).toNat) (hw : (Lib.decodeL l).2 = 1) : Lib.decodeL l = (65533, 1) := by
  rw [Lib.decodeL_N] at hw ⊢
  rcases Lib.decodeN_shape l.length (l.getD 0 0).toNat (l.getD 1 0).toNat (l.getD 2 0).toNat (l.getD 3 0).toNat with ⟨h, e⟩ | ⟨h1, h2, h3, h4, e⟩ | ⟨h1, h2, h3, h4, h5, h6, e⟩ | ⟨h1, h2, h3, h4, h5, h6, h7, e⟩ | e
  · omega
  · rw [e] at hw; simp at hw
  · rw [e] at hw; simp at hw
  · rw [e] at hw; simp at hw
  · exact e
theorem dl_ne (l : List UInt8) (h : (Lib.decodeL l).1 ≠ 65533) : bad l = false := by
  unfold bad
  rw [decide_eq_false_iff_not]
  intro e
  rw [e] at h
  exact h rfl
theorem dl_ne2 (l : List UInt8) (h : (Lib.decodeL l).2 ≠ 1) : bad l = false := by
  unfold bad
  rw [decide_eq_false_iff_not]
  intro e
  rw [e] at h
  exact h rfl
theorem tabs_below {w w' : World} {g3 g4 B : Nat} (h : Lib.Utf8Tabs g3 g4 w) (b : Below B w w') (h3 : g3 < B) (h4 : g4 < B) : Lib.Utf8Tabs g3 g4 w' :=
  ⟨fun c hc => by rw [b.cell (p := ⟨g3, c, none⟩) h3]; exact h.1 c hc, fun i hi => ⟨by rw [b.cell (p := ⟨g4, 2 * i, none⟩) h4]; exact (h.2 i hi).1, by rw [b.cell (p := ⟨g4, 2 * i + 1, none⟩) h4]; exact (h.2 i hi).2⟩⟩
theorem keepL_from {l : List UInt8} {p : Nat} (hp : p < l.length) (h : bad (l.drop p) = false) : keepL (l.drop p) = (l.drop p).take (Lib.decodeL (l.drop p)).2 ++ keepL (l.drop (p + (Lib.decodeL (l.drop p)).2)) := by
  rw [keepL_good (by intro e; have := congrArg List.length e; simp at this; omega) h, List.drop_drop]
theorem take_more (l : List UInt8) (p k : Nat) : l.take p ++ (l.drop p).take k = l.take (p + k) := by rw [List.take_add]

theorem own_shape {w : World} {B : Nat} {e : TypeId} {v : Value} {n : Nat} {xs : List Value} (h : w.ownsRowF B e 1 v n xs) : ∃ a c, v = .slice a n c := by
  rcases h.2 with ⟨rfl, h0⟩ | ⟨g, cap, cur, fz, rfl, _⟩
  · exact ⟨none, 0, by rw [h0]⟩
  · exact ⟨_, _, rfl⟩
theorem byte_drop (s : ByteArray) {i : Nat} (h : i < s.size) : s.data.toList.drop i = (s[i]'h) :: s.data.toList.drop (i + 1) := by
  have hl : i < s.data.toList.length := by rw [← Lib.size_eq]; exact h
  rw [List.drop_eq_getElem_cons hl]
  rfl

theorem builder_below {T e : TypeId} {B b : Nat} {bs : List Value} {w w' : World} (h : Lib.IsBuilderF T e B b bs w) (k : Below w.heap.size w w') : Lib.IsBuilderF T e B b bs w' := by
  have key : ∀ p, Lib.BuilderAtF T e B b p bs w → Lib.BuilderAtF T e B b p bs w' := fun p ⟨hB, v, hb, hown, hne⟩ => by
    have hlt : b < w.heap.size := (Array.getElem?_eq_some_iff.1 hb).1
    refine ⟨hB, v, (k.block b hlt).trans hb, ⟨hown.1, ?_⟩, hne⟩
    rcases hown.2 with hn | ⟨g, cap, cur, fz, hv, hbg, hg, rest⟩
    · exact .inl hn
    · have hgl : g < w.heap.size := (Array.getElem?_eq_some_iff.1 hg).1
      exact .inr ⟨g, cap, cur, fz, hv, hbg, (k.block g hgl).trans hg, rest⟩
  exact h.elim (fun x => .inl (key _ x)) (fun x => .inr (key _ x))
theorem cap_any (b : Nat) (a : Option Addr) (n c : Nat) (w : World) (h : w.cell? ⟨b, 1, none⟩ = some (.slice a n c)) :
    Calls Tryd.prog 46 #[.pointer (some ⟨b, 0, none⟩)] w fun e w' => e = .returned (.int .i64 c) ∧ w = w' := by
  go_enter Tryd.func46, Tryd.ntmps46
  go_wp2
  go_ret
  exact ⟨rfl, rfl⟩

set_option maxHeartbeats 4000000 in
set_option maxRecDepth 1000000 in
theorem tovalid_any (s : ByteArray) (w : World) (hT : Lib.Utf8Tabs 4 5 w) (hs : s.size ≤ 17592186044416) :
    Calls Tryd.prog 33 #[.string s, .string ⟨#[]⟩] w fun e w' => e = .returned (.string ⟨(keepL s.data.toList).toArray⟩) ∧ Below w.heap.size w w' := by
  have hg3 : 4 < w.heap.size := cell_lt (hT.1 0 (by decide))
  have hg4 : 5 < w.heap.size := cell_lt (hT.2 0 (by decide)).1
  have HTW : Hid (∀ W, Below w.heap.size w W → Lib.Utf8Tabs 4 5 W) := fun W b => tabs_below hT b hg3 hg4
  obtain ⟨B, hB⟩ : ∃ B, w.heap.size = B := ⟨_, rfl⟩
  rw [hB] at HTW ⊢
  have HBS := Lib.hid hB
  have HLN : Hid (s.data.toList.length = s.size) := (Lib.size_eq s).symm
  have hal1 : Below B w (w.alloc (.cells #[.pointer none, .slice none 0 0] 55)) := by rw [← hB]; exact (Below.refl _ w).alloc (Nat.le_refl _) _
  have hit0 : ((w.alloc (.cells #[.pointer none, .slice none 0 0] 55)).iter s 0).heap[B + 1]? = some (.stringIter s 0) := by
    have := World.iter_heap (w.alloc (.cells #[.pointer none, .slice none 0 0] 55)) s 0
    rw [show (w.alloc (.cells #[.pointer none, .slice none 0 0] 55)).heap.size = B + 1 by simp [hB]] at this
    exact this
  have hbl0 : ((w.alloc (.cells #[.pointer none, .slice none 0 0] 55)).iter s 0).heap[B]? = some (.cells #[.pointer none, .slice none 0 0] 55 (0, 0)) := by
    have e1 := Lib.alloc_old (w.alloc (.cells #[.pointer none, .slice none 0 0] 55)) (.stringIter s 0) B (by simp [hB])
    have e2 := heap_alloc_new w (.cells #[.pointer none, .slice none 0 0] 55)
    rw [hB] at e2
    exact e1.trans e2
  have H0 := Lib.hid (And.intro hit0 (And.intro hbl0 (show Below B w ((w.alloc (.cells #[.pointer none, .slice none 0 0] 55)).iter s 0) from hal1.alloc (by simp [hB]) (.stringIter s 0))))
  have HK0 : Hid (keepL s.data.toList = s.data.toList.take 0 ++ keepL (s.data.toList.drop 0)) := by show _ = _; simp
  clear hT hit0 hbl0 hal1 hg3 hg4
  obtain ⟨l, hl⟩ : ∃ l, s.data.toList = l := ⟨_, rfl⟩
  rw [hl] at HK0 HLN ⊢
  have HSL := Lib.hid hl
  clear hl
  go_enter Tryd.func33, Tryd.ntmps33
  go_wp2_with fail
  go_loopw [0, 6, 7, 8, 9] (fun v0 _ _ _ _ wr => ∃ pos : Nat, v0 = .string s ∧ pos ≤ s.size ∧ Hid (wr.heap[B + 1]? = some (.stringIter s pos) ∧ wr.heap[B]? = some (.cells #[.pointer none, .slice none 0 0] 55 (0, 0)) ∧ Below B w wr) ∧ Hid (keepL l = l.take pos ++ keepL (l.drop pos))) (fun _ _ _ _ _ wr => s.size - wr.iterPos (B + 1))
  case atStart => exact ⟨0, rfl, Nat.zero_le _, H0, HK0⟩
  case round =>
    obtain ⟨pos, rfl, hps, HW, HK⟩ := hrel
    clear H0 HK0
    have hit := HW.out.1
    by_cases hp : pos < s.size
    · have hnx : ∀ ty, (Instr.next (.pointer (some ⟨B + 1, 0, none⟩)) true ty).run Tryd.prog wr = _ := fun ty => Lib.run_next_any_at wr (B + 1) s pos ty hit hp
      have hd : Utf8.decode s pos = Lib.decodeL (l.drop pos) := by rw [← HSL.out, Lib.decodeL_drop]
      rw [hd] at hnx
      have hlp : pos < l.length := by rw [HLN.out]; exact hp
      have hwd := dl_pos (l.drop pos)
      have hne : l.drop pos ≠ [] := fun e => by have := congrArg List.length e; simp at this; omega
      have hle := Lib.decodeL_le (l.drop pos) hne
      rw [List.length_drop] at hle
      obtain ⟨r, hr⟩ : ∃ r, (Lib.decodeL (l.drop pos)).1 = r := ⟨_, rfl⟩
      obtain ⟨wd, hwd'⟩ : ∃ wd, (Lib.decodeL (l.drop pos)).2 = wd := ⟨_, rfl⟩
      rw [hr, hwd'] at hnx
      rw [hwd'] at hwd hle
      have hdec : Lib.decodeL (l.drop pos) = (r, wd) := by rw [← hr, ← hwd']
      have hsz : B + 1 < wr.heap.size := (Array.getElem?_eq_some_iff.1 hit).1
      -- the iterator moved on
      have hit2 := Lib.iterAt_heap wr (B + 1) s pos (pos + wd) hit
      have hbl2 := (Lib.iterAt_other wr (B + 1) B s (pos + wd) (by omega)).trans HW.out.2.1
      have hbw2 := Lib.below_iterAt HW.out.2.2 (k := B + 1) (by omega) s (pos + wd)
      have hmea : s.size - (wr.iterAt (B + 1) s (pos + wd)).iterPos (B + 1) < s.size - wr.iterPos (B + 1) := by
        simp only [World.iterPos, hit2, hit]
        omega
      have HM := Lib.hid hmea
      have HIT : Hid (wr.heap[B + 1]? = some (.stringIter s pos)) := hit
      have H2 := Lib.hid (And.intro hit2 (And.intro hbl2 hbw2))
      have HDC := Lib.hid hdec
      have HLE : Hid (1 ≤ wd ∧ pos + wd ≤ s.size) := ⟨hwd, by rw [HLN.out] at hle; omega⟩
      have HGO : Hid (bad (l.drop pos) = false → keepL l = l.take (pos + wd) ++ keepL (l.drop (pos + wd))) := fun hb => by
        have h := HK.out
        rw [keepL_from hlp hb, hdec] at h
        rw [h, ← List.append_assoc, take_more]
      clear hit hr hwd' hwd hle hdec hit2 hbl2 hbw2 hmea hne hd HW
      by_cases h6 : r = 65533
      · subst h6
        have hfrom : ∀ w, (Instr.slice 9 (.string s) (some (.int .i64 pos)) none none).run Tryd.prog w = .ok (.string (s.extract pos s.size)) w := o_slice_from s pos (by omega)
        have HDG := Lib.hid (dgo_from s pos hp)
        rw [HSL.out] at HDG
        have HTT := Lib.hid (HTW.out _ H2.out.2.2)
        go_wp2_with fail
        have hDR := Tryd.utf8_DecodeRuneInString (s.extract pos s.size) _ HTT.out
        rw [HDG.out, HDC.out] at hDR
        refine hDR.mono ?_
        rintro e w3 ⟨rfl, hb3⟩
        have hBw : B + 1 < (wr.iterAt (B + 1) s (pos + wd)).heap.size := by rw [Lib.iterAt_size]; exact hsz
        have hit3 := (hb3.block (B + 1) hBw).trans H2.out.1
        have hbl3 := (hb3.block B (by omega)).trans H2.out.2.1
        have hbe3 := H2.out.2.2.trans (hb3.mono (by omega))
        have H3 := Lib.hid (And.intro hit3 (And.intro hbl3 hbe3))
        have HM3 : Hid (s.size - w3.iterPos (B + 1) < s.size - wr.iterPos (B + 1)) := by
          have h := HM.out
          simp only [World.iterPos, H2.out.1, hit3] at h ⊢
          exact h
        clear hDR hb3 hit3 hbl3 hbe3 HM H2 HTT
        by_cases hw1 : wd = 1
        · subst hw1
          have hgrow : w3.heap.size ≥ B := by have := (Array.getElem?_eq_some_iff.1 H3.out.2.1).1; omega
          have hwr : IntKind.i64.wrap ((s.size : Int) + 0) = (s.size : Int) := by rw [IntKind.wrap_i64]; omega
          have hwr2 : IntKind.i64.wrap (s.size : Int) = (s.size : Int) := by rw [IntKind.wrap_i64]; omega
          go_wp2_with fail
          refine (Tryd.Builder_Grow_fresh_cap B B s.size w3 (Nat.le_refl _) H3.out.2.1 hgrow (by omega)).mono ?_
          rintro e w4 ⟨rfl, ⟨hb4, hbw4⟩, pp, cap, hc4, hcn⟩
          have hsto : ∀ w, (Instr.slice 9 (.string s) none (some (.int .i64 pos)) none).run Tryd.prog w = .ok (.string (s.extract 0 pos)) w := o_slice_to s pos (by omega)
          have hbe4 := H3.out.2.2.trans (hbw4.mono (by omega))
          have HS4 := Lib.hid (And.intro hb4 (And.intro hbe4 hc4))
          have HSZ4 : Hid (B ≤ w4.heap.size) := by show _ ≤ _; have := hbe4.size; omega
          have HLX : Hid ((s.extract 0 pos).data.toList = l.take pos ∧ (s.extract 0 pos).size = pos) := by
            have e1 : (s.extract 0 pos).data.toList = l.take pos := by rw [Lib.extract_data, List.drop_zero, Nat.sub_zero, HSL.out]
            exact ⟨e1, by rw [Lib.size_eq, e1, List.length_take, HLN.out]; omega⟩
          clear hb4 hbw4 hc4 hbe4 hgrow
          go_wp2_with fail
          refine (Tryd.Builder_WriteString_kc B B [] (s.extract 0 pos) w4 (.inr (Lib.BuilderAtF.of HS4.out.1)) (by rw [HLX.out.2]; simp; omega) HSZ4.out).mono ?_
          rintro e w5 ⟨rfl, ⟨hb5, hbw5, _⟩, hcap⟩
          obtain ⟨v5, hc5, hle5⟩ := hcap _ HS4.out.2.2
          have hbld := hb5
          obtain ⟨_, v5', hblk5, hown5, _⟩ := hb5
          have hc5' : w5.cell? ⟨B, 1, none⟩ = some v5' := by simp [World.cell?, hblk5]
          rw [hc5'] at hc5
          obtain rfl := Option.some.inj hc5
          obtain ⟨a5, c5, rfl⟩ := own_shape hown5
          have hcne : ((c5 : Int) == 0) = false := by
            have : cap ≤ c5 := hle5
            simp only [beq_eq_false_iff_ne]; omega
          have hacc : Lib.strCells (s.extract 0 pos) = Lib.byteCells (l.take pos) := by
            show (s.extract 0 pos).data.toList.map _ = _
            rw [HLX.out.1]; rfl
          rw [List.nil_append, hacc] at hbld
          have HB5 : Hid (Lib.IsBuilderF 55 5 B B (Lib.byteCells (l.take pos)) w5) := .inr hbld
          have HE5 := Lib.hid (HS4.out.2.1.trans (hbw5.mono (by have := HSZ4.out; omega)))
          have hsfr : ∀ w, (Instr.slice 9 (.string s) (some (.int .i64 pos)) none none).run Tryd.prog w = .ok (.string (s.extract pos s.size)) w := o_slice_from s pos (by omega)
          obtain ⟨s2, hs2⟩ : ∃ s2, s.extract pos s.size = s2 := ⟨_, rfl⟩
          have HL2 : Hid (s2.data.toList = l.drop pos ∧ s2.size = s.size - pos) := by
            have e1 : s2.data.toList = l.drop pos := by rw [← hs2, data_from, HSL.out]
            exact ⟨e1, by rw [Lib.size_eq, e1, List.length_drop, HLN.out]⟩
          rw [hs2] at hsfr
          have HST : Hid (l.take pos ++ keepL ((l.drop pos).drop 0) = keepL l) := by show _ = _; rw [List.drop_zero]; exact HK.out.symm
          have HLT : Hid ((l.take pos).length ≤ pos + 0) := by show _ ≤ _; rw [List.length_take]; omega
          have HPS : Hid (pos < s.size ∧ s.size ≤ 17592186044416) := ⟨hp, hs⟩
          clear hbw5 hcap hc5 hle5 hbld hblk5 hown5 hacc hs2 hsto H3 HM3 HGO HDG HDC hfrom hnx hwr hwr2
          obtain ⟨l2, hl2⟩ : ∃ l2, l.drop pos = l2 := ⟨_, rfl⟩
          obtain ⟨n2, hn2⟩ : ∃ n2, s.size - pos = n2 := ⟨_, rfl⟩
          rw [hl2] at HL2 HST
          rw [hn2] at HL2
          have hn2b : n2 ≤ 17592186044416 := by omega
          obtain ⟨l1, hl1⟩ : ∃ l1, l.take pos = l1 := ⟨_, rfl⟩
          rw [hl1] at HB5 HST HLT
          have HPB : Hid (pos + n2 ≤ 17592186044416) := by show _ ≤ _; omega
          have hs2z := HL2.out.2
          clear hl2 hn2 hl1 HLE HIT HK hlp hp hps hsz hBw
          go_wp2_with fail
          refine (cap_any B _ _ _ w5 hc5').mono ?_
          rintro e w' ⟨rfl, rfl⟩
          go_wp2_with fail
          clear hc5' hcne hsfr
          go_loopw [10, 11, 12, 13, 14] (fun b i _ _ _ wr => ∃ (k : Nat) (y : Bool) (acc : List UInt8), b = .bool y ∧ i = .int .i64 k ∧ k ≤ n2 ∧ Hid (Lib.IsBuilderF 55 5 B B (Lib.byteCells acc) wr) ∧ Hid (Below B w wr) ∧ Hid (acc ++ keepL (l2.drop k) = keepL l) ∧ Hid (acc.length ≤ pos + k)) (fun _ i _ _ _ _ => n2 - (intOf i).toNat)
          case atStart => exact ⟨0, false, l1, rfl, rfl, Nat.zero_le _, HB5, HE5, HST, HLT⟩
          case round =>
            obtain ⟨k, y, acc, rfl, rfl, hk, HBu, HBe, HAc, HAl⟩ := hrel
            clear HB5 HE5 HST HLT
            have HBS2 : Hid (B ≤ wr.heap.size) := by show _ ≤ _; have h := HBe.out.size; rw [HBS.out] at h; exact h
            by_cases hlt : k < n2
            · have hltI : (k : Int) < (n2 : Int) := by omega
              have hks : k < s2.size := by rw [hs2z]; exact hlt
              have hcons := byte_drop s2 hks
              rw [HL2.out.1] at hcons
              have HCS := Lib.hid hcons
              have hwd := dl_pos (l2.drop k)
              have hne : l2.drop k ≠ [] := by rw [hcons]; simp
              have hle := Lib.decodeL_le (l2.drop k) hne
              have hl2n : l2.length = n2 := by rw [← HL2.out.1, ← Lib.size_eq, hs2z]
              rw [List.length_drop, hl2n] at hle
              obtain ⟨c, hc⟩ : ∃ c, (s2[k]'hks) = c := ⟨_, rfl⟩
              rw [hc] at hcons
              have hix : ∀ w, (Instr.index 9 (.string s2) (.int .i64 k)).run Tryd.prog w = .ok (.int .u8 c.toNat) w := fun w => by
                rw [← hc]
                simp [Instr.index, run_underlying Tryd.underlying9, asIntOf, part, go_sem, hks]
              by_cases h128 : c.toNat < 128
              · have h128b : ((c.toNat : Int) < 128) := by omega
                have hdl : Lib.decodeL (l2.drop k) = (c.toNat, 1) := by rw [hcons]; exact Lib.decodeL_ascii c _ h128
                have hbad : bad (l2.drop k) = false := dl_ne _ (by rw [hdl]; show c.toNat ≠ 65533; omega)
                have hkp := keepL_good hne hbad
                rw [hdl, List.drop_drop] at hkp
                have HN : Hid (acc ++ [c] ++ keepL (l2.drop (k + 1)) = keepL l) := by
                  show _ = _
                  rw [← HAc.out, hkp, hcons, List.append_assoc]
                  rfl
                clear hkp hbad hdl hle hwd hne hcons hc
                go_wp2_with fail
                refine (Tryd.Builder_WriteByte_k B B (Lib.byteCells acc) c.toNat wr HBu.out (by rw [Lib.byteCells_length]; have := HAl.out; have := HPB.out; omega) HBS2.out).mono ?_
                rintro e w6 ⟨rfl, h1, b1, _⟩
                have HB6 : Hid (Lib.IsBuilderF 55 5 B B (Lib.byteCells (acc ++ [c])) w6) := by
                  rw [Lib.byteCells_append]; exact .inr h1
                have HE6 := Lib.hid (HBe.out.trans b1)
                have HL6 : Hid ((acc ++ [c]).length ≤ pos + (k + 1)) := by show _ ≤ _; rw [List.length_append, List.length_singleton]; have := HAl.out; omega
                clear h1 b1 hix
                go_wp2_with fail
                go_roundw
                case rel => exact ⟨k + 1, false, acc ++ [c], rfl, by go_num, by omega, HB6, HE6, HN, HL6⟩
                case measure => simp [intOf]; omega
              · have h128b : ¬ ((c.toNat : Int) < 128) := by omega
                have hfrom : ∀ w, (Instr.slice 9 (.string s2) (some (.int .i64 k)) none none).run Tryd.prog w = .ok (.string (s2.extract k s2.size)) w := o_slice_from s2 k (by omega)
                have hDR := Tryd.utf8_DecodeRuneInString (s2.extract k s2.size) wr (HTW.out _ HBe.out)
                rw [dgo_from s2 k hks, HL2.out.1] at hDR
                obtain ⟨r, hr⟩ : ∃ r, (Lib.decodeL (l2.drop k)).1 = r := ⟨_, rfl⟩
                obtain ⟨wd, hwd'⟩ : ∃ wd, (Lib.decodeL (l2.drop k)).2 = wd := ⟨_, rfl⟩
                rw [hr, hwd'] at hDR
                rw [hwd'] at hwd hle
                rw [hs2z] at hfrom hDR
                have HDR := Lib.hid hDR
                by_cases hw1 : wd = 1
                · subst hw1
                  have hd1 : Lib.decodeL (l2.drop k) = (65533, 1) := dl_w1 _ (by rw [hcons]; show 128 ≤ c.toNat; omega) hwd'
                  have hkp := keepL_bad hne ((bad_iff _).2 hd1)
                  rw [List.drop_drop] at hkp
                  have HN : Hid (acc ++ keepL (l2.drop (k + 1)) = keepL l) := by
                    show _ = _
                    rw [← HAc.out, hkp]
                  have HL6 : Hid (acc.length ≤ pos + (k + 1)) := by show _ ≤ _; have := HAl.out; omega
                  clear hkp hd1 hle hwd hne hcons hc hr hwd' hDR
                  go_wp2_with fail
                  refine HDR.out.mono ?_
                  rintro e w6 ⟨rfl, b6⟩
                  have HE6 := Lib.hid (HBe.out.trans (b6.mono HBS2.out))
                  have HBu6 := Lib.hid (builder_below HBu.out b6)
                  have HSZ6 : Hid (B ≤ w6.heap.size) := Nat.le_trans HBS2.out b6.size
                  cases y with
                  | true =>
                    clear b6
                    go_wp2_with fail
                    go_roundw
                    case rel => exact ⟨k + 1, true, acc, rfl, by go_num, by omega, HBu6, HE6, HN, HL6⟩
                    case measure => simp [intOf]; omega
                  | false =>
                    clear b6
                    go_wp2_with fail
                    refine (Tryd.Builder_WriteString_k B B (Lib.byteCells acc) ⟨#[]⟩ w6 HBu6.out (by rw [Lib.byteCells_length]; have := HAl.out; have := HPB.out; show _ + 0 ≤ _; omega) HSZ6.out).mono ?_
                    rintro e w7 ⟨rfl, h1, b1, _⟩
                    have HB7 : Hid (Lib.IsBuilderF 55 5 B B (Lib.byteCells acc) w7) := by
                      have h2 : Lib.byteCells acc ++ Lib.strCells ⟨#[]⟩ = Lib.byteCells acc := by simp [Lib.strCells]
                      rw [h2] at h1
                      exact .inr h1
                    have HE7 := Lib.hid (HE6.out.trans b1)
                    clear h1 b1
                    go_wp2_with fail
                    go_roundw
                    case rel => exact ⟨k + 1, true, acc, rfl, by go_num, by omega, HB7, HE7, HN, HL6⟩
                    case measure => simp [intOf]; omega
                · have hw1b : ((wd : Int) == 1) = false := by simp only [beq_eq_false_iff_ne]; omega
                  have hkp := keepL_good hne (dl_ne2 _ (by rw [hwd']; exact hw1))
                  rw [hwd', List.drop_drop] at hkp
                  have HN : Hid (acc ++ (l2.drop k).take wd ++ keepL (l2.drop (k + wd)) = keepL l) := by
                    show _ = _
                    rw [← HAc.out, hkp, List.append_assoc]
                  have HL6 : Hid ((acc ++ (l2.drop k).take wd).length ≤ pos + (k + wd)) := by
                    show _ ≤ _; rw [List.length_append, List.length_take]; have := HAl.out; omega
                  have hmid : ∀ w, (Instr.slice 9 (.string s2) (some (.int .i64 k)) (some (.int .i64 ((k : Int) + (wd : Int)))) none).run Tryd.prog w = .ok (.string (s2.extract k (k + wd))) w := fun w => by
                    have := o_slice_mid s2 k (k + wd) (by omega) (by omega) w
                    push_cast at this
                    exact this
                  have HEX : Hid (Lib.strCells (s2.extract k (k + wd)) = Lib.byteCells ((l2.drop k).take wd) ∧ (s2.extract k (k + wd)).size ≤ wd) := by
                    have e1 : (s2.extract k (k + wd)).data.toList = (l2.drop k).take wd := by rw [Lib.extract_data, HL2.out.1, Nat.add_sub_cancel_left]
                    exact ⟨by show (s2.extract k (k + wd)).data.toList.map _ = _; rw [e1]; rfl, by rw [Lib.size_eq, e1, List.length_take]; omega⟩
                  have hkw : k + wd ≤ n2 := by omega
                  have hwd1 : 1 ≤ wd := hwd
                  clear hkp hle hwd hne hcons hc hr hwd' hDR
                  go_wp2_with fail
                  refine HDR.out.mono ?_
                  rintro e w6 ⟨rfl, b6⟩
                  have HE6 := Lib.hid (HBe.out.trans (b6.mono HBS2.out))
                  have HBu6 := Lib.hid (builder_below HBu.out b6)
                  have HSZ6 : Hid (B ≤ w6.heap.size) := Nat.le_trans HBS2.out b6.size
                  clear b6
                  go_wp2_with fail
                  refine (Tryd.Builder_WriteString_k B B (Lib.byteCells acc) (s2.extract k (k + wd)) w6 HBu6.out (by rw [Lib.byteCells_length]; have := HAl.out; have := HPB.out; have := HEX.out.2; omega) HSZ6.out).mono ?_
                  rintro e w7 ⟨rfl, h1, b1, _⟩
                  have HB7 : Hid (Lib.IsBuilderF 55 5 B B (Lib.byteCells (acc ++ (l2.drop k).take wd)) w7) := by
                    rw [HEX.out.1, ← Lib.byteCells_append] at h1
                    exact .inr h1
                  have HE7 := Lib.hid (HE6.out.trans b1)
                  clear h1 b1 hmid
                  go_wp2_with fail
                  go_roundw
                  case rel => exact ⟨k + wd, false, acc ++ (l2.drop k).take wd, rfl, by go_num, hkw, HB7, HE7, HN, HL6⟩
                  case measure => simp [intOf]; omega
            · obtain rfl : k = n2 := by omega
              have hl2n : l2.length = k := by rw [← HL2.out.1, ← Lib.size_eq, hs2z]
              have hacc : acc = keepL l := by
                have h := HAc.out
                rw [List.drop_eq_nil_of_le (by omega), keepL_nil, List.append_nil] at h
                exact h
              subst hacc
              go_wp2_with fail
              refine (Tryd.Builder_String_any_k B B (keepL l) wr HBu.out HBS2.out).mono ?_
              rintro e w7 ⟨rfl, _, b7, _⟩
              have HE7 := Lib.hid (HBe.out.trans b7)
              clear b7
              go_wp2
              go_ret
              exact ⟨rfl, HE7.out⟩
        · have hw1b : ((wd : Int) == 1) = false := by simp only [beq_eq_false_iff_ne]; omega
          have hg := HGO.out (dl_ne2 _ (by rw [HDC.out]; exact hw1))
          have HKN := Lib.hid hg
          clear hg
          go_wp2_with fail
          go_roundw
          case rel => exact ⟨pos + wd, rfl, HLE.out.2, H3, HKN⟩
          case measure => exact HM3.out
      · have h6b : ((r : Int) != 65533) = true := by simp; omega
        have hg := HGO.out (dl_ne _ (by rw [HDC.out]; exact h6))
        have HKN := Lib.hid hg
        clear hg
        go_wp2_with fail
        go_roundw
        case rel => exact ⟨pos + wd, rfl, HLE.out.2, H2, HKN⟩
        case measure => exact HM.out
    · have hnx : ∀ ty, (Instr.next (.pointer (some ⟨B + 1, 0, none⟩)) true ty).run Tryd.prog wr = _ := fun ty => Lib.run_next_end_at wr (B + 1) s pos ty hit hp
      have hcap : wr.cell? ⟨B, 1, none⟩ = some (.slice none 0 0) := by simp [World.cell?, HW.out.2.1]
      have HB2 := Lib.hid HW.out.2.2
      have HKL : Hid (keepL l = l) := by
        have h := HK.out
        rw [List.drop_eq_nil_of_le (by rw [HLN.out]; omega), keepL_nil, List.append_nil, List.take_of_length_le (by rw [HLN.out]; omega)] at h
        exact h
      have HSS : Hid (s = ⟨l.toArray⟩) := by rw [← HSL.out]; rfl
      clear hit HW HK
      go_wp2
      go_ret
      refine ⟨?_, HB2.out⟩
      rw [HKL.out, ← HSS.out]
      rfl
end Go.Proofs.YtmegmgcfnihhiaaDoor
