
/- Split, Join, Fold and Plain of words. -/
import Derived.Test.YtmegmgcfnihhiaaDoorOSp
import Derived.Lib.AppendIntMem
namespace Go.Proofs.YtmegmgcfnihhiaaDoor
open Go.RowKit Go.Shelf
set_option linter.unusedVariables false
set_option linter.unusedSimpArgs false

/-- The library's tables, as they lie in memory. -/
structure Tbw (w : World) : Prop where
  u : Lib.Utf8Tabs 4 5 w
  t : Lib.TabIs Tryd.prog w "strings.asciiSpace" .u8 Lib.asciiSpaceTab
theorem Tbw.below {w w' : World} (h : Tbw w) (b : Below w.heap.size w w') : Tbw w' :=
  ⟨tabs_below h.u b (cell_lt (h.u.1 0 (by decide))) (cell_lt (h.u.2 0 (by decide)).1), Lib.tabBelow_of_tabIs h.t w' b⟩
/-- A slice of words. -/
structure Wds (w : World) (B : Nat) (q : Nat) (ws : List (List UInt8)) : Prop where
  lo : B ≤ q
  lt : q < w.heap.size
  at' : ∀ (j : Nat) x, ws[j]? = some x → w.cell? ⟨q, j, none⟩ = some (.string ⟨x.toArray⟩)
theorem Wds.below {w w' : World} {B q : Nat} {ws : List (List UInt8)} (h : Wds w B q ws) (b : Below w.heap.size w w') : Wds w' B q ws :=
  ⟨h.lo, Nat.lt_of_lt_of_le h.lt b.size, fun j x hx => by rw [b.cell (p := ⟨q, j, none⟩) h.lt]; exact h.at' j x hx⟩
theorem runes_len : ∀ (n : Nat) (l : List UInt8), l.length ≤ n → (runes l).length ≤ l.length
  | 0, l, h => by
    have : l = [] := List.eq_nil_of_length_eq_zero (by omega)
    subst this; simp [runes_nil]
  | n + 1, l, h => by
    by_cases hl : l = []
    · subst hl; simp [runes_nil]
    cases hb : bad l with
    | true =>
      rw [runes_bad hl hb]
      have h1 := drop_lt l hl (Nat.le_refl 1)
      have := runes_len n (l.drop 1) (by omega)
      omega
    | false =>
      rw [runes_good hl hb, List.length_cons]
      have h1 := drop_lt l hl (dl_pos l)
      have h2 := runes_len n (l.drop (Lib.decodeL l).2) (by omega)
      omega
theorem spell_len (l : List UInt8) : (spellL l).length ≤ 2 * l.length := by
  have h1 := flat_len (runes l)
  have h2 := runes_len _ l (Nat.le_refl _)
  unfold spellL
  omega
def totL (ws : List (List UInt8)) : Nat := (ws.map fun x => x.length + 1).sum
theorem fieldsGo_tot : ∀ (s cur : List UInt8), totL (Lib.fieldsGo cur s) ≤ cur.length + s.length + 1
  | [], cur => by
    cases cur with
    | nil => simp [Lib.fieldsGo, totL]
    | cons c u => simp [Lib.fieldsGo, totL]
  | b :: s, cur => by
    cases hb : Lib.isSp b with
    | true =>
      cases cur with
      | nil =>
        rw [Lib.fieldsGo_sp b s hb]
        have := fieldsGo_tot s []
        simp only [List.length_nil, List.length_cons] at this ⊢
        omega
      | cons c u =>
        rw [Lib.fieldsGo_end _ b s hb (by simp)]
        have := fieldsGo_tot s []
        simp only [totL, List.map_cons, List.sum_cons, List.length_nil, List.length_cons] at this ⊢
        omega
    | false =>
      rw [Lib.fieldsGo_more _ b s hb]
      have := fieldsGo_tot s (cur ++ [b])
      simp only [List.length_append, List.length_cons, List.length_nil] at this ⊢
      omega
theorem join_tot : ∀ ws : List (List UInt8), (Lib.join ws [32]).length ≤ totL ws
  | [] => by simp [Lib.join, totL]
  | [w] => by rw [join_one]; simp [totL]
  | w :: x :: ws => by
    rw [join_cons]
    have := join_tot (x :: ws)
    simp only [totL, List.map_cons, List.sum_cons, List.length_append, List.length_cons] at this ⊢
    omega
theorem words_tot (l : List UInt8) : totL (wordsL l) ≤ 2 * l.length + 1 := by
  have h1 := fieldsGo_tot (spellL l) []
  have h2 := spell_len l
  unfold wordsL Lib.fields
  simp only [List.length_nil] at h1
  omega
theorem tot_len : ∀ ws : List (List UInt8), ws.length ≤ totL ws
  | [] => by simp [totL]
  | w :: ws => by
    have := tot_len ws
    simp only [totL, List.map_cons, List.sum_cons, List.length_cons] at this ⊢
    omega

theorem split_any (s : ByteArray) (w : World) (T : Tbw w) (hs : s.size ≤ 1000000) :
    Calls Tryd.prog 14 #[.string s] w fun e w' => ∃ q, e = .returned (.slice (some ⟨q, 0, none⟩) (wordsL s.data.toList).length (wordsL s.data.toList).length) ∧ Wds w' w.heap.size q (wordsL s.data.toList) ∧ Below w.heap.size w w' := by
  have HS := Lib.hid (spell_any s w T.u hs)
  have HT := Lib.hid T
  have HLN : Hid (s.data.toList.length = s.size) := (Lib.size_eq s).symm
  go_enter Tryd.func14, Tryd.ntmps14
  go_wp2_with fail
  refine HS.out.mono ?_
  rintro e w1 ⟨rfl, hb1⟩
  have HB1 := Lib.hid hb1
  have hT1 := HT.out.below hb1
  have hl2 := spell_len s.data.toList
  rw [HLN.out] at hl2
  have hF := Tryd.strings_Fields ⟨(spellL s.data.toList).toArray⟩ w1 (by rw [Lib.size_eq]; show (spellL s.data.toList).length < _; omega) (fun j b hb => plB_lt (spellL_ok s.data.toList b (List.mem_of_getElem? hb))) hT1.t
  have HF := Lib.hid hF
  clear hb1 hT1 hF hl2 HS
  go_wp2_with fail
  refine HF.out.mono ?_
  rintro e w2 ⟨rfl, rfl⟩
  have HW : Hid (Wds (w1.alloc (.cells ((wordsL s.data.toList).map fun l => Value.string ⟨l.toArray⟩).toArray 9)) w.heap.size w1.heap.size (wordsL s.data.toList)) := by
    refine ⟨HB1.out.size, by simp, fun j x hx => ?_⟩
    rw [cell_new]
    simp [hx]
  have HBe : Hid (Below w.heap.size w (w1.alloc (.cells ((wordsL s.data.toList).map fun l => Value.string ⟨l.toArray⟩).toArray 9))) := HB1.out.alloc HB1.out.size _
  have e1 : Lib.fields (spellL s.data.toList) = wordsL s.data.toList := rfl
  go_wp2
  go_ret
  exact ⟨_, rfl, HW.out, HBe.out⟩

theorem join_any (B q : Nat) (ws : List (List UInt8)) (w : World) (h : Wds w B q ws) (hl : totL ws ≤ 10000000) :
    Calls Tryd.prog 13 #[.slice (some ⟨q, 0, none⟩) ws.length ws.length] w fun e w' => e = .returned (.string ⟨(Lib.join ws [32]).toArray⟩) ∧ Below w.heap.size w w' := by
  have hmm : (ws.map fun x => (⟨x.toArray⟩ : ByteArray)).map (·.data.toList) = ws := by simp [Function.comp_def]
  have hJ := Tryd.strings_Join q 0 ws.length (ws.map fun x => ⟨x.toArray⟩) ⟨#[32]⟩ w (fun j x hx => by
    rw [List.getElem?_map] at hx
    obtain ⟨y, hy, rfl⟩ := Option.map_eq_some_iff.1 hx
    rw [Nat.zero_add]
    exact h.at' j y hy) h.lt (by rw [List.length_map]; have := tot_len ws; omega) (by simp) (by rw [hmm]; show (Lib.join ws [32]).length ≤ _; have := join_tot ws; omega)
  rw [List.length_map, hmm] at hJ
  have HJ := Lib.hid hJ
  clear hJ hmm
  go_enter Tryd.func13, Tryd.ntmps13
  go_wp2_with fail
  refine HJ.out.mono ?_
  rintro e w1 ⟨rfl, hb⟩
  have HB := Lib.hid hb
  clear hb
  go_wp2
  go_ret
  exact ⟨rfl, HB.out⟩

theorem fold_any (s : ByteArray) (w : World) (T : Tbw w) (hs : s.size ≤ 1000000) :
    Calls Tryd.prog 10 #[.string s] w fun e w' => e = .returned (.string ⟨(foldL s.data.toList).toArray⟩) ∧ Below w.heap.size w w' := by
  have HS := Lib.hid (split_any s w T hs)
  have HTL : Hid (totL (wordsL s.data.toList) ≤ 10000000) := by
    show _ ≤ _
    have h1 := words_tot s.data.toList
    have h2 := Lib.size_eq s
    omega
  go_enter Tryd.func10, Tryd.ntmps10
  go_wp2_with fail
  refine HS.out.mono ?_
  rintro e w1 ⟨q, rfl, hw, hb⟩
  have HB := Lib.hid hb
  have HJ := Lib.hid (join_any _ q _ w1 hw HTL.out)
  clear hw hb
  go_wp2_with fail
  refine HJ.out.mono ?_
  rintro e w2 ⟨rfl, hb⟩
  have HB2 := Lib.hid (HB.out.trans (hb.mono HB.out.size))
  clear hb
  go_wp2
  go_ret
  exact ⟨rfl, HB2.out⟩

theorem str_beq (L M : List UInt8) : ((⟨L.toArray⟩ : ByteArray).toList == (⟨M.toArray⟩ : ByteArray).toList) = decide (L = M) := by
  rw [ByteArray.toList_eq, ByteArray.toList_eq]
  by_cases h : L = M
  · rw [decide_eq_true h]; simp [h]
  · rw [decide_eq_false h]; simp [h]
theorem str_eta (s : ByteArray) : (⟨s.data.toList.toArray⟩ : ByteArray) = s := rfl
theorem ascii_step {l : List UInt8} {pos : Nat} (hA : ∀ b ∈ l, b.toNat < 128) (h : pos < l.length) : ∃ r : Nat, r < 128 ∧ Lib.decodeL (l.drop pos) = (r, 1) := by
  rw [List.drop_eq_getElem_cons h]
  exact ⟨_, hA _ (List.getElem_mem h), Lib.decodeL_ascii _ _ (hA _ (List.getElem_mem h))⟩
set_option maxHeartbeats 4000000 in
set_option maxRecDepth 1000000 in
/-- Plain of a text without letters with marks: it never reads the variable spellings. -/
theorem plain_any (s : ByteArray) (w : World) (T : Tbw w) (hs : s.size ≤ 1000000) (hA : ∀ b ∈ s.data.toList, b.toNat < 128) :
    Calls Tryd.prog 12 #[.string s] w fun e w' => e = .returned (.bool (decide (foldL s.data.toList = s.data.toList))) ∧ Below w.heap.size w w' := by
  obtain ⟨b, hb⟩ : ∃ b, decide (foldL s.data.toList = s.data.toList) = b := ⟨_, rfl⟩
  have he := str_beq (foldL s.data.toList) s.data.toList
  rw [str_eta] at he
  rw [hb] at he ⊢
  obtain ⟨x, hx⟩ : ∃ x : ByteArray, (⟨(foldL s.data.toList).toArray⟩ : ByteArray) = x := ⟨_, rfl⟩
  rw [hx] at he
  obtain ⟨I, hI⟩ : ∃ I, w.heap.size = I := ⟨_, rfl⟩
  have HF : Hid (∀ W, Below I w W → Calls Tryd.prog 10 #[.string s] W fun e w' => e = .returned (.string x) ∧ Below W.heap.size W w') := fun W hW => by
    have h := fold_any s W (T.below (by rw [hI]; exact hW)) hs
    rw [hx] at h
    exact h
  have HLN : Hid (s.data.toList.length = s.size) := (Lib.size_eq s).symm
  have HAS : Hid (∀ b ∈ s.data.toList, b.toNat < 128) := hA
  have hit0 : (w.iter s 0).heap[I]? = some (.stringIter s 0) := by
    have := World.iter_heap w s 0
    rw [hI] at this
    exact this
  have HW0 : Hid ((w.iter s 0).heap[I]? = some (.stringIter s 0) ∧ Below I w (w.iter s 0)) := ⟨hit0, (Below.refl I w).alloc (Nat.le_of_eq hI.symm) (.stringIter s 0)⟩
  rw [hI]
  clear hb hx hit0 hA T
  go_enter Tryd.func12, Tryd.ntmps12
  go_wp2_with fail
  try rw [hI]
  go_loopw [4] (fun _ wr => ∃ pos : Nat, pos ≤ s.size ∧ Hid (wr.heap[I]? = some (.stringIter s pos) ∧ Below I w wr)) (fun _ wr => s.size - wr.iterPos I)
  case atStart => exact ⟨0, Nat.zero_le _, HW0⟩
  case round =>
    obtain ⟨pos, hps, HW⟩ := hrel
    clear HW0
    have hit := HW.out.1
    by_cases hp : pos < s.size
    · have hnx : ∀ ty, (Instr.next (.pointer (some ⟨I, 0, none⟩)) true ty).run Tryd.prog wr = _ := fun ty => Lib.run_next_any_at wr I s pos ty hit hp
      have hd : Utf8.decode s pos = Lib.decodeL (s.data.toList.drop pos) := by rw [Lib.decodeL_drop]
      obtain ⟨r, hr, hdr⟩ := ascii_step HAS.out (show pos < s.data.toList.length by rw [HLN.out]; exact hp)
      rw [hd, hdr] at hnx
      have hit2 := Lib.iterAt_heap wr I s pos (pos + 1) hit
      have H2 : Hid ((wr.iterAt I s (pos + 1)).heap[I]? = some (.stringIter s (pos + 1)) ∧ Below I w (wr.iterAt I s (pos + 1))) := ⟨hit2, Lib.below_iterAt HW.out.2 (k := I) (Nat.le_refl _) s (pos + 1)⟩
      have HME : Hid (s.size - (wr.iterAt I s (pos + 1)).iterPos I < s.size - wr.iterPos I) := by
        show _ < _
        simp only [World.iterPos, hit, hit2]
        omega
      have HPS : Hid (pos + 1 ≤ s.size) := hp
      have g1 : ¬ (223 : Int) ≤ (r : Int) := by omega
      clear hit hit2 hd hdr HW
      go_wp2_with fail
      go_roundw
      case rel => exact ⟨pos + 1, HPS.out, H2⟩
      case measure => exact HME.out
    · have hnx : ∀ ty, (Instr.next (.pointer (some ⟨I, 0, none⟩)) true ty).run Tryd.prog wr = _ := fun ty => Lib.run_next_end_at wr I s pos ty hit hp
      have HC := Lib.hid (HF.out wr HW.out.2)
      have HIL : Hid (I ≤ wr.heap.size) := Nat.le_of_lt (Array.getElem?_eq_some_iff.1 hit).1
      clear hit
      go_wp2_with fail
      refine HC.out.mono ?_
      rintro e w1 ⟨rfl, hb1⟩
      have HB := Lib.hid (HW.out.2.trans (hb1.mono HIL.out))
      clear hb1 HC
      go_wp2
      go_ret
      exact ⟨rfl, HB.out⟩
end Go.Proofs.YtmegmgcfnihhiaaDoor
