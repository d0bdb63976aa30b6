
/- Lists of texts read: the program's read and Texts. -/
import Derived.Test.YtkpdjeiocdppoaaCRns
import Derived.Test.YtkpdjeiocdppoaaVRts
namespace Go.Proofs.Ytkpdjeiocdppoaa
open Go.RowKit
set_option linter.unusedVariables false

/-- What has been stored of the texts zs. -/
def strRow (zs : List ByteArray) (j : Nat) : Value := .string (zs.getD j ByteArray.empty)
theorem strRow_step (zs : List ByteArray) (x : ByteArray) (j : Nat) : (if j = zs.length then Value.string x else strRow zs j) = strRow (zs ++ [x]) j := by
  unfold strRow
  by_cases e : j = zs.length
  · subst e; rw [if_pos rfl]; simp
  · rw [if_neg e]
    by_cases h : j < zs.length
    · simp [List.getD, List.getElem?_append_left h]
    · simp only [List.getD]
      rw [List.getElem?_eq_none (by omega), List.getElem?_eq_none (by simp; omega)]
theorem strRow_strs {w : World} {g n : Nat} {zs : List ByteArray} (h : w.rowIs g 9 n (strRow zs)) (hz : zs.length = n) (hn : n ≤ 140737488355328) (hx : ∀ x ∈ zs, x.size ≤ 140737488355328) : Strs w (.slice (some ⟨g, 0, none⟩) n n) zs := by
  subst hz
  refine ⟨_, _, rfl, hn, hx, fun _ => ⟨g, 0, rfl, fun i hi => ?_⟩⟩
  rw [Nat.zero_add]
  exact World.rowIs.cell h hi
theorem strs_nil (w : World) : Strs w (.slice none 0 0) [] := ⟨none, 0, rfl, by simp, (fun x hx => by cases hx), fun h => absurd rfl h⟩
theorem txtR_size (l : List UInt8) (p : Int) : (txtR l p).1.length ≤ l.length := by
  unfold txtR
  split
  · split
    · simp
    · split
      · simp
      · simp only [List.length_take, List.length_drop]; omega
  · simp
theorem tsR_len (l : List UInt8) (a : Int) : ∀ (n : Nat) (p : Int) (acc : List ByteArray), (tsR l a n p acc).1.length ≤ n + acc.length
  | 0, p, acc => by show acc.length ≤ _; omega
  | n + 1, p, acc => by
    rw [tsR]
    split
    · have := tsR_len l a n (txtR l p).2.1 (acc ++ [⟨(txtR l p).1.toArray⟩])
      rw [List.length_append] at this
      simp only [List.length_cons, List.length_nil] at this
      omega
    · simp
theorem tsR_size (l : List UInt8) (a : Int) : ∀ (n : Nat) (p : Int) (acc : List ByteArray), (∀ x ∈ acc, x.size ≤ l.length) → ∀ x ∈ (tsR l a n p acc).1, x.size ≤ l.length
  | 0, p, acc, h => h
  | n + 1, p, acc, h => by
    rw [tsR]
    split
    · refine tsR_size l a n (txtR l p).2.1 (acc ++ [⟨(txtR l p).1.toArray⟩]) (fun x hx => ?_)
      rcases List.mem_append.1 hx with h1 | h1
      · exact h x h1
      · simp only [List.mem_singleton] at h1
        subst h1
        have := txtR_size l p
        rw [Lib.size_eq]
        simpa using this
    · intro x hx; cases hx
theorem textsR_len (l : List UInt8) (a : Int) : (textsR l a 256).1.length ≤ 256 := by
  unfold textsR
  split
  · rename_i h
    have h1 := cntR_in l a 256 h
    have h2 := tsR_len l a (cntR l a 256).1.toNat (cntR l a 256).2.1 []
    simp only [List.length_nil] at h2
    omega
  · simp
theorem textsR_size (l : List UInt8) (a : Int) : ∀ x ∈ (textsR l a 256).1, x.size ≤ l.length := by
  unfold textsR
  split
  · exact tsR_size l a _ _ [] (fun x hx => by cases hx)
  · intro x hx; cases hx

set_option maxRecDepth 100000 in
set_option maxHeartbeats 4000000 in
theorem readT_any (s : ByteArray) (a : Int) (w : World) (hs : s.size ≤ 1000000000) :
    Calls Try.prog 37 #[.string s, .int .i64 a, .int .i64 256, .func (.func 22) #[] #[]] w fun e w' => ∃ v, e = .returned (.tuple #[v, .int .i64 (textsR s.data.toList a 256).2.1, .int .i64 (textsR s.data.toList a 256).2.2]) ∧ Strs w' v (textsR s.data.toList a 256).1 ∧ Below w.heap.size w w' := by
  have HC := length_any s a w hs
  have HCI := lenR_in s.data.toList a
  obtain ⟨l, hl⟩ : ∃ l, s.data.toList = l := ⟨_, rfl⟩
  have HRI := fun q w => text_any s q w hs
  obtain ⟨R, hR⟩ : ∃ R, textsR s.data.toList a 256 = R := ⟨_, rfl⟩
  have HSZ : Hid (∀ x ∈ R.1, x.size ≤ 1000000000) := fun x hx => by
    rw [← hR] at hx
    have h := textsR_size _ _ x hx
    rw [← Lib.size_eq] at h
    omega
  rw [hR]
  unfold textsR at hR
  rw [lenR_cnt] at hR
  rw [hl] at hR HC HCI HRI
  generalize lenR l a = r at *
  obtain ⟨n, p, e⟩ := r
  simp only at hR HCI
  unfold tri at HC
  unfold triT at HRI
  have HC := Lib.hid HC
  have HRI := Lib.hid HRI
  obtain ⟨B, hB⟩ : ∃ B, w.heap.size = B := ⟨_, rfl⟩
  rw [hB]
  by_cases h1 : e = 0
  · have q1 : (e != 0) = false := by simpa using h1
    obtain ⟨hn0, _, _⟩ := HCI h1
    rw [if_pos h1] at hR
    by_cases h3 : 256 < n
    · have q3 : decide ((256 : Int) < n) = true := decide_eq_true h3
      rw [if_pos h3] at hR
      have hR : (([] : List ByteArray), a, (3 : Int)) = R := hR
      have HR := Lib.hid hR
      clear h1 HCI hR hl hB hn0 h3
      go_enter Try.func37, Try.ntmps37
      go_wp2_with fail
      refine HC.out.mono ?_
      rintro e w1 ⟨rfl, rfl⟩
      go_wp2
      go_ret3
      exact ⟨.slice none 0 0, by rw [← HR.out]; rfl, by rw [← HR.out]; exact strs_nil _, Below.refl _ _⟩
    · have q3 : decide ((256 : Int) < n) = false := decide_eq_false h3
      rw [if_neg h3] at hR
      obtain ⟨N, rfl⟩ := Int.eq_ofNat_of_zero_le hn0
      have hN : N ≤ 256 := by omega
      have HR0 : Hid (tsR l a N p [] = R) := by
        show _ = _
        rw [← hR]
        simp only
        rw [if_pos h1]
        rfl
      have hmk := run_make_row' (P := Try.prog) 23 9 (.string ByteArray.empty) 16 Try.underlying23 infoStr rfl .i64 .i64 N (by omega) (by omega) w
      rw [hB] at hmk
      have HRW : Hid ((w.alloc (.cells (madeCells #[.string ByteArray.empty] N) 9)).rowIs B 9 N (strRow [])) := by
        show World.rowIs _ _ _ _ _
        rw [← hB]
        exact (World.rowIs_made w (.string ByteArray.empty) N 9).congr (fun j _ => by simp [strRow])
      have HW0 : Hid (Below B w (w.alloc (.cells (madeCells #[.string ByteArray.empty] N) 9))) := by
        show Below _ _ _
        rw [← hB]
        exact (Below.refl _ _).alloc (Nat.le_refl _) _
      clear h1 HCI hR hl hn0 h3
      go_enter Try.func37, Try.ntmps37
      go_wp2_with fail
      refine HC.out.mono ?_
      rintro e w1 ⟨rfl, rfl⟩
      go_wp2_with fail
      go_loopw [12, 13, 15, 35] (fun pv _ _ i wr => ∃ (k m : Nat) (q : Int) (zs : List ByteArray), k + m = N ∧ pv = .int .i64 q ∧ i = .int .i64 k ∧ Hid (tsR l a m q zs = R) ∧ Hid (zs.length = k) ∧ Hid (wr.rowIs B 9 N (strRow zs)) ∧ Hid (Below B w wr)) (fun _ _ _ i _ => N - (intOf i).toNat)
      case atStart => exact ⟨0, N, p, [], by omega, rfl, rfl, HR0, Lib.hid rfl, HRW, HW0⟩
      case round =>
        obtain ⟨k, m, q, zs, hkm, rfl, rfl, HR, HZ, HG, HB⟩ := hrel
        by_cases hlt : k < N
        · obtain ⟨m', rfl⟩ : ∃ m', m = m' + 1 := ⟨m - 1, by omega⟩
          have HRS := HR.out
          rw [tsR] at HRS
          have HQ := HRI.out q wr
          generalize txtR l q = rr at *
          obtain ⟨x, q2, e2⟩ := rr
          simp only at HRS HQ
          have HQ := Lib.hid HQ
          have hcl := HG.out.cell hlt
          have hfr := HG.out.frozen k
          have HG2 : Hid ((wr.setCell ⟨B, k, none⟩ (.string ⟨x.toArray⟩)).rowIs B 9 N (strRow (zs ++ [(⟨x.toArray⟩ : ByteArray)]))) :=
            (HG.out.set k _).congr fun j hj => by rw [← HZ.out]; exact strRow_step zs ⟨x.toArray⟩ j
          have HB2 : Hid (Below B w (wr.setCell ⟨B, k, none⟩ (.string ⟨x.toArray⟩))) := HB.out.setCell (Nat.le_refl _) _
          by_cases h2 : e2 = 0
          · have q2' : (e2 != 0) = false := by simpa using h2
            rw [if_pos h2] at HRS
            have HR2 := Lib.hid HRS
            have HZ2 : Hid ((zs ++ [(⟨x.toArray⟩ : ByteArray)]).length = k + 1) := by show _ = _; rw [List.length_append, HZ.out]; rfl
            clear h2 HRS HR HZ HG HB
            go_wp2_with (go_at_fn 22)
            refine HQ.out.mono ?_
            rintro e w1 ⟨rfl, rfl⟩
            go_wp2
            go_roundw
            case rel => exact ⟨k + 1, m', q2, _, by omega, rfl, by go_num, HR2, HZ2, HG2, HB2⟩
            case measure => simp [intOf]; omega
          · have q2' : (e2 != 0) = true := by simpa using h2
            rw [if_neg h2] at HRS
            have HR2 := Lib.hid HRS
            clear h2 HRS HR HZ HG HB
            go_wp2_with (go_at_fn 22)
            refine HQ.out.mono ?_
            rintro e w1 ⟨rfl, rfl⟩
            go_wp2
            go_ret3
            exact ⟨.slice none 0 0, by rw [← HR2.out]; rfl, by rw [← HR2.out]; exact strs_nil _, HB2.out⟩
        · obtain rfl : m = 0 := by omega
          obtain rfl : k = N := by omega
          have HR2 : Hid (R = (zs, q, 0)) := by show _ = _; rw [← HR.out]; rfl
          have HXS : Hid (∀ x ∈ zs, x.size ≤ 140737488355328) := fun x hx => by
            have h := HSZ.out x (by rw [HR2.out]; exact hx)
            omega
          clear HR
          go_wp2
          go_ret3
          exact ⟨_, by rw [HR2.out]; rfl, by rw [HR2.out]; exact strRow_strs HG.out HZ.out (by omega) HXS.out, HB.out⟩
  · have q1 : (e != 0) = true := by simpa using h1
    rw [if_neg h1] at hR
    simp only at hR
    rw [if_neg h1] at hR
    have HR := Lib.hid hR
    clear h1 HCI hR hl hB
    go_enter Try.func37, Try.ntmps37
    go_wp2_with fail
    refine HC.out.mono ?_
    rintro e w1 ⟨rfl, rfl⟩
    go_wp2
    go_ret3
    exact ⟨.slice none 0 0, by rw [← HR.out]; rfl, by rw [← HR.out]; exact strs_nil _, Below.refl _ _⟩
set_option maxHeartbeats 4000000 in
theorem texts_any (s : ByteArray) (a : Int) (w : World) (hs : s.size ≤ 1000000000) :
    Calls Try.prog 26 #[.string s, .int .i64 a] w fun e w' => ∃ v, e = .returned (.tuple #[v, .int .i64 (textsR s.data.toList a 256).2.1, .int .i64 (textsR s.data.toList a 256).2.2]) ∧ Strs w' v (textsR s.data.toList a 256).1 ∧ Below w.heap.size w w' := by
  have HC := Lib.hid (readT_any s a w hs)
  generalize textsR s.data.toList a 256 = R at *
  go_enter Try.func26, Try.ntmps26
  go_wp2_with fail
  refine HC.out.mono ?_
  rintro e w1 ⟨v, rfl, hi, hb⟩
  have HI := Lib.hid hi
  have HB := Lib.hid hb
  clear hi hb HC
  go_wp2
  go_ret3
  exact ⟨v, rfl, HI.out, HB.out⟩
end Go.Proofs.Ytkpdjeiocdppoaa
