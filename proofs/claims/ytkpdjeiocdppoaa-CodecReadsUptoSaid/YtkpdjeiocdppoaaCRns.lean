
/- Lists of numbers read: the program's read and Ints. -/
import Derived.Test.YtkpdjeiocdppoaaCTxt
import Derived.Test.YtkpdjeiocdppoaaVRns
import Derived.Deep.OwnRows
namespace Go.Proofs.Ytkpdjeiocdppoaa
open Go.RowKit
set_option linter.unusedVariables false

/-- What has been stored of the numbers zs. -/
def numRow (zs : List Int) (j : Nat) : Value := .int .i64 (zs.getD j 0)
theorem numRow_step (zs : List Int) (x : Int) (j : Nat) : (if j = zs.length then Value.int .i64 x else numRow zs j) = numRow (zs ++ [x]) j := by
  unfold numRow
  by_cases e : j = zs.length
  · subst e; rw [if_pos rfl]; simp
  · rw [if_neg e]
    by_cases h : j < zs.length
    · simp [List.getD, List.getElem?_append_left h]
    · simp only [List.getD]
      rw [List.getElem?_eq_none (by omega), List.getElem?_eq_none (by simp; omega)]
theorem numRow_ints {w : World} {g n : Nat} {zs : List Int} (h : w.rowIs g 3 n (numRow zs)) (hz : zs.length = n) (hn : n ≤ 140737488355328) : Ints w (.slice (some ⟨g, 0, none⟩) n n) zs := by
  subst hz
  refine ⟨_, _, rfl, hn, fun _ => ⟨g, 0, rfl, fun i hi => ?_⟩⟩
  rw [Nat.zero_add]
  exact World.rowIs.cell h hi
theorem ns_len (l : List UInt8) (a : Int) : ∀ (n : Nat) (p : Int) (acc : List Int), (ns l a n p acc).1.length ≤ n + acc.length
  | 0, p, acc => by show acc.length ≤ _; omega
  | n + 1, p, acc => by
    rw [ns]
    split
    · have := ns_len l a n (intR l p).2.1 (acc ++ [(intR l p).1])
      rw [List.length_append] at this
      simp only [List.length_cons, List.length_nil] at this
      omega
    · simp
theorem intsR_len (l : List UInt8) (a : Int) : (intsR l a 2048).1.length ≤ 2048 := by
  unfold intsR
  split
  · rename_i h
    have h1 := cntR_in l a 2048 h
    have h2 := ns_len l a (cntR l a 2048).1.toNat (cntR l a 2048).2.1 []
    simp only [List.length_nil] at h2
    omega
  · simp

set_option maxRecDepth 100000 in
set_option maxHeartbeats 4000000 in
theorem readI_any (s : ByteArray) (a : Int) (w : World) (hs : s.size ≤ 1000000000) :
    Calls Try.prog 35 #[.string s, .int .i64 a, .int .i64 2048, .func (.func 20) #[] #[]] w fun e w' => ∃ v, e = .returned (.tuple #[v, .int .i64 (intsR s.data.toList a 2048).2.1, .int .i64 (intsR s.data.toList a 2048).2.2]) ∧ Ints w' v (intsR s.data.toList a 2048).1 ∧ Below w.heap.size w w' := by
  have HC := length_any s a w hs
  have HCI := lenR_in s.data.toList a
  obtain ⟨l, hl⟩ : ∃ l, s.data.toList = l := ⟨_, rfl⟩
  have HRI := fun q w => int_any s q w hs
  obtain ⟨R, hR⟩ : ∃ R, intsR s.data.toList a 2048 = R := ⟨_, rfl⟩
  rw [hR]
  unfold intsR at hR
  rw [lenR_cnt] at hR
  rw [hl] at hR HC HCI HRI
  generalize lenR l a = r at *
  obtain ⟨n, p, e⟩ := r
  simp only at hR HCI
  unfold tri at HC HRI
  have HC := Lib.hid HC
  have HRI := Lib.hid HRI
  obtain ⟨B, hB⟩ : ∃ B, w.heap.size = B := ⟨_, rfl⟩
  rw [hB]
  by_cases h1 : e = 0
  · have q1 : (e != 0) = false := by simpa using h1
    obtain ⟨hn0, _, _⟩ := HCI h1
    rw [if_pos h1] at hR
    by_cases h3 : 2048 < n
    · have q3 : decide ((2048 : Int) < n) = true := decide_eq_true h3
      rw [if_pos h3] at hR
      have hR : (([] : List Int), a, (3 : Int)) = R := hR
      have HR := Lib.hid hR
      clear h1 HCI hR hl hB hn0 h3
      go_enter Try.func35, Try.ntmps35
      go_wp2_with fail
      refine HC.out.mono ?_
      rintro e w1 ⟨rfl, rfl⟩
      go_wp2
      go_ret3
      exact ⟨.slice none 0 0, by rw [← HR.out]; rfl, by rw [← HR.out]; exact ints_nil _, Below.refl _ _⟩
    · have q3 : decide ((2048 : Int) < n) = false := decide_eq_false h3
      rw [if_neg h3] at hR
      obtain ⟨N, rfl⟩ := Int.eq_ofNat_of_zero_le hn0
      have hN : N ≤ 2048 := by omega
      have HR0 : Hid (ns l a N p [] = R) := by
        show _ = _
        rw [← hR]
        simp only
        rw [if_pos h1]
        rfl
      have hmk := run_make_row' (P := Try.prog) 22 3 (.int .i64 0) 8 Try.underlying22 infoInt rfl .i64 .i64 N (by omega) (by omega) w
      rw [hB] at hmk
      have HRW : Hid ((w.alloc (.cells (madeCells #[.int .i64 0] N) 3)).rowIs B 3 N (numRow [])) := by
        show World.rowIs _ _ _ _ _
        rw [← hB]
        exact (World.rowIs_made w (.int .i64 0) N 3).congr (fun j _ => by simp [numRow])
      have HW0 : Hid (Below B w (w.alloc (.cells (madeCells #[.int .i64 0] N) 3))) := by
        show Below _ _ _
        rw [← hB]
        exact (Below.refl _ _).alloc (Nat.le_refl _) _
      clear h1 HCI hR hl hn0 h3
      go_enter Try.func35, Try.ntmps35
      go_wp2_with fail
      refine HC.out.mono ?_
      rintro e w1 ⟨rfl, rfl⟩
      go_wp2_with fail
      go_loopw [12, 13, 15, 35] (fun pv _ _ i wr => ∃ (k m : Nat) (q : Int) (zs : List Int), k + m = N ∧ pv = .int .i64 q ∧ i = .int .i64 k ∧ Hid (ns l a m q zs = R) ∧ Hid (zs.length = k) ∧ Hid (wr.rowIs B 3 N (numRow zs)) ∧ Hid (Below B w wr)) (fun _ _ _ i _ => N - (intOf i).toNat)
      case atStart => exact ⟨0, N, p, [], by omega, rfl, rfl, HR0, Lib.hid rfl, HRW, HW0⟩
      case round =>
        obtain ⟨k, m, q, zs, hkm, rfl, rfl, HR, HZ, HG, HB⟩ := hrel
        by_cases hlt : k < N
        · obtain ⟨m', rfl⟩ : ∃ m', m = m' + 1 := ⟨m - 1, by omega⟩
          have HRS := HR.out
          rw [ns] at HRS
          have HQ := HRI.out q wr
          generalize intR l q = rr at *
          obtain ⟨x, q2, e2⟩ := rr
          simp only at HRS HQ
          have HQ := Lib.hid HQ
          have hcl := HG.out.cell hlt
          have hfr := HG.out.frozen k
          have HG2 : Hid ((wr.setCell ⟨B, k, none⟩ (.int .i64 x)).rowIs B 3 N (numRow (zs ++ [x]))) :=
            (HG.out.set k _).congr fun j hj => by rw [← HZ.out]; exact numRow_step zs x j
          have HB2 : Hid (Below B w (wr.setCell ⟨B, k, none⟩ (.int .i64 x))) := HB.out.setCell (Nat.le_refl _) _
          by_cases h2 : e2 = 0
          · have q2' : (e2 != 0) = false := by simpa using h2
            rw [if_pos h2] at HRS
            have HR2 := Lib.hid HRS
            have HZ2 : Hid ((zs ++ [x]).length = k + 1) := by show _ = _; rw [List.length_append, HZ.out]; rfl
            clear h2 HRS HR HZ HG HB
            go_wp2_with (go_at_fn 20)
            refine HQ.out.mono ?_
            rintro e w1 ⟨rfl, rfl⟩
            go_wp2
            go_roundw
            case rel => exact ⟨k + 1, m', q2, _, by omega, rfl, by go_num, HR2, HZ2, HG2, HB2⟩
            case measure => simp [intOf]; omega
          · have q2' : (e2 != 0) = true := by simpa using h2
            rw [if_neg h2] at HRS
            have HR2 := Lib.hid HRS
            clear h2 HRS HR HZ HG HB
            go_wp2_with (go_at_fn 20)
            refine HQ.out.mono ?_
            rintro e w1 ⟨rfl, rfl⟩
            go_wp2
            go_ret3
            exact ⟨.slice none 0 0, by rw [← HR2.out]; rfl, by rw [← HR2.out]; exact ints_nil _, HB2.out⟩
        · obtain rfl : m = 0 := by omega
          obtain rfl : k = N := by omega
          have HR2 : Hid (R = (zs, q, 0)) := by show _ = _; rw [← HR.out]; rfl
          clear HR
          go_wp2
          go_ret3
          exact ⟨_, by rw [HR2.out]; rfl, by rw [HR2.out]; exact numRow_ints HG.out HZ.out (by omega), HB.out⟩
  · have q1 : (e != 0) = true := by simpa using h1
    rw [if_neg h1] at hR
    simp only at hR
    rw [if_neg h1] at hR
    have HR := Lib.hid hR
    clear h1 HCI hR hl hB
    go_enter Try.func35, Try.ntmps35
    go_wp2_with fail
    refine HC.out.mono ?_
    rintro e w1 ⟨rfl, rfl⟩
    go_wp2
    go_ret3
    exact ⟨.slice none 0 0, by rw [← HR.out]; rfl, by rw [← HR.out]; exact ints_nil _, Below.refl _ _⟩
set_option maxHeartbeats 4000000 in
theorem ints_any (s : ByteArray) (a : Int) (w : World) (hs : s.size ≤ 1000000000) :
    Calls Try.prog 24 #[.string s, .int .i64 a] w fun e w' => ∃ v, e = .returned (.tuple #[v, .int .i64 (intsR s.data.toList a 2048).2.1, .int .i64 (intsR s.data.toList a 2048).2.2]) ∧ Ints w' v (intsR s.data.toList a 2048).1 ∧ Below w.heap.size w w' := by
  have HC := Lib.hid (readI_any s a w hs)
  generalize intsR s.data.toList a 2048 = R at *
  go_enter Try.func24, Try.ntmps24
  go_wp2_with fail
  refine HC.out.mono ?_
  rintro e w1 ⟨v, rfl, hi, hb⟩
  have HI := Lib.hid hi
  have HB := Lib.hid hb
  clear hi hb HC
  go_wp2
  go_ret3
  exact ⟨v, rfl, HI.out, HB.out⟩
end Go.Proofs.Ytkpdjeiocdppoaa
