
/- Lists of numbers read: the document's Ints. -/
import Derived.Test.YtkpdjeiocdppoaaVRtx
import Derived.Test.YtkpdjeiocdppoaaOwn
namespace Go.Proofs.Ytkpdjeiocdppoaa
open Go.RowKit
set_option linter.unusedVariables false

/-- So many numbers more, behind those that have been read; a is the place that an error names. -/
def ns (l : List UInt8) (a : Int) : Nat → Int → List Int → List Int × Int × Int
  | 0, p, acc => (acc, p, 0)
  | n + 1, p, acc => if (intR l p).2.2 = 0 then ns l a n (intR l p).2.1 (acc ++ [(intR l p).1]) else ([], a, (intR l p).2.2)
def intsR (l : List UInt8) (a most : Int) : List Int × Int × Int :=
  if (cntR l a most).2.2 = 0 then ns l a (cntR l a most).1.toNat (cntR l a most).2.1 [] else ([], a, (cntR l a most).2.2)
theorem cntR_in (l : List UInt8) (a most : Int) (h : (cntR l a most).2.2 = 0) : 0 ≤ (cntR l a most).1 ∧ (cntR l a most).1 ≤ most := by
  unfold cntR at h ⊢
  split at h
  · rename_i h0
    rw [if_pos h0]
    split at h
    · cases h
    · rename_i h1
      rw [if_neg h1]
      split at h
      · cases h
      · rename_i h2
        rw [if_neg h2]
        exact ⟨by omega, by omega⟩
  · rename_i h0
    exact absurd h h0
theorem num_step {w wr w2 : World} {B : Nat} {v v' : Value} {zs : List Int} {z : Int} {o : Obj} (hB : B ≤ w.heap.size) (hown : Gath wr B v zs) (hb : Below B w wr)
    (hown2 : Gath w2 B v' (zs ++ [z])) (hgr : (wr.alloc o).grownBy w2 v.ownBlock) : Gath w2 B v' (zs ++ [z]) ∧ Below B w w2 :=
  ⟨hown2, (hb.alloc (Nat.le_trans hB hb.size) o).grown hgr (by have := hb.size; simp; omega) fun g hg => hown.block g hg⟩

set_option maxRecDepth 100000 in
set_option maxHeartbeats 4000000 in
theorem refInts_any (s : ByteArray) (a : Int) (w : World) (hs : s.size ≤ 1000000000) :
    Calls Try.prog 25 #[.string s, .int .i64 a] w fun e w' => ∃ v, e = .returned (.tuple #[v, .int .i64 (intsR s.data.toList a 2048).2.1, .int .i64 (intsR s.data.toList a 2048).2.2]) ∧ Gath w' w.heap.size v (intsR s.data.toList a 2048).1 ∧ Below w.heap.size w w' := by
  have HC := refCount_any s a 2048 w hs
  have HCI := cntR_in s.data.toList a 2048
  obtain ⟨l, hl⟩ : ∃ l, s.data.toList = l := ⟨_, rfl⟩
  have HRI := fun q w => refInt_any s q w hs
  obtain ⟨R, hR⟩ : ∃ R, intsR s.data.toList a 2048 = R := ⟨_, rfl⟩
  rw [hR]
  unfold intsR at hR
  rw [hl] at hR HC HCI HRI
  generalize cntR l a 2048 = r at *
  obtain ⟨n, p, e⟩ := r
  simp only at hR HCI
  unfold tri at HC HRI
  have HC := Lib.hid HC
  have HRI := Lib.hid HRI
  obtain ⟨B, hB⟩ : ∃ B, w.heap.size = B := ⟨_, rfl⟩
  have HB0 : Hid (B ≤ w.heap.size) := Nat.le_of_eq hB.symm
  rw [hB]
  by_cases h1 : e = 0
  · have q1 : (e != 0) = false := by simpa using h1
    obtain ⟨hn0, hn1⟩ := HCI h1
    rw [if_pos h1] at hR
    obtain ⟨N, rfl⟩ := Int.eq_ofNat_of_zero_le hn0
    have hN : N ≤ 2048 := by omega
    have HR0 : Hid (ns l a N p [] = R) := hR
    have HG0 : Hid (Gath w B (.slice none 0 0) []) := gath_nil _ _
    have HW0 : Hid (Below B w w) := Below.refl _ _
    clear h1 HCI hR hl hB hn0 hn1
    go_enter Try.func25, Try.ntmps25
    go_wp2_with fail
    refine HC.out.mono ?_
    rintro e w1 ⟨rfl, rfl⟩
    go_wp2_with fail
    go_loopw [8, 10, 26] (fun pv v i wr => ∃ (k m : Nat) (q : Int) (zs : List Int), k + m = N ∧ pv = .int .i64 q ∧ i = .int .i64 k ∧ Hid (ns l a m q zs = R) ∧ Hid (zs.length = k) ∧ Hid (Gath wr B v zs) ∧ Hid (Below B w wr)) (fun _ _ i _ => N - (intOf i).toNat)
    case atStart => exact ⟨0, N, p, [], by omega, rfl, rfl, HR0, Lib.hid rfl, HG0, HW0⟩
    case round =>
      obtain ⟨k, m, q, zs, hkm, rfl, rfl, HR, HZ, HG, HB⟩ := hrel
      have hBr : B ≤ wr.heap.size := by have := HB.out.size; have := HB0.out; omega
      by_cases hlt : k < N
      · obtain ⟨m', rfl⟩ : ∃ m', m = m' + 1 := ⟨m - 1, by omega⟩
        have HRS := HR.out
        rw [ns] at HRS
        have HQ := HRI.out q wr
        generalize intR l q = rr at *
        obtain ⟨x, q2, e2⟩ := rr
        simp only at HRS HQ
        have HQ := Lib.hid HQ
        by_cases h2 : e2 = 0
        · have q2' : (e2 != 0) = false := by simpa using h2
          rw [if_pos h2] at HRS
          have HR2 := Lib.hid HRS
          have hzl : zs.length < 17592186044416 := by have := HZ.out; omega
          clear h2 HRS HR
          go_wp2_with fail
          refine HQ.out.mono ?_
          rintro e w1 ⟨rfl, rfl⟩
          go_wp2_with (at_builtin; refine append_one _ rfl _ _ rfl B _ zs x rfl (HG.out.alloc _) ⟨wr.heap.size, 0, none⟩ rfl ?c1 ?c2 ?c3 ?_)
          case c1 => rw [cell_new]; rfl
          case c2 => exact hzl
          case c3 => first | omega | (simp; omega)
          intro v' w8 hown2 hgr
          have RR := num_step HB0.out HG.out HB.out hown2 hgr
          have HR1 := Lib.hid RR.1
          have HRB := Lib.hid RR.2
          have HZ2 : Hid ((zs ++ [x]).length = k + 1) := by show _ = _; rw [List.length_append, HZ.out]; rfl
          clear RR hown2 hgr HG HB HZ HQ
          go_wp2
          go_roundw
          case rel => exact ⟨k + 1, m', q2, _, by omega, rfl, by go_num, HR2, HZ2, HR1, HRB⟩
          case measure => simp [intOf]; omega
        · have q2' : (e2 != 0) = true := by simpa using h2
          rw [if_neg h2] at HRS
          have HR2 := Lib.hid HRS
          clear h2 HRS HR
          go_wp2_with fail
          refine HQ.out.mono ?_
          rintro e w1 ⟨rfl, rfl⟩
          go_wp2
          go_ret3
          exact ⟨.slice none 0 0, by rw [← HR2.out]; rfl, by rw [← HR2.out]; exact gath_nil _ _, HB.out⟩
      · obtain rfl : m = 0 := by omega
        have HR2 : Hid (R = (zs, q, 0)) := by show _ = _; rw [← HR.out]; rfl
        clear HR
        go_wp2
        go_ret3
        exact ⟨_, by rw [HR2.out]; rfl, by rw [HR2.out]; exact HG.out, HB.out⟩
  · have q1 : (e != 0) = true := by simpa using h1
    rw [if_neg h1] at hR
    have HR := Lib.hid hR
    clear h1 HCI hR hl hB
    go_enter Try.func25, Try.ntmps25
    go_wp2_with fail
    refine HC.out.mono ?_
    rintro e w1 ⟨rfl, rfl⟩
    go_wp2
    go_ret3
    exact ⟨.slice none 0 0, by rw [← HR.out]; rfl, by rw [← HR.out]; exact gath_nil _ _, Below.refl _ _⟩
end Go.Proofs.Ytkpdjeiocdppoaa
