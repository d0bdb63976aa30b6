
/- Lists of texts read: the document's Texts. -/
import Derived.Test.YtkpdjeiocdppoaaVRns
import Derived.Test.YtkpdjeiocdppoaaStrs
namespace Go.Proofs.Ytkpdjeiocdppoaa
open Go.RowKit
set_option linter.unusedVariables false

theorem infoStr : (Try.prog.info? 9).map (fun i => (i.zero, i.size, i.bytes)) = some (some (.string ByteArray.empty), 1, 16) := by kernel_rfl
/-- The slice v holds the strings zs in memory from block 'base' on. -/
def GathS (w : World) (base : Nat) (v : Value) (zs : List ByteArray) : Prop := w.ownsRow base 9 1 v zs.length (zs.map Value.string)
theorem gathS_nil (w : World) (base : Nat) : GathS w base (.slice none 0 0) [] := World.ownsRow_nil _ _ _ _
theorem GathS.alloc {w : World} {base : Nat} {v : Value} {zs : List ByteArray} (h : GathS w base v zs) (o : Obj) : GathS (w.alloc o) base v zs := World.ownsRow.alloc h o
theorem GathS.block {w : World} {base : Nat} {v : Value} {zs : List ByteArray} (h : GathS w base v zs) : ∀ g, v.ownBlock = some g → base ≤ g := fun g hg => (World.ownsRow.lt h g hg).1
theorem GathS.reads {w : World} {base : Nat} {v : Value} {zs : List ByteArray} (h : GathS w base v zs) (hl : zs.length ≤ 140737488355328) (hz : ∀ x ∈ zs, x.size ≤ 140737488355328) : Strs w v zs := by
  obtain ⟨_, hn | ⟨g, cap, cur, rfl, hb, hg, h1, h2, h3, h4⟩⟩ := h
  · obtain ⟨rfl, h0⟩ := hn
    obtain rfl : zs = [] := List.length_eq_zero_iff.1 h0
    exact ⟨none, 0, rfl, by simp, (fun x hx => by cases hx), fun h => absurd rfl h⟩
  · refine ⟨_, cap, rfl, hl, hz, fun _ => ⟨g, 0, rfl, fun i hi => ?_⟩⟩
    rw [Nat.zero_add, cell_of_row w g i cur _ _ hg]
    have h5 : (zs.map Value.string)[i]? = some (.string (zs.getD i ByteArray.empty)) := by simp [hi, List.getD]
    rw [← h4, List.getElem?_take_of_lt (by omega)] at h5
    simpa using h5
section
variable {ops : Array Oper} {rest : List Oper} {o : Oper} {a : Act} {Q : Exit → Act → World → Prop}
/-- 'append(l, z)', l a slice of strings of the call's own. -/
theorem append_oneS (w : World) (hgd : o.guard = none) (s x : Operand) (ho : o.op = .call { callee := .builtin .append, args := #[s, x], argTypes := #[23, 23] })
    (base : Nat) (v : Value) (zs : List ByteArray) (z : ByteArray) (hs : a.eval s = v) (hown : GathS w base v zs) (ad : Addr) (hx : a.eval x = .slice (some ad) 1 1) (hcell : w.cell? ad = some (.string z))
    (hlen : zs.length < 1000000000) (hbase : base ≤ w.heap.size)
    (h : ∀ v' w', GathS w' base v' (zs ++ [z]) → w.grownBy w' v.ownBlock → wpList Try.prog ops Q rest (a.put o.dst v') w') : wpList Try.prog ops Q (o :: rest) a w := by
  obtain ⟨i0, hi, hzz⟩ := Option.map_eq_some_iff.1 infoStr
  simp only [Prod.mk.injEq] at hzz
  obtain ⟨hz0, hz1, hz2⟩ := hzz
  refine wpList_append_own w hgd s x 23 ho base 9 i0 (.string ByteArray.empty) 1 16 Try.underlying23 hi hz0 hz1 hz2 rfl (by decide) v zs.length (zs.map Value.string) hs hown ad 1 1 [.string z] hx rfl ?_ ?_ ?_ ?_ hbase ?_
  · intro j u hj
    match j, hj with
    | 0, hj =>
      simp at hj; subst hj
      have e : ad.add 0 = ad := by unfold Addr.add; simp
      rw [e]; exact hcell
  · intro u hu; simp at hu; subst hu; rfl
  · unfold maxLen; omega
  · omega
  · intro v' w' h1 h2 _
    refine h v' w' ?_ h2
    unfold GathS
    simpa using h1
end
theorem str_step {w wr w2 : World} {B : Nat} {v v' : Value} {zs : List ByteArray} {z : ByteArray} {o : Obj} (hB : B ≤ w.heap.size) (hown : GathS wr B v zs) (hb : Below B w wr)
    (hown2 : GathS w2 B v' (zs ++ [z])) (hgr : (wr.alloc o).grownBy w2 v.ownBlock) : GathS w2 B v' (zs ++ [z]) ∧ Below B w w2 :=
  ⟨hown2, (hb.alloc (Nat.le_trans hB hb.size) o).grown hgr (by have := hb.size; simp; omega) fun g hg => hown.block g hg⟩
/-- So many texts more, behind those that have been read. -/
def tsR (l : List UInt8) (a : Int) : Nat → Int → List ByteArray → List ByteArray × Int × Int
  | 0, p, acc => (acc, p, 0)
  | n + 1, p, acc => if (txtR l p).2.2 = 0 then tsR l a n (txtR l p).2.1 (acc ++ [⟨(txtR l p).1.toArray⟩]) else ([], a, (txtR l p).2.2)
def textsR (l : List UInt8) (a most : Int) : List ByteArray × Int × Int :=
  if (cntR l a most).2.2 = 0 then tsR l a (cntR l a most).1.toNat (cntR l a most).2.1 [] else ([], a, (cntR l a most).2.2)

set_option maxRecDepth 100000 in
set_option maxHeartbeats 4000000 in
theorem refTexts_any (s : ByteArray) (a : Int) (w : World) (hs : s.size ≤ 1000000000) :
    Calls Try.prog 27 #[.string s, .int .i64 a] w fun e w' => ∃ v, e = .returned (.tuple #[v, .int .i64 (textsR s.data.toList a 256).2.1, .int .i64 (textsR s.data.toList a 256).2.2]) ∧ GathS w' w.heap.size v (textsR s.data.toList a 256).1 ∧ Below w.heap.size w w' := by
  have HC := refCount_any s a 256 w hs
  have HCI := cntR_in s.data.toList a 256
  obtain ⟨l, hl⟩ : ∃ l, s.data.toList = l := ⟨_, rfl⟩
  have HRI := fun q w => refText_any s q w hs
  obtain ⟨R, hR⟩ : ∃ R, textsR s.data.toList a 256 = R := ⟨_, rfl⟩
  rw [hR]
  unfold textsR at hR
  rw [hl] at hR HC HCI HRI
  generalize cntR l a 256 = r at *
  obtain ⟨n, p, e⟩ := r
  simp only at hR HCI
  unfold tri at HC
  unfold triT at HRI
  have HC := Lib.hid HC
  have HRI := Lib.hid HRI
  obtain ⟨B, hB⟩ : ∃ B, w.heap.size = B := ⟨_, rfl⟩
  have HB0 : Hid (B ≤ w.heap.size) := Nat.le_of_eq hB.symm
  rw [hB]
  by_cases h1 : e = 0
  · have q1 : (e != 0) = false := by simpa using h1
    obtain ⟨hn0, hn1⟩ := HCI h1
    rw [if_pos h1] at hR
    obtain ⟨N, rfl⟩ := Int.eq_ofNat_of_zero_le hn0
    have hN : N ≤ 256 := by omega
    have HR0 : Hid (tsR l a N p [] = R) := hR
    have HG0 : Hid (GathS w B (.slice none 0 0) []) := gathS_nil _ _
    have HW0 : Hid (Below B w w) := Below.refl _ _
    clear h1 HCI hR hl hB hn0 hn1
    go_enter Try.func27, Try.ntmps27
    go_wp2_with fail
    refine HC.out.mono ?_
    rintro e w1 ⟨rfl, rfl⟩
    go_wp2_with fail
    go_loopw [8, 10, 26] (fun pv v i wr => ∃ (k m : Nat) (q : Int) (zs : List ByteArray), k + m = N ∧ pv = .int .i64 q ∧ i = .int .i64 k ∧ Hid (tsR l a m q zs = R) ∧ Hid (zs.length = k) ∧ Hid (GathS wr B v zs) ∧ Hid (Below B w wr)) (fun _ _ i _ => N - (intOf i).toNat)
    case atStart => exact ⟨0, N, p, [], by omega, rfl, rfl, HR0, Lib.hid rfl, HG0, HW0⟩
    case round =>
      obtain ⟨k, m, q, zs, hkm, rfl, rfl, HR, HZ, HG, HB⟩ := hrel
      have hBr : B ≤ wr.heap.size := by have := HB.out.size; have := HB0.out; omega
      by_cases hlt : k < N
      · obtain ⟨m', rfl⟩ : ∃ m', m = m' + 1 := ⟨m - 1, by omega⟩
        have HRS := HR.out
        rw [tsR] at HRS
        have HQ := HRI.out q wr
        generalize txtR l q = rr at *
        obtain ⟨x, q2, e2⟩ := rr
        simp only at HRS HQ
        have HQ := Lib.hid HQ
        by_cases h2 : e2 = 0
        · have q2' : (e2 != 0) = false := by simpa using h2
          rw [if_pos h2] at HRS
          have HR2 := Lib.hid HRS
          have hzl : zs.length < 1000000000 := by have := HZ.out; omega
          clear h2 HRS HR
          go_wp2_with fail
          refine HQ.out.mono ?_
          rintro e w1 ⟨rfl, rfl⟩
          go_wp2_with (at_builtin; refine append_oneS _ rfl _ _ rfl B _ zs ⟨x.toArray⟩ rfl (HG.out.alloc _) ⟨wr.heap.size, 0, none⟩ rfl ?c1 ?c2 ?c3 ?_)
          case c1 => rw [cell_new]; rfl
          case c2 => exact hzl
          case c3 => first | omega | (simp; omega)
          intro v' w8 hown2 hgr
          have RR := str_step HB0.out HG.out HB.out hown2 hgr
          have HR1 := Lib.hid RR.1
          have HRB := Lib.hid RR.2
          have HZ2 : Hid ((zs ++ [(⟨x.toArray⟩ : ByteArray)]).length = k + 1) := by show _ = _; rw [List.length_append, HZ.out]; rfl
          clear RR hown2 hgr HG HB HZ HQ
          go_wp2
          go_roundw
          case rel => exact ⟨k + 1, m', q2, _, by omega, rfl, by go_num, HR2, HZ2, HR1, HRB⟩
          case measure => simp [intOf]; omega
        · have q2' : (e2 != 0) = true := by simpa using h2
          rw [if_neg h2] at HRS
          have HR2 := Lib.hid HRS
          clear h2 HRS HR
          go_wp2_with fail
          refine HQ.out.mono ?_
          rintro e w1 ⟨rfl, rfl⟩
          go_wp2
          go_ret3
          exact ⟨.slice none 0 0, by rw [← HR2.out]; rfl, by rw [← HR2.out]; exact gathS_nil _ _, HB.out⟩
      · obtain rfl : m = 0 := by omega
        have HR2 : Hid (R = (zs, q, 0)) := by show _ = _; rw [← HR.out]; rfl
        clear HR
        go_wp2
        go_ret3
        exact ⟨_, by rw [HR2.out]; rfl, by rw [HR2.out]; exact HG.out, HB.out⟩
  · have q1 : (e != 0) = true := by simpa using h1
    rw [if_neg h1] at hR
    have HR := Lib.hid hR
    clear h1 HCI hR hl hB
    go_enter Try.func27, Try.ntmps27
    go_wp2_with fail
    refine HC.out.mono ?_
    rintro e w1 ⟨rfl, rfl⟩
    go_wp2
    go_ret3
    exact ⟨.slice none 0 0, by rw [← HR.out]; rfl, by rw [← HR.out]; exact gathS_nil _ _, Below.refl _ _⟩
end Go.Proofs.Ytkpdjeiocdppoaa
