
/- The document's padded string. -/
import Derived.Test.YtidmcemcmalfnaaDoorROwn
import Derived.Test.YtidmcemcmalfnaaDoorSSum
namespace Go.Proofs.YtidmcemcmalfnaaDoor
open Go.RowKit
set_option linter.unusedVariables false

theorem bytes_own (w : World) (s : ByteArray) (hs : s.size ≤ 1000000000) : ∃ g cap W', (convert 9 24 (.string s)).run Tryd.prog w = .ok (.slice (some ⟨g, 0, none⟩) s.size cap) W' ∧ OwnB W' w.heap.size (.slice (some ⟨g, 0, none⟩) s.size cap) s.data.toList ∧ Below w.heap.size w W' := by
  have hr := run_bytes_of_string (P := Tryd.prog) w 9 24 5 s Tryd.underlying9 Tryd.underlying24 Tryd.underlying5
  have hge := grownCap_ge w s.size 0 5
  have hcm : grownCap w s.size 0 5 ≤ maxLen := grownCap_le_maxLen w s.size 0 5 (by unfold maxLen; omega)
  have hsz : (bytesRow s (grownCap w s.size 0 5)).size = grownCap w s.size 0 5 := by
    unfold bytesRow
    simp
    omega
  refine ⟨_, _, _, hr, .inr ⟨w.heap.size, _, _, _, by rw [← Lib.size_eq], Nat.le_refl _, heap_alloc_new w.drew _, .inr (Nat.le_refl _), by rw [← Lib.size_eq]; exact hge, hcm, hsz, fun j hj => ?_⟩, ((Below.refl _ _).drew).alloc (Nat.le_refl _) _⟩
  rw [← Lib.size_eq] at hj
  unfold bytesRow Sha.bt
  rw [Array.getElem?_append_left (by simp; exact hj)]
  simp [List.getD, hj]

def lenSl : Value → Nat
  | .slice _ n _ => n
  | _ => 0
theorem OwnB.slc {w : World} {base : Nat} {v : Value} {l : List UInt8} (h : OwnB w base v l) (hl : 0 < l.length) : ∃ g cap, v = .slice (some ⟨g, 0, none⟩) l.length cap := by
  rcases h with ⟨_, rfl⟩ | ⟨g, cap, _, _, h, _⟩
  · simp at hl
  · exact ⟨g, cap, h⟩

section
variable {ops : Array Oper} {rest : List Oper} {o : Oper} {a : Act} {Q : Exit → Act → World → Prop}
theorem wpList_append_ex (w : World) (hgd : o.guard = none) (s x : Operand) (t1 t2 : TypeId) (ho : o.op = .call { callee := .builtin .append, args := #[s, x], argTypes := #[t1, t2] })
    (v sv : Value) (hs : a.eval s = v) (hx : a.eval x = sv) (R : Value → World → Prop) (hrun : ∃ v' W', (Builtin.append_ #[t1, t2] o.type #[v, sv]).run Tryd.prog w = .ok v' W' ∧ R v' W')
    (h : ∀ v' W', R v' W' → wpList Tryd.prog ops Q rest (a.put o.dst v') W') : wpList Tryd.prog ops Q (o :: rest) a w := by
  obtain ⟨v', W', hr, hR⟩ := hrun
  exact wpList_append_run w hgd s x t1 t2 ho v sv v' W' hs hx hr (h v' W' hR)
end
structure Pushed (B : Nat) (W : World) (l : List UInt8) (v' : Value) (W' : World) : Prop where
  own : OwnB W' B v' l
  bel : Below B W W'
/-- One byte more, by a slice literal of one. -/
theorem push_one {W : World} {B : Nat} {v : Value} {l : List UInt8} (h : OwnB W B v l) (hB : B ≤ W.heap.size) (b : UInt8) (bv : Int) (hb : bv = (b.toNat : Int)) (hl : l.length + 1 ≤ 1000000000000) (ty : TypeId) :
    ∃ v' W', (Builtin.append_ #[24, 24] ty #[v, .slice (some ⟨W.heap.size, 0, none⟩) 1 1]).run Tryd.prog (W.alloc (.cells #[.int .u8 bv] 5)) = .ok v' W' ∧ Pushed B W (l ++ [b]) v' W' := by
  have hba : Below W.heap.size W (W.alloc (.cells #[.int .u8 bv] 5)) := (Below.refl _ _).alloc (Nat.le_refl _) _
  have hc : (W.alloc (.cells #[.int .u8 bv] 5)).heap[W.heap.size]? = some (.cells #[.int .u8 bv] 5 (0, 0)) := heap_alloc_new _ _
  obtain ⟨v', W', h1, h2, h3⟩ := append_own (h.below (Nat.le_refl _) hba) (Nat.le_trans hB hba.size) (.slice (some ⟨W.heap.size, 0, none⟩) 1 1) 24 [b] 1 rfl (src_slice rfl (fun j hj => by
    obtain rfl : j = 0 := by omega
    show (match (W.alloc (.cells #[.int .u8 bv] 5)).heap[W.heap.size]? with | some (.cells c _ _) => c[0]? | _ => none) = _
    rw [hc, hb]
    rfl)) hl ty
  exact ⟨v', W', h1, h2, (hba.mono hB).trans h3⟩
theorem eight_take (n j : Nat) (hj : j < 8) : (Sha.eight n).take j ++ [hfb n 8 j] = (Sha.eight n).take (j + 1) := by
  rw [← hf8, List.take_add_one]
  congr 1
  simp [hf, hj]

theorem eb_val (N j e : Nat) (hj : j < 8) (he : e = 8 * (7 - j)) : (N : Int) * 8 / 2 ^ e % 256 = ((hfb (8 * N) 8 j).toNat : Int) := by
  have h := shift_val (8 * N) (7 - j)
  rw [hfb_val, show 8 - 1 - j = 7 - j by omega, ← h, he, show ((8 * N : Nat) : Int) = (N : Int) * 8 by omega]
set_option maxRecDepth 100000 in
set_option maxHeartbeats 4000000 in
theorem pad_any (s : ByteArray) (w : World) (hs : s.size ≤ 1000000000) :
    Calls Tryd.prog 28 #[.string s] w fun e w' => e = .returned (.string ⟨(Sha.pad s.data.toList).toArray⟩) ∧ Below w.heap.size w w' := by
  obtain ⟨g1, c1, w1, hcv, hO1, hb1⟩ := bytes_own w s hs
  obtain ⟨m, hm⟩ : ∃ m, s.data.toList = m := ⟨_, rfl⟩
  obtain ⟨N, hN⟩ : ∃ N, s.size = N := ⟨_, rfl⟩
  have HN : Hid (m.length = N) := by show _ = _; rw [← hm, ← hN, ← Lib.size_eq]
  rw [hm] at hO1 ⊢
  rw [hN] at hcv hO1 hs
  obtain ⟨B, hB⟩ : ∃ B, w.heap.size = B := ⟨_, rfl⟩
  rw [hB] at hO1 hb1 ⊢
  have HO1 := Lib.hid hO1
  have HB1 := Lib.hid hb1
  have hB1 : B ≤ w1.heap.size := by have := hb1.size; omega
  have HHN := Lib.hid hN
  clear hm hO1 hb1
  go_enter Tryd.func28, Tryd.ntmps28
  go_wp2_with (at_builtin; refine wpList_append_ex _ rfl _ _ _ _ rfl _ _ rfl rfl _ (push_one HO1.out hB1 128 _ rfl (by rw [HN.out]; omega) _) ?_)
  intro v2 w2 hp2
  have hO2 := hp2.own
  have hb2 := hp2.bel
  obtain ⟨g2, c2, rfl⟩ := hO2.slc (by simp)
  have HO2 : Hid (OwnB w2 B _ (m ++ 128 :: List.replicate 0 0)) := hO2
  have HB2 := Lib.hid (HB1.out.trans hb2)
  have hll : (m ++ [128]).length = N + 1 := by rw [List.length_append, HN.out]; rfl
  rw [hll] at HO2 ⊢
  clear hp2 hO2 hb2 HO1 HB1 hcv hll
  go_wp2
  go_loopw [3] (fun v wr => ∃ z g c : Nat, z ≤ Sha.zs N ∧ v = .slice (some ⟨g, 0, none⟩) (N + 1 + z) c ∧ Hid (OwnB wr B v (m ++ 128 :: List.replicate z 0)) ∧ Hid (Below B w wr)) (fun v _ => N + 200 - lenSl v)
  case atStart => exact ⟨0, g2, c2, Nat.zero_le _, rfl, HO2, HB2⟩
  case round =>
    obtain ⟨z, g, c, hz, rfl, HO, HB⟩ := hrel
    have hBr : B ≤ wr.heap.size := by have := HB.out.size; omega
    have hll : (m ++ 128 :: List.replicate z 0).length = N + 1 + z := by rw [List.length_append, HN.out]; simp; omega
    have HLL := Lib.hid hll
    have hzl : Sha.zs N < 64 := by unfold Sha.zs; omega
    have hzs := Sha.zs_eq N
    obtain ⟨q, hq⟩ : ∃ q : Int, ((N + 1 + z : Nat) : Int).tmod 64 = q := ⟨_, rfl⟩
    have hq2 : q = ((N + 1 + z) % 64 : Nat) := by rw [← hq, Int.tmod_eq_emod_of_nonneg (by omega)]; omega
    by_cases hd : z < Sha.zs N
    · have hqn : (q != 56) = true := by
        have : ¬ q = 56 := by unfold Sha.zs at hzs hd; omega
        simpa using this
      have hqq : ((N : Int) + 1 + (z : Int)).tmod 64 = q := by rw [← hq]; congr 1
      clear hq2 hll hzs hq
      go_wp2_with (at_builtin; refine wpList_append_ex _ rfl _ _ _ _ rfl _ _ rfl rfl _ (push_one HO.out hBr 0 _ rfl (by rw [HLL.out]; omega) _) ?_)
      intro v2 w2 hp2
      have hO2 := hp2.own
      have hb2 := hp2.bel
      have e1 : m ++ 128 :: (List.replicate z 0 ++ [0]) = m ++ 128 :: List.replicate (z + 1) 0 := by rw [← List.replicate_succ']
      have hO3 : OwnB w2 B v2 (m ++ 128 :: List.replicate (z + 1) 0) := by rw [← e1]; simpa using hO2
      obtain ⟨g2, c2, rfl⟩ := hO3.slc (by simp; omega)
      have hll : (m ++ 128 :: List.replicate (z + 1) 0).length = N + 1 + (z + 1) := by rw [List.length_append, HN.out]; simp; omega
      have HO3 := Lib.hid hO3
      have HB3 := Lib.hid (HB.out.trans hb2)
      rw [hll] at HO3 ⊢
      clear hp2 hO2 hb2 hO3 e1 hll HO HB
      go_wp2
      exact ⟨⟨z + 1, g2, c2, by omega, rfl, HO3, HB3⟩, by show N + 200 - (N + 1 + (z + 1)) < N + 200 - (N + 1 + z); omega⟩
    · have hqn : q = 56 := by unfold Sha.zs at hzs hd hz; omega
      have hqq : ((N : Int) + 1 + (z : Int)).tmod 64 = 56 := by rw [← hqn, ← hq]; congr 1
      obtain rfl : z = Sha.zs N := by omega
      obtain ⟨P, hP⟩ : ∃ P, m ++ 128 :: List.replicate (Sha.zs N) 0 = P := ⟨_, rfl⟩
      obtain ⟨M, hM⟩ : ∃ M, N + 1 + Sha.zs N = M := ⟨_, rfl⟩
      have hMb : M ≤ 2000000000 := by omega
      rw [hP] at HO
      have HPL : Hid (P.length = M) := by show _ = _; rw [← hP, ← hM]; exact HLL.out
      have HPD : Hid (P ++ Sha.eight (8 * N) = Sha.pad m) := by
        show _ = _
        rw [← hP]
        unfold Sha.pad
        rw [HN.out, Nat.mod_eq_of_lt (by omega)]
      have hqq2 : (M : Int).tmod 64 = 56 := by rw [← hM, ← hqq]; congr 1
      rw [hM] at HO ⊢
      have HO0 : Hid (OwnB wr B (Value.slice (some ⟨g, 0, none⟩) (M + 0) c) (P ++ (Sha.eight (8 * N)).take 0)) := by
        show OwnB _ _ _ _
        rw [List.take_zero, List.append_nil]
        exact HO.out
      have hw8 : IntKind.u64.wrap (N : Int) = (N : Int) := by rw [IntKind.wrap_u64]; omega
      have hN8 : IntKind.u64.wrap ((N : Int) * 8) = (N : Int) * 8 := by rw [IntKind.wrap_u64]; omega
      have HS1 := HLL
      clear hq2 hll hzs hq hqn hd HS1 HLL hqq hP hM hzl hz HO
      go_wp2
      go_loopw [3, 4] (fun v i wr => ∃ (j g c : Nat) (q : Int), j ≤ 8 ∧ Hid (q = 56 - 8 * (j : Int)) ∧ i = .int .i64 q ∧ v = .slice (some ⟨g, 0, none⟩) (M + j) c ∧ Hid (OwnB wr B v (P ++ (Sha.eight (8 * N)).take j)) ∧ Hid (Below B w wr)) (fun _ i _ => (intOf i + 8).toNat)
      case atStart => exact ⟨0, g, c, 56, by omega, Lib.hid (by omega), rfl, rfl, HO0, HB⟩
      case round =>
        obtain ⟨j, g, c, q, hj, HQ, rfl, rfl, HO, HB⟩ := hrel
        have hBr : B ≤ wr.heap.size := by have := HB.out.size; omega
        by_cases hj8 : j < 8
        · obtain ⟨e, he⟩ : ∃ e : Nat, e = 8 * (7 - j) := ⟨_, rfl⟩
          obtain rfl : q = (e : Int) := by have := HQ.out; omega
          have hwe : IntKind.u64.wrap (e : Int) = (e : Int) := by rw [IntKind.wrap_u64]; omega
          have he56 : e ≤ 56 := by omega
          have HE := Lib.hid he
          have HLE : Hid ((P ++ (Sha.eight (8 * N)).take j).length = M + j) := by
            show _ = _
            rw [List.length_append, List.length_take, HPL.out, Sha.eight_len]; omega
          clear he
          have HEB := Lib.hid (eb_val N j e hj8 HE.out)
          go_wp2_with (at_builtin; refine wpList_append_ex _ rfl _ _ _ _ rfl _ _ rfl rfl _ (push_one HO.out hBr (hfb (8 * N) 8 j) _ HEB.out (by rw [HLE.out]; omega) _) ?_)
          intro v2 w2 hp2
          have hO2 := hp2.own
          have hb2 := hp2.bel
          have hO3 : OwnB w2 B v2 (P ++ (Sha.eight (8 * N)).take (j + 1)) := by rw [← eight_take (8 * N) j hj8, ← List.append_assoc]; simpa using hO2
          have hll : (P ++ (Sha.eight (8 * N)).take (j + 1)).length = M + (j + 1) := by rw [List.length_append, List.length_take, HPL.out, Sha.eight_len]; omega
          obtain ⟨g2, c2, rfl⟩ := hO3.slc (by rw [hll]; omega)
          have HO3 := Lib.hid hO3
          have HB3 := Lib.hid (HB.out.trans hb2)
          rw [hll] at HO3 ⊢
          have HQ2 : Hid ((e : Int) - 8 = 56 - 8 * ((j + 1 : Nat) : Int)) := by show _ = _; have := HQ.out; omega
          clear hp2 hO2 hb2 hO3 hll HO HB HEB HQ
          go_wp2
          exact ⟨⟨j + 1, g2, c2, (e : Int) - 8, by omega, HQ2, by go_num, rfl, HO3, HB3⟩, by simp [intOf]; omega⟩
        · obtain rfl : j = 8 := by omega
          have hq : q = -8 := by have := HQ.out; omega
          subst hq
          have HF : Hid (P ++ (Sha.eight (8 * N)).take 8 = Sha.pad m) := by
            show _ = _
            rw [List.take_of_length_le (by rw [Sha.eight_len]; omega)]; exact HPD.out
          have hconv := string_own HO.out
          obtain ⟨sr, hsr⟩ : ∃ r : ByteArray, (⟨(P ++ (Sha.eight (8 * N)).take 8).toArray⟩ : ByteArray) = r := ⟨_, rfl⟩
          rw [hsr] at hconv
          have HSR := Lib.hid hsr
          clear hsr HO
          go_wp2
          go_ret
          exact ⟨by rw [← HF.out, HSR.out]; rfl, HB.out⟩
end Go.Proofs.YtidmcemcmalfnaaDoor
