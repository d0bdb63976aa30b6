
/- A string's bytes appended to a slice that has room for them. -/
import Derived.Test.YtogpjoldfcmbfaaDoorSBeg
import Derived.Deep.AppendSrc
import Derived.Lib.LazyBuf
namespace Go.Proofs.YtogpjoldfcmbfaaDoor
open Go.RowKit
set_option linter.unusedVariables false

/-- Bytes that have been gathered in a row of c cells. -/
def bufRow (l : List UInt8) (j : Nat) : Value := .int .u8 (if j < l.length then Sha.bt l j else 0)
def Buf (w : World) (g c : Nat) (l : List UInt8) : Prop := w.rowIs g 5 c (bufRow l)
theorem Buf.below {w w' : World} {g c N : Nat} {l : List UInt8} (h : Buf w g c l) (b : Below N w w') (hg : g < N) : Buf w' g c l := World.rowIs.of_block h (b.block g hg)
theorem bufRow_app (l x : List UInt8) (j : Nat) (c : Nat) (hc : l.length + x.length ≤ c) (hj : j < c) (vs : List Value) (hvs : vs = x.map fun b => Value.int .u8 (b.toNat : Int)) :
    (if l.length ≤ j ∧ j < l.length + vs.length then vs[j - l.length]?.getD default else bufRow l j) = bufRow (l ++ x) j := by
  subst hvs
  unfold bufRow
  simp only [List.length_map, List.length_append]
  by_cases h1 : j < l.length
  · rw [if_neg (by omega), if_pos h1, if_pos (by omega)]
    unfold Sha.bt
    simp only [List.getD, List.getElem?_append_left h1]
  · by_cases h2 : j < l.length + x.length
    · rw [if_pos (by omega), if_pos h2]
      have h3 : j - l.length < x.length := by omega
      unfold Sha.bt
      simp only [List.getD, List.getElem?_append_right (show l.length ≤ j by omega), List.getElem?_map, List.getElem?_eq_getElem h3]
      rfl
    · rw [if_neg (by omega), if_neg h1, if_neg h2]
theorem but_setCells {g : Nat} : ∀ (vs : List Value) (o : Nat) (w : World), But g w (w.setCells g o vs)
  | [], _, w => But.refl g w
  | v :: r, o, w => (But.set w ⟨g, o, none⟩ v).trans (but_setCells r (o + 1) _)
theorem append_src {w : World} {g c : Nat} {l : List UInt8} (h : Buf w g c l) (x : Value) (tx : TypeId) (bs : List UInt8) (k : Nat) (hk : bs.length = k)
    (hsrc : Src Tryd.prog 1 tx x k (bs.map fun b => Value.int .u8 (b.toNat : Int)) w) (hc : l.length + k ≤ c) (n : Nat) (hn : n = l.length) (m : Nat) (hm : m = n + k) (ty : TypeId) :
    ∃ W', (Builtin.append_ #[44, tx] ty #[.slice (some ⟨g, 0, none⟩) n c, x]).run Tryd.prog w = .ok (.slice (some ⟨g, 0, none⟩) m c) W' ∧ Buf W' g c (l ++ bs) ∧ But g w W' := by
  subst hn hm hk
  cases hi : Tryd.prog.info? 5 with
  | none => have := infoU8'; rw [hi] at this; cases this
  | some i =>
    have hs1 : i.size = 1 := by have := infoU8'; rw [hi] at this; simpa using this
    rw [← hs1] at hsrc
    have hrun := run_append_room_src (P := Tryd.prog) w 44 tx ty 5 i Tryd.underlying44 hi g 0 l.length c x bs.length (bs.map fun b => Value.int .u8 (b.toNat : Int)) hsrc (by omega)
      (fun j hj => by rw [hs1]; simp only [List.length_map] at hj; have := World.rowIs.cell h (i := 0 + l.length * 1 + j) (by omega); rw [this]; rfl) (fun j hj => World.rowIs.frozen h _)
    refine ⟨_, hrun, ?_, ?_⟩
    · refine (Go.rowIs_setCells _ (0 + l.length * i.size) w _ h).congr fun j hj => ?_
      rw [hs1, Nat.zero_add, Nat.mul_one]
      exact bufRow_app l bs j c hc hj _ rfl
    · exact but_setCells _ (0 + l.length * i.size) w
theorem append_str {w : World} {g c : Nat} {l : List UInt8} (h : Buf w g c l) (s : ByteArray) (hc : l.length + s.size ≤ c) (n : Nat) (hn : n = l.length) (m : Nat) (hm : m = n + s.size) (ty : TypeId) :
    ∃ W', (Builtin.append_ #[44, 9] ty #[.slice (some ⟨g, 0, none⟩) n c, .string s]).run Tryd.prog w = .ok (.slice (some ⟨g, 0, none⟩) m c) W' ∧ Buf W' g c (l ++ s.data.toList) ∧ But g w W' :=
  append_src h (.string s) 9 s.data.toList s.size (by rw [← Lib.size_eq]) (Src.ofString (P := Tryd.prog) w Tryd.underlying9 s) hc n hn m hm ty
theorem append_slc {w : World} {g c : Nat} {l : List UInt8} (h : Buf w g c l) (g2 k c2 : Nat) (bs : List UInt8) (hk : bs.length = k) (hcell : ∀ j, j < k → w.cell? ⟨g2, j, none⟩ = some (.int .u8 (Sha.bt bs j))) (hc : l.length + k ≤ c) (n : Nat) (hn : n = l.length) (m : Nat) (hm : m = n + k) (ty : TypeId) :
    ∃ W', (Builtin.append_ #[44, 44] ty #[.slice (some ⟨g, 0, none⟩) n c, .slice (some ⟨g2, 0, none⟩) k c2]).run Tryd.prog w = .ok (.slice (some ⟨g, 0, none⟩) m c) W' ∧ Buf W' g c (l ++ bs) ∧ But g w W' :=
  append_src h _ 44 bs k hk (Src.ofSlice (P := Tryd.prog) (e' := 5) w Tryd.underlying44 ⟨g2, 0, none⟩ k c2 _ (by simp [hk]) (fun j u hj => by
      have hjk : j < bs.length := by
        have := (List.getElem?_eq_some_iff.1 hj).1
        simpa using this
      have ha : (⟨g2, 0, none⟩ : Addr).add j = ⟨g2, j, none⟩ := by unfold Addr.add; split <;> simp_all
      rw [ha, hcell j (by omega)]
      simp only [List.getElem?_map, List.getElem?_eq_getElem hjk, Option.map_some] at hj
      rw [← hj]
      unfold Sha.bt
      simp [List.getD, hjk]) (fun u hu => by
      obtain ⟨_, _, rfl⟩ := List.mem_map.1 hu
      rfl)) hc n hn m hm ty
section
variable {ops : Array Oper} {rest : List Oper} {o : Oper} {a : Act} {Q : Exit → Act → World → Prop}
theorem wpList_append_run (w : World) (hgd : o.guard = none) (s x : Operand) (t1 t2 : TypeId) (ho : o.op = .call { callee := .builtin .append, args := #[s, x], argTypes := #[t1, t2] })
    (v sv v' : Value) (W' : World) (hs : a.eval s = v) (hx : a.eval x = sv) (hrun : (Builtin.append_ #[t1, t2] o.type #[v, sv]).run Tryd.prog w = .ok v' W')
    (h : wpList Tryd.prog ops Q rest (a.put o.dst v') W') : wpList Tryd.prog ops Q (o :: rest) a w := by
  refine wpList_plain hgd fun K hK => ?_
  unfold Oper.wp
  simp [execOp, ho, resolve, invoke, builtin, hs, hx, hrun, Result.andThen]
  exact hK _ _ h
end
theorem step_append_ex {ops : Array Oper} {o : Oper} {a : Act} {w : World} {K : Act → World → Prop} {Q : Exit → Act → World → Prop} {E : Prop} (hg : o.guard = none) (s x : Operand) (t1 t2 : TypeId)
    (hop : o.op = .call { callee := .builtin .append, args := #[s, x], argTypes := #[t1, t2] }) (v sv v' : Value) (hs : a.eval s = v) (hx : a.eval x = sv) (R : World → Prop)
    (hrun : ∃ W', (Builtin.append_ #[t1, t2] o.type #[v, sv]).run Tryd.prog w = .ok v' W' ∧ R W') (hK : ∀ W', R W' → K (a.put o.dst v') W') :
    if Region.wanted o (yielded ops a.tmps) = true then Oper.wp Tryd.prog o a w K Q else E := by
  have hw : Region.wanted o (yielded ops a.tmps) = true := by simp [Region.wanted, hg]
  rw [if_pos hw]
  obtain ⟨W', hr, hR⟩ := hrun
  unfold Oper.wp
  simp [execOp, hop, resolve, invoke, builtin, hs, hx, hr, Result.andThen]
  exact hK W' hR
theorem make_buf (c : Nat) (hc : c ≤ 1000000000) (w : World) : (Instr.makeSlice 44 (.int .i64 0) (.int .i64 (c : Int))).run Tryd.prog w = .ok (.slice (some ⟨w.heap.size, 0, none⟩) 0 c) (w.alloc (.cells (madeCells #[.int .u8 0] c) 5)) := by
  obtain ⟨i, hi, hzz⟩ := Option.map_eq_some_iff.1 infoU8
  simp only [Prod.mk.injEq] at hzz
  obtain ⟨hz, hs, hb⟩ := hzz
  have hr := run_make (P := Tryd.prog) w 44 5 i (.int .u8 0) Tryd.underlying44 hi hz .i64 .i64 0 (c : Int) (by omega) (by omega) (by rw [hb]; omega) (by omega)
  simp only [Int.toNat_natCast, hs, Nat.mul_one] at hr
  exact hr
theorem buf_made (w : World) (c : Nat) : Buf (w.alloc (.cells (madeCells #[.int .u8 0] c) 5)) w.heap.size c [] :=
  (World.rowIs_made w (.int .u8 0) c 5).congr (fun j _ => by simp [bufRow])
theorem string_buf {w : World} {g c : Nat} {l : List UInt8} (h : Buf w g c l) (hc : l.length ≤ c) (n : Nat) (hn : n = l.length) : (convert 44 9 (.slice (some ⟨g, 0, none⟩) n c)).run Tryd.prog w = .ok (.string ⟨l.toArray⟩) w := by
  subst hn
  refine run_convert_bytes_back (P := Tryd.prog) w 44 9 5 ⟨g, 0, none⟩ c l Tryd.underlying44 Tryd.underlying5 Tryd.underlying9 (fun j hj => ?_)
  have ha : (⟨g, 0, none⟩ : Addr).add j = ⟨g, j, none⟩ := by unfold Addr.add; split <;> simp_all
  rw [ha, World.rowIs.cell h (by omega)]
  unfold bufRow Sha.bt
  rw [if_pos hj]
  simp [List.getD, hj]
end Go.Proofs.YtogpjoldfcmbfaaDoor
