
/- The document's One: lemmas of its walk. -/
import Derived.Test.YtpgbjnenllfmlaaGreatDoorQOn3
namespace Go.Proofs.YtpgbjnenllfmlaaGreatDoor
open Go.RowKit Go.Sort
open Num
set_option linter.unusedVariables false

theorem ints_one9 (w8 : World) (o1 : Obj) (zs : Array Value) (t : TypeId) (C : Nat) : Ints (((w8.alloc o1).alloc (.cells (#[Value.int .i64 1] ++ zs) t)).drew.drew) (.slice (some ⟨w8.heap.size + 1, 0, none⟩) 1 C) [1] := by
  refine ⟨_, C, rfl, by simp, fun _ => ⟨w8.heap.size + 1, 0, rfl, fun i hi => ?_⟩⟩
  obtain rfl : i = 0 := by simpa using hi
  have e : w8.heap.size + 1 = (w8.alloc o1).heap.size := by simp
  rw [e]
  have h : ((w8.alloc o1).alloc (.cells (#[Value.int .i64 1] ++ zs) t)).cell? ⟨(w8.alloc o1).heap.size, 0, none⟩ = some (.int .i64 1) := by
    rw [cell_new]
    simp [Array.getElem?_append]
  exact h
theorem ints_sub7 {w : World} {gq U a m c : Nat} {out l : List Int} (h : Ints w (.slice (some ⟨gq, 0, none⟩) U U) out) (hl : l.length = m) (ham : a + m ≤ U) (hm : m ≤ 1000) (hv : ∀ i, i < m → l.getD i 0 = out.getD (a + i) 0) : Ints w (.slice (some ⟨gq, a, none⟩) m c) l := by
  refine ⟨some ⟨gq, a, none⟩, c, by rw [hl], by omega, fun hne => ⟨gq, a, rfl, fun i hi => ?_⟩⟩
  obtain ⟨b, off, e, hc⟩ := h.pos (k := a + i) (by omega)
  injection e with e
  injection e with e1 e2
  subst e1 e2
  rw [hv i (by omega), ← hc, Nat.zero_add]
/-- Two appends, of which the first one may come behind the list of the second. -/
theorem two_appends {w8 : World} {B : Nat} {sv : Value} {E0 : List Int} (hB : w8.heap.size = B) (hs : Ints w8 sv E0) (hl : E0.length ≤ 1000) :
    ∃ (RA RB RZ : Value → World → Prop), Hid (∃ v' W', (Builtin.append_ #[22, 22] 22 #[.slice none 0 0, sv]).run Tryz.prog w8.drew = .ok v' W' ∧ RA v' W') ∧
      Hid (∀ v' W', RA v' W' → ∃ v'' W'', (Builtin.append_ #[22, 22] 22 #[v', .slice (some ⟨W'.heap.size, 0, none⟩) 1 1]).run Tryz.prog (W'.alloc (.cells #[.int .i64 1] 3)) = .ok v'' W'' ∧ RZ v'' W'') ∧
      Hid (∃ v' W', (Builtin.append_ #[22, 22] 22 #[.slice none 0 0, sv]).run Tryz.prog ((w8.alloc (.cells #[.int .i64 1] 3)).drew) = .ok v' W' ∧ RB v' W') ∧
      Hid (∀ v' W', RB v' W' → ∃ v'' W'', (Builtin.append_ #[22, 22] 22 #[v', .slice (some ⟨w8.heap.size, 0, none⟩) 1 1]).run Tryz.prog W' = .ok v'' W'' ∧ RZ v'' W'') ∧
      Hid (∀ v W, RZ v W → Ints W v (E0 ++ [1]) ∧ Below B w8 W) ∧ Hid (∀ v W, RA v W → Below B w8 W ∧ ∃ a c, v = .slice a E0.length c) ∧ Hid (∀ v W, RB v W → Below B w8 W ∧ ∃ a c, v = .slice a E0.length c) := by
  have hd : w8.drew.heap.size = B := hB
  have hal : Below B w8 ((w8.alloc (.cells #[.int .i64 1] 3)).drew) := ((Below.refl B w8).alloc (Nat.le_of_eq hB.symm) _).drew
  refine ⟨fun v' W' => Gath W' B v' E0 ∧ Below B w8 W' ∧ B ≤ W'.heap.size, fun v' W' => Gath W' (B + 1) v' E0 ∧ Below B w8 W' ∧ B + 1 ≤ W'.heap.size ∧ W'.cell? ⟨w8.heap.size, 0, none⟩ = some (.int .i64 1), fun v W => Ints W v (E0 ++ [1]) ∧ Below B w8 W, ?_, ?_, ?_, ?_, fun _ _ h => h, fun _ _ h => ⟨h.2.1, h.1.shape⟩, fun _ _ h => ⟨h.2.1, h.1.shape⟩⟩
  · obtain ⟨v', W', h1, h2, h3⟩ := run_append_ints (W := w8.drew) (B := B) (gath_nil _ _) (hs.below (Nat.le_refl _) (Below.refl _ _).drew) (by simp; omega) (Nat.le_of_eq hd.symm) 22
    rw [List.nil_append] at h2
    refine ⟨v', W', h1, h2, ((Below.refl B w8).drew).grown h3 (Nat.le_of_eq hd.symm) (fun k hk => by cases hk), ?_⟩
    have := h3.size; omega
  · intro v' W' ⟨r1, r2, r3⟩
    obtain ⟨v'', W'', h1, h2, h3⟩ := run_append_gath (Gath.alloc r1 (.cells #[.int .i64 1] 3)) W'.heap.size 1 (by rw [cell_new]; rfl) (by omega) (by simp; omega) 22
    exact ⟨v'', W'', h1, h2.reads (by simp; omega), (r2.alloc r3 _).grown h3 (by simp; omega) (fun k hk => (World.ownsRow.lt r1 k hk).1)⟩
  · obtain ⟨v', W', h1, h2, h3⟩ := run_append_ints (W := (w8.alloc (.cells #[.int .i64 1] 3)).drew) (B := B + 1) (gath_nil _ _) (hs.below (Nat.le_of_eq hB) hal) (by simp; omega) (by show B + 1 ≤ (w8.alloc _).heap.size; simp; omega) 22
    rw [List.nil_append] at h2
    have hz : ((w8.alloc (.cells #[.int .i64 1] 3)).drew).heap.size = B + 1 := by show (w8.alloc _).heap.size = B + 1; simp; omega
    have hbw : Below (B + 1) ((w8.alloc (.cells #[.int .i64 1] 3)).drew) W' := (Below.refl _ _).grown h3 (Nat.le_of_eq hz.symm) (fun k hk => by cases hk)
    refine ⟨v', W', h1, h2, hal.trans (hbw.mono (by omega)), by have := h3.size; omega, ?_⟩
    rw [hbw.cell (p := ⟨w8.heap.size, 0, none⟩) (by show w8.heap.size < B + 1; omega)]
    exact cell_alloc_new w8 (.int .i64 1) 3 _ rfl
  · intro v' W' ⟨r1, r2, r3, r4⟩
    obtain ⟨v'', W'', h1, h2, h3⟩ := run_append_gath r1 w8.heap.size 1 r4 (by omega) r3 22
    exact ⟨v'', W'', h1, h2.reads (by simp; omega), r2.grown h3 (by omega) (fun k hk => by have := (World.ownsRow.lt r1 k hk).1; omega)⟩
theorem divS_qlen {p : Int} (hp : PrmI p) {a b q r : List Int} {t : Nat} (h : DivS p a b q r) (ha : Els p a) (hb : Els p b) (hdb : dg b = t + 1) : q.length ≤ a.length ∧ r.length ≤ t := by
  have hd := h.deg
  have l1 := sh_len q
  have l2 := sh_len r
  rw [h.shQ] at l1
  rw [h.shR] at l2
  refine ⟨?_, by omega⟩
  cases hq : dg q with
  | zero => omega
  | succ s =>
    have h3 := dg_of_pc hp ha h.elQ hb hq hdb (by omega) h.pc
    have h4 := dg_le a
    omega
theorem wp_appendV {o : Oper} {a : Act} {w : World} {K : Act → World → Prop} {Q : Exit → Act → World → Prop} (s x : Operand) (t1 t2 : TypeId)
    (hop : o.op = .call { callee := .builtin .append, args := #[s, x], argTypes := #[t1, t2] }) (v sv : Value) (hs : a.eval s = v) (hx : a.eval x = sv) (R : Value → World → Prop)
    (hrun : ∃ v' W', (Builtin.append_ #[t1, t2] o.type #[v, sv]).run Tryz.prog w = .ok v' W' ∧ R v' W') (hK : ∀ v' W', R v' W' → K (a.put o.dst v') W') : Oper.wp Tryz.prog o a w K Q := by
  obtain ⟨v', W', hr, hR⟩ := hrun
  unfold Oper.wp
  simp [execOp, hop, resolve, invoke, builtin, hs, hx, hr, Result.andThen]
  exact hK v' W' hR
theorem elB_of7 {p : Int} {l : List Int} (hp : PrmI p) (hp2 : p ≤ 1073741824) (h : Els p l) : elB p l = true := by
  rw [elB_good fun k _ => els_getD (by have := hp.1; omega) h k]
  exact vB_true hp hp2
theorem iff_no_sol {p : Int} (hp : PrmI p) {k t n : Nat} {xs ys : List Int} {RR : List (List Int)} (hl : xs.length = n) (hl2 : ys.length = n) (hy : Els p ys) (h : RowsOk p k t n xs ys RR) (hno : ∀ x, ¬ Sol p (k + t + t) n (fun i c => (RR.getD i []).getD c 0) x) : ∀ g, ¬ OneB p k t xs ys g := fun g hg => by
  subst hl
  obtain ⟨v, hv⟩ := bw_exists hp hl2.symm hg hy h.bw
  exact hno v hv
end Go.Proofs.YtpgbjnenllfmlaaGreatDoor
