
/- The program's package reshare: checkMove; lists of lists of numbers. -/
import Derived.Test.YtgenollnnfljkaaDoorZPr4
import Derived.Test.YtgenollnnfljkaaDoorZGot
namespace Go.Proofs.YtgenollnnfljkaaDoor
open Go.RowKit Go.Sort
open Num
set_option linter.unusedVariables false

/-- A list of lists of numbers that a slice reads as. -/
def ListsI (w : World) (s : Value) (RR : List (List Int)) : Prop := ∃ a c, s = .slice a RR.length c ∧ RR.length ≤ 1000 ∧ RR.length ≤ c ∧ c ≤ 9223372036854775807 ∧ (RR ≠ [] → ∃ b off, a = some ⟨b, off, none⟩ ∧
  ∀ i, i < RR.length → ∃ v, w.cell? ⟨b, off + i, none⟩ = some v ∧ Slc w v (RR.getD i []))
theorem ListsI.below {w w' : World} {s : Value} {RR : List (List Int)} (h : ListsI w s RR) {B : Nat} (hB : w.heap.size ≤ B) (b : Below B w w') : ListsI w' s RR := by
  obtain ⟨a, c, h1, h2, h3, h4, h5⟩ := h
  refine ⟨a, c, h1, h2, h3, h4, fun hne => ?_⟩
  obtain ⟨q, off, e, hc⟩ := h5 hne
  refine ⟨q, off, e, fun i hi => ?_⟩
  obtain ⟨v, k1, k2⟩ := hc i hi
  have hlt := cell_lt k1
  exact ⟨v, by rw [b.cell (p := ⟨q, off + i, none⟩) (by show q < B; simp only at hlt; omega)]; exact k1, k2.below hB b⟩
theorem ListsI.at {w : World} {a : Option Addr} {n c : Nat} {RR : List (List Int)} (h : ListsI w (.slice a n c) RR) {i : Nat} (hi : i < n) : ∃ b off v, a = some ⟨b, off, none⟩ ∧ w.cell? ⟨b, off + i, none⟩ = some v ∧ Slc w v (RR.getD i []) := by
  obtain ⟨a', c', h1, h2, h3, h4, h5⟩ := h
  simp only [Value.slice.injEq] at h1
  obtain ⟨rfl, hn, rfl⟩ := h1
  obtain ⟨q, off, e, hc⟩ := h5 (fun e => by subst e; simp at hn; omega)
  obtain ⟨v, k1, k2⟩ := hc i (by omega)
  exact ⟨q, off, v, e, k1, k2⟩
/-- The error ahead of all Splits. -/
noncomputable def chkE (p k n p2 k2 n2 : Int) (L : List Shr) (M : Nat) : Int := if combE p k n L = 0 then (if relB p k n p2 k2 n2 = true then (if (M : Int) < k then 5 else 0) else 1) else combE p k n L
set_option maxRecDepth 100000 in
set_option maxHeartbeats 8000000 in
theorem reshare_checkMove (p k n p2 k2 n2 : Int) (vl : Value) (L : List Shr) (ar : Option Addr) (M cr : Nat) (w : World) (hw : Wheel w) (hp : (Lit.int .i64 p).wf = true) (hp2 : (Lit.int .i64 p2).wf = true) (hs : Shares w vl L) (hM : M ≤ 1000) :
    Calls Tryd.prog 45 #[planV p k n, planV p2 k2 n2, vl, .slice ar M cr] w fun e w' => e = .returned (.int .i64 (chkE p k n p2 k2 n2 L M)) ∧ Below w.heap.size w w' := by
  unfold planV
  obtain ⟨al, cl, rfl, hL1, _⟩ := id hs
  obtain ⟨N, hN⟩ : ∃ N, L.length = N := ⟨_, rfl⟩
  obtain ⟨g, hgw⟩ : ∃ g, w.heap.size = g := ⟨_, rfl⟩
  obtain ⟨w1, hw1⟩ : ∃ w1, (w.alloc (Obj.cells #[Value.int IntKind.i64 p, Value.int IntKind.i64 k, Value.int IntKind.i64 n] 30)).alloc (Obj.cells #[Value.int IntKind.i64 p2, Value.int IntKind.i64 k2, Value.int IntKind.i64 n2] 30) = w1 := ⟨_, rfl⟩
  have HA0 : Hid (Pl2 w w1 g p k n p2 k2 n2) := by rw [← hw1, ← hgw]; exact pl2_new w hw _ _ _ _ _ _ _ _
  have HCM := Lib.hid (fun W (h : Pl2 w W g p k n p2 k2 n2) => share_combine p k n (.slice al L.length cl) L W h.wh hp (hs.below (Nat.le_of_eq hgw) h.be))
  have HRL := Lib.hid (fun W (h : Pl2 w W g p k n p2 k2 n2) => reshare_related p k n p2 k2 n2 W h.wh hp hp2)
  unfold planV at HCM HRL
  obtain ⟨E, hE⟩ : ∃ E, combE p k n L = E := ⟨_, rfl⟩
  obtain ⟨br, hbr⟩ : ∃ b, relB p k n p2 k2 n2 = b := ⟨_, rfl⟩
  have HE : Hid (chkE p k n p2 k2 n2 L M = if E = 0 then (if br = true then (if (M : Int) < k then 5 else 0) else 1) else E) := by show _ = _; unfold chkE; rw [hE, hbr]
  rw [hE] at HCM
  rw [hbr] at HRL
  rw [HE.out, hgw]
  rw [hN] at HCM ⊢
  clear hw hp hp2 hs hN hE hbr hL1 HE
  obtain ⟨p0, p1, p2', q0, q1, q2⟩ := HA0.out.cells
  by_cases hE0 : E = 0
  · subst hE0
    rw [if_pos rfl]
    cases br with
    | false =>
      rw [if_neg (by simp)]
      go_enter Tryd.func45, Tryd.ntmps45
      go_wp2_with fail
      refine (HCM.out w1 HA0.out).mono ?_
      rintro e W1 ⟨v, rfl, _, hb⟩
      have HA1 := Lib.hid (HA0.out.below hb)
      clear hb p0 p1 p2' q0 q1 q2
      obtain ⟨p0, p1, p2', q0, q1, q2⟩ := HA1.out.cells
      go_wp2_with fail
      refine (HRL.out W1 HA1.out).mono ?_
      rintro e W2 ⟨rfl, hb⟩
      have HA2 := Lib.hid (HA1.out.below hb)
      clear hb
      go_wp2
      go_ret
      exact ⟨rfl, HA2.out.be⟩
    | true =>
      rw [if_pos rfl]
      by_cases hMk : (M : Int) < k
      · rw [if_pos hMk]
        go_enter Tryd.func45, Tryd.ntmps45
        go_wp2_with fail
        refine (HCM.out w1 HA0.out).mono ?_
        rintro e W1 ⟨v, rfl, _, hb⟩
        have HA1 := Lib.hid (HA0.out.below hb)
        clear hb p0 p1 p2' q0 q1 q2
        obtain ⟨p0, p1, p2', q0, q1, q2⟩ := HA1.out.cells
        go_wp2_with fail
        refine (HRL.out W1 HA1.out).mono ?_
        rintro e W2 ⟨rfl, hb⟩
        have HA2 := Lib.hid (HA1.out.below hb)
        clear hb p0 p1 p2' q0 q1 q2
        obtain ⟨p0, p1, p2', q0, q1, q2⟩ := HA2.out.cells
        go_wp2
        go_ret
        exact ⟨rfl, HA2.out.be⟩
      · rw [if_neg hMk]
        go_enter Tryd.func45, Tryd.ntmps45
        go_wp2_with fail
        refine (HCM.out w1 HA0.out).mono ?_
        rintro e W1 ⟨v, rfl, _, hb⟩
        have HA1 := Lib.hid (HA0.out.below hb)
        clear hb p0 p1 p2' q0 q1 q2
        obtain ⟨p0, p1, p2', q0, q1, q2⟩ := HA1.out.cells
        go_wp2_with fail
        refine (HRL.out W1 HA1.out).mono ?_
        rintro e W2 ⟨rfl, hb⟩
        have HA2 := Lib.hid (HA1.out.below hb)
        clear hb p0 p1 p2' q0 q1 q2
        obtain ⟨p0, p1, p2', q0, q1, q2⟩ := HA2.out.cells
        go_wp2
        go_ret
        exact ⟨rfl, HA2.out.be⟩
  · rw [if_neg hE0]
    have n1 : (E != 0) = true := by simpa using hE0
    go_enter Tryd.func45, Tryd.ntmps45
    go_wp2_with fail
    refine (HCM.out w1 HA0.out).mono ?_
    rintro e W1 ⟨v, rfl, _, hb⟩
    have HA1 := Lib.hid (HA0.out.below hb)
    clear hb p0 p1 p2' q0 q1 q2
    go_wp2
    go_ret
    exact ⟨rfl, HA1.out.be⟩
end Go.Proofs.YtgenollnnfljkaaDoor
