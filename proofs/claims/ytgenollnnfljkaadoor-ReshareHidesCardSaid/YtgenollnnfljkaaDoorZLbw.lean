
/- More of what layer 9's statements call: Explain, Split, lists that a statement reads. -/
import Derived.Test.YtgenollnnfljkaaDoorZLaw
import Derived.Test.YtgenollnnfljkaaDoorHXd
namespace Go.Proofs.YtgenollnnfljkaaDoor
open Go.RowKit Go.Sort
open Num
set_option linter.unusedVariables false

theorem rowL_holdB {p : Int} {K N : Nat} {S : List Int} {f : Nat → List Int} {V : Int → List Int} (q : Pf p K N) (h : SecV p (K + 1) S f V) (hm : S.length ≤ 2048) {j : Nat} (hj : j < N) : stB p (N : Int) (((j + 1 : Nat) : Int), V ((j + 1 : Nat) : Int)) = true := by
  have hg := (goodB_parts (goodB_of_gd q.prm q.p2 (h.gd (n := N)) hm) j (by rw [rowL_len]; exact hj)).1
  rw [rowL_get hj] at hg
  exact hg
/-- A share that stands is split. -/
theorem split_ok {p : Int} {K N K2 N2 : Nat} {S : List Int} {f : Nat → List Int} {V : Int → List Int} (q : Pf p K N) (q2 : Pf p K2 N2) (h : SecV p (K + 1) S f V) (hm : S.length ≤ 2048) {j : Nat} (hj : j < N) {r : List Int} (hr : Els p r) (hl : r.length = S.length * K2) :
    splitE p ((K : Int) + 1) (N : Int) p ((K2 : Int) + 1) (N2 : Int) (((j + 1 : Nat) : Int), V ((j + 1 : Nat) : Int)) r = 0 ∧ splitR p ((K : Int) + 1) (N : Int) p ((K2 : Int) + 1) (N2 : Int) (((j + 1 : Nat) : Int), V ((j + 1 : Nat) : Int)) r = rowL N2 (dealV p K2 (V ((j + 1 : Nat) : Int)) r) := by
  have hs := splitE_ok (p := p) (k := (K : Int) + 1) (n := (N : Int)) (p2 := p) (k2 := (K2 : Int) + 1) (n2 := (N2 : Int)) (r := r) ⟨relB_of q.pl q2.pl, rowL_holdB q h hm hj⟩
  have hd := deal_ok_of (K := K2) (N := N2) q2.pl (by omega) rfl (h.els ((j + 1 : Nat) : Int)) hr (by rw [h.siz]; exact hl)
  exact ⟨hs.1.trans hd.1, hs.2.trans (hd.2.trans (dealF_row _ _ _ _ _))⟩
/-- Fewer shares than Need are explained by any secret. -/
theorem explain_ok {p : Int} {K N : Nat} {S S2 : List Int} {f : Nat → List Int} {V : Int → List Int} (q : Pf p K N) (h : SecV p (K + 1) S f V) (hm : S.length ≤ 2048) (hl : S2.length = S.length) (he : Els p S2) {t : Nat} (ht : t ≤ K) :
    goodB p (N : Int) ((rowL N V).take t) = true ∧ (0 < ((rowL N V).take t).length → (((rowL N V).take t).getD 0 (0, [])).2.length = S2.length) ∧ elB p S2 = true ∧ ExpIn p N (K + 1) S2.length ((rowL N V).take t) S2 ∧ fitB p ((K : Int) + 1) (N : Int) (expL p (K + 1) N S2.length ((rowL N V).take t) S2) = true := by
  have hg := (h.gd (n := N)).take t
  have htl : ((rowL N V).take t).length = t := by rw [List.length_take, rowL_len]; have := q.kn; omega
  have hin : ExpIn p N (K + 1) S2.length ((rowL N V).take t) S2 := ⟨q.prm, by rw [hl]; exact hg, rfl, he, by rw [htl]; omega, q.kn.1, by have := q.kn; omega, q.np⟩
  refine ⟨goodB_of_gd q.prm q.p2 hg hm, fun h0 => ?_, elB_of q.prm q.p2 he, hin, ?_⟩
  · rw [hl]
    refine hg.len _ ?_
    rw [List.getD_eq_getElem?_getD, List.getElem?_eq_getElem h0]
    exact List.getElem_mem _
  · exact fitB_on (K := K + 1) (m := S2.length) q.pl (by push_cast; rfl) rfl (expL_gd q.p1 (K + 1) N S2.length _ S2) (by omega) hin.on
theorem SharesN.take9 {w : World} {base : Nat} {a : Option Addr} {n c : Nat} {L : List Shr} (h : SharesN w base (.slice a n c) L) (k c' : Nat) (hk : k ≤ n) (hc : k ≤ c') (hc2 : c' ≤ 9223372036854775807) : SharesN w base (.slice a k c') (L.take k) := by
  obtain ⟨a', c2, hv, h1, h2, h3, hx⟩ := h
  simp only [Value.slice.injEq] at hv
  obtain ⟨rfl, rfl, rfl⟩ := hv
  have hl : (L.take k).length = k := by rw [List.length_take]; omega
  refine ⟨a, c', by rw [hl], by omega, by omega, hc2, fun hne => ?_⟩
  have h0 : 0 < k := by rw [← hl]; exact List.length_pos_iff.2 hne
  obtain ⟨b, off, e, hb, hcell⟩ := hx (fun e => by subst e; simp at hk; omega)
  refine ⟨b, off, e, hb, fun i hi => ?_⟩
  rw [hl] at hi
  have e3 : (L.take k).getD i (0, []) = L.getD i (0, []) := by simp [List.getD, hi]
  rw [e3]
  exact hcell i (by omega)
section
variable {w0 W W' : World} {b gp gq : Nat} {s : Value} {l : List Int} {p : Int} {K N K2 N2 : Nat} {G : List (Value × List Int)} {M : List (Value × List Shr)}
theorem Mw.explain (h : Mw w0 W b gp gq s l p K N K2 N2 G M) (q : Pf p K2 N2) {z vs : Value} {S S2 : List Int} {f : Nat → List Int} {V : Int → List Int} {t : Nat} (hsv : SecV p (K2 + 1) S f V) (hm : S.length ≤ 1000) (hl : S2.length = S.length) (he : Els p S2) (ht : t ≤ K2) (hz : Shares W z ((rowL N2 V).take t)) (hg : (vs, S2) ∈ G) :
    Calls Tryd.prog 31 #[.agg #[.int .i64 p, .int .i64 ((K2 : Int) + 1), .int .i64 (N2 : Int)], z, vs] W fun e w' => ∃ v', e = .returned (.tuple #[v', .int .i64 0]) ∧ Below W.heap.size W w' ∧ Mw w0 w' b gp gq s l p K N K2 N2 G ((v', expL p (K2 + 1) N2 S2.length ((rowL N2 V).take t) S2) :: M) := by
  obtain ⟨e1, e2, e3, e4, e5⟩ := explain_ok q hsv (by omega) hl he ht
  have hpl := q.pl
  rw [show (K2 : Int) + 1 = ((K2 + 1 : Nat) : Int) by push_cast; rfl] at hpl ⊢
  exact (ref6_explain_ok p (K2 + 1) N2 z vs _ S2 W q.wf q.p2 hz ((h.lw.getG hg).reads (by omega)) hpl e1 e2 e3 e4 (by omega)).mono fun e w' ⟨v', h1, h2, h3⟩ => ⟨v', h1, h3, (h.below h3).addM h2 h.lw.sz⟩
theorem Mw.split (h : Mw w0 W b gp gq s l p K N K2 N2 G M) (hwf : (Lit.int .i64 p).wf = true) (k n k2 : Int) (n2 : Nat) (hh : Int) {v vr : Value} {x r : List Int} {U : Int → List Int} (hv : Ints W v x) (hr : Slc W vr r) (hl : x.length ≤ 2048) (hrb : r.length ≤ 1000000) (hx : splitE p k n p k2 (n2 : Int) (hh, x) r = 0 ∧ splitR p k n p k2 (n2 : Int) (hh, x) r = rowL n2 U) :
    Calls Tryd.prog 19 #[.agg #[.int .i64 p, .int .i64 k, .int .i64 n], .agg #[.int .i64 p, .int .i64 k2, .int .i64 (n2 : Int)], .agg #[.int .i64 hh, v], vr] W fun e w' => ∃ v', e = .returned (.tuple #[v', .int .i64 0]) ∧ Below W.heap.size W w' ∧ Mw w0 w' b gp gq s l p K N K2 N2 G ((v', rowL n2 U) :: M) := by
  have hs := reshare_split p k n p k2 (n2 : Int) hh v vr x r W h.lw.st.wh hwf hwf hv hr hl hrb
  rw [hx.1, hx.2] at hs
  exact hs.mono fun e w' ⟨v', h1, h2, h3⟩ => ⟨v', h1, h3, (h.below h3).addM h2 h.lw.sz⟩
theorem Mw.sameI (h : Mw w0 W b gp gq s l p K N K2 N2 G M) {va vb : Value} {A : List Int} (ha : (va, A) ∈ G) (hb : Ints W vb A) (hl : A.length ≤ 1000) :
    Calls Tryd.prog 29 #[va, vb] W fun e w' => e = .returned (.bool true) ∧ W = w' :=
  same_yes va vb A W ((h.lw.getG ha).reads (by omega)) hb
end
end Go.Proofs.YtgenollnnfljkaaDoor
