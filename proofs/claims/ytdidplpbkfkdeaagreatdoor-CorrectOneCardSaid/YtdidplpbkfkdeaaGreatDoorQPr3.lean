
/- The program's package correct: likely, having. -/
import Derived.Test.YtdidplpbkfkdeaaGreatDoorQPr2
namespace Go.Proofs.YtdidplpbkfkdeaaGreatDoor
open Go.RowKit
open Num
set_option linter.unusedVariables false

def lenV : Value → Nat
  | .slice _ n _ => n
  | _ => 0
/-- Where Euclid's way stands. -/
structure GaoW (w0 W : World) (g : Nat) (p : Int) (n k : Nat) (xs ys : List Int) (v9 v10 v11 v13 : Value) (B R U V : List Int) : Prop where
  gao : Gao p n k xs ys B R U V
  lb : B.length ≤ n + 1
  iB : Ints W v9 B
  iU : Ints W v10 U
  iR : Slc W v11 R
  iV : Slc W v13 V
  be : Below g w0 W
  sz : g ≤ W.heap.size
theorem GaoW.below {w0 W W' : World} {g : Nat} {p : Int} {n k : Nat} {xs ys : List Int} {v9 v10 v11 v13 : Value} {B R U V : List Int} (h : GaoW w0 W g p n k xs ys v9 v10 v11 v13 B R U V) (b : Below W.heap.size W W') : GaoW w0 W' g p n k xs ys v9 v10 v11 v13 B R U V :=
  ⟨h.gao, h.lb, h.iB.below (Nat.le_refl _) b, h.iU.below (Nat.le_refl _) b, h.iR.below (Nat.le_refl _) b, h.iV.below (Nat.le_refl _) b, h.be.trans (b.mono h.sz), Nat.le_trans h.sz b.size⟩
theorem Slc.shape {w : World} {v : Value} {l : List Int} (h : Slc w v l) : ∃ a c, v = .slice a l.length c ∧ l.length ≤ c ∧ c ≤ 9223372036854775807 := by
  obtain ⟨a, c, e, h1, h2, _⟩ := h
  exact ⟨a, c, e, h1, h2⟩
theorem gao_lenR {p : Int} {n k : Nat} {xs ys B R U V : List Int} (h : Gao p n k xs ys B R U V) : R.length = dg R := by
  have e := sh_len R
  rw [h.shR] at e
  exact e
theorem gao_bounds {p : Int} {n k : Nat} {xs ys B R U V : List Int} (h : Gao p n k xs ys B R U V) : dg B ≤ n + 1 ∧ R.length ≤ n ∧ V.length ≤ n + 2 ∧ U.length ≤ n + 2 := by
  have h1 := h.sum
  have h2 := h.rb
  have h3 := gao_lenR h
  have h4 := h.posV
  have h5 := h.uv
  omega
/-- What is likely: the polynomial that has all points but so few, if there is one. -/
def LikR (p : Int) (k : Nat) (xs ys f : List Int) : Prop := Els p f ∧ sh f = f ∧ f.length ≤ 1000 ∧ ∀ g t, k + 2 * t ≤ xs.length → OneB p k t xs ys g → f = g
set_option maxRecDepth 100000 in
set_option maxHeartbeats 16000000 in
theorem likely_any (p : Int) (k : Nat) (ax ay : Option Addr) (n cx cy : Nat) (xs ys : List Int) (w : World) (hp : PrmI p) (hp2 : p ≤ 1073741824) (hx : Els p xs) (hy : Els p ys) (hsx : Ints w (.slice ax n cx) xs) (hsy : Ints w (.slice ay n cy) ys) (hnx : xs.length = n) (hny : ys.length = n) (hn : n ≤ 100) (hk1 : 1 ≤ k) (hkn : k ≤ n) (hnd : xs.Nodup) :
    Calls Tryz.prog 61 #[.int .i64 p, .int .i64 (k : Int), .slice ax n cx, .slice ay n cy] w fun e w' => ∃ v f, e = .returned v ∧ Ints w' v f ∧ LikR p k xs ys f ∧ (∀ b, v.ownBlock = some b → w.heap.size ≤ b) ∧ Below w.heap.size w w' := by
  have hp0 := hp.1
  have hp1 : 1 ≤ p := by omega
  obtain ⟨g, hg⟩ : ∃ g, w.heap.size = g := ⟨_, rfl⟩
  have HGG := Lib.hid hg
  have HZE := Lib.hid (zeros_any p ax n cx xs w hp hp2 hx hsx hnx (by omega))
  have HTH := Lib.hid (fun W (hW : Below g w W) => through_slc p ax ay n cx cy xs ys W hp hp2 hx hy (hsx.below (Nat.le_of_eq hg) hW) (hsy.below (Nat.le_of_eq hg) hW) (Lib.hid hnx.symm) (Lib.hid hny.symm) (Lib.hid (plc_nodup (by omega) hnd)) (by omega) (by omega))
  have HPR := Lib.hid hp
  have HND := Lib.hid hnd
  have HNX := Lib.hid hnx
  have HNY := Lib.hid hny
  have HEX := Lib.hid hx
  rw [hg] at HZE ⊢
  clear hsx hsy hnx hny hnd hx hy hp
  go_enter Tryz.func61, Tryz.ntmps61
  go_wp2_with fail
  refine HZE.out.mono ?_
  rintro e w1 ⟨v1, Z, rfl, hi1, hz1, hb1⟩
  have HI1 := Lib.hid hi1
  have HZ1 := Lib.hid hz1
  have HB1 := Lib.hid hb1
  have HS1 : Hid (g ≤ w1.heap.size) := by show _ ≤ _; have := hb1.size; omega
  obtain ⟨q1, hq1⟩ : ∃ q, w1.heap.size = q := ⟨_, rfl⟩
  have hal : ∀ (W : World) (o : Obj), Below W.heap.size W (W.alloc o) := fun W o => (Below.refl _ _).alloc (Nat.le_refl _) o
  have HB2 : Hid (Below g w (w1.alloc (.cells #[] 3))) := hb1.trans ((hal w1 _).mono HS1.out)
  have HI2 : Hid (Ints (w1.alloc (.cells #[] 3)) v1 Z) := hi1.below (Nat.le_refl _) (hal w1 _)
  have HTW := Lib.hid (HTH.out _ HB2.out)
  clear hi1 hz1 hb1 HZE HTH hal
  go_wp2_with fail
  refine HTW.out.mono ?_
  rintro e w3 ⟨v3, R, rfl, hr3, ht3, _, hb3⟩
  have HB3 : Hid (Below g w w3) := HB2.out.trans (hb3.mono (by have := HS1.out; simp; omega))
  have HI3 := Lib.hid (HI2.out.below (Nat.le_refl _) hb3)
  have HR3 := Lib.hid hr3
  have HG0 : Hid (Gao p n k xs ys Z R [] [1]) := by
    have h := gao_start (k := k) HPR.out (by rw [HNX.out]; exact hkn) ht3 HZ1.out.els (by rw [HZ1.out.deg, HNX.out]) (fun j hj => HZ1.out.zer j (by rw [← HNX.out]; exact hj))
    rw [HNX.out] at h
    exact h
  have HS3 : Hid (g ≤ w3.heap.size) := by show _ ≤ _; have := HS1.out; have := hb3.size; simp at this; omega
  have hl1 : ∀ (W : World), Slc (W.alloc (.cells #[.int .i64 1] 3)) (.slice (some ⟨W.heap.size, 0, none⟩) 1 1) [1] := fun W => ⟨_, 1, rfl, by simp, by omega, ints_one W 1 3⟩
  have hal : ∀ (W : World) (o : Obj), Below W.heap.size W (W.alloc o) := fun W o => (Below.refl _ _).alloc (Nat.le_refl _) o
  obtain ⟨w4, hw4⟩ : ∃ w4, w3.alloc (.cells #[.int .i64 1] 3) = w4 := ⟨_, rfl⟩
  have HGW : Hid (∀ (a : Option Addr) (c : Nat), GaoW w w4 g p n k xs ys v1 (.slice a 0 c) v3 (.slice (some ⟨w3.heap.size, 0, none⟩) 1 1) Z R [] [1]) := by
    intro a c
    rw [← hw4]
    exact ⟨HG0.out, HZ1.out.len, HI3.out.below (Nat.le_refl _) (hal _ _), ints_zero _ _ _, HR3.out.below (Nat.le_refl _) (hal _ _), hl1 _, HB3.out.trans ((hal _ _).mono HS3.out), Nat.le_trans HS3.out (hal _ _).size⟩
  clear hr3 ht3 hb3 HTW HI2 hl1 hal HI3 HR3 HG0 HI1 HZ1
  go_wp2_with fail
  clear hw4
  go_loopw [9, 10, 11, 13, 14, 15, 16] (fun v9 v10 v11 v13 _ _ _ wr => ∃ B R U V, Hid (GaoW w wr g p n k xs ys v9 v10 v11 v13 B R U V)) (fun _ _ v11 _ _ _ _ _ => lenV v11)
  case atStart => exact ⟨Z, R, [], [1], HGW.out _ _⟩
  case round =>
    obtain ⟨B, R, U, V, HG⟩ := hrel
    have hbd := gao_bounds HG.out.gao
    have hlR := gao_lenR HG.out.gao
    have hBd := dg_le B
    obtain ⟨a9, c9, rfl⟩ := HG.out.iB.shape
    obtain ⟨a10, c10, rfl⟩ := HG.out.iU.shape
    obtain ⟨a11, c11, rfl, hc11, hc11b⟩ := HG.out.iR.shape
    obtain ⟨a13, c13, rfl, hc13, hc13b⟩ := HG.out.iV.shape
    have HDE := Lib.hid (degree_any _ R wr HG.out.iR.ints)
    obtain ⟨D, hD⟩ : ∃ D, dg R = D := ⟨_, rfl⟩
    obtain ⟨LB, hLB⟩ : ∃ n, B.length = n := ⟨_, rfl⟩
    obtain ⟨LU, hLU⟩ : ∃ n, U.length = n := ⟨_, rfl⟩
    obtain ⟨LV, hLV⟩ : ∃ n, V.length = n := ⟨_, rfl⟩
    have hLRD : R.length = D := by rw [hlR, hD]
    have hLB2 : LB ≤ n + 1 := by rw [← hLB]; exact HG.out.lb
    have hLU2 : LU ≤ n + 2 := by rw [← hLU]; exact hbd.2.2.2
    have hLV2 : LV ≤ n + 2 := by rw [← hLV]; exact hbd.2.2.1
    have hLV0 : 0 < LV := by rw [← hLV]; exact HG.out.gao.posV
    have hDn : D ≤ n := by rw [← hLRD]; exact hbd.2.1
    have HDD := Lib.hid hD
    have HLB := Lib.hid hLB
    have HLU := Lib.hid hLU
    have HLV := Lib.hid hLV
    have HLR := Lib.hid hLRD
    rw [hLRD] at hc11 HDE
    rw [hLV] at hc13
    rw [hD] at HDE
    rw [hLB, hLU, hLV, hLRD] at HG ⊢
    clear hbd hlR hBd hD hLB hLU hLV hLRD
    go_wp2_with fail
    refine HDE.out.mono ?_
    rintro e w5 ⟨rfl, hb5⟩
    have HG5 := Lib.hid (HG.out.below hb5)
    clear hb5 HDE HG
    by_cases hloop : n + k + 2 ≤ 2 * D
    · obtain ⟨t, ht⟩ : ∃ t, D = t + 1 := ⟨D - 1, by omega⟩
      have HLP : Hid (n + k + 2 ≤ 2 * dg R) := by show _ ≤ _; rw [HDD.out]; exact hloop
      have hcmp : (n : Int) + (k : Int) ≤ 2 * ((D : Int) - 1) := by omega
      have HDI := Lib.hid ((callsIn_wide (n := 6)).1 (divide_slc p a9 a11 LB D c9 c11 t B R w5 HPR.out hp2 HG5.out.gao.elB HG5.out.gao.elR HG5.out.iB HG5.out.iR.ints HLB.out.symm HLR.out.symm (by rw [HDD.out]; exact ht) (by omega) (by omega) hc11))
      have HTT := Lib.hid ht
      clear hloop ht
      go_wp2_with fail
      refine HDI.out.mono ?_
      rintro e w6 ⟨vq, vr, q, r, rfl, hiq, hir, hqb, hdv, hql, hb6⟩
      have HG6 := Lib.hid (HG5.out.below hb6)
      have HIQ := Lib.hid hiq
      have HIR := Lib.hid hir
      have HDV := Lib.hid hdv
      have HQL := Lib.hid hql
      clear hiq hir hqb hdv hql hb6 HDI HG5
      have HMU := Lib.hid (pmul_any w6 hp1 hp2 HDV.out.elQ HG6.out.gao.elV HIQ.out HG6.out.iV.ints (by have := HQL.out; have := HLV.out; omega))
      go_wp2_with fail
      refine HMU.out.mono ?_
      rintro e w7 ⟨vz, z, rfl, hiz, hpz, hb7⟩
      have HG7 := Lib.hid (HG6.out.below hb7)
      have HIR7 := Lib.hid (HIR.out.below (Nat.le_refl _) hb7)
      have hst := gao_step HPR.out HG7.out.gao HLP.out HDV.out hpz.els hpz.short hpz.pc
      obtain ⟨az, cz, rfl⟩ := hiz.shape
      obtain ⟨lz, hlz⟩ : ∃ n, z.length = n := ⟨_, rfl⟩
      have HMI := Lib.hid (minus_any p a10 az LU lz c10 cz U z w7 hp1 hp2 HG7.out.gao.elU hpz.els HG7.out.iU (by rw [← hlz]; exact hiz) HLU.out hlz (by rw [← HLU.out, ← hlz]; exact hst.2.1) (by have := hst.2.2; omega))
      have HST := Lib.hid hst.1
      have HZL := Lib.hid hlz
      have HZ2 : Hid (lz ≤ n + 2) := by show _ ≤ _; rw [← hlz]; exact hst.2.2
      rw [hlz]
      clear hiz hpz hb7 hst hlz HMU HG6 HIR HIQ
      go_wp2_with fail
      refine HMI.out.mono ?_
      rintro e w8 ⟨rfl, hr8, hb8⟩
      have HG8 := Lib.hid (HG7.out.below hb8)
      have hml : (minL p U z).length = lz := by rw [minL_len]; exact HZL.out
      have HI8 : Hid (Slc w8 (.slice (some ⟨w7.heap.size, 0, none⟩) lz lz) (minL p U z)) := ⟨_, lz, by rw [hml], by rw [hml]; exact Nat.le_refl _, by have := HZ2.out; omega, by have h := hr8.reads (cap := lz) (by rw [hml]; have := HZ2.out; omega); rw [hml] at h ⊢; exact h⟩
      have HIR8 := Lib.hid (HIR7.out.below (Nat.le_refl _) hb8)
      have HNEW : Hid (GaoW w w8 g p n k xs ys (.slice a11 D c11) (.slice a13 LV c13) vr (.slice (some ⟨w7.heap.size, 0, none⟩) lz lz) R r V (minL p U z)) :=
        ⟨HST.out, by rw [HLR.out]; omega, HG8.out.iR.ints, HG8.out.iV.ints, HIR8.out, HI8.out, HG8.out.be, HG8.out.sz⟩
      obtain ⟨ar, cr, hvr, _, _⟩ := HIR8.out.shape
      have HMS : Hid (lenV vr < D) := by
        show _ < _
        rw [hvr]
        show r.length < D
        rw [gao_lenR HST.out, ← HDD.out]
        exact HST.out.rb
      clear hr8 hb8 hml HG7 HG8 HIR7 HIR8 HI8 HMI HST hvr
      go_wp2_with fail
      go_roundw
      case rel => exact ⟨R, r, V, minL p U z, HNEW⟩
      case measure => exact HMS.out
    · obtain ⟨t, ht⟩ : ∃ t, LV = t + 1 := ⟨LV - 1, by omega⟩
      have HSP : Hid (2 * dg R < n + k + 2) := by show _ < _; rw [HDD.out]; omega
      have hcmp : ¬ (n : Int) + (k : Int) ≤ 2 * ((D : Int) - 1) := by omega
      have HDI := Lib.hid ((callsIn_wide (n := 6)).1 (divide_slc p a11 a13 D LV c11 c13 t R V w5 HPR.out hp2 HG5.out.gao.elR HG5.out.gao.elV HG5.out.iR.ints HG5.out.iV.ints HLR.out.symm HLV.out.symm (by rw [HG5.out.gao.lenV, HLV.out]; exact ht) (by omega) (by omega) hc13))
      clear hloop ht
      go_wp2_with fail
      refine HDI.out.mono ?_
      rintro e w6 ⟨vq, vr, q, r, rfl, hiq, hir, hqb, hdv, hql, hb6⟩
      have HIQ := Lib.hid hiq
      have HLK : Hid (LikR p k xs ys q) := by
        refine ⟨hdv.elQ, hdv.shQ, hql, fun f t2 ht2 hf => ?_⟩
        have hG := HG5.out.gao
        rw [← HNX.out] at hG
        exact gao_end HPR.out (by rw [HNX.out, HNY.out]) HND.out HEX.out hG (by rw [HNX.out]; exact HSP.out) hf ht2 hk1 hdv
      have HB6 : Hid (Below g w w6) := HG5.out.be.trans (hb6.mono HG5.out.sz)
      have HQB : Hid (∀ b, vq.ownBlock = some b → g ≤ b) := fun b hb => Nat.le_trans HG5.out.sz (hqb b hb)
      clear hiq hir hqb hdv hql hb6 HDI HG5
      go_wp2_with fail
      go_ret
      exact ⟨_, q, rfl, HIQ.out, HLK.out, HQB.out, HB6.out⟩
end Go.Proofs.YtdidplpbkfkdeaaGreatDoor
