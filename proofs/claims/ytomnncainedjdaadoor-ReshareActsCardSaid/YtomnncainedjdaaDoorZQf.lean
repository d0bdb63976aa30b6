
/- The document's answer for layer 9: Move. -/
import Derived.Test.YtomnncainedjdaaDoorZQd
import Derived.Test.YtomnncainedjdaaDoorZPr6
import Derived.Deep.RegionHeld3
import Derived.Laws.EntriesVeiled
/-! The document's answer for layer 9: Move. -/
namespace Go.Proofs.YtomnncainedjdaaDoor
open Go.RowKit Go.Sort
open Num
set_option linter.unusedVariables false
set_option linter.unusedSimpArgs false

set_option maxRecDepth 100000 in
set_option maxHeartbeats 16000000 in
theorem ref9_move_go (p k n k2 n2 : Int) (K N K2 N2 : Nat) (vl vr : Value) (L : List Shr) (RR : List (List Int)) (w : World) (hw : Wheel w) (hp : (Lit.int .i64 p).wf = true) (hs : Shares w vl L) (hr : ListsI w vr RR)
    (hpb : planB p k n = true) (hpb2 : planB p k2 n2 = true) (hk : k = (K : Int)) (hn : n = (N : Int)) (hk2 : k2 = (K2 : Int) + 1) (hn2 : n2 = (N2 : Int)) (hgd : goodB p n L = true) (hKL : K ≤ L.length) (hKR : K ≤ RR.length) (hcmb : combE p k n L = 0) :
    Calls Tryd.prog 26 #[planV p k n, planV p k2 n2, vl, vr] w fun e w' => ∃ v', e = .returned (.tuple #[v', .int .i64 (splitsE p k n p k2 n2 L RR K)]) ∧ GathS w' w.heap.size v' (if splitsE p k n p k2 n2 L RR K = 0 then rowL N2 (movV p K2 L RR K) else []) ∧ Below w.heap.size w w' := by
  subst hk hn2
  unfold planV
  obtain ⟨al, cl, rfl, hL1, hLc, hcl, _⟩ := id hs
  obtain ⟨ar, cr, rfl, hR1, hRc, hcr, _⟩ := id hr
  obtain ⟨A, hA⟩ : ∃ A, L.length = A := ⟨_, rfl⟩
  obtain ⟨M, hM⟩ : ∃ M, RR.length = M := ⟨_, rfl⟩
  obtain ⟨g, hgw⟩ : ∃ g, w.heap.size = g := ⟨_, rfl⟩
  obtain ⟨w1, hw1⟩ : ∃ w1, (w.alloc (Obj.cells #[Value.int IntKind.i64 p, Value.int IntKind.i64 (K : Int), Value.int IntKind.i64 n] 30)).alloc (Obj.cells #[Value.int IntKind.i64 p, Value.int IntKind.i64 k2, Value.int IntKind.i64 (N2 : Int)] 30) = w1 := ⟨_, rfl⟩
  obtain ⟨hprm, hp2, hk1, hkn, hn16, hnp⟩ := planB_parts hpb
  obtain ⟨_, _, _, _, hn216, _⟩ := planB_parts hpb2
  have hK1 : 1 ≤ K := by omega
  have hK16 : K ≤ 16 := by omega
  have hN216 : N2 ≤ 16 := by omega
  have HA0 : Hid (Pl2 w w1 g p (K : Int) n p k2 (N2 : Int)) := by rw [← hw1, ← hgw]; exact pl2_new w hw _ _ _ _ _ _ _ _
  have HCM := Lib.hid (fun W (h : Pl2 w W g p (K : Int) n p k2 (N2 : Int)) => ref6_combine_any p (K : Int) n (.slice al L.length cl) L W hp (hs.below (Nat.le_of_eq hgw) h.be))
  have HPL := Lib.hid (fun W (h : Pl2 w W g p (K : Int) n p k2 (N2 : Int)) => ref9_plans p (K : Int) n p k2 (N2 : Int) W h.wh hp hp)
  unfold planV at HCM HPL
  rw [hcmb] at HCM
  rw [relB_of hpb hpb2] at HPL
  have HSW : Hid (∀ W, Below g w W → Shares W (.slice al A cl) L) := fun W b => by rw [← hA]; exact hs.below (Nat.le_of_eq hgw) b
  have HRW : Hid (∀ W, Below g w W → ListsI W (.slice ar M cr) RR) := fun W b => by rw [← hM]; exact hr.below (Nat.le_of_eq hgw) b
  obtain ⟨m, hm⟩ : ∃ m, (L.getD 0 (0, [])).2.length = m := ⟨_, rfl⟩
  have hG := goodB_gd hn hgd hm
  have HMB : Hid (m ≤ 2048) := by have := goodB_big hgd (by omega); rwa [hm] at this
  have HIN : Hid (∀ i, i < K → (L.getD i (0, [])).2.length = m ∧ stB p n (L.getD i (0, [])) = true) := fun i hi => ⟨by rw [getS_at (by omega)]; exact hG.len _ (List.getElem_mem _), (goodB_parts hgd i (by omega)).1⟩
  have HSP := Lib.hid (fun (i : Nat) (hi : i < K) W (h : Pl2 w W g p (K : Int) n p k2 (N2 : Int)) (x : Int) (v v2 : Value) (hx : (L.getD i (0, [])).1 = x) (hv : Ints W v (L.getD i (0, [])).2) (hv2 : Slc W v2 (RR.getD i [])) =>
    ref9_split p (K : Int) n p k2 (N2 : Int) x v v2 (L.getD i (0, [])).2 (RR.getD i []) W h.wh hp hp hv hv2 (by rw [(HIN.out i hi).1]; exact HMB.out))
  unfold planV shareV at HSP
  have HSE : Hid (∀ i, splitsE p (K : Int) n p k2 (N2 : Int) L RR i = 0 → splitsE p (K : Int) n p k2 (N2 : Int) L RR (i + 1) = splitE p (K : Int) n p k2 (N2 : Int) (L.getD i (0, [])) (RR.getD i [])) := fun i h => by
    show (if splitsE p (K : Int) n p k2 (N2 : Int) L RR i = 0 then _ else _) = _
    rw [if_pos h]
  have HSX : Hid (∀ i, i ≤ K → splitsE p (K : Int) n p k2 (N2 : Int) L RR i ≠ 0 → splitsE p (K : Int) n p k2 (N2 : Int) L RR K = splitsE p (K : Int) n p k2 (N2 : Int) L RR i) := fun i hi h => by
    have := splitsE_stop h (K - i)
    rwa [show i + (K - i) = K by omega] at this
  have HSR : Hid (∀ i, splitE p (K : Int) n p k2 (N2 : Int) (L.getD i (0, [])) (RR.getD i []) = 0 → splitR p (K : Int) n p k2 (N2 : Int) (L.getD i (0, [])) (RR.getD i []) = rowL N2 (dealV p K2 (L.getD i (0, [])).2 (RR.getD i []))) := fun i h => by
    unfold splitR
    rw [if_pos h, hk2, Int.add_sub_cancel, Int.toNat_natCast, Int.toNat_natCast]
    exact dealF_row _ _ _ _ _
  have HMJ : Hid (∀ t, t < N2 → joinE p (K : Int) n p k2 (N2 : Int) (fstL L K) (partsTo p K2 L RR ((t + 1 : Nat) : Int) K) = 0 ∧ joinR p (K : Int) n p k2 (N2 : Int) (fstL L K) (partsTo p K2 L RR ((t + 1 : Nat) : Int) K) = (((t + 1 : Nat) : Int), movV p K2 L RR K ((t + 1 : Nat) : Int))) := fun t ht => mov_join hpb hpb2 rfl hn rfl hG hKL ht
  have HPW := Lib.hid hp
  have HAL := Lib.hid hA
  have HKA : Hid (K ≤ A) := by show _ ≤ _; omega
  rw [hM] at hR1 hRc hKR ⊢
  rw [hA] at HCM hL1 hLc hKL ⊢
  obtain ⟨EK, hEK0⟩ : ∃ EK, splitsE p (K : Int) n p k2 (N2 : Int) L RR K = EK := ⟨_, rfl⟩
  obtain ⟨RK, hRK0⟩ : ∃ RK, (if splitsE p (K : Int) n p k2 (N2 : Int) L RR K = 0 then rowL N2 (movV p K2 L RR K) else []) = RK := ⟨_, rfl⟩
  rw [hRK0, hEK0]
  have HEK0 := Lib.hid hEK0
  have HRK0 := Lib.hid hRK0
  rw [hgw]
  clear hEK0 hRK0 hw hp hs hr hpb hpb2 hn hk2 hgd hcmb hA hM hprm hp2 hkn hn16 hnp hn216 hm hG
  obtain ⟨p0, p1, p2', q0, q1, q2⟩ := HA0.out.cells
  have hKA := HKA.out
  obtain ⟨b, o, hale⟩ : ∃ b o, al = some ⟨b, o, none⟩ := by
    obtain ⟨b, o, _, h, _⟩ := (HSW.out w1 HA0.out.be).at (i := 0) (by omega)
    exact ⟨b, o, h⟩
  subst hale
  have hKc : K ≤ cl := by omega
  have hKcI : (K : Int) ≤ (cl : Int) := by omega
  have hKM : ¬ (M : Int) < (K : Int) := by omega
  have hKMn : ¬ M < K := by omega
  have hKMnd : decide (M < K) = false := decide_eq_false hKMn
  have hKMd : decide ((M : Int) < (K : Int)) = false := decide_eq_false hKM
  go_enter Tryd.func26, Tryd.ntmps26
  go_wp2_with fail
  refine (HCM.out w1 HA0.out).mono ?_
  rintro e W1 ⟨_, rfl, _, hb⟩
  have HA1 := Lib.hid (HA0.out.below hb)
  clear hb p0 p1 p2' q0 q1 q2 hw1
  obtain ⟨p0, p1, p2', q0, q1, q2⟩ := HA1.out.cells
  go_wp2_with fail
  refine (HPL.out W1 HA1.out).mono ?_
  rintro e W2 ⟨rfl, hb⟩
  have HA2 := Lib.hid (HA1.out.below hb)
  clear hb p0 p1 p2' q0 q1 q2
  obtain ⟨p0, p1, p2', q0, q1, q2⟩ := HA2.out.cells
  obtain ⟨B, hB⟩ : ∃ B, W2.heap.size = B := ⟨_, rfl⟩
  have HM0 : Hid (MdW w W2 g B p (K : Int) n k2 (N2 : Int) (.slice none 0 0) (fstL L 0) (.slice none 0 0) (givenL p K2 N2 L RR 0)) := by rw [← hB]; exact mdW_new HA2.out
  go_wp2_with fail
  clear p0 p1 p2' q0 q1 q2 HA0 HA1
  go_loopw [12, 13, 14, 15, 16, 17, 50] (fun vF vG _ _ _ _ c wr => ∃ i : Nat, i ≤ K ∧ c = .int .i64 i ∧ Hid (splitsE p (K : Int) n p k2 (N2 : Int) L RR i = 0) ∧ Hid (MdW w wr g B p (K : Int) n k2 (N2 : Int) vF (fstL L i) vG (givenL p K2 N2 L RR i))) (fun _ _ _ _ _ _ c _ => K - (intOf c).toNat)
  case atStart => exact ⟨0, Nat.zero_le _, rfl, rfl, HM0⟩
  case round =>
    obtain ⟨i, hi, rfl, HZE, HM⟩ := hrel
    clear HM0
    have HBE := Lib.hid HM.out.pl.be
    by_cases hlt : i < K
    · obtain ⟨b', o', v1, he, c0, c1, hi1⟩ := (HSW.out wr HBE.out).at (show i < A by omega)
      simp only [Option.some.injEq, Addr.mk.injEq, and_true] at he
      obtain ⟨rfl, rfl⟩ := he
      obtain ⟨x, hx⟩ : ∃ x, (L.getD i (0, [])).1 = x := ⟨_, rfl⟩
      rw [hx] at c0
      obtain ⟨a1, d1, hv1⟩ := hi1.shape
      rw [(HIN.out i hlt).1] at hv1
      subst hv1
      obtain ⟨br, or', v2, hre, cr0, hs2⟩ := (HRW.out wr HBE.out).at (show i < M by omega)
      subst hre
      obtain ⟨gs, hgs⟩ : ∃ gs, wr.heap.size = gs := ⟨_, rfl⟩
      have hal : Below wr.heap.size wr (wr.alloc (.cells #[.int .i64 x, .slice a1 m d1] 38)) := (Below.refl _ _).alloc (Nat.le_refl _) _
      have hsa := shAt_new wr x (.slice a1 m d1) 38
      have hM5 := HM.out.below hal
      have cr5 := below_cell hal cr0
      have hi5 := hi1.below (Nat.le_refl _) hal
      have hs5 := hs2.below (Nat.le_refl _) hal
      rw [hgs] at hsa
      have hiK : (i : Int) < (K : Int) := by omega
      have hiM : (i : Int) < (M : Int) := by omega
      have hiM2 : i < M := by omega
      go_upto_region 13 with fail
      generalize wr.alloc (.cells #[.int .i64 x, .slice a1 m d1] 38) = W5 at *
      have HSQ := Lib.hid (HSP.out i hlt W5.drew (hM5.pl.below (Below.refl _ _).drew) x (.slice a1 m d1) v2 hx (hi5.below (Nat.le_refl _) (Below.refl _ _).drew) (hs5.below (Nat.le_refl _) (Below.refl _ _).drew))
      obtain ⟨E, hE⟩ : ∃ E, splitE p (K : Int) n p k2 (N2 : Int) (L.getD i (0, [])) (RR.getD i []) = E := ⟨_, rfl⟩
      have hxl : (x, (L.getD i (0, [])).2) = L.getD i (0, []) := by rw [← hx]
      obtain ⟨SR, hSR⟩ : ∃ SR, splitR p (K : Int) n p k2 (N2 : Int) (L.getD i (0, [])) (RR.getD i []) = SR := ⟨_, rfl⟩
      rw [hxl, hE, hSR] at HSQ
      have HSRR := Lib.hid hSR
      clear hSR
      have HE := Lib.hid hE
      have HX := Lib.hid hx
      have HM5 := Lib.hid hM5
      have HSA := Lib.hid hsa
      obtain ⟨p0, p1, p2', q0, q1, q2⟩ := hM5.pl.cells
      have s0 := hsa.c0
      have s1 := hsa.c1
      have HKP : Hid (∀ W, Below W5.heap.size W5 W → W.cell? ⟨g, 0, none⟩ = some (.int .i64 p) ∧ W.cell? ⟨g, 1, none⟩ = some (.int .i64 (K : Int)) ∧ W.cell? ⟨g, 2, none⟩ = some (.int .i64 n) ∧ W.cell? ⟨g + 1, 0, none⟩ = some (.int .i64 p) ∧ W.cell? ⟨g + 1, 1, none⟩ = some (.int .i64 k2) ∧ W.cell? ⟨g + 1, 2, none⟩ = some (.int .i64 (N2 : Int)) ∧ W.cell? ⟨gs, 0, none⟩ = some (.int .i64 x) ∧ W.cell? ⟨gs, 1, none⟩ = some (.slice a1 m d1) ∧ W.cell? ⟨br, or' + i, none⟩ = some v2) :=
        fun W hb => ⟨below_cell hb p0, below_cell hb p1, below_cell hb p2', below_cell hb q0, below_cell hb q1, below_cell hb q2, below_cell hb s0, below_cell hb s1, below_cell hb cr5⟩
      have HBD : Hid (Below W5.heap.size W5 W5.drew) := (Below.refl _ _).drew
      have HSK := HKP.out _ HBD.out
      have HLT : Hid (i < K) := hlt
      clear hi1 hi5 hs2 hs5 hal hsa hM5 hx hxl hE hgs p0 p1 p2' q0 q1 q2 s0 s1 cr0 cr5 c0 c1 HM
      go_region_held3 (fun W' => W'.cell? ⟨g, 0, none⟩ = some (.int .i64 p) ∧ W'.cell? ⟨g, 1, none⟩ = some (.int .i64 (K : Int)) ∧ W'.cell? ⟨g, 2, none⟩ = some (.int .i64 n) ∧ W'.cell? ⟨g + 1, 0, none⟩ = some (.int .i64 p) ∧ W'.cell? ⟨g + 1, 1, none⟩ = some (.int .i64 k2) ∧ W'.cell? ⟨g + 1, 2, none⟩ = some (.int .i64 (N2 : Int)) ∧ W'.cell? ⟨gs, 0, none⟩ = some (.int .i64 x) ∧ W'.cell? ⟨gs, 1, none⟩ = some (.slice a1 m d1) ∧ W'.cell? ⟨br, or' + i, none⟩ = some v2) (first | go_keep | exact HSK)
        (first
          | (go_at_call 20; (with_reducible refine HSQ.out.mono ?_); rintro e w6 ⟨v6, rfl, hsn, hb⟩; have HB6 := Lib.hid (HBD.out.trans hb); have HSK := HKP.out w6 HB6.out; have HS6 := Lib.hid hsn; obtain ⟨a6, c6, rfl, _⟩ := hsn.shape; clear hb hsn))
      by_cases hE0 : E = 0
      · subst hE0
        have hZN : splitsE p (K : Int) n p k2 (N2 : Int) L RR (i + 1) = 0 := (HSE.out i HZE.out).trans HE.out
        have HZN := Lib.hid hZN
        have hs6 := HS6.out
        have hRl : rowL N2 (dealV p K2 (L.getD i (0, [])).2 (RR.getD i [])) = SR := by rw [← HSRR.out]; exact (HSR.out i HE.out).symm
        have HRL := Lib.hid hRl
        have hRll : SR.length = N2 := by rw [← hRl, rowL_len]
        rw [hRll] at hs6 ⊢
        have hp6 := hs6.toP (P := fun q => B ≤ q ∧ u13.ownBlock ≠ some q ∧ u12.ownBlock ≠ some q) (by rw [hRll]; omega) fun q h1 h2 => ⟨Nat.le_trans HM5.out.sz h1, fun e => by have h3 := (HM5.out.gl.lt q e).2; have h4 : W5.heap.size ≤ q := h1; omega, fun e => by have h3 := (gath_lt HM5.out.fr q e).2; have h4 : W5.heap.size ≤ q := h1; omega⟩
        have HM6 := Lib.hid (HM5.out.below HB6.out)
        have hal : Below w6.heap.size w6 (w6.alloc (.cells #[.int .i64 x] 3)) := (Below.refl _ _).alloc (Nat.le_refl _) _
        have HMb := Lib.hid (HM6.out.below hal)
        have HPb := Lib.hid (hp6.kept (P' := fun q => B ≤ q ∧ u13.ownBlock ≠ some q ∧ u12.ownBlock ≠ some q) (row := none) (grownBy_of_below hal (Nat.le_refl _)) fun q hq _ => ⟨fun e => (nomatch e), hq⟩)
        have HCb := Lib.hid (cell_alloc_new w6 (.int .i64 x) 3 _ rfl)
        have hlF := fstL_len (L := L) (i := i) (by rw [HAL.out]; omega)
        have HZS : Hid ((fstL L i).length < 17592186044416) := by show _ < _; rw [hlF]; omega
        have s0 := HSK.2.2.2.2.2.2.1
        clear hs6 hRl hp6 hal HSK HS6 HM5 HM6 HB6 HKP HBD HSQ hZN hlF HSA hRll
        go_wp2_with (at_builtin; refine append_oneD _ rfl _ _ rfl B u12 _ x rfl HMb.out.fr ⟨w6.heap.size, 0, none⟩ rfl HCb.out HZS.out HMb.out.sz ?_)
        intro vF w22 hg22 hgr hvb
        have hm22 := HMb.out.from hg22 hgr (by simpa using hvb)
        have hfs := fstL_succ (L := L) (t := i) (by rw [HAL.out]; omega)
        rw [HX.out] at hfs
        rw [← hfs] at hm22
        have hp22 := HPb.out.kept (P' := fun q => B ≤ q ∧ u13.ownBlock ≠ some q ∧ vF.ownBlock ≠ some q) hgr fun q hq hl => ⟨hq.2.2, hq.1, hq.2.1, fun e => by
          rcases hvb with h | h
          · rw [h] at e; exact hq.2.2 e
          · rw [h] at e; have := Option.some.inj e; simp at hl; omega⟩
        have hal : Below w22.heap.size w22 (w22.alloc (.cells #[.slice a6 N2 c6] 23)) := (Below.refl _ _).alloc (Nat.le_refl _) _
        have HM23 := Lib.hid (hm22.below hal)
        have HP23 := Lib.hid (hp22.kept (P' := fun q => B ≤ q ∧ u13.ownBlock ≠ some q ∧ vF.ownBlock ≠ some q) (row := none) (grownBy_of_below hal (Nat.le_refl _)) fun q hq _ => ⟨fun e => (nomatch e), hq⟩)
        have HC23 := Lib.hid (cell_alloc_new w22 (.slice a6 N2 c6) 23 _ rfl)
        have HGLn : Hid ((givenL p K2 N2 L RR i).length ≤ 1000) := by show _ ≤ _; rw [givenL_len]; omega
        clear hg22 hgr hvb hm22 hfs hp22 hal HMb HPb HCb s0
        go_wp2_with (at_builtin; refine HM23.out.give rfl _ _ rfl (.slice a6 N2 c6) SR rfl w22.heap.size rfl HC23.out HP23.out HGLn.out ?_)
        intro vG w24 hm24
        rw [← HRL.out, ← givenL_succ] at hm24
        have HM24 := Lib.hid hm24
        clear hm24 HM23 HP23 HC23 HGLn
        go_wp2
        go_roundw
        case rel => exact ⟨i + 1, by have := HLT.out; omega, by go_num, HZN, HM24⟩
        case measure => simp [intOf]; omega
      · have n1 : (E != 0) = true := by simpa using hE0
        have hEK : EK = E := by
          have h1 := (HSE.out i HZE.out).trans HE.out
          rw [← HEK0.out, HSX.out (i + 1) (by omega) (by rw [h1]; exact hE0)]
          exact h1
        have HEK := Lib.hid hEK
        have HNE := Lib.hid hE0
        have HF := Lib.hid (HM5.out.below HB6.out).pl.be
        clear hEK HSK HSQ HKP HBD HS6 HB6 HM5
        go_wp2_with fail
        go_ret2
        exact ⟨.slice none 0 0, by rw [HEK.out]; rfl, by rw [← HRK0.out, HEK0.out, HEK.out, if_neg HNE.out]; exact gathS_nil _ _, HF.out⟩
    · have hiK : K = i := by omega
      subst hiK
      obtain ⟨U, hU⟩ : ∃ U, movV p K2 L RR K = U := ⟨_, rfl⟩
      have HEZ : Hid (EK = 0 ∧ RK = rowL N2 U) := ⟨by rw [← HEK0.out]; exact HZE.out, by rw [← HRK0.out, if_pos HZE.out, hU]⟩
      have HJN : Hid (∀ t, t < N2 → joinE p (K : Int) n p k2 (N2 : Int) (fstL L K) (partsTo p K2 L RR ((t + 1 : Nat) : Int) K) = 0 ∧ joinR p (K : Int) n p k2 (N2 : Int) (fstL L K) (partsTo p K2 L RR ((t + 1 : Nat) : Int) K) = (((t + 1 : Nat) : Int), U ((t + 1 : Nat) : Int))) := fun t ht => by rw [← hU]; exact HMJ.out t ht
      have HUL : Hid (∀ h, (U h).length = m) := fun h => by rw [← hU]; exact movV_len (by omega) (fun j hj => (HIN.out j hj).1) _
      obtain ⟨B2, hB2⟩ : ∃ B2, wr.heap.size = B2 := ⟨_, rfl⟩
      have HWW := Lib.hid (fun W (b : Below B2 wr W) => HM.out.below (W' := W) (by rw [hB2]; exact b))
      have HB0 : Hid (Below B2 wr wr) := Below.refl _ _
      obtain ⟨bG, cG, hvG⟩ : ∃ bG cG, u13 = .slice (some ⟨bG, 0, none⟩) K cG := by
        obtain ⟨b, c, z, h, _⟩ := HM.out.gl.at (i := 0) (by rw [givenL_len]; omega)
        rw [givenL_len] at h
        exact ⟨b, c, h⟩
      subst hvG
      have HG0 : Hid (GathS wr B2 (.slice none 0 0) ((rowL N2 U).take 0)) := by rw [List.take_zero]; exact gathS_nil _ _
      have HB2 := Lib.hid hB2
      have HGB : Hid (g ≤ B2 ∧ Below g w wr) := ⟨by have := HM.out.pl.lt; omega, HM.out.pl.be⟩
      obtain ⟨p0, p1, p2', q0, q1, q2⟩ := HM.out.pl.cells
      clear hU hB2 HM HZE HMJ HSP HSE HSX HSR HRW HCM HPL
      go_wp2_with fail
      clear p0 p1 p2' q0 q1 q2
      obtain ⟨w0r, hw0r⟩ : ∃ x, x = wr := ⟨_, rfl⟩
      subst hw0r
      go_loopw [18, 19, 20, 22, 23, 24, 81] (fun vO _ _ _ _ _ c wq => ∃ t : Nat, t ≤ N2 ∧ c = .int .i64 t ∧ Hid (GathS wq B2 vO ((rowL N2 U).take t)) ∧ Hid (Below B2 w0r wq)) (fun _ _ _ _ _ _ c _ => N2 - (intOf c).toNat)
      case atStart => exact ⟨0, Nat.zero_le _, rfl, HG0, HB0⟩
      case round =>
        obtain ⟨t, ht, rfl, HG, HB⟩ := hrel
        clear HG0 HB0
        by_cases hlt : t < N2
        · have htI : (t : Int) < (N2 : Int) := by omega
          obtain ⟨J, hJ⟩ : ∃ J, t + 1 = J := ⟨_, rfl⟩
          have HJJ := Lib.hid (And.intro hJ hlt)
          obtain ⟨G, hGe⟩ : ∃ G, wr.heap.size = G := ⟨_, rfl⟩
          have HGe := Lib.hid hGe
          have HP0 : Hid (GathR wr G G (.slice none 0 0) (partsTo p K2 L RR (J : Int) 0)) := ⟨[], rfl, World.ownsRow_nil _ _ _ _, fun i hi => by simp [partsTo] at hi⟩
          have HQ0 : Hid (Below G wr wr) := Below.refl _ _
          clear hGe hJ
          go_wp2_with fail
          obtain ⟨w1r, hw1r⟩ : ∃ x, x = wr := ⟨_, rfl⟩
          subst hw1r
          go_loopw [20, 22, 86] (fun vP _ c wz => ∃ j : Nat, j ≤ K ∧ c = .int .i64 j ∧ Hid (GathR wz G G vP (partsTo p K2 L RR (J : Int) j)) ∧ Hid (Below G w1r wz)) (fun _ _ c _ => K - (intOf c).toNat)
          case atStart => exact ⟨0, Nat.zero_le _, rfl, HP0, HQ0⟩
          case round =>
            obtain ⟨j, hj, rfl, HP, HQ⟩ := hrel
            clear HP0 HQ0
            by_cases hlj : j < K
            · have hjI : (j : Int) < (K : Int) := by omega
              obtain ⟨bG', cG', z, hvG, zc, hz⟩ := (HWW.out w1r HB.out).gl.at (i := j) (by rw [givenL_len]; exact hlj)
              simp only [Value.slice.injEq, Option.some.injEq, Addr.mk.injEq, and_true] at hvG
              obtain ⟨rfl, hjunk, rfl⟩ := hvG
              clear hjunk
              rw [givenL_get hlj] at hz
              obtain ⟨za, zcap, rfl, hz1, hz2, hz3, _⟩ := id hz
              rw [rowL_len] at hz zc hz1 hz2
              obtain ⟨bz, oz, vz, hze, y0, y1, yi⟩ := hz.at (i := t) hlt
              subst hze
              rw [rowL_get hlt, HJJ.out.1] at y0 yi
              simp only at y0 yi
              obtain ⟨lz, hlz⟩ : ∃ y, dealV p K2 (L.getD j (0, [])).2 (RR.getD j []) (J : Int) = y := ⟨_, rfl⟩
              rw [hlz] at yi
              have hbq : Below w1r.heap.size w1r wr := by rw [HGe.out]; exact HQ.out
              have zc2 := below_cell hbq zc
              have y02 := below_cell hbq y0
              have y12 := below_cell hbq y1
              obtain ⟨az, dz, rfl⟩ := yi.shape
              have hal : Below wr.heap.size wr (wr.alloc (.cells #[.int .i64 (J : Int), .slice az lz.length dz] 38)) := (Below.refl _ _).alloc (Nat.le_refl _) _
              have HI5 := Lib.hid ((yi.below (Nat.le_refl _) hbq).below (Nat.le_refl _) hal)
              have HBK : Hid (∀ y, (Value.slice az lz.length dz).ownBlock = some y → lz ≠ [] → y < G) := fun y hy hne => by rw [← HGe.out]; exact yi.blk y hy hne
              have HN5 := Lib.hid (shAt_new wr (J : Int) (.slice az lz.length dz) 38)
              have HGQ : Hid (G ≤ wr.heap.size) := by show _ ≤ _; rw [← HGe.out]; exact HQ.out.size
              have HGA : Hid (G ≤ (wr.alloc (.cells #[.int .i64 (J : Int), .slice az lz.length dz] 38)).heap.size) := Nat.le_trans HGQ.out hal.size
              have HP5 := Lib.hid (HP.out.alloc (.cells #[.int .i64 (J : Int), .slice az lz.length dz] 38))
              have HQ5 := Lib.hid (HQ.out.trans (hal.mono HGQ.out))
              have hpl := partsTo_len p K2 L RR (J : Int) j
              have HPL : Hid ((partsTo p K2 L RR (J : Int) j).length < 1000) := by show _ < _; rw [hpl]; omega
              have hps := partsTo_succ p K2 L RR (J : Int) j
              rw [hlz] at hps
              have HPS := Lib.hid hps
              have HLJ : Hid (j < K) := hlj
              clear hbq zc y0 y1 yi hz hz1 hz2 hz3 hal hpl hps hlz HP HQ
              obtain ⟨nz, hnz⟩ : ∃ nz, lz.length = nz := ⟨_, rfl⟩
              rw [hnz] at y12 HI5 HBK HN5 HGA HP5 HQ5
              clear hnz
              go_wp2_with (at_builtin; refine appendR_one _ rfl _ _ rfl G G u20 _ (J : Int) (.slice az nz dz) lz rfl HP5.out wr.heap.size rfl HN5.out.c0 HN5.out.c1 HI5.out HBK.out (Nat.le_refl _) HPL.out HGA.out ?_)
              intro vP w33 hg33 hgr _
              rw [← HPS.out] at hg33
              have HG33 := Lib.hid hg33
              have HQ33 := Lib.hid (HQ5.out.trans (((Below.refl G _).grown hgr HGA.out fun y hy => (HP5.out.block y hy).1)))
              clear hg33 hgr HP5 HQ5 HI5 HBK HN5 HGA HGQ HPL HPS zc2 y02 y12
              have hlj2 := HLJ.out
              go_wp2
              go_roundw
              case rel => exact ⟨j + 1, by omega, by go_num, HG33, HQ33⟩
              case measure => simp [intOf]; omega
            · have hjK : K = j := by omega
              subst hjK
              have hMq := (HWW.out w1r HB.out).below (W' := wr) (by rw [HGe.out]; exact HQ.out)
              have hpl := partsTo_len p K2 L RR (J : Int) K
              have hsh := HP.out.shares (by rw [hpl]; omega)
              have hfl := fstL_len (L := L) (i := K) (by rw [HAL.out]; exact HKA.out)
              have hjo := ref9_join p (K : Int) n p k2 (N2 : Int) u12 u20 (fstL L K) (partsTo p K2 L RR (J : Int) K) wr hMq.pl.wh HPW.out HPW.out (hMq.fr.slc (by rw [hfl]; omega)) hsh (fun y hy => by
                obtain ⟨j, hj, rfl⟩ := List.mem_map.1 hy
                show (dealV _ _ _ _ _).length ≤ _
                rw [dealV_len, (HIN.out j (List.mem_range.1 hj)).1]
                have := HMB.out; omega)
              have hjn := HJN.out t hlt
              rw [HJJ.out.1] at hjn
              rw [hjn.1, hjn.2] at hjo
              unfold planV shareV at hjo
              have HJO := Lib.hid hjo
              obtain ⟨p0, p1, p2', q0, q1, q2⟩ := hMq.pl.cells
              obtain ⟨aP, cP, hvP, _⟩ := id hsh
              have HGG := Lib.hid (HG.out.below HQ.out (by rw [HGe.out]; exact Nat.le_refl _))
              have HBB := Lib.hid (HB.out.trans (HQ.out.mono (by rw [← HGe.out]; have := HB.out.size; rw [HB2.out] at this; exact this)))
              subst hvP
              have HBS : Hid (B2 ≤ wr.heap.size) := by show _ ≤ _; rw [← HB2.out]; exact HBB.out.size
              clear hMq hpl hsh hfl hjo hjn HP HQ HG HB
              go_wp2_with fail
              clear p0 p1 p2' q0 q1 q2
              refine HJO.out.mono ?_
              rintro e w30 ⟨v30, rfl, hg30, hb30⟩
              have hlen := HUL.out (J : Int)
              have hsl : Slc w30 v30 (U (J : Int)) := hg30.slc (by rw [hlen]; have := HMB.out; omega)
              have hge := gath_lt hg30
              obtain ⟨a30, c30, rfl⟩ := hg30.shape
              rw [hlen] at hsl hge ⊢
              obtain ⟨gs, hgs⟩ : ∃ gs, w30.heap.size = gs := ⟨_, rfl⟩
              have hqs := HBS.out
              have hal : Below w30.heap.size w30 (w30.alloc (.cells #[.int .i64 (J : Int), .slice a30 m c30] 38)) := (Below.refl _ _).alloc (Nat.le_refl _) _
              have hsa := shAt_new w30 (J : Int) (.slice a30 m c30) 38
              have hsz : (w30.alloc (.cells #[.int .i64 (J : Int), .slice a30 m c30] 38)).heap.size = gs + 1 := by rw [← hgs]; simp
              have HB31 := Lib.hid ((HBB.out.trans (hb30.mono hqs)).trans (hal.mono (Nat.le_trans hqs hb30.size)))
              have HG31 := Lib.hid ((HGG.out.below hb30 (Nat.le_refl _)).below hal (Nat.le_refl _))
              have HS31 := Lib.hid (hsl.below (Nat.le_refl _) hal)
              have HBK : Hid (∀ y, (Value.slice a30 m c30).ownBlock = some y → B2 ≤ y ∧ y < gs + 2 ∧ u18.ownBlock ≠ some y) := fun y hy => by
                have h1 := hge y hy
                exact ⟨by omega, by omega, fun e => by have := (HGG.out.block y e).2; omega⟩
              go_upto_region 29 with fail
              rw [hgs] at hsa
              generalize w30.alloc (.cells #[.int .i64 (J : Int), .slice a30 m c30] 38) = w31 at *
              have s0 := hsa.c0
              have s1 := hsa.c1
              have hal2 : Below w31.heap.size w31 (w31.alloc (.cells #[.int .i64 (J : Int), .slice a30 m c30] 38)) := (Below.refl _ _).alloc (Nat.le_refl _) _
              have hqs2 : B2 ≤ w31.heap.size := by rw [← HB2.out]; exact HB31.out.size
              have HB32 := Lib.hid (HB31.out.trans (hal2.mono hqs2))
              have HG32 := Lib.hid (HG31.out.below hal2 (Nat.le_refl _))
              have HS32 := Lib.hid (HS31.out.below (Nat.le_refl _) hal2)
              have HN32 := Lib.hid (shAt_new w31 (J : Int) (.slice a30 m c30) 38)
              have HSZ : Hid (w31.heap.size = gs + 1) := hsz
              have HQ32 : Hid (B2 ≤ (w31.alloc (.cells #[.int .i64 (J : Int), .slice a30 m c30] 38)).heap.size) := Nat.le_trans hqs2 hal2.size
              have HTL : Hid (((rowL N2 U).take t).length < 1000) := by show _ < _; rw [List.length_take, rowL_len]; omega
              have hTK : (rowL N2 U).take (t + 1) = (rowL N2 U).take t ++ [(((t + 1 : Nat) : Int), U ((t + 1 : Nat) : Int))] := by
                rw [List.take_add_one, List.getElem?_eq_getElem (by rw [rowL_len]; exact hlt)]
                have h := rowL_get (V := U) hlt
                rw [getS_at (by rw [rowL_len]; exact hlt)] at h
                simp [h]
              rw [HJJ.out.1] at hTK
              have HTK := Lib.hid hTK
              clear hTK hsa hal hal2 hqs hqs2 hge hsl hlen hg30 hb30 hgs hsz HGG HBB HB31 HG31 HS31
              go_wp2_with (at_builtin; refine appendS_one _ rfl _ _ rfl B2 u18 _ (J : Int) (.slice a30 m c30) (U (J : Int)) rfl HG32.out w31.heap.size rfl HN32.out.c0 HN32.out.c1 HS32.out ?c1 HTL.out HQ32.out ?_)
              case c1 =>
                intro y hy
                have h1 := HBK.out y hy
                have h2 := HSZ.out
                exact ⟨h1.1, by simp; omega, h1.2.2⟩
              intro vM w33 hg33 hgr _
              rw [← HTK.out] at hg33
              have HG33 := Lib.hid hg33
              have HB33 := Lib.hid (HB32.out.grown hgr HQ32.out fun y hy => (HG32.out.block y hy).1)
              clear hg33 hgr s0 s1 HG32 HB32 HS32 HN32 HBK HTL
              go_wp2
              go_roundw
              case rel => exact ⟨J, by have := HJJ.out; omega, by have := HJJ.out; go_num, HG33, HB33⟩
              case measure => simp [intOf]; have := HJJ.out; omega
        · have htN : N2 = t := by omega
          subst htN
          have hg := HG.out
          rw [List.take_of_length_le (by rw [rowL_len]; exact Nat.le_refl _)] at hg
          have HGF := Lib.hid (hg.mono HGB.out.1)
          have HBF := Lib.hid (HGB.out.2.trans (HB.out.mono HGB.out.1))
          obtain ⟨aO, cO, hvO, _⟩ := hg.shape
          subst hvO
          clear hg HG HB
          go_wp2_with fail
          go_ret2
          exact ⟨_, by rw [HEZ.out.1]; rfl, by rw [HEZ.out.2]; exact HGF.out, HBF.out⟩
end Go.Proofs.YtomnncainedjdaaDoor
/-! The document's answer for layer 9: Move, for any arguments. -/
namespace Go.Proofs.YtomnncainedjdaaDoor
open Go.RowKit Go.Sort
open Num
set_option linter.unusedVariables false
set_option linter.unusedSimpArgs false

set_option maxRecDepth 100000 in
set_option maxHeartbeats 16000000 in
theorem ref9_move (p k n p2 k2 n2 : Int) (vl vr : Value) (L : List Shr) (RR : List (List Int)) (w : World) (hw : Wheel w) (hp : (Lit.int .i64 p).wf = true) (hp2 : (Lit.int .i64 p2).wf = true) (hs : Shares w vl L) (hr : ListsI w vr RR) :
    Calls Tryd.prog 26 #[planV p k n, planV p2 k2 n2, vl, vr] w fun e w' => ∃ v', e = .returned (.tuple #[v', .int .i64 (moveE p k n p2 k2 n2 L RR)]) ∧ GathS w' w.heap.size v' (moveR p k n p2 k2 n2 L RR) ∧ Below w.heap.size w w' := by
  by_cases hchk : chkE p k n p2 k2 n2 L RR.length = 0
  · have hcmb : combE p k n L = 0 := by
      by_cases h : combE p k n L = 0
      · exact h
      · unfold chkE at hchk; rw [if_neg h] at hchk; exact hchk
    obtain ⟨rfl, hpb, hpb2, hg, hkl, hkr, hE⟩ := chkE_parts hchk
    obtain ⟨q1, q2, q3, q4, q5, q6⟩ := planB_parts hpb
    obtain ⟨r1, r2, r3, r4, r5, r6⟩ := planB_parts hpb2
    obtain ⟨K, rfl⟩ := Int.eq_ofNat_of_zero_le (show 0 ≤ k by omega)
    obtain ⟨N, rfl⟩ := Int.eq_ofNat_of_zero_le (show 0 ≤ n by omega)
    obtain ⟨N2, rfl⟩ := Int.eq_ofNat_of_zero_le (show 0 ≤ n2 by omega)
    obtain ⟨K2, hK2⟩ := Int.eq_ofNat_of_zero_le (show 0 ≤ k2 - 1 by omega)
    obtain rfl : k2 = (K2 : Int) + 1 := by omega
    have hR : moveR p (K : Int) (N : Int) p ((K2 : Int) + 1) (N2 : Int) L RR = if splitsE p (K : Int) (N : Int) p ((K2 : Int) + 1) (N2 : Int) L RR K = 0 then rowL N2 (movV p K2 L RR K) else [] := by
      unfold moveR
      rw [hE, Int.toNat_natCast, Int.add_sub_cancel, Int.toNat_natCast, Int.toNat_natCast]
    rw [hR, hE, Int.toNat_natCast]
    exact ref9_move_go p (K : Int) (N : Int) ((K2 : Int) + 1) (N2 : Int) K N K2 N2 vl vr L RR w hw hp hs hr hpb hpb2 rfl rfl rfl rfl hg (by omega) (by omega) hcmb
  · obtain ⟨e1, e2⟩ := moveE_chk hchk
    rw [e1, e2]
    unfold planV
    obtain ⟨al, cl, rfl, hL1, _⟩ := id hs
    obtain ⟨ar, cr, rfl, hR1, _⟩ := id hr
    obtain ⟨A, hA⟩ : ∃ A, L.length = A := ⟨_, rfl⟩
    obtain ⟨M, hM⟩ : ∃ M, RR.length = M := ⟨_, rfl⟩
    obtain ⟨g, hgw⟩ : ∃ g, w.heap.size = g := ⟨_, rfl⟩
    obtain ⟨w1, hw1⟩ : ∃ w1, (w.alloc (Obj.cells #[Value.int IntKind.i64 p, Value.int IntKind.i64 k, Value.int IntKind.i64 n] 30)).alloc (Obj.cells #[Value.int IntKind.i64 p2, Value.int IntKind.i64 k2, Value.int IntKind.i64 n2] 30) = w1 := ⟨_, rfl⟩
    have HA0 : Hid (Pl2 w w1 g p k n p2 k2 n2) := by rw [← hw1, ← hgw]; exact pl2_new w hw _ _ _ _ _ _ _ _
    have HCM := Lib.hid (ref6_combine_any p k n (.slice al L.length cl) L w1 hp (hs.below (Nat.le_of_eq hgw) HA0.out.be))
    have HPL := Lib.hid (fun W (h : Pl2 w W g p k n p2 k2 n2) => ref9_plans p k n p2 k2 n2 W h.wh hp hp2)
    unfold planV at HCM HPL
    obtain ⟨E, hE⟩ : ∃ E, combE p k n L = E := ⟨_, rfl⟩
    obtain ⟨br, hbr⟩ : ∃ b, relB p k n p2 k2 n2 = b := ⟨_, rfl⟩
    have HE : Hid (chkE p k n p2 k2 n2 L M = if E = 0 then (if br = true then (if (M : Int) < k then 5 else 0) else 1) else E) := by show _ = _; unfold chkE; rw [hE, hbr]
    rw [hM] at hchk ⊢
    rw [HE.out] at hchk ⊢
    rw [hE] at HCM
    rw [hbr] at HPL
    rw [hA] at HCM ⊢
    rw [hgw]
    clear hw hp hp2 hs hr hE hbr e1 e2 hL1 hR1 hA hM HE
    obtain ⟨p0, p1, p2', q0, q1, q2⟩ := HA0.out.cells
    by_cases hE0 : E = 0
    · subst hE0
      rw [if_pos rfl] at hchk ⊢
      cases br with
      | false =>
        rw [if_neg (by simp)]
        clear hchk
        go_enter Tryd.func26, Tryd.ntmps26
        go_wp2_with fail
        refine HCM.out.mono ?_
        rintro e W1 ⟨_, rfl, _, hb⟩
        have HA1 := Lib.hid (HA0.out.below hb)
        clear hb p0 p1 p2' q0 q1 q2
        obtain ⟨p0, p1, p2', q0, q1, q2⟩ := HA1.out.cells
        go_wp2_with fail
        refine (HPL.out W1 HA1.out).mono ?_
        rintro e W2 ⟨rfl, hb⟩
        have HA2 := Lib.hid (HA1.out.below hb)
        clear hb p0 p1 p2' q0 q1 q2
        go_wp2
        go_ret2
        exact ⟨_, rfl, gathS_nil _ _, HA2.out.be⟩
      | true =>
        rw [if_pos rfl] at hchk ⊢
        have hMk : (M : Int) < k := by
          by_cases h : (M : Int) < k
          · exact h
          · rw [if_neg h] at hchk; exact absurd rfl hchk
        rw [if_pos hMk]
        have hMd : decide ((M : Int) < k) = true := decide_eq_true hMk
        clear hchk
        go_enter Tryd.func26, Tryd.ntmps26
        go_wp2_with fail
        refine HCM.out.mono ?_
        rintro e W1 ⟨_, rfl, _, hb⟩
        have HA1 := Lib.hid (HA0.out.below hb)
        clear hb p0 p1 p2' q0 q1 q2
        obtain ⟨p0, p1, p2', q0, q1, q2⟩ := HA1.out.cells
        go_wp2_with fail
        refine (HPL.out W1 HA1.out).mono ?_
        rintro e W2 ⟨rfl, hb⟩
        have HA2 := Lib.hid (HA1.out.below hb)
        clear hb p0 p1 p2' q0 q1 q2
        obtain ⟨p0, p1, p2', q0, q1, q2⟩ := HA2.out.cells
        go_wp2
        go_ret2
        exact ⟨_, rfl, gathS_nil _ _, HA2.out.be⟩
    · rw [if_neg hE0]
      have n1 : (E != 0) = true := by simpa using hE0
      clear hchk
      go_enter Tryd.func26, Tryd.ntmps26
      go_wp2_with fail
      refine HCM.out.mono ?_
      rintro e W1 ⟨_, rfl, _, hb⟩
      have HA1 := Lib.hid (HA0.out.below hb)
      clear hb p0 p1 p2' q0 q1 q2
      go_wp2
      go_ret2
      exact ⟨_, rfl, gathS_nil _ _, HA1.out.be⟩
end Go.Proofs.YtomnncainedjdaaDoor
