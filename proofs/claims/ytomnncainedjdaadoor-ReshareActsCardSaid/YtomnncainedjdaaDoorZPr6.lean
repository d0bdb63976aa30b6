
/- The program's package reshare: Move. -/
import Derived.Test.YtomnncainedjdaaDoorZMov
/-! The program's package reshare: Move. -/
namespace Go.Proofs.YtomnncainedjdaaDoor
open Go.RowKit Go.Sort
open Num
set_option linter.unusedVariables false
set_option linter.unusedSimpArgs false

/-- 'append', as an operation of a region that draws its order. -/
theorem wp_appendV {o : Oper} {a : Act} {w : World} {K : Act → World → Prop} {Q : Exit → Act → World → Prop} (s x : Operand) (t1 t2 : TypeId)
    (hop : o.op = .call { callee := .builtin .append, args := #[s, x], argTypes := #[t1, t2] }) (v sv : Value) (hs : a.eval s = v) (hx : a.eval x = sv) (R : Value → World → Prop)
    (hrun : ∃ v' W', (Builtin.append_ #[t1, t2] o.type #[v, sv]).run Tryd.prog w = .ok v' W' ∧ R v' W') (hK : ∀ v' W', R v' W' → K (a.put o.dst v') W') : Oper.wp Tryd.prog o a w K Q := by
  obtain ⟨v', W', hr, hR⟩ := hrun
  unfold Oper.wp
  simp [execOp, hop, resolve, invoke, builtin, hs, hx, hr, Result.andThen]
  exact hK v' W' hR
set_option maxRecDepth 100000 in
set_option maxHeartbeats 16000000 in
theorem reshare_move_go (p k n k2 n2 : Int) (K N K2 N2 : Nat) (vl vr : Value) (L : List Shr) (RR : List (List Int)) (w : World) (hw : Wheel w) (hp : (Lit.int .i64 p).wf = true) (hs : Shares w vl L) (hr : ListsI w vr RR) (hRR : ∀ r ∈ RR, r.length ≤ 1000000)
    (hpb : planB p k n = true) (hpb2 : planB p k2 n2 = true) (hk : k = (K : Int)) (hn : n = (N : Int)) (hk2 : k2 = (K2 : Int) + 1) (hn2 : n2 = (N2 : Int)) (hgd : goodB p n L = true) (hKL : K ≤ L.length) (hKR : K ≤ RR.length) (hchk : chkE p k n p k2 n2 L RR.length = 0) :
    Calls Tryd.prog 25 #[planV p k n, planV p k2 n2, vl, vr] w fun e w' => ∃ v', e = .returned (.tuple #[v', .int .i64 (splitsE p k n p k2 n2 L RR K)]) ∧ SharesN w' w.heap.size v' (if splitsE p k n p k2 n2 L RR K = 0 then rowL N2 (movV p K2 L RR K) else []) ∧ Below w.heap.size w w' := by
  subst hk hn2
  unfold planV
  obtain ⟨al, cl, rfl, hL1, hLc, hcl, _⟩ := id hs
  obtain ⟨ar, cr, rfl, hR1, hRc, hcr, _⟩ := id hr
  obtain ⟨A, hA⟩ : ∃ A, L.length = A := ⟨_, rfl⟩
  obtain ⟨M, hM⟩ : ∃ M, RR.length = M := ⟨_, rfl⟩
  obtain ⟨g, hgw⟩ : ∃ g, w.heap.size = g := ⟨_, rfl⟩
  obtain ⟨w1, hw1⟩ : ∃ w1, (w.alloc (Obj.cells #[Value.int IntKind.i64 p, Value.int IntKind.i64 (K : Int), Value.int IntKind.i64 n] 30)).alloc (Obj.cells #[Value.int IntKind.i64 p, Value.int IntKind.i64 k2, Value.int IntKind.i64 (N2 : Int)] 30) = w1 := ⟨_, rfl⟩
  obtain ⟨hprm, hp2, hk1, hkn, hn16, hnp⟩ := planB_parts hpb
  obtain ⟨_, _, _, _, hn216, _⟩ := planB_parts hpb2
  have hK1 : 1 ≤ K := by omega
  have hK16 : K ≤ 16 := by omega
  have hN216 : N2 ≤ 16 := by omega
  have HA0 : Hid (Pl2 w w1 g p (K : Int) n p k2 (N2 : Int)) := by rw [← hw1, ← hgw]; exact pl2_new w hw _ _ _ _ _ _ _ _
  have HCM := Lib.hid (fun W (h : Pl2 w W g p (K : Int) n p k2 (N2 : Int)) => reshare_checkMove p (K : Int) n p k2 (N2 : Int) (.slice al L.length cl) L ar RR.length cr W h.wh hp hp (hs.below (Nat.le_of_eq hgw) h.be) hR1)
  unfold planV at HCM
  rw [hchk] at HCM
  have HSW : Hid (∀ W, Below g w W → Shares W (.slice al A cl) L) := fun W b => by rw [← hA]; exact hs.below (Nat.le_of_eq hgw) b
  have HRW : Hid (∀ W, Below g w W → ListsI W (.slice ar M cr) RR) := fun W b => by rw [← hM]; exact hr.below (Nat.le_of_eq hgw) b
  obtain ⟨m, hm⟩ : ∃ m, (L.getD 0 (0, [])).2.length = m := ⟨_, rfl⟩
  have hG := goodB_gd hn hgd hm
  have HMB : Hid (m ≤ 2048) := by have := goodB_big hgd (by omega); rwa [hm] at this
  have HIN : Hid (∀ i, i < K → (L.getD i (0, [])).2.length = m ∧ stB p n (L.getD i (0, [])) = true) := fun i hi => ⟨by rw [getS_at (by omega)]; exact hG.len _ (List.getElem_mem _), (goodB_parts hgd i (by omega)).1⟩
  have HSP := Lib.hid (fun (i : Nat) (hi : i < K) W (h : Pl2 w W g p (K : Int) n p k2 (N2 : Int)) (x : Int) (v v2 : Value) (hx : (L.getD i (0, [])).1 = x) (hv : Ints W v (L.getD i (0, [])).2) (hv2 : Slc W v2 (RR.getD i [])) =>
    reshare_split p (K : Int) n p k2 (N2 : Int) x v v2 (L.getD i (0, [])).2 (RR.getD i []) W h.wh hp hp hv hv2 (by rw [(HIN.out i hi).1]; exact HMB.out) (hRR _ (by
      rw [show RR.getD i [] = RR[i]'(by omega) by simp [List.getD, show i < RR.length by omega]]
      exact List.getElem_mem _)))
  unfold planV shareV at HSP
  have HSE : Hid (∀ i, splitsE p (K : Int) n p k2 (N2 : Int) L RR i = 0 → splitsE p (K : Int) n p k2 (N2 : Int) L RR (i + 1) = splitE p (K : Int) n p k2 (N2 : Int) (L.getD i (0, [])) (RR.getD i [])) := fun i h => by
    show (if splitsE p (K : Int) n p k2 (N2 : Int) L RR i = 0 then _ else _) = _
    rw [if_pos h]
  have HSX : Hid (∀ i, i ≤ K → splitsE p (K : Int) n p k2 (N2 : Int) L RR i ≠ 0 → splitsE p (K : Int) n p k2 (N2 : Int) L RR K = splitsE p (K : Int) n p k2 (N2 : Int) L RR i) := fun i hi h => by
    have := splitsE_stop h (K - i)
    rwa [show i + (K - i) = K by omega] at this
  have HSR : Hid (∀ i, splitE p (K : Int) n p k2 (N2 : Int) (L.getD i (0, [])) (RR.getD i []) = 0 → splitR p (K : Int) n p k2 (N2 : Int) (L.getD i (0, [])) (RR.getD i []) = dealF p K2 N2 (L.getD i (0, [])).2 (RR.getD i [])) := fun i h => by
    unfold splitR
    rw [if_pos h, hk2, Int.add_sub_cancel, Int.toNat_natCast, Int.toNat_natCast]
  have HSN : Hid (∀ i, splitE p (K : Int) n p k2 (N2 : Int) (L.getD i (0, [])) (RR.getD i []) ≠ 0 → splitR p (K : Int) n p k2 (N2 : Int) (L.getD i (0, [])) (RR.getD i []) = []) := fun i h => by
    unfold splitR
    rw [if_neg h]
  have HMJ : Hid (∀ t, t < N2 → joinE p (K : Int) n p k2 (N2 : Int) ((L.take K).map (·.1)) (partsTo p K2 L RR ((t + 1 : Nat) : Int) K) = 0 ∧ joinR p (K : Int) n p k2 (N2 : Int) ((L.take K).map (·.1)) (partsTo p K2 L RR ((t + 1 : Nat) : Int) K) = (((t + 1 : Nat) : Int), movV p K2 L RR K ((t + 1 : Nat) : Int))) := fun t ht => mov_join hpb hpb2 rfl hn rfl hG hKL ht
  have HPW := Lib.hid hp
  obtain ⟨xs, hxs⟩ : ∃ xs, (L.take K).map (·.1) = xs := ⟨_, rfl⟩
  rw [hxs] at HMJ
  have HXL : Hid (xs.length = K ∧ ∀ j, j < K → (L.getD j (0, [])).1 = xs.getD j 0) := ⟨by rw [← hxs, List.length_map, List.length_take]; omega, fun j hj => by rw [← hxs]; simp [List.getD, hj, show j < L.length by omega]⟩
  rw [hM] at HCM hR1 hRc hKR ⊢
  rw [hA] at HCM hL1 hLc hKL ⊢
  have hmk := run_make_row' (P := Tryd.prog) 22 3 (.int .i64 0) 8 Tryd.underlying22 infoInt rfl .i64 .i64 K (by omega) (by omega)
  have hmkS := run_make_share N2 (by omega)
  obtain ⟨EK, hEK0⟩ : ∃ EK, splitsE p (K : Int) n p k2 (N2 : Int) L RR K = EK := ⟨_, rfl⟩
  obtain ⟨RK, hRK0⟩ : ∃ RK, (if splitsE p (K : Int) n p k2 (N2 : Int) L RR K = 0 then rowL N2 (movV p K2 L RR K) else []) = RK := ⟨_, rfl⟩
  rw [hRK0, hEK0]
  have HEK0 := Lib.hid hEK0
  have HRK0 := Lib.hid hRK0
  rw [hgw]
  clear hEK0 hRK0 hw hp hs hr hRR hpb hpb2 hn hk2 hgd hchk hA hM hprm hp2 hkn hn16 hnp hn216 hm hG hxs
  obtain ⟨p0, p1, p2', q0, q1, q2⟩ := HA0.out.cells
  go_enter Tryd.func25, Tryd.ntmps25
  go_wp2_with fail
  refine (HCM.out w1 HA0.out).mono ?_
  rintro e W1 ⟨rfl, hb⟩
  have HA1 := Lib.hid (HA0.out.below hb)
  clear hb p0 p1 p2' q0 q1 q2 hw1
  obtain ⟨p0, p1, p2', q0, q1, q2⟩ := HA1.out.cells
  obtain ⟨gf, hgf⟩ : ∃ gf, W1.heap.size = gf := ⟨_, rfl⟩
  have HMV : Hid (MovW w ((W1.alloc (.cells (madeCells #[.int .i64 0] K) 3)).alloc (.cells nils16 72)) g gf p (K : Int) n k2 (N2 : Int) K L 0 (fun _ => False) (fun _ => .slice none 0 0) (partsF p K2 N2 L RR 0 0)) := by
    have b1 : Below W1.heap.size W1 (W1.alloc (.cells (madeCells #[.int .i64 0] K) 3)) := (Below.refl _ _).alloc (Nat.le_refl _) _
    have b2 : Below (W1.alloc (.cells (madeCells #[.int .i64 0] K) 3)).heap.size (W1.alloc (.cells (madeCells #[.int .i64 0] K) 3)) ((W1.alloc (.cells (madeCells #[.int .i64 0] K) 3)).alloc (.cells nils16 72)) := (Below.refl _ _).alloc (Nat.le_refl _) _
    have e : (W1.alloc (.cells (madeCells #[.int .i64 0] K) 3)).heap.size = gf + 1 := by rw [← hgf]; simp
    have hgt := gotW_new (W1.alloc (.cells (madeCells #[.int .i64 0] K) 3)) (gf + 1) 72 (by omega)
    rw [e] at hgt
    refine ⟨(HA1.out.below b1).below b2, ?_, hgt.congr fun j _ => partsF_start _ _ _ _ _ _, by rw [← hgf]; exact HA1.out.lt⟩
    have := (World.rowIs_made W1 (.int .i64 0) K 3).congr (g := plRow L 0) (fun j _ => by simp [plRow])
    rw [hgf] at this
    exact this.alloc _
  have HGF := Lib.hid hgf
  have h0A : 0 < A := by omega
  obtain ⟨b, o, _, hale, _, _, _⟩ := (HSW.out W1 HA1.out.be).at h0A
  subst hale
  have hKA : K ≤ A := hKL
  have hKc : K ≤ cl := by omega
  obtain ⟨W2, hW2⟩ : ∃ W2, (W1.alloc (.cells (madeCells #[.int .i64 0] K) 3)).alloc (.cells nils16 72) = W2 := ⟨_, rfl⟩
  rw [hW2] at HMV
  unfold nils16 at hW2
  obtain ⟨d0, d1, d2, d3, d4, d5⟩ := HMV.out.pl.cells
  clear hmkS
  go_wp2_with fail
  clear hW2 hmk p0 p1 p2' q0 q1 q2 d0 d1 d2 d3 d4 d5 HA0 HA1 hgf
  go_loopw [37] (fun c wr => ∃ (i : Nat) (P : Nat → Prop) (V : Nat → Value), i ≤ K ∧ c = .int .i64 i ∧ Hid (splitsE p (K : Int) n p k2 (N2 : Int) L RR i = 0) ∧ Hid (MovW w wr g gf p (K : Int) n k2 (N2 : Int) K L i P V (partsF p K2 N2 L RR i 0))) (fun c _ => K - (intOf c).toNat)
  case atStart => exact ⟨0, _, _, Nat.zero_le _, rfl, rfl, HMV⟩
  case round =>
    obtain ⟨i, P, V, hi, rfl, HZE, HM⟩ := hrel
    clear HMV
    have HBE := Lib.hid HM.out.pl.be
    have HGL : Hid (gf + 1 < wr.heap.size ∧ g + 1 < gf) := ⟨HM.out.got.lt, HM.out.lt⟩
    by_cases hlt : i < K
    · obtain ⟨b', o', v1, he, c0, c1, hi1⟩ := (HSW.out wr HBE.out).at (show i < A by omega)
      simp only [Option.some.injEq, Addr.mk.injEq, and_true] at he
      obtain ⟨rfl, rfl⟩ := he
      obtain ⟨x, hx⟩ : ∃ x, (L.getD i (0, [])).1 = x := ⟨_, rfl⟩
      rw [hx] at c0
      obtain ⟨a1, d1, rfl⟩ := hi1.shape
      rw [(HIN.out i hlt).1] at c1
      have hi1' : Ints wr (.slice a1 m d1) (L.getD i (0, [])).2 := by have := hi1; rwa [(HIN.out i hlt).1] at this
      obtain ⟨br, or', v2, hre, cr0, hs2⟩ := (HRW.out wr HBE.out).at (show i < M by omega)
      subst hre
      obtain ⟨gs, hgs⟩ : ∃ gs, wr.heap.size = gs := ⟨_, rfl⟩
      obtain ⟨W5, hW5⟩ : ∃ W5, wr.alloc (.cells #[.int .i64 x, .slice a1 m d1] 38) = W5 := ⟨_, rfl⟩
      have hal : Below gs wr W5 := by rw [← hW5, ← hgs]; exact (Below.refl _ _).alloc (Nat.le_refl _) _
      have hsa : ShAt W5 gs x (.slice a1 m d1) := by rw [← hW5, ← hgs]; exact shAt_new _ _ _ _
      have hM5 := HM.out.below (W' := W5) (by rw [hgs]; exact hal)
      have cr5 : W5.cell? ⟨br, or' + i, none⟩ = some v2 := by rw [hal.cell (p := ⟨br, or' + i, none⟩) (by have := cell_lt cr0; rwa [hgs] at this)]; exact cr0
      have HSQ := Lib.hid (fun W (hb : Below W5.heap.size W5 W) => HSP.out i hlt W (hM5.below hb).pl x (.slice a1 m d1) v2 hx ((hi1'.below (Nat.le_of_eq hgs) hal).below (Nat.le_refl _) hb) ((hs2.below (Nat.le_of_eq hgs) hal).below (Nat.le_refl _) hb))
      have hiK : (i : Int) < (K : Int) := by omega
      have hiM : (i : Int) < (M : Int) := by omega
      have hiM2 : i < M := by omega
      obtain ⟨E, hE⟩ : ∃ E, splitE p (K : Int) n p k2 (N2 : Int) (L.getD i (0, [])) (RR.getD i []) = E := ⟨_, rfl⟩
      have hxl : (x, (L.getD i (0, [])).2) = L.getD i (0, []) := by rw [← hx]
      rw [hxl, hE] at HSQ
      have HE := Lib.hid hE
      have HX := Lib.hid hx
      have HM5 := Lib.hid hM5
      have HSA := Lib.hid hsa
      have HZ5 : Hid (W5.heap.size = gs + 1) := by show _ = _; rw [← hW5, ← hgs]; simp
      have HGS : Hid (gf + 1 < gs) := by have := HGL.out.1; show _ < _; omega
      obtain ⟨p0, p1, p2', q0, q1, q2⟩ := hM5.pl.cells
      have s0 := hsa.c0
      have s1 := hsa.c1
      have HKP : Hid (∀ W, Below W5.heap.size W5 W → W.cell? ⟨g, 0, none⟩ = some (.int .i64 p) ∧ W.cell? ⟨g, 1, none⟩ = some (.int .i64 (K : Int)) ∧ W.cell? ⟨g, 2, none⟩ = some (.int .i64 n) ∧ W.cell? ⟨g + 1, 0, none⟩ = some (.int .i64 p) ∧ W.cell? ⟨g + 1, 1, none⟩ = some (.int .i64 k2) ∧ W.cell? ⟨g + 1, 2, none⟩ = some (.int .i64 (N2 : Int)) ∧ W.cell? ⟨gs, 0, none⟩ = some (.int .i64 x) ∧ W.cell? ⟨gs, 1, none⟩ = some (.slice a1 m d1) ∧ W.cell? ⟨br, or' + i, none⟩ = some v2) :=
        fun W hb => ⟨below_cell hb p0, below_cell hb p1, below_cell hb p2', below_cell hb q0, below_cell hb q1, below_cell hb q2, below_cell hb s0, below_cell hb s1, below_cell hb cr5⟩
      have HBD : Hid (Below W5.heap.size W5 W5.drew) := (Below.refl _ _).drew
      have HSK := HKP.out _ HBD.out
      by_cases hE0 : E = 0
      · subst hE0
        rw [HSR.out i hE] at HSQ
        have hRl : (dealF p K2 N2 (L.getD i (0, [])).2 (RR.getD i [])).length = N2 := dealF_len _ _ _ _ _
        have HRG : Hid (∀ t, t < N2 → (dealF p K2 N2 (L.getD i (0, [])).2 (RR.getD i [])).getD t (0, []) = (((t + 1 : Nat) : Int), dealV p K2 (L.getD i (0, [])).2 (RR.getD i []) ((t + 1 : Nat) : Int))) := fun t ht => dealF_get ht
        have HZN : Hid (splitsE p (K : Int) n p k2 (N2 : Int) L RR (i + 1) = 0) := (HSE.out i HZE.out).trans hE
        obtain ⟨Rl, hRR⟩ : ∃ Rl, dealF p K2 N2 (L.getD i (0, [])).2 (RR.getD i []) = Rl := ⟨_, rfl⟩
        rw [hRR] at HSQ hRl HRG
        have HRL := Lib.hid hRl
        clear hi1 hi1' hs2 hal hsa hM5 hx hxl hE p0 p1 p2' q0 q1 q2 s0 s1 cr0 cr5 hRR hRl HM
        go_wp2_with fail
        clear c0 c1 hW5
        go_region_held3 (fun W' => W'.cell? ⟨g, 0, none⟩ = some (.int .i64 p) ∧ W'.cell? ⟨g, 1, none⟩ = some (.int .i64 (K : Int)) ∧ W'.cell? ⟨g, 2, none⟩ = some (.int .i64 n) ∧ W'.cell? ⟨g + 1, 0, none⟩ = some (.int .i64 p) ∧ W'.cell? ⟨g + 1, 1, none⟩ = some (.int .i64 k2) ∧ W'.cell? ⟨g + 1, 2, none⟩ = some (.int .i64 (N2 : Int)) ∧ W'.cell? ⟨gs, 0, none⟩ = some (.int .i64 x) ∧ W'.cell? ⟨gs, 1, none⟩ = some (.slice a1 m d1) ∧ W'.cell? ⟨br, or' + i, none⟩ = some v2) (first | go_keep | exact HSK | exact HSK2)
          (first
            | (go_at_call 19; (with_reducible refine (HSQ.out W5.drew HBD.out).mono ?_); rintro e w6 ⟨v6, rfl, hsn, hb⟩; have HB6 := Lib.hid (HBD.out.trans hb); have HSK2 := HKP.out w6 HB6.out; have HS6 := Lib.hid (hsn.mono (B' := W5.heap.size) (Nat.le_refl W5.heap.size)); obtain ⟨a6, c6, rfl, _⟩ := hsn; clear hb))
        rw [HRL.out] at HS6 ⊢
        have HM6 := Lib.hid (HM5.out.wide HB6.out)
        have HP6 := Lib.hid (HS6.out.toP (P := fun y => P y ∨ (W5.heap.size ≤ y ∧ y < w6.heap.size)) fun y h1 h2 => .inr ⟨h1, h2⟩)
        obtain ⟨P6, hP6⟩ : ∃ P6 : Nat → Prop, (fun y => P y ∨ (W5.heap.size ≤ y ∧ y < w6.heap.size)) = P6 := ⟨_, rfl⟩
        rw [hP6] at HM6 HP6
        have s0 := HSK2.2.2.2.2.2.2.1
        have f0 := HM6.out.fr.frozen i
        have k0 := HM6.out.fr.cell hlt
        have HM7 := Lib.hid (HM6.out.from HX.out)
        have HP7 := Lib.hid (HP6.out.kept (P' := P6) (But.set w6 ⟨gf, i, none⟩ (.int .i64 x)).grown fun y hy _ => ⟨fun e => by have := (HM6.out.got.pb y hy).1; have := Option.some.inj e; simp only at this; omega, hy⟩)
        clear HSK HSK2 HSQ HKP HBD HS6 HP6 hP6 HB6 HM5
        go_wp2_with fail
        clear s0 f0 k0
        generalize w6.setCell ⟨gf, i, none⟩ (.int .i64 x) = W7 at *
        have HI0 : Hid (∃ V, MovW w W7 g gf p (K : Int) n k2 (N2 : Int) K L (i + 1) P6 V (partsF p K2 N2 L RR i 0)) := ⟨V, HM7.out⟩
        have HS70 : Hid (∃ a6, (Value.slice a6 N2 c6) = .slice a6 N2 c6) := ⟨a6, rfl⟩
        clear HM6 HM7 HZE HE HX HSA
        go_loopw [63] (fun c wq => ∃ t : Nat, t ≤ N2 ∧ c = .int .i64 t ∧ Hid (SharesP wq P6 (.slice a6 N2 c6) Rl) ∧ Hid (∃ V, MovW w wq g gf p (K : Int) n k2 (N2 : Int) K L (i + 1) P6 V (partsF p K2 N2 L RR i t))) (fun c _ => N2 - (intOf c).toNat)
        case atStart => exact ⟨0, Nat.zero_le _, rfl, HP7, HI0⟩
        case round =>
          obtain ⟨t, ht, rfl, HP, HMX⟩ := hrel
          clear HI0 HP7 HS70
          obtain ⟨V7, hM⟩ := HMX.out
          clear HMX
          have HM := Lib.hid hM
          clear hM
          by_cases hlt2 : t < N2
          · obtain ⟨bp, op, vt, rfl, c0, c1, hit, hPt⟩ := HP.out.at hlt2
            have ht16 : t < 16 := by omega
            have ht16' : (t : Int) < 16 := by omega
            rw [HRG.out t hlt2] at c0 hit hPt
            simp only at c0 hit hPt
            obtain ⟨at', ct, rfl⟩ := hit.shape
            obtain ⟨J, hJ⟩ : ∃ J, t + 1 = J := ⟨_, rfl⟩
            have hw1 : IntKind.i64.wrap ((t : Int) + 1) = (J : Int) := by rw [IntKind.wrap_i64]; omega
            rw [hJ] at c0 hit hPt
            obtain ⟨lt', hlt'⟩ : ∃ l, dealV p K2 (L.getD i (0, [])).2 (RR.getD i []) ((J : Nat) : Int) = l := ⟨_, rfl⟩
            rw [hlt'] at hit hPt
            have hlm : lt'.length = m := by rw [← hlt', dealV_len]; exact (HIN.out i hlt).1
            simp only [hJ, hlt', hlm] at c1
            simp only [hJ, hlt', hlm] at hit hPt
            obtain ⟨gs2, hgs2⟩ : ∃ gs, wr.heap.size = gs := ⟨_, rfl⟩
            obtain ⟨W9, hW9⟩ : ∃ W9, wr.alloc (.cells #[.int .i64 (J : Int), .slice at' m ct] 38) = W9 := ⟨_, rfl⟩
            have hal : Below gs2 wr W9 := by rw [← hW9, ← hgs2]; exact (Below.refl _ _).alloc (Nat.le_refl _) _
            have hsa : ShAt W9 gs2 (J : Int) (.slice at' m ct) := by rw [← hW9, ← hgs2]; exact shAt_new _ _ _ _
            have hM9 := HM.out.below (W' := W9) (by rw [hgs2]; exact hal)
            have HZ9 : Hid (W9.heap.size = gs2 + 1) := by show _ = _; rw [← hW9, ← hgs2]; simp
            have hgot := HM.out.got.lt
            have HG2 : Hid (gf + 1 < gs2) := by show _ < _; rw [← hgs2]; exact hgot
            have HP9 := Lib.hid (HP.out.kept (P' := P6) (row := some gs2) (But.of_below hal (Nat.le_of_eq hgs2)).grown fun y hy hl => ⟨fun e => by have := Option.some.inj e; omega, hy⟩)
            have HIT := Lib.hid (hit.below (Nat.le_of_eq hgs2) hal)
            have HPT := Lib.hid hPt
            have HM9 := Lib.hid hM9
            have HSA := Lib.hid hsa
            have HJJ := Lib.hid hJ
            have HLT := Lib.hid hlt'
            obtain ⟨vk, hvk⟩ : ∃ vk, V7 t = vk := ⟨_, rfl⟩
            have qc := (hM9.got.cell t ht16).1
            have qf := (hM9.got.cell t ht16).2
            rw [hvk] at qc
            have s0 := hsa.c0
            have s1 := hsa.c1
            have HKP : Hid (∀ W, Below W9.heap.size W9 W → W.cell? ⟨gf + 1, t, none⟩ = some vk ∧ W.cell? ⟨gs2, 0, none⟩ = some (.int .i64 (J : Int)) ∧ W.cell? ⟨gs2, 1, none⟩ = some (.slice at' m ct)) :=
              fun W hb => ⟨below_cell hb qc, below_cell hb s0, below_cell hb s1⟩
            have HBD : Hid (Below W9.heap.size W9 W9.drew) := (Below.refl _ _).drew
            have HVK := Lib.hid hvk
            have HVL : Hid (∀ y, vk.ownBlock = some y → y < gs2 ∧ y ≠ gf + 1 ∧ ¬ P6 y) := fun y hy => by
              rw [← hvk] at hy
              have h1 := (HM.out.got.gs t ht16).lt y hy
              exact ⟨by omega, fun e => HM.out.got.nq t ht16 (by rw [hy, e]), HM.out.got.np t ht16 y hy⟩
            clear hit hPt hlt' hlm hal hsa hM9 hgot hJ hvk qc qf s0 s1 HP HM
            go_wp2_with fail
            clear c0 c1 hW9
            have hbig : ∀ j : Nat, 9 ≤ j → (fun j : Nat => !(decide (7 ≤ j) && decide (j ≤ 8))) j = true := fun j hj => by
              have : ¬ j ≤ 8 := by omega
              simp [this]
            have HSK := HKP.out _ HBD.out
            have HBN : Hid (Below W9.heap.size W9 (W9.drew.alloc (.cells #[.int .i64 (J : Int), .slice at' m ct] 38))) := HBD.out.alloc (Nat.le_refl _) _
            have HSN1 := HKP.out _ HBN.out
            have HAP := Lib.hid ((HM9.out.below HBN.out).app ht16 W9.heap.size (J : Int) (.slice at' m ct) lt' (shAt_new W9.drew (J : Int) (.slice at' m ct) 38).c0 (shAt_new W9.drew (J : Int) (.slice at' m ct) 38).c1 (HIT.out.below (Nat.le_refl _) HBN.out) HPT.out (Nat.lt_of_le_of_lt partsF_len (by omega)) 23)
            rw [HVK.out] at HAP
            refine region_G (fun W' => W'.cell? ⟨gf + 1, t, none⟩ = some vk ∧ W'.cell? ⟨gs2, 0, none⟩ = some (.int .i64 (J : Int)) ∧ W'.cell? ⟨gs2, 1, none⟩ = some (.slice at' m ct)) (fun j => !(decide (7 ≤ j) && decide (j ≤ 8))) rfl ?_
            refine anyG_read (i := 0) (v := ?_) rfl (by kernel_rfl) (by kernel_rfl) (by kernel_rfl) (by kernel_rfl) (by kernel_rfl) hbig (fun _ _ _ h => h) (Or.inl ⟨by rfl, ?_⟩) HSK ?_
            rotate_left
            · (intro w hSw; (try dsimp only at hSw); go_simp; (try with_reducible rfl))
            try simp only [Act.put, List.setIfInBounds_toArray, List.set_cons_zero, List.set_cons_succ]
            refine anyG_read (i := 1) (v := ?_) rfl (by kernel_rfl) (by kernel_rfl) (by kernel_rfl) (by kernel_rfl) (by kernel_rfl) hbig (fun _ _ _ h => h) (Or.inl ⟨by rfl, ?_⟩) HSK ?_
            rotate_left
            · (intro w hSw; (try dsimp only at hSw); go_simp; (try with_reducible rfl))
            try simp only [Act.put, List.setIfInBounds_toArray, List.set_cons_zero, List.set_cons_succ]
            refine anyG_read (i := 2) (v := ?_) rfl (by kernel_rfl) (by kernel_rfl) (by kernel_rfl) (by kernel_rfl) (by kernel_rfl) hbig (fun _ _ _ h => h) (Or.inl ⟨by rfl, ?_⟩) HSK ?_
            rotate_left
            · (intro w hSw; (try dsimp only at hSw); go_simp; (try with_reducible rfl))
            try simp only [Act.put, List.setIfInBounds_toArray, List.set_cons_zero, List.set_cons_succ]
            refine anyG_read (i := 3) (v := ?_) rfl (by kernel_rfl) (by kernel_rfl) (by kernel_rfl) (by kernel_rfl) (by kernel_rfl) hbig (fun _ _ _ h => h) (Or.inl ⟨by rfl, ?_⟩) HSK ?_
            rotate_left
            · (intro w hSw; (try dsimp only at hSw); go_simp; (try with_reducible rfl))
            try simp only [Act.put, List.setIfInBounds_toArray, List.set_cons_zero, List.set_cons_succ]
            refine anyG_read (i := 4) (v := ?_) rfl (by kernel_rfl) (by kernel_rfl) (by kernel_rfl) (by kernel_rfl) (by kernel_rfl) hbig (fun _ _ _ h => h) (Or.inl ⟨by rfl, ?_⟩) HSK ?_
            rotate_left
            · (intro w hSw; (try dsimp only at hSw); go_simp; (try with_reducible rfl))
            try simp only [Act.put, List.setIfInBounds_toArray, List.set_cons_zero, List.set_cons_succ]
            refine anyG_one (i := 5) (by kernel_rfl) rfl (by rfl) (fun K' hK => ?_)
            go_simp
            refine hK _ _ (fun _ => HSN1) ?_
            try simp only [Act.put, List.setIfInBounds_toArray, List.set_cons_zero, List.set_cons_succ]
            refine anyG_one (i := 6) (by kernel_rfl) rfl (by rfl) (fun K' hK => ?_)
            refine wp_appendV (.tmp 71) (.tmp 73) 23 23 rfl vk (.slice (some ⟨W9.heap.size, 0, none⟩) 1 1) rfl rfl _ HAP.out ?_
            rintro v8 W8 ⟨hmv, hgr, a8, c8, rfl⟩
            obtain ⟨n8, hn8⟩ : ∃ n8, (partsF p K2 N2 L RR i t t).length + 1 = n8 := ⟨_, rfl⟩
            rw [hn8] at hmv ⊢
            have hqb := hgr.block (gf + 1) (Nat.lt_of_lt_of_le HM9.out.got.lt HBN.out.size) (fun e => (HVL.out _ e.symm).2.1 rfl)
            have hsb := hgr.block gs2 (Nat.lt_of_lt_of_le HSA.out.lt HBN.out.size) (fun e => by have := (HVL.out _ e.symm).1; omega)
            have HSK8 : W8.cell? ⟨gf + 1, t, none⟩ = some vk ∧ W8.cell? ⟨gs2, 0, none⟩ = some (.int .i64 (J : Int)) ∧ W8.cell? ⟨gs2, 1, none⟩ = some (.slice at' m ct) := ⟨by rw [cell_blkZ hqb]; exact HSN1.1, by rw [cell_blkZ hsb]; exact HSN1.2.1, by rw [cell_blkZ hsb]; exact HSN1.2.2⟩
            have qf : W8.frozen? ⟨gf + 1, t, none⟩ = false := by rw [frozen_blkZ hqb]; exact ((HM9.out.below HBN.out).got.cell t ht16).2
            have HPA : SharesP W8 P6 (.slice (some ⟨bp, op, none⟩) N2 c6) Rl := (HP9.out.kept (P' := P6) (row := some W9.heap.size) (But.of_below HBN.out (Nat.le_refl _)).grown fun y hy hl => ⟨fun e => by have := Option.some.inj e; omega, hy⟩).kept (P' := P6) hgr fun y hy hl => ⟨fun e => (HVL.out y e).2.2 hy, hy⟩
            have HPN := Lib.hid (HPA.kept (P' := P6) (But.set W8 ⟨gf + 1, t, none⟩ (.slice a8 n8 c8)).grown fun y hy hl => ⟨fun e => HM9.out.got.pq (by have h9 : gf + 1 = y := Option.some.inj e; rw [h9]; exact hy), hy⟩)
            have HMN : Hid (∃ V, MovW w (W8.setCell ⟨gf + 1, t, none⟩ (.slice a8 n8 c8)) g gf p (K : Int) n k2 (N2 : Int) K L (i + 1) P6 V (partsF p K2 N2 L RR i (t + 1))) := ⟨_, hmv.congr fun h _ => by
              rw [← partsF_step hlt2 h, HJJ.out, HLT.out]⟩
            clear hmv hgr hqb hsb HPA hn8 HAP HSK HSN1
            refine hK _ _ (fun _ => HSK8) ?_
            try simp only [Act.put, List.setIfInBounds_toArray, List.set_cons_zero, List.set_cons_succ]
            refine anyG_pure (i := 7) (v := ?_) rfl (by kernel_rfl) (by kernel_rfl) (by kernel_rfl) (by kernel_rfl) (by rfl) (fun _ _ _ h => h) (Or.inl ⟨by rfl, ?_⟩) ?_
            rotate_left
            · (intro w hSw; go_simp; (try with_reducible rfl))
            try simp only [Act.put, List.setIfInBounds_toArray, List.set_cons_zero, List.set_cons_succ]
            have q8 := HSK8.1
            refine anyG_one (i := 8) (by kernel_rfl) rfl (by rfl) (fun K' hK => ?_)
            go_simp
            refine hK _ _ (fun h => absurd h (by decide)) ?_
            try simp only [Act.put, List.setIfInBounds_toArray, List.set_cons_zero, List.set_cons_succ]
            refine anyG_done (by kernel_rfl) ?_
            clear q8 qf HSK8
            generalize W8.setCell ⟨gf + 1, t, none⟩ (.slice a8 n8 c8) = W10 at *
            have HJN := Lib.hid (And.intro HJJ.out hlt2)
            clear HM9 HP9 HIT HPT HSA HBN HBD HKP HVL
            go_wp2_with fail
            go_roundw
            case rel => exact ⟨J, by have := HJN.out; omega, by go_num, HPN, by have := HMN.out; rwa [HJN.out.1] at this⟩
            case measure => simp [intOf]; have := HJN.out; omega
          · obtain rfl : t = N2 := by omega
            have HMN : Hid (MovW w wr g gf p (K : Int) n k2 (t : Int) K L (i + 1) P6 V7 (partsF p K2 t L RR (i + 1) 0)) := HM.out.congr fun h _ => partsF_next _ _ _ _ _ _ _
            clear HM HP
            go_wp2_with fail
            go_roundw
            case rel => exact ⟨i + 1, P6, V7, by omega, by go_num, HZN, HMN⟩
            case measure => simp [intOf]; omega
      · have n1 : (E != 0) = true := by simpa using hE0
        rw [HSN.out i (by rw [hE]; exact hE0)] at HSQ
        have hEK : splitsE p (K : Int) n p k2 (N2 : Int) L RR K = E := by
          have h1 := (HSE.out i HZE.out).trans hE
          rw [HSX.out (i + 1) (by omega) (by rw [h1]; exact hE0)]
          exact h1
        have HEK := Lib.hid hEK
        have HNE := Lib.hid hE0
        clear hi1 hi1' hs2 hal hsa hM5 hx hxl hE p0 p1 p2' q0 q1 q2 s0 s1 cr0 cr5 hEK HM
        go_wp2_with fail
        clear c0 c1 hW5
        go_region_held3 (fun W' => W'.cell? ⟨g, 0, none⟩ = some (.int .i64 p) ∧ W'.cell? ⟨g, 1, none⟩ = some (.int .i64 (K : Int)) ∧ W'.cell? ⟨g, 2, none⟩ = some (.int .i64 n) ∧ W'.cell? ⟨g + 1, 0, none⟩ = some (.int .i64 p) ∧ W'.cell? ⟨g + 1, 1, none⟩ = some (.int .i64 k2) ∧ W'.cell? ⟨g + 1, 2, none⟩ = some (.int .i64 (N2 : Int)) ∧ W'.cell? ⟨gs, 0, none⟩ = some (.int .i64 x) ∧ W'.cell? ⟨gs, 1, none⟩ = some (.slice a1 m d1) ∧ W'.cell? ⟨br, or' + i, none⟩ = some v2) (first | go_keep | exact HSK | exact HSK2)
          (first
            | (go_at_call 19; (with_reducible refine (HSQ.out W5.drew HBD.out).mono ?_); rintro e w6 ⟨v6, rfl, hsn, hb⟩; have HB6 := Lib.hid (HBD.out.trans hb); have HSK2 := HKP.out w6 HB6.out; have HS6 := Lib.hid hsn; obtain ⟨a6, c6, rfl, _⟩ := hsn; clear hb))
        have HF := Lib.hid (HM5.out.below HB6.out).pl.be
        clear HSK HSK2 HSQ HKP HBD HS6 HB6 HM5
        go_wp2
        go_ret2
        exact ⟨_, by rw [← HEK0.out, HEK.out]; rfl, by rw [← HRK0.out, HEK.out, if_neg HNE.out]; exact sharesN_nil _ _, HF.out⟩
    · have hiK : K = i := by omega
      subst hiK
      have hxe : ((List.range K).map fun j => (L.getD j (0, [])).1) = xs := List.ext_getElem (by simp [HXL.out.1]) fun j h1 h2 => by
        rw [List.length_map, List.length_range] at h1
        rw [List.getElem_map, List.getElem_range, HXL.out.2 j h1, getD_at h2]
      have hgx := row_gath (base := gf) (f := fun j => (L.getD j (0, [])).1) (HM.out.fr.congr fun j hj => by unfold plRow; rw [if_pos hj]) (Nat.le_refl _) (by unfold maxLen; omega)
      rw [hxe] at hgx
      have HIX := Lib.hid (hgx.reads (by rw [HXL.out.1]; omega))
      obtain ⟨qm, hqm⟩ : ∃ qm, wr.heap.size = qm := ⟨_, rfl⟩
      have hal : Below qm wr (wr.alloc (.cells (madeCells #[.int .i64 0, .slice none 0 0] (N2 * 2)) 38)) := by rw [← hqm]; exact (Below.refl _ _).alloc (Nat.le_refl _) _
      have HWW := Lib.hid (fun W (b : Below qm wr W) => HM.out.below (W' := W) (by rw [hqm]; exact b))
      have HPS : Hid (∃ Z, PutS (wr.alloc (.cells (madeCells #[.int .i64 0, .slice none 0 0] (N2 * 2)) 38)) g qm N2 Z (toL (rowL N2 (movV p K2 L RR K)) 0)) := by
        have h := putS_start wr g N2 38 (by have := HM.out.pl.lt; omega)
        rw [hqm] at h
        exact ⟨_, h.congr fun j _ => toL_zero _ j⟩
      have HB0 := Lib.hid hal
      have HEZ : Hid (EK = 0 ∧ RK = rowL N2 (movV p K2 L RR K)) := ⟨by rw [← HEK0.out]; exact HZE.out, by rw [← HRK0.out, if_pos HZE.out]⟩
      have HJQ : Hid (∀ t, t < N2 → ∀ W, Below qm wr W → Calls Tryd.prog 23 #[planV p (K : Int) n, planV p k2 (N2 : Int), .slice (some ⟨gf, 0, none⟩) K K, V t] W fun e w' => ∃ v', e = .returned (.tuple #[shareV ((t + 1 : Nat) : Int) v', .int .i64 0]) ∧ Gath w' W.heap.size v' (movV p K2 L RR K ((t + 1 : Nat) : Int)) ∧ Below W.heap.size W w') := fun t ht W hb => by
        have hF : partsF p K2 N2 L RR K 0 t = partsTo p K2 L RR ((t + 1 : Nat) : Int) K := by unfold partsF; rw [if_neg (by omega), if_pos ht]
        have hsh := ((HWW.out W hb).got.gs t (by omega)).shares (Nat.le_trans partsF_len (by omega))
        rw [hF] at hsh
        have hx := reshare_join p (K : Int) n p k2 (N2 : Int) (.slice (some ⟨gf, 0, none⟩) K K) (V t) xs _ W (HWW.out W hb).pl.wh HPW.out HPW.out (HIX.out.below (Nat.le_of_eq hqm) hb) hsh (fun s hs => by
          obtain ⟨j, hj, rfl⟩ := List.mem_map.1 hs
          show (dealV _ _ _ _ _).length ≤ _
          rw [dealV_len, (HIN.out j (List.mem_range.1 hj)).1]
          have := HMB.out; omega)
        rw [(HMJ.out t ht).1, (HMJ.out t ht).2] at hx
        exact hx
      unfold planV shareV at HJQ
      have HCL : Hid (∀ t, t < N2 → ∀ W, Below qm wr W → W.cell? ⟨gf + 1, t, none⟩ = some (V t)) := fun t ht W hb => ((HWW.out W hb).got.cell t (by omega)).1
      have HKQ : Hid (∀ W, Below qm wr W → W.cell? ⟨g, 0, none⟩ = some (.int .i64 p) ∧ W.cell? ⟨g, 1, none⟩ = some (.int .i64 (K : Int)) ∧ W.cell? ⟨g, 2, none⟩ = some (.int .i64 n) ∧ W.cell? ⟨g + 1, 0, none⟩ = some (.int .i64 p) ∧ W.cell? ⟨g + 1, 1, none⟩ = some (.int .i64 k2) ∧ W.cell? ⟨g + 1, 2, none⟩ = some (.int .i64 (N2 : Int))) := fun W hb => (HWW.out W hb).pl.cells
      have HGQ : Hid (g < qm ∧ Below g w wr) := ⟨by have := HM.out.pl.lt; omega, HM.out.pl.be⟩
      have hmkS := run_make_share N2 (by omega)
      obtain ⟨_, _, _, q0, q1, q2⟩ := HM.out.pl.cells
      clear hxe hgx hal HM HZE HIX HWW
      go_wp2_with fail
      clear hmkS q0 q1 q2
      generalize wr.alloc (.cells (madeCells #[.int .i64 0, .slice none 0 0] (N2 * 2)) 38) = wm at *
      obtain ⟨w0r, hw0r⟩ : ∃ x, x = wr := ⟨_, rfl⟩
      subst hw0r
      go_loopw [83] (fun c wq => ∃ (t : Nat) (Z : Nat → Int × Value), t ≤ N2 ∧ c = .int .i64 t ∧ Hid (PutS wq g qm N2 Z (toL (rowL N2 (movV p K2 L RR K)) t)) ∧ Hid (Below qm w0r wq)) (fun c _ => N2 - (intOf c).toNat)
      case atStart => obtain ⟨Z, hZ⟩ := HPS.out; exact ⟨0, Z, Nat.zero_le _, rfl, hZ, HB0⟩
      case round =>
        obtain ⟨t, Z, ht, rfl, HP, HB⟩ := hrel
        clear HPS HB0
        by_cases hlt2 : t < N2
        · have ht16 : (t : Int) < 16 := by omega
          have ht16' : t < 16 := by omega
          obtain ⟨vk, hvk⟩ : ∃ vk, V t = vk := ⟨_, rfl⟩
          have HJ := Lib.hid (HJQ.out t hlt2)
          have HC := Lib.hid (HCL.out t hlt2)
          rw [hvk] at HJ HC
          obtain ⟨J, hJJ⟩ : ∃ J, t + 1 = J := ⟨_, rfl⟩
          rw [hJJ] at HJ
          obtain ⟨mv, hmv⟩ : ∃ mv, movV p K2 L RR K ((J : Nat) : Int) = mv := ⟨_, rfl⟩
          rw [hmv] at HJ
          have HML : Hid (mv.length = m) := by show _ = _; rw [← hmv]; exact movV_len (by omega) (fun j hj => (HIN.out j hj).1) _
          have HRG : Hid ((rowL N2 (movV p K2 L RR K)).getD t (0, []) = ((J : Int), mv)) := by show _ = _; rw [rowL_get hlt2, hJJ, hmv]
          have HJR := Lib.hid (And.intro hJJ hlt2)
          have HKP : Hid (∀ W, Below qm w0r W → W.cell? ⟨g, 0, none⟩ = some (.int .i64 p) ∧ W.cell? ⟨g, 1, none⟩ = some (.int .i64 (K : Int)) ∧ W.cell? ⟨g, 2, none⟩ = some (.int .i64 n) ∧ W.cell? ⟨g + 1, 0, none⟩ = some (.int .i64 p) ∧ W.cell? ⟨g + 1, 1, none⟩ = some (.int .i64 k2) ∧ W.cell? ⟨g + 1, 2, none⟩ = some (.int .i64 (N2 : Int)) ∧ W.cell? ⟨gf + 1, t, none⟩ = some vk) := fun W hb => ⟨(HKQ.out W hb).1, (HKQ.out W hb).2.1, (HKQ.out W hb).2.2.1, (HKQ.out W hb).2.2.2.1, (HKQ.out W hb).2.2.2.2.1, (HKQ.out W hb).2.2.2.2.2, HC.out W hb⟩
          have hsq : qm ≤ wr.heap.size := Nat.le_of_lt HP.out.lt
          have HSQ := Lib.hid hsq
          have HBD : Hid (Below qm w0r wr.drew) := HB.out.drew
          have HPD : Hid (PutS wr.drew g qm N2 Z (toL (rowL N2 (movV p K2 L RR K)) t)) := HP.out.below ((Below.refl _ _).drew)
          have HFN : Hid (∀ (W : World) (v : Value), Below qm w0r W → Below qm w0r ((W.setCell ⟨qm, t * 2, none⟩ (.int .i64 (J : Int))).setCell ⟨qm, t * 2 + 1, none⟩ v)) := fun W v hb => hb.trans ((set1_below _ _ _ (Nat.le_refl _)).trans (set1_below _ _ _ (Nat.le_refl _)))
          have ht2 : (t : Int) < (N2 : Int) := by omega
          have HSK := HKP.out _ HBD.out
          clear hvk hJJ hmv hsq HP HB
          go_wp2_with fail
          go_region_held3 (fun W' => W'.cell? ⟨g, 0, none⟩ = some (.int .i64 p) ∧ W'.cell? ⟨g, 1, none⟩ = some (.int .i64 (K : Int)) ∧ W'.cell? ⟨g, 2, none⟩ = some (.int .i64 n) ∧ W'.cell? ⟨g + 1, 0, none⟩ = some (.int .i64 p) ∧ W'.cell? ⟨g + 1, 1, none⟩ = some (.int .i64 k2) ∧ W'.cell? ⟨g + 1, 2, none⟩ = some (.int .i64 (N2 : Int)) ∧ W'.cell? ⟨gf + 1, t, none⟩ = some vk) (first | go_keep | exact HSK | exact HSK2 | exact HSK3)
            (first
              | (go_at_call 23; (with_reducible refine (HJ.out wr.drew HBD.out).mono ?_); rintro e w6 ⟨v6, rfl, hgv, hb⟩; have HB6 := Lib.hid (HBD.out.trans (hb.mono HSQ.out)); have HSK2 := HKP.out w6 HB6.out; have HP6 := Lib.hid (HPD.out.below hb); have HG6 := Lib.hid hgv; obtain ⟨a6, c6, rfl⟩ := hgv.shape; have HSK3 := HKP.out _ (HFN.out w6 (.slice a6 mv.length c6) HB6.out); obtain ⟨k0, k1, f0, f1⟩ := HP6.out.row t hlt2; clear hb hgv))
          have HPN : Hid (∃ Z, PutS ((w6.setCell ⟨qm, t * 2, none⟩ (.int .i64 (J : Int))).setCell ⟨qm, t * 2 + 1, none⟩ (.slice a6 mv.length c6)) g qm N2 Z (toL (rowL N2 (movV p K2 L RR K)) J)) := by
            have h := HP6.out.put hlt2 (J : Int) (v := .slice a6 mv.length c6) (l := mv) (HG6.out.reads (by have := HML.out; have := HMB.out; omega)) (fun b hb => by
              have h1 : wr.heap.size ≤ b := (gath_lt HG6.out b hb).1
              have h2 := HSQ.out
              have h3 := HGQ.out.1
              have h4 : qm < wr.heap.size := HPD.out.lt
              exact ⟨by omega, by omega⟩)
            refine ⟨_, h.congr fun j _ => ?_⟩
            rw [toL_step HRG.out, HJR.out.1]
          have HBN := Lib.hid (HFN.out w6 (.slice a6 mv.length c6) HB6.out)
          clear HSK HSK2 HSK3 HKP HJ HC HP6 HG6 HB6 HPD HFN HBD k0 k1 f0 f1
          generalize (w6.setCell ⟨qm, t * 2, none⟩ (.int .i64 (J : Int))).setCell ⟨qm, t * 2 + 1, none⟩ (.slice a6 mv.length c6) = W7 at *
          go_wp2_with fail
          go_roundw
          case rel => obtain ⟨Z', hZ'⟩ := HPN.out; exact ⟨J, Z', by have := HJR.out; omega, by have := HJR.out.1; go_num, hZ', HBN⟩
          case measure => simp [intOf]; have := HJR.out; omega
        · have htN : N2 = t := by omega
          subst htN
          have HSF := Lib.hid (HP.out.shares (L := rowL N2 (movV p K2 L RR K)) (rowL_len _ _) (by omega) fun j hj => toL_all hj)
          have HBF := Lib.hid (HGQ.out.2.trans (HB.out.mono (by have := HGQ.out.1; omega)))
          clear HP HB
          go_wp2
          go_ret2
          exact ⟨_, by rw [HEZ.out.1]; rfl, by rw [HEZ.out.2]; exact HSF.out, HBF.out⟩
end Go.Proofs.YtomnncainedjdaaDoor
/-! The program's package reshare: Move, for any arguments. -/
namespace Go.Proofs.YtomnncainedjdaaDoor
open Go.RowKit Go.Sort
open Num
set_option linter.unusedVariables false

theorem moveE_chk {p k n p2 k2 n2 : Int} {L : List Shr} {RR : List (List Int)} (h : chkE p k n p2 k2 n2 L RR.length ≠ 0) : moveE p k n p2 k2 n2 L RR = chkE p k n p2 k2 n2 L RR.length ∧ moveR p k n p2 k2 n2 L RR = [] := by
  have e : moveE p k n p2 k2 n2 L RR = chkE p k n p2 k2 n2 L RR.length := by
    unfold moveE
    unfold chkE at h ⊢
    by_cases h1 : combE p k n L = 0
    · rw [if_pos h1] at h ⊢
      rw [if_pos h1]
      by_cases h2 : relB p k n p2 k2 n2 = true
      · rw [if_pos h2] at h ⊢
        rw [if_pos h2]
        by_cases h3 : (RR.length : Int) < k
        · rw [if_pos h3, if_pos h3]
        · rw [if_neg h3] at h; exact absurd rfl h
      · rw [if_neg h2, if_neg h2]
    · rw [if_neg h1, if_neg h1]
  exact ⟨e, by unfold moveR; rw [if_neg (by rw [e]; exact h)]⟩
/-- What is known when nothing is wrong ahead of the Splits. -/
theorem chkE_parts {p k n p2 k2 n2 : Int} {L : List Shr} {RR : List (List Int)} (h : chkE p k n p2 k2 n2 L RR.length = 0) : p = p2 ∧ planB p k n = true ∧ planB p2 k2 n2 = true ∧ goodB p n L = true ∧ k ≤ (L.length : Int) ∧ k ≤ (RR.length : Int) ∧ moveE p k n p2 k2 n2 L RR = splitsE p k n p2 k2 n2 L RR k.toNat := by
  unfold chkE at h
  by_cases h1 : combE p k n L = 0
  · rw [if_pos h1] at h
    by_cases h2 : relB p k n p2 k2 n2 = true
    · rw [if_pos h2] at h
      by_cases h3 : (RR.length : Int) < k
      · rw [if_pos h3] at h; cases h
      · obtain ⟨r1, r2, r3⟩ := relB_parts h2
        have h4 := h1
        unfold combE at h4
        by_cases h5 : planB p k n = true ∧ goodB p n L = true
        · rw [if_pos h5] at h4
          by_cases h6 : (L.length : Int) < k
          · rw [if_pos h6] at h4; cases h4
          · refine ⟨r1, r2, r3, h5.2, by omega, by omega, ?_⟩
            unfold moveE
            rw [if_pos h1, if_pos h2, if_neg h3]
        · rw [if_neg h5] at h4; cases h4
    · rw [if_neg h2] at h; cases h
  · rw [if_neg h1] at h; exact absurd h h1
theorem reshare_move (p k n p2 k2 n2 : Int) (vl vr : Value) (L : List Shr) (RR : List (List Int)) (w : World) (hw : Wheel w) (hp : (Lit.int .i64 p).wf = true) (hp2 : (Lit.int .i64 p2).wf = true) (hs : Shares w vl L) (hr : ListsI w vr RR) (hRR : ∀ r ∈ RR, r.length ≤ 1000000) :
    Calls Tryd.prog 25 #[planV p k n, planV p2 k2 n2, vl, vr] w fun e w' => ∃ v', e = .returned (.tuple #[v', .int .i64 (moveE p k n p2 k2 n2 L RR)]) ∧ SharesN w' w.heap.size v' (moveR p k n p2 k2 n2 L RR) ∧ Below w.heap.size w w' := by
  by_cases hchk : chkE p k n p2 k2 n2 L RR.length = 0
  · obtain ⟨rfl, hpb, hpb2, hg, hkl, hkr, hE⟩ := chkE_parts hchk
    obtain ⟨q1, q2, q3, q4, q5, q6⟩ := planB_parts hpb
    obtain ⟨r1, r2, r3, r4, r5, r6⟩ := planB_parts hpb2
    obtain ⟨K, rfl⟩ := Int.eq_ofNat_of_zero_le (show 0 ≤ k by omega)
    obtain ⟨N, rfl⟩ := Int.eq_ofNat_of_zero_le (show 0 ≤ n by omega)
    obtain ⟨N2, rfl⟩ := Int.eq_ofNat_of_zero_le (show 0 ≤ n2 by omega)
    obtain ⟨K2, hK2⟩ := Int.eq_ofNat_of_zero_le (show 0 ≤ k2 - 1 by omega)
    obtain rfl : k2 = (K2 : Int) + 1 := by omega
    have hR : moveR p (K : Int) (N : Int) p ((K2 : Int) + 1) (N2 : Int) L RR = if splitsE p (K : Int) (N : Int) p ((K2 : Int) + 1) (N2 : Int) L RR K = 0 then rowL N2 (movV p K2 L RR K) else [] := by
      unfold moveR
      rw [hE, Int.toNat_natCast, Int.add_sub_cancel, Int.toNat_natCast, Int.toNat_natCast]
    rw [hR, hE, Int.toNat_natCast]
    exact reshare_move_go p (K : Int) (N : Int) ((K2 : Int) + 1) (N2 : Int) K N K2 N2 vl vr L RR w hw hp hs hr hRR hpb hpb2 rfl rfl rfl rfl hg (by omega) (by omega) hchk
  · obtain ⟨e1, e2⟩ := moveE_chk hchk
    rw [e1, e2]
    unfold planV
    obtain ⟨al, cl, rfl, hL1, _⟩ := id hs
    obtain ⟨ar, cr, rfl, hR1, _⟩ := id hr
    obtain ⟨A, hA⟩ : ∃ A, L.length = A := ⟨_, rfl⟩
    obtain ⟨M, hM⟩ : ∃ M, RR.length = M := ⟨_, rfl⟩
    obtain ⟨g, hgw⟩ : ∃ g, w.heap.size = g := ⟨_, rfl⟩
    obtain ⟨w1, hw1⟩ : ∃ w1, (w.alloc (Obj.cells #[Value.int IntKind.i64 p, Value.int IntKind.i64 k, Value.int IntKind.i64 n] 30)).alloc (Obj.cells #[Value.int IntKind.i64 p2, Value.int IntKind.i64 k2, Value.int IntKind.i64 n2] 30) = w1 := ⟨_, rfl⟩
    have HA0 : Hid (Pl2 w w1 g p k n p2 k2 n2) := by rw [← hw1, ← hgw]; exact pl2_new w hw _ _ _ _ _ _ _ _
    have HCM := Lib.hid (reshare_checkMove p k n p2 k2 n2 (.slice al L.length cl) L ar RR.length cr w1 HA0.out.wh hp hp2 (hs.below (Nat.le_of_eq hgw) HA0.out.be) hR1)
    unfold planV at HCM
    rw [hM] at hchk HCM ⊢
    rw [hA] at HCM ⊢
    obtain ⟨E, hE⟩ : ∃ E, chkE p k n p2 k2 n2 L M = E := ⟨_, rfl⟩
    rw [hE] at hchk HCM ⊢
    have n1 : (E != 0) = true := by simpa using hchk
    rw [hgw]
    clear hw hp hp2 hs hr hRR hchk hE e1 e2 hL1 hR1 hA hM
    obtain ⟨p0, p1, p2', q0, q1, q2⟩ := HA0.out.cells
    go_enter Tryd.func25, Tryd.ntmps25
    go_wp2_with fail
    refine HCM.out.mono ?_
    rintro e W1 ⟨rfl, hb⟩
    have HA1 := Lib.hid (HA0.out.below hb)
    clear hb p0 p1 p2' q0 q1 q2
    go_wp2
    go_ret2
    exact ⟨_, rfl, sharesN_nil _ _, HA1.out.be⟩
end Go.Proofs.YtomnncainedjdaaDoor
