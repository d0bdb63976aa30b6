
/- Contract of the document's answer for Divide. -/
import Derived.Test.YtpgbjnenllfmlaaGreatDoorRfI
import Derived.Test.YtpgbjnenllfmlaaGreatDoorDiv
namespace Go.Proofs.YtpgbjnenllfmlaaGreatDoor
open Go.RowKit Go.Shelf Go.Sort
open Num
set_option linter.unusedVariables false

/-- Between two rounds of the document's division. -/
structure RvW (base Q : Nat) (la cR : Nat) (aR : Option Addr) (w : World) (s : List Int × List Int) (W : World) : Prop where
  gR : Gath W base (.slice aR la cR) s.1
  rQ : Row W Q s.2
  bel : Below base w W
section
variable {base Q la cR : Nat} {aR : Option Addr} {w : World} {s : List Int × List Int} {W : World}
theorem RvW.setR (h : RvW base Q la cR aR w s W) {g : Nat} (haR : aR = some ⟨g, 0, none⟩) (h1 : base ≤ g) (h2 : g < Q) (i : Nat) (v : Int) :
    RvW base Q la cR aR w (s.1.set i v, s.2) ((W.setCell ⟨g, i, none⟩ (.int .i64 v)).drew) := by
  subst haR
  have k : But g W ((W.setCell ⟨g, i, none⟩ (.int .i64 v)).drew) := (But.set W ⟨g, i, none⟩ _).trans (But.drewN _ _ 1)
  exact ⟨h.gR.set i v, World.rowIs.of_block h.rQ (k.block _ h.rQ.lt (by omega)), (h.bel.setCell (p := ⟨g, i, none⟩) h1 _).drew⟩
theorem RvW.setQ (h : RvW base Q la cR aR w s W) {g : Nat} (haR : aR = some ⟨g, 0, none⟩) (h1 : base ≤ Q) (h2 : g < Q) {i : Nat} (hi : i < s.2.length) (v : Int) :
    RvW base Q la cR aR w (s.1, s.2.set i v) (W.setCell ⟨Q, i, none⟩ (.int .i64 v)) := by
  subst haR
  have k : But Q W (W.setCell ⟨Q, i, none⟩ (.int .i64 v)) := But.set W ⟨Q, i, none⟩ _
  exact ⟨h.gR.but' k (fun g' e => by simp [Value.ownBlock] at e; omega), h.rQ.set hi v, h.bel.setCell (p := ⟨Q, i, none⟩) h1 _⟩
end
theorem dvI_down {p : Int} {a b : List Int} {n L r k : Nat} {s : List Int × List Int} (h : DvI p a b n L r s) (hd : dg s.1 = k + n + 1) : DvI p a b n L (k + 1) s := by
  have h1 := dg_upto h.top
  exact dvI_skip (by omega) h fun j hj => dg_zero _ _ (by omega)
theorem dvI_out {p : Int} {a b : List Int} {n L r : Nat} {s : List Int × List Int} (h : DvI p a b n L r s) (hd : dg s.1 ≤ n) : DvI p a b n L 0 s :=
  dvI_skip (Nat.zero_le _) h fun j hj => dg_zero _ _ (by omega)
theorem dvI_dg {p : Int} {a b : List Int} {n L k : Nat} {s : List Int × List Int} (h : DvI p a b n L k s) : dg s.1 ≤ k + n := dg_upto h.top

set_option maxRecDepth 100000 in
set_option maxHeartbeats 4000000 in
theorem ref_divide_core (p : Int) (aa ab : Option Addr) (la lb ca cb n : Nat) (a b : List Int) (w : World) (hp : PrmI p) (hp2 : p ≤ 1073741824) (ha : Els p a) (hb : Els p b)
    (hsa : Ints w (.slice aa la ca) a) (hsb : Ints w (.slice ab lb cb) b) (hla : Hid (la = a.length)) (hlb : Hid (lb = b.length)) (hn : Hid (dg b = n + 1)) (hl : la ≤ 1000) (hl2 : lb ≤ 1000) (hnl : n < lb) :
    Calls Tryz.prog 69 #[.int .i64 p, .slice aa la ca, .slice ab lb cb] w fun e w' =>
      ∃ vq vr q r, e = .returned (.tuple #[vq, vr, .int .i64 0]) ∧ Gath w' w.heap.size vq q ∧ q.length ≤ 1000 ∧ Ints w' vr r ∧ DivS p a b q r ∧ Below w.heap.size w w' := by
  have hp0 := hp.1
  have hp1 : 1 ≤ p := by omega
  have HPR := Lib.hid hp
  have hmx : Tryz.prog.follows .mixedOrders = true := by kernel_rfl
  have HDG := Lib.hid (ref_degree_any _ b w hsb (by rw [← hlb.out]; omega))
  rw [hn.out, show ((n + 1 : Nat) : Int) - 1 = (n : Int) by omega] at HDG
  have hmk := run_make_row' (P := Tryz.prog) 22 3 (.int .i64 0) 8 Tryz.underlying22 infoInt rfl .i64 .i64 la (by omega) (by omega)
  have hlt0 : decide ((n : Int) < 0) = false := decide_eq_false (by omega)
  obtain ⟨bb, ob, rfl, hcl⟩ := ints_at hsb hlb.out (k := n) hnl
  have el := els_at hp1 hb n
  have hnz := dg_top b n hn.out
  obtain ⟨lead, hlead⟩ : ∃ v, b.getD n 0 = v := ⟨_, rfl⟩
  rw [hlead] at hcl el hnz
  have hl0 : 0 < lead := by have := el.1; omega
  have HINV := Lib.hid (ref_inverse_some p lead w hp hp2 hl0 el.2)
  have hiv : Hid (iv0 p (b.getD n 0) = iv p lead) := by show _ = _; rw [hlead]; unfold iv0; rw [if_neg hnz]
  have ei := el_iv hp1 lead
  obtain ⟨inv, hinv⟩ : ∃ v, iv p lead = v := ⟨_, rfl⟩
  rw [hinv] at HINV hiv ei
  clear hinv hnz hl0 hlead el hp
  go_enter Tryz.func69, Tryz.ntmps69
  go_wp2_with (first
    | (go_at_call 70; refine HDG.out.mono ?_; rintro e w' ⟨rfl, rfl⟩)
    | (go_at_call 93; refine HINV.out.mono ?_; rintro e w' ⟨rfl, rfl⟩)
    | (at_builtin; refine append_list _ rfl _ _ rfl w.heap.size _ [] a rfl (gath_nil _ _) _ rfl hsa (by rw [← hla.out]; simp; omega) (Nat.le_refl _) ?_))
  intro vR w1 hgR hgr
  have hb1 : Below w.heap.size w w1 := (Below.refl _ _).grown hgr (Nat.le_refl _) (fun k h => by cases h)
  have hsl := hgR.slc (by rw [← hla.out]; omega)
  obtain ⟨aR, cR, rfl, hr1, hr2, -⟩ := hsl
  rw [← hla.out] at hr1 hgR ⊢
  have hb2 : Below w1.heap.size w1 (w1.alloc (.cells (madeCells #[.int .i64 0] la) 3)) := (Below.refl _ _).alloc (Nat.le_refl _) _
  have hs1 := hb1.size
  have hHD : ∀ g cap, aR = some ⟨g, 0, none⟩ → cap = 0 → True := fun _ _ _ _ => trivial
  have HG := Lib.hid hgR
  have HR0 : Hid (RvW w.heap.size w1.heap.size la cR aR w (a, List.replicate la 0) (w1.alloc (.cells (madeCells #[.int .i64 0] la) 3))) :=
    ⟨hgR.kept hb2 (Nat.le_refl _), Row.made w1 la, hb1.trans (hb2.mono hs1)⟩
  have HD0 := Lib.hid (ref_degree_any _ a _ (HR0.out.gR.reads (by show a.length ≤ _; rw [← hla.out]; omega)) (by rw [← hla.out]; omega))
  obtain ⟨Q, hQ⟩ : ∃ Q, w1.heap.size = Q := ⟨_, rfl⟩
  rw [hQ] at HR0 hs1
  have HQ := Lib.hid hQ
  clear hb1 hb2 hgR hgr hHD HDG HINV hcl
  go_wp2_with (go_at_call 70; refine HD0.out.mono ?_; rintro e w' ⟨rfl, rfl⟩)
  try rw [hQ]
  generalize w1.alloc (.cells (madeCells #[.int .i64 0] la) 3) = w2 at *
  clear HD0 hQ
  go_loopw [14, 15, 16, 58] (fun i _ _ _ wr => ∃ (r : Nat) (s : List Int × List Int), i = .int .i64 ((dg s.1 : Int) - 1) ∧ Hid (DvI p a b n la r s) ∧ Hid (RvW w.heap.size Q la cR aR w s wr)) (fun i _ _ _ _ => (intOf i + 1).toNat)
  case atStart => exact ⟨la, (a, List.replicate la 0), rfl, Lib.hid (dvI_start hp1 ha (by rw [← hla.out]; omega)), HR0⟩
  case round =>
    obtain ⟨r, s, rfl, hdv, hrv⟩ := hrel
    have hlen1 : Hid (s.1.length = la) := by show _ = _; rw [hdv.out.len1, hla.out]
    have hlen2 : Hid (s.2.length = la) := hdv.out.len2
    have hdl := dg_le s.1
    rw [hlen1.out] at hdl
    by_cases hgt : n < dg s.1
    · obtain ⟨k, hk⟩ : ∃ k, dg s.1 = k + n + 1 := ⟨dg s.1 - n - 1, by omega⟩
      have hdv1 := Lib.hid (dvI_down hdv.out hk)
      have hkn : k + n < la := by omega
      have HST : Hid (DvI p a b n la k (stepD p b n inv s k)) := by
        have h := dvI_step HPR.out hb hn.out (by omega) (by rw [← hla.out]; exact hkn) hdv1.out
        rw [hiv.out] at h; exact h
      have HDS := Lib.hid (dvI_dg HST.out)
      rw [hk, show ((k + n + 1 : Nat) : Int) - 1 = (k : Int) + (n : Int) by omega]
      obtain ⟨g, cap, hgv, hgb, hgl⟩ := HG.out.head (by rw [← hla.out]; omega)
      have hgaR : aR = some ⟨g, 0, none⟩ := by injection hgv
      rw [HQ.out] at hgl
      clear hgv
      subst hgaR
      have cR1 := hrv.out.gR.cell (i := k + n) (by rw [hlen1.out]; exact hkn)
      have fQ := hrv.out.rQ.frozen k
      have cQ1 := hrv.out.rQ.cell (i := k) (by rw [hlen2.out]; omega)
      have er := els_at hp1 hdv.out.el1 (k + n)
      have HEL := Lib.hid hdv.out.el1
      have HRQ := Lib.hid (hrv.out.setQ (g := g) rfl (by omega) hgl (i := k) (by rw [hlen2.out]; omega) (mulF p (s.1.getD (k + n) 0) inv))
      have HSTE : Hid (stepD p b n inv s k = (subN p b (mulF p (s.1.getD (k + n) 0) inv) k s.1 (n + 1), s.2.set k (mulF p (s.1.getD (k + n) 0) inv))) := rfl
      have eq := el_mul hp1 (s.1.getD (k + n) 0) inv
      have HMU : Hid (mulF p (s.1.getD (k + n) 0) inv = s.1.getD (k + n) 0 * inv % p) := rfl
      obtain ⟨rv, hrv2⟩ : ∃ rv, s.1.getD (k + n) 0 = rv := ⟨_, rfl⟩
      rw [hrv2] at cR1 er HRQ HSTE eq HMU
      obtain ⟨er0, er1⟩ := id er
      obtain ⟨ei0, ei1⟩ := id ei
      obtain ⟨m1, m2⟩ := mul_bound hp2 er0 er1 ei0 ei1
      obtain ⟨qv, hqv⟩ : ∃ qv, mulF p rv inv = qv := ⟨_, rfl⟩
      rw [hqv] at HRQ HSTE eq HMU
      have t1 : IntKind.i64.wrap ((k : Int) + (n : Int)) = (k : Int) + (n : Int) := IntWalk.i64_in _ (by omega)
      have t2 : ((k : Int) + (n : Int)).toNat = k + n := by omega
      have t3 : 0 ≤ (k : Int) + (n : Int) := by omega
      have t4 : (k : Int) + (n : Int) < (la : Int) := by omega
      have t5 : (k : Int) + (n : Int) - (n : Int) = (k : Int) := by omega
      have t6 : (n : Int) ≤ (k : Int) + (n : Int) := by omega
      have t7 : (k : Int) < (la : Int) := by omega
      have t8 : rv * inv % p = qv := HMU.out.symm
      have hkm : k + n + 1 ≤ 1001 := by omega
      clear hdv hdv1 hrv hrv2 hk hgt hqv er er0 er1 ei0 ei1 hdl
      go_wp2
      rw [t8]
      have HSL : Hid ((s.2.set k qv).length = la) := by show _ = la; rw [List.length_set]; exact hlen2.out
      generalize wr.setCell ⟨Q, k, none⟩ (.int .i64 qv) = w3 at *
      clear t8 HMU m1 m2 cR1 fQ cQ1
      go_loopw [16, 58] (fun _ c wr => ∃ j : Nat, j ≤ n + 1 ∧ c = .int .i64 j ∧ Hid (RvW w.heap.size Q la cR (some ⟨g, 0, none⟩) w (subN p b qv k s.1 j, s.2.set k qv) wr)) (fun _ c _ => n + 1 - (intOf c).toNat)
      case atStart => exact ⟨0, Nat.zero_le _, rfl, HRQ⟩
      case round =>
        obtain ⟨j, hj, rfl, HD⟩ := hrel
        by_cases hlt : j < n + 1
        · obtain ⟨b1, o1, e1', cB⟩ := ints_at (hsb.below (Nat.le_refl _) HD.out.bel) hlb.out (k := j) (by omega)
          injection e1' with e1'
          injection e1' with e1' e2'
          subst e1' e2'
          have hln : (subN p b qv k s.1 j).length = la := by rw [subN_len]; exact hlen1.out
          have cR1 := HD.out.gR.cell (i := k + j) (by show k + j < (subN p b qv k s.1 j).length; rw [hln]; omega)
          have fR1 := HD.out.gR.frozen (k + j)
          have er2 := els_at hp1 (subN_els (b := b) (q := qv) (k := k) hp1 HEL.out j) (k + j)
          have ecv := els_at hp1 hb j
          obtain ⟨cv, hcv⟩ : ∃ cv, b.getD j 0 = cv := ⟨_, rfl⟩
          obtain ⟨r2, hr2v⟩ : ∃ r2, (subN p b qv k s.1 j).getD (k + j) 0 = r2 := ⟨_, rfl⟩
          rw [hcv] at cB ecv
          dsimp only at cR1
          rw [hr2v] at cR1 er2
          have HSUB : Hid (subN p b qv k s.1 (j + 1) = (subN p b qv k s.1 j).set (k + j) (subF p r2 (qv * cv % p))) := by show _ = _; rw [← hcv, ← hr2v]; rfl
          have HR := Lib.hid (HD.out.setR (g := g) rfl (by omega) hgl (k + j) (subF p r2 (qv * cv % p)))
          dsimp only at HR
          rw [← HSUB.out] at HR
          obtain ⟨eq0, eq1⟩ := id eq
          obtain ⟨ec0, ec1⟩ := id ecv
          obtain ⟨m1, m2⟩ := mul_bound hp2 eq0 eq1 ec0 ec1
          have ez : El p (qv * cv % p) := el_mod hp1 _
          have u0 : IntKind.i64.wrap (k : Int) = (k : Int) := IntWalk.i64_in _ (by omega)
          have u1 : IntKind.i64.wrap ((k : Int) + (j : Int)) = (k : Int) + (j : Int) := IntWalk.i64_in _ (by omega)
          have u2 : ((k : Int) + (j : Int)).toNat = k + j := by omega
          have u3 : 0 ≤ (k : Int) + (j : Int) := by omega
          have u4 : (k : Int) + (j : Int) < (la : Int) := by omega
          have u5 : (j : Int) < (lb : Int) := by omega
          have u6 : IntKind.i64.wrap (qv * cv) = qv * cv := IntWalk.i64_in _ (by omega)
          have u7 : (qv * cv).tmod p = qv * cv % p := Int.tmod_eq_emod_of_nonneg m1
          have u8 : IntKind.i64.wrap (qv * cv % p) = qv * cv % p := IntWalk.i64_in _ (by have := ez.1; have := ez.2; omega)
          have u9 : ¬ p = 0 := by omega
          clear hcv hr2v HD hln HSUB
          go_wp2
          refine wp_region_still_tail 25 hmx (by kernel_rfl) ?_
          simp only [List.take_succ_cons, List.take_zero, List.drop_succ_cons, List.drop_zero, drew_def]
          repeat still_step
          still_call (still_of (ref_sub_el _ hp1 hp2 er2 ez))
          repeat still_step
          refine wpStill_nil ?_
          go_wp2
          go_roundw
          case rel => exact ⟨j + 1, by omega, by go_num, HR⟩
          case measure => simp [intOf]; omega
        · have hin : j = n + 1 := by omega
          subst hin
          rw [← HSTE.out] at HD
          have HDE := Lib.hid (ref_degree_any _ (stepD p b n inv s k).1 wr (HD.out.gR.reads (by have := HST.out.len1; rw [this, ← hla.out]; omega)) (by have := HST.out.len1; rw [this, ← hla.out]; omega))
          have hdg := HDS.out
          go_wp2_with (go_at_call 70; refine HDE.out.mono ?_; rintro e w' ⟨rfl, rfl⟩)
          go_roundw
          case rel => exact ⟨k, stepD p b n inv s k, by go_num, HST, HD⟩
          case measure => simp [intOf]; omega
    · have HDV := Lib.hid (divS_of hn.out (dvI_out hdv.out (by omega)))
      obtain ⟨d, hd⟩ : ∃ d, dg s.1 = d := ⟨_, rfl⟩
      have HSQ := Lib.hid (ref_short_any (some ⟨Q, 0, none⟩) la s.2 wr (hrv.out.rQ.reads (by rw [hlen2.out]; omega)) (by rw [hlen2.out]; omega) (by rw [hlen2.out]; omega) (by omega))
      rw [hlen2.out] at HSQ
      have HIR := Lib.hid (hrv.out.gR.reads (by rw [hlen1.out]; omega))
      have HBE := Lib.hid hrv.out.bel
      have ht : ¬ ((n : Int) ≤ (d : Int) - 1) := by rw [hd] at hgt; omega
      have ht2 : decide ((n : Int) ≤ (d : Int) - 1) = false := decide_eq_false ht
      rw [hd]
      have HL1 : Hid ((sh s.1).length ≤ 1000) := by show _ ≤ _; rw [sh_len]; omega
      have HL2 : Hid ((sh s.2).length ≤ 1000) := by show _ ≤ _; rw [sh_len]; have := dg_le s.2; rw [hlen2.out] at this; omega
      clear hdv hrv hd hgt hdl
      go_wp2_with (go_at_call 94; refine HSQ.out.mono ?_; rintro e w4 ⟨v4, rfl, hg4, hb4⟩)
      have HQI := Lib.hid (hg4.mono (B' := w.heap.size) HBE.out.size)
      have HIR4 := HIR.out.below (Nat.le_refl _) hb4
      rw [← hlen1.out] at HIR4
      have HSR := Lib.hid (ref_short_any aR cR s.1 w4 HIR4 (by rw [hlen1.out]; omega) (by rw [hlen1.out]; omega) hr2)
      rw [hlen1.out] at HSR
      have HB4 := Lib.hid (HBE.out.trans (hb4.mono HBE.out.size))
      clear HIR4 hb4 hg4
      go_wp2_with (go_at_call 94; refine HSR.out.mono ?_; rintro e w5 ⟨v5, rfl, hg5, hb5⟩)
      have HRI := Lib.hid (hg5.reads (by have := HL1.out; omega))
      have HQ5 := Lib.hid (HQI.out.kept hb5 (Nat.le_refl _))
      have HB5 := Lib.hid (HB4.out.trans (hb5.mono HB4.out.size))
      clear hg5 hb5
      go_ret3
      exact ⟨_, _, sh s.2, sh s.1, rfl, HQ5.out, HL2.out, HRI.out, HDV.out, HB5.out⟩
theorem ref_divide_err (p : Int) (va : Value) (ab : Option Addr) (lb cb : Nat) (b : List Int) (w : World) (hsb : Ints w (.slice ab lb cb) b) (hn : dg b = 0) (hl : b.length ≤ 1000000) :
    Calls Tryz.prog 69 #[.int .i64 p, va, .slice ab lb cb] w fun e w' =>
      e = .returned (.tuple #[.slice none 0 0, .slice none 0 0, .int .i64 7]) ∧ w = w' := by
  have HDG := Lib.hid (ref_degree_any _ b w hsb hl)
  rw [hn, show ((0 : Nat) : Int) - 1 = -1 from rfl] at HDG
  go_enter Tryz.func69, Tryz.ntmps69
  go_wp2_with (go_at_call 70; refine HDG.out.mono ?_; rintro e w' ⟨rfl, rfl⟩)
  go_ret3
  exact ⟨rfl, rfl⟩
theorem ref_divide_own (p : Int) (sa sb : Value) (n : Nat) (a b : List Int) (w : World) (hp : PrmI p) (hp2 : p ≤ 1073741824) (ha : Els p a) (hb : Els p b)
    (hsa : Ints w sa a) (hsb : Ints w sb b) (hn : dg b = n + 1) (hl : a.length ≤ 1000) (hl2 : b.length ≤ 1000) :
    Calls Tryz.prog 69 #[.int .i64 p, sa, sb] w fun e w' =>
      ∃ vq vr q r, e = .returned (.tuple #[vq, vr, .int .i64 0]) ∧ Gath w' w.heap.size vq q ∧ q.length ≤ 1000 ∧ Ints w' vr r ∧ DivS p a b q r ∧ Below w.heap.size w w' := by
  obtain ⟨aa, ca, rfl, _, _⟩ := id hsa
  obtain ⟨ab, cb, rfl, _, _⟩ := id hsb
  have h := dg_le b
  have h2 : n < b.length := by omega
  exact ref_divide_core p aa ab a.length b.length ca cb n a b w hp hp2 ha hb hsa hsb (Lib.hid rfl) (Lib.hid rfl) (Lib.hid hn) hl hl2 h2
theorem ref_divide_any (p : Int) (sa sb : Value) (n : Nat) (a b : List Int) (w : World) (hp : PrmI p) (hp2 : p ≤ 1073741824) (ha : Els p a) (hb : Els p b)
    (hsa : Ints w sa a) (hsb : Ints w sb b) (hn : dg b = n + 1) (hl : a.length ≤ 1000) (hl2 : b.length ≤ 1000) :
    Calls Tryz.prog 69 #[.int .i64 p, sa, sb] w fun e w' =>
      ∃ vq vr q r, e = .returned (.tuple #[vq, vr, .int .i64 0]) ∧ Ints w' vq q ∧ Ints w' vr r ∧ DivS p a b q r ∧ Below w.heap.size w w' := by
  refine (ref_divide_own p sa sb n a b w hp hp2 ha hb hsa hsb hn hl hl2).mono ?_
  rintro e w' ⟨vq, vr, q, r, rfl, h1, h2, h3, h4, h5⟩
  exact ⟨vq, vr, q, r, rfl, h1.reads (by omega), h3, h4, h5⟩
end Go.Proofs.YtpgbjnenllfmlaaGreatDoor
