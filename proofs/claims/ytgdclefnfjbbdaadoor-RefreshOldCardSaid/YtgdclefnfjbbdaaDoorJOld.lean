
/- The walk through RefreshOld. -/
import Derived.Test.YtgdclefnfjbbdaaDoorJLaw
import Derived.Deep.RegionHeld3
namespace Go.Proofs.YtgdclefnfjbbdaaDoor
open Go.RowKit Go.Sort
open Num
set_option linter.unusedVariables false

theorem SharesN.atN {w : World} {base : Nat} {a : Option Addr} {n c : Nat} {L : List Shr} (h : SharesN w base (.slice a n c) L) {i : Nat} (hi : i < n) : ∃ b off v, a = some ⟨b, off, none⟩ ∧ w.cell? ⟨b, off + i * 2, none⟩ = some (.int .i64 (L.getD i (0, [])).1) ∧ w.cell? ⟨b, off + i * 2 + 1, none⟩ = some v ∧ Ints w v (L.getD i (0, [])).2 ∧ ∀ g, v.ownBlock = some g → base ≤ g := by
  obtain ⟨a', c', hv, _, _, _, hx⟩ := h
  simp only [Value.slice.injEq] at hv
  obtain ⟨rfl, rfl, rfl⟩ := hv
  obtain ⟨b, off, rfl, _, hc⟩ := hx (fun e => by subst e; simp at hi)
  obtain ⟨v, h1, h2, h3, h4⟩ := hc i hi
  exact ⟨b, off, v, rfl, h1, h2, h3, h4⟩
theorem PutS.mono {W : World} {g g' q n : Nat} {Z : Nat → Int × Value} {f : Nat → Shr} (h : PutS W g q n Z f) (hg : g' ≤ g) : PutS W g' q n Z f :=
  ⟨h.row, fun i hi => ⟨(h.val i hi).1, (h.val i hi).2.1, fun b hb => ⟨Nat.le_trans hg ((h.val i hi).2.2 b hb).1, ((h.val i hi).2.2 b hb).2⟩⟩, Nat.le_trans hg h.lo, h.lt⟩
section
variable {w0 W : World} {b gp : Nat} {s : Value} {l : List Int} {p : Int} {K N : Nat} {G : List (Value × List Int)} {M : List (Value × List Shr)}
theorem Lw.apply_put (h : Lw w0 W b gp s l p ((K : Int) + 1) (N : Int) G M) (q : Pf p K N) {v z : Value} {S T : List Int} {f g : Nat → List Int} {V U : Int → List Int} (hv : (v, rowL N V) ∈ M) (hz : (z, rowL N U) ∈ M) (h1 : SecV p (K + 1) S f V) (h2 : SecV p (K + 1) T g U) (hl : T.length = S.length) (hm : S.length ≤ 100) :
    Calls Tryd.prog 23 #[.agg #[.int .i64 p, .int .i64 ((K : Int) + 1), .int .i64 (N : Int)], v, z] W fun e w' => ∃ c X, e = .returned (.tuple #[.slice (some ⟨c, 0, none⟩) N N, .int .i64 0]) ∧ Lw w0 w' b gp s l p ((K : Int) + 1) (N : Int) G M ∧ W.heap.size ≤ c ∧ PutS w' (b + 1) c N X (fun i => (rowL N (addV p V U)).getD i (0, [])) ∧ Below W.heap.size W w' := by
  have hx := refresh_apply_put p ((K : Int) + 1) (N : Int) v z _ _ W h.st.wh q.wf (h.getM hv).shares (h.getM hz).shares
  have hk := ap_row (p := p) (k := (K : Int) + 1) (n := (N : Int)) q.pl rfl h1 h2 hl (by omega)
  rw [hk.1, hk.2, apL_row, rowL_len] at hx
  exact hx.mono fun e w' ⟨v', h1, h2, h3, h4⟩ => by
    obtain ⟨c, X, rfl, h5, h6⟩ := h4 rfl
    exact ⟨c, X, h1, h.below h3, h5, h6.mono h.sz, h3⟩
/-- One share of the list is put in the place of another. -/
theorem Lw.put (h : Lw w0 W b gp s l p ((K : Int) + 1) (N : Int) G M) {c : Nat} {X : Nat → Int × Value} {L : List Shr} (hc : gp < c) (hX : PutS W (b + 1) c N X (fun i => L.getD i (0, []))) (hL : L.length = N) (hN : N ≤ 1000) {j : Nat} (hj : j < N) (x : Int) {v : Value} {y : List Int} (hv : Ints W v y) (hb : ∀ g, v.ownBlock = some g → b + 1 ≤ g ∧ g ≠ c) :
    Lw w0 ((W.setCell ⟨c, j * 2, none⟩ (.int .i64 x)).setCell ⟨c, j * 2 + 1, none⟩ v) b gp s l p ((K : Int) + 1) (N : Int) [] [(.slice (some ⟨c, 0, none⟩) N N, L.set j (x, y))] := by
  have hbe : Below c W ((W.setCell ⟨c, j * 2, none⟩ (.int .i64 x)).setCell ⟨c, j * 2 + 1, none⟩ v) := (set1_below _ _ _ (Nat.le_refl _)).trans (set1_below _ _ _ (Nat.le_refl _))
  have h1 := h.st.lt
  have h2 := h.st.sz
  have h3 := h.st.ta
  refine ⟨⟨h.st.di.below hbe (by omega), h.st.pl.below hc hbe, h.st.wh.below (by omega) hbe, h.st.be.trans (hbe.mono (by omega)), h.st.lt, Nat.lt_of_lt_of_le h2 hbe.size, h.st.ta⟩, fun x hx => by simp at hx, fun z hz => ?_⟩
  simp only [List.mem_singleton] at hz
  subst hz
  refine (hX.put hj x hv hb).shares (by rw [List.length_set]; exact hL) hN fun i hi => ?_
  by_cases e : i = j
  · subst e; rw [if_pos rfl]; simp [List.getD, hL, hi]
  · rw [if_neg e]; simp [List.getD, Ne.symm e]
end
set_option maxRecDepth 100000 in
set_option maxHeartbeats 16000000 in
theorem refreshOld_walk (s : Value) (l : List Int) (xw : Int) (w : World) (hw : Wheel w) (hs : Ints w s l) (hxw : (Lit.int .i64 xw).wf = true) :
    Calls Tryd.prog 7 #[s, .int .i64 xw] w fun e w' => e = .returned (.bool true) ∧ Below w.heap.size w w' := by
  have HL := Lib.hid (light_any s l w hs)
  have HAW := Lib.hid (awake8_any w hw)
  obtain ⟨g, hg⟩ : ∃ g, w.heap.size = g := ⟨_, rfl⟩
  have hd0 := dice_new hs
  have hta : 0 < g := by rw [← hg]; exact hw.size
  obtain ⟨bl, hbl⟩ : ∃ b, decide ((l.length : Int) ≤ 500) = b := ⟨_, rfl⟩
  rw [hbl] at HL
  have HR := Lib.hid (roll_any s w (by obtain ⟨a, c, h, _⟩ := hs; exact ⟨a, _, c, h⟩))
  rw [hg] at HR hd0
  rw [hg]
  have HW0 := Lib.hid (hw.below hw.size ((Below.refl w.heap.size w).alloc (Nat.le_refl _) (.cells #[s, .int .i64 0] 59)))
  have HB0 : Hid (Below g w (w.alloc (.cells #[s, .int .i64 0] 59))) := by rw [← hg]; exact (Below.refl _ _).alloc (Nat.le_refl _) _
  have HD0 := Lib.hid hd0
  clear hd0 hw hs hbl
  cases bl with
  | false =>
    go_enter Tryd.func7, Tryd.ntmps7
    go_wp2_with fail
    refine HL.out.mono ?_
    rintro e w' ⟨rfl, rfl⟩
    go_wp2_with fail
    refine HAW.out.mono ?_
    rintro e w' ⟨rfl, hb⟩
    rw [hg] at hb
    have HB := Lib.hid hb
    clear hb
    go_wp2
    go_ret
    exact ⟨rfl, HB.out⟩
  | true =>
    go_enter Tryd.func7, Tryd.ntmps7
    go_wp2_with fail
    refine HL.out.mono ?_
    rintro e w' ⟨rfl, rfl⟩
    go_wp2_with fail
    refine HR.out.mono ?_
    rintro e w1 ⟨rfl, rfl⟩
    generalize w.alloc (.cells #[s, .int .i64 0] 59) = w1 at *
    go_wp2_with fail
    refine (prime_any g s l w1 HD0.out).mono ?_
    rintro e w2 ⟨p, hprm, hp2, rfl, hd2, hb2⟩
    have HPRM := Lib.hid hprm
    have hpp : 2 ≤ p := by have := hprm.1; omega
    have HP2 := Lib.hid hp2
    have HD2 := Lib.hid hd2
    have HB2 := Lib.hid (HB0.out.trans (hb2.below (Nat.le_refl _) (Nat.le_of_lt HD0.out.size)))
    have HW2 := Lib.hid (HW0.out.below hta (hb2.below (Nat.le_refl _) (Nat.le_of_lt HD0.out.size)))
    clear hb2 hd2 hprm HD0 HB0 HW0 HL HR
    go_wp2_with fail
    refine (plan_any g s l p w2 HD2.out hpp (by omega)).mono ?_
    rintro e w3 ⟨k, n, rfl, hk1, hkn, hn7, hnp, hd3, hb3⟩
    have hplb : planB p k n = true := planB_of HPRM.out (by have := HP2.out; omega) hk1 hkn (by omega) hnp
    obtain ⟨K, hK⟩ := Int.eq_ofNat_of_zero_le (show 0 ≤ k - 1 by omega)
    obtain ⟨N, rfl⟩ := Int.eq_ofNat_of_zero_le (show 0 ≤ n by omega)
    obtain rfl : k = (K : Int) + 1 := by omega
    have HQ : Hid (Pf p K N) := ⟨HPRM.out, by have := HP2.out; omega, hplb, ⟨by omega, by omega⟩, hnp⟩
    have hb3' := hb3.below (Nat.le_refl _) (Nat.le_of_lt HD2.out.size)
    have hg3 : g < w3.heap.size := hd3.size
    have hST : StL w (w3.alloc (.cells #[.int .i64 p, .int .i64 ((K : Int) + 1), .int .i64 (N : Int)] 30)) g w3.heap.size s l p ((K : Int) + 1) (N : Int) := by
      have hal : Below w3.heap.size w3 (w3.alloc (.cells #[.int .i64 p, .int .i64 ((K : Int) + 1), .int .i64 (N : Int)] 30)) := (Below.refl _ _).alloc (Nat.le_refl _) _
      exact ⟨hd3.below hal hg3, planAt_new _ _ _ _ _, (HW2.out.below hta hb3').below (by omega) hal, (HB2.out.trans hb3').trans (hal.mono (by omega)), hg3, by simp, hta⟩
    have HST := Lib.hid hST
    clear hST hb3 hb3' hg3 hd3 HB2 HW2 HD2 hK hk1 hkn hn7 hnp hp2 hplb HPRM HP2 hpp
    unfold planV
    go_wp2_with fail
    obtain ⟨gp, hgp⟩ : ∃ gp, w3.heap.size = gp := ⟨_, rfl⟩
    rw [hgp] at HST ⊢
    generalize w3.alloc (.cells #[.int .i64 p, .int .i64 ((K : Int) + 1), .int .i64 (N : Int)] 30) = w4 at *
    clear hgp
    have HX4 : Hid (Lw w w4 g gp s l p ((K : Int) + 1) (N : Int) [] []) := ⟨HST.out, fun x hx => by simp at hx, fun x hx => by simp at hx⟩
    have c0 := HST.out.pl.c0
    have c1 := HST.out.pl.c1
    have c2 := HST.out.pl.c2
    have HDE := Lib.hid (HX4.out.dealt HQ.out 2 (by omega))
    clear HST
    go_wp2_with fail
    refine HDE.out.mono ?_
    rintro e w5 ⟨v1, v2, S, R, rfl, hS1, hS3, hSE, hX5⟩
    have HX5 := Lib.hid hX5
    have HSS : Hid (1 ≤ S.length ∧ S.length ≤ 2) := ⟨hS1, hS3⟩
    have HSE := Lib.hid hSE
    have HSVL := Lib.hid (secV_deal (K := K) (r := R) HQ.out.p1 hSE)
    have hg5 := hX5.getG (v := v1) (z := S) (by simp)
    have hn5 := hX5.getM (v := v2) (L := rowL N (dealV p K S R)) (by simp)
    obtain ⟨aS, cS, rfl⟩ := hg5.shape
    obtain ⟨aL, cL, rfl, _, _⟩ := hn5.shape
    rw [rowL_len] at HX5 ⊢
    obtain ⟨c, hc⟩ : ∃ c, S.length = c := ⟨_, rfl⟩
    have HCC := Lib.hid hc
    rw [hc] at HX5 ⊢
    obtain ⟨c0, c1, c2⟩ := HX5.out.cells
    clear hX5 hS1 hS3 hSE hg5 hn5 hc HDE HX4
    obtain ⟨Z, hZ⟩ : ∃ Z, c * K = Z := ⟨_, rfl⟩
    have HZZ := Lib.hid hZ
    have hc2 : c ≤ 2 := by rw [← HCC.out]; exact HSS.out.2
    have hc1 : 1 ≤ c := by rw [← HCC.out]; exact HSS.out.1
    have hzb : Z ≤ 1000000 := by
      have h1 : c * K ≤ 2 * 7 := Nat.mul_le_mul hc2 (by have := HQ.out.kn; omega)
      omega
    have HXD := Lib.hid HX5.out.drew
    clear hZ
    go_wp2_with fail
    clear c0 c1 c2
    have HSK := HXD.out.cells
    go_region_held3 (fun W' => W'.cell? ⟨gp, 0, none⟩ = some (.int .i64 p) ∧ W'.cell? ⟨gp, 1, none⟩ = some (.int .i64 ((K : Int) + 1)) ∧ W'.cell? ⟨gp, 2, none⟩ = some (.int .i64 (N : Int))) (first | go_keep | exact HSK)
      (first
        | (go_at_call 17; refine (HXD.out.random HQ.out HZZ.out (by omega)).mono ?_; rintro e w7 ⟨rfl, hX⟩; have HX7 := Lib.hid hX; have HSK := hX.cells; clear hX)
        | (go_at_call 16; refine (HX7.out.elements HQ.out Z hzb).mono ?_; rintro e w8 ⟨v8, R2, rfl, hrl, hre, hX⟩; have HX8 := Lib.hid hX; have HSK := hX.cells; have HRL := Lib.hid hrl; have HRE := Lib.hid hre; clear hX hrl hre)
        | (go_at_call 19; refine (HX8.out.zero HQ.out HZZ.out (by omega) (vr := v8) (R := R2) (by simp) HRL.out HRE.out).mono ?_; rintro e w9 ⟨v9, rfl, hX⟩; have HX9 := Lib.hid hX; have HSK := hX.cells; clear hX))
    have HSVZ := Lib.hid (secV_deal (K := K) (r := R2) HQ.out.p1 (els_zeroL HQ.out.p1 c))
    have HTL : Hid ((List.replicate c (0 : Int)).length = c) := by show _ = _; rw [List.length_replicate]
    obtain ⟨aZ, cZ, rfl, _, _⟩ := (HX9.out.getM (v := v9) (L := rowL N (dealV p K (List.replicate c 0) R2)) (by simp)).shape
    rw [rowL_len] at HX9 ⊢
    obtain ⟨c0, c1, c2⟩ := HX9.out.cells
    clear HSK HX8 HX7 HXD HX5
    go_wp2_with fail
    refine (HX9.out.apply_put HQ.out (v := .slice aL N cL) (z := .slice aZ N cZ) (V := dealV p K S R) (U := dealV p K (List.replicate c 0) R2) (by simp) (by simp) HSVL.out HSVZ.out (by rw [HTL.out, HCC.out]) (by rw [HCC.out]; omega)).mono ?_
    rintro e w10 ⟨qm, X, rfl, hX, hqm, hput, hb10⟩
    have HX10 := Lib.hid hX
    have HPUT := Lib.hid hput
    have HQM := Lib.hid hqm
    have HB10 := Lib.hid hb10
    have n1 : ((N : Int) != (N : Int)) = false := by simp
    clear hX hput hqm hb10 c0 c1 c2
    go_wp2_with fail
    refine (mod_el w10 (p := (N : Int)) (by have := HQ.out.kn; omega) (by have := HQ.out.kn; omega)).mono ?_
    rintro e w' ⟨kv, hkv, rfl, rfl⟩
    obtain ⟨j, rfl⟩ := Int.eq_ofNat_of_zero_le hkv.1
    have hjN : j < N := by have := hkv.2; omega
    clear hkv
    have HZ9 := Lib.hid (HX10.out.getM (v := .slice aZ N cZ) (L := rowL N (dealV p K (List.replicate c 0) R2)) (by simp)).shares
    obtain ⟨bz, oz, vz, rfl, z0, z1, hiz⟩ := HZ9.out.at hjN
    rw [rowL_get hjN] at z0 hiz
    simp only at z0 hiz
    obtain ⟨H, hH⟩ : ∃ H : Int, ((j + 1 : Nat) : Int) = H := ⟨_, rfl⟩
    rw [hH] at z0 hiz
    obtain ⟨T, hT⟩ : ∃ T, dealV p K (List.replicate c 0) R2 H = T := ⟨_, rfl⟩
    rw [hT] at hiz
    have hTl : T.length = c := by rw [← hT, dealV_len, List.length_replicate]
    obtain ⟨ax, cx, rfl⟩ := hiz.shape
    rw [hTl] at hiz z1
    have HIZ := Lib.hid hiz
    have HTT := Lib.hid hTl
    have HOF := Lib.hid (old_fits (p := p) (k := (K : Int) + 1) (n := (N : Int)) (K := K + 1) (N := N) (j := j) HQ.out.pl (by push_cast; rfl) rfl HSVL.out HSVZ.out (by rw [HTL.out, HCC.out]) (by rw [HCC.out]; omega) hjN (by rw [HCC.out]; exact hc1))
    rw [hH, hT] at HOF
    obtain ⟨bl, ol, vl, hal, l0, l1, hil, hlo⟩ := (HX9.out.getM (v := .slice aL N cL) (L := rowL N (dealV p K S R)) (by simp)).atN hjN
    subst hal
    rw [rowL_get hjN] at l0 hil
    simp only at l0 hil
    rw [hH] at l0 hil
    have hvl : (dealV p K S R H).length = c := by rw [dealV_len, HCC.out]
    obtain ⟨ay, cy, rfl⟩ := hil.shape
    have hblk : ∀ g', (Value.slice ay (dealV p K S R H).length cy).ownBlock = some g' → g + 1 ≤ g' ∧ g' ≠ qm := fun g' hg' => by
      have h1 := hlo g' hg'
      have h2 := hil.blk g' hg' (fun e => by rw [e] at hvl; simp at hvl; omega)
      have h3 := HQM.out
      omega
    rw [hvl] at l1 hil hblk
    have HBK := Lib.hid hblk
    have HIL := Lib.hid (hil.below (Nat.le_refl _) HB10.out)
    have l0' : w10.cell? ⟨bl, ol + j * 2, none⟩ = some (.int .i64 H) := by rw [HB10.out.cell (p := ⟨bl, ol + j * 2, none⟩) (cell_lt l0)]; exact l0
    have l1' : w10.cell? ⟨bl, ol + j * 2 + 1, none⟩ = some (.slice ay c cy) := by rw [HB10.out.cell (p := ⟨bl, ol + j * 2 + 1, none⟩) (cell_lt l1)]; exact l1
    have HL0 := Lib.hid l0'
    have HL1 := Lib.hid l1'
    have HGQ : Hid (gp < qm) := by have h1 := HX9.out.st.sz; have h2 := HQM.out; show _ < _; omega
    have HHH := Lib.hid hH
    clear hiz hTl hT hH z0 l0 l1 hil hlo hvl hblk l0' l1' HX9 HZ9
    go_wp2_with fail
    clear z1
    go_loop [14, 16, 85] (fun b _ i => ∃ t : Nat, t ≤ c ∧ i = .int .i64 t ∧ ∃ y : Bool, b = .bool y ∧ Hid (y = (T.take t).any (· != 0))) (fun _ _ i => c - (intOf i).toNat)
    case atStart => exact ⟨0, Nat.zero_le _, rfl, false, rfl, rfl⟩
    case round =>
      obtain ⟨t, ht, rfl, y, rfl, HY⟩ := hrel
      by_cases hlt : t < c
      · obtain ⟨bx, ox, rfl, cx0⟩ := HIZ.out.pos hlt
        obtain ⟨x, hx⟩ : ∃ x, T.getD t 0 = x := ⟨_, rfl⟩
        rw [hx] at cx0
        obtain ⟨z, hz⟩ : ∃ z, (x != 0) = z := ⟨_, rfl⟩
        have HN : Hid ((y || z) = (T.take (t + 1)).any (· != 0)) := by
          show _ = _
          rw [List.take_add_one, List.any_append, ← HY.out, List.getElem?_eq_getElem (by rw [HTT.out]; exact hlt), ← hz, ← hx, getD_lt (by rw [HTT.out]; exact hlt)]
          simp
        clear hx
        cases y with
        | true =>
          go_wp2_with fail
          go_round
          case rel => exact ⟨t + 1, by omega, by go_num, true, rfl, HN⟩
          case measure => simp [intOf]; omega
        | false =>
          go_wp2_with fail
          go_round
          case rel => exact ⟨t + 1, by omega, by go_num, _, rfl, HN⟩
          case measure => simp [intOf]; omega
      · obtain rfl : t = c := by omega
        have hy : T.any (· != 0) = y := by rw [HY.out, List.take_of_length_le (by rw [HTT.out]; omega)]
        rw [hy] at HOF
        obtain ⟨x0, x1, f0, f1⟩ := HPUT.out.row j hjN
        have x2 : (w10.setCell ⟨qm, j * 2, none⟩ (.int .i64 H)).cell? ⟨qm, j * 2 + 1, none⟩ = some (X j).2 := by rw [World.cell?_setCell_other _ _ _ _ (by simp)]; exact x1
        have l0 := HL0.out
        have l1 := HL1.out
        have HX11 := Lib.hid (HX10.out.put HGQ.out HPUT.out (rowL_len N _) (by have := HQ.out.kn; omega) hjN H HIL.out HBK.out)
        obtain ⟨d0, d1, d2⟩ := HX11.out.cells
        clear HY hy
        go_upto_region 18 with (fail)
        clear x0 x1 f0 f1 x2 l0 l1
        generalize (w10.setCell ⟨qm, j * 2, none⟩ (.int .i64 H)).setCell ⟨qm, j * 2 + 1, none⟩ (.slice ay t cy) = w11 at *
        by_cases hnk : (N : Int) = (K : Int) + 1
        · rw [decide_eq_true hnk, Bool.or_true] at HOF
          have e1 : ((N : Int) == (K : Int) + 1) = true := by simpa using hnk
          have HKK := Lib.hid hnk
          clear hnk
          cases y <;>
          · go_wp2_with fail
            refine (HX11.out.fits HQ.out (z := .slice (some ⟨qm, 0, none⟩) N N) (by simp) HOF.out).mono ?_
            rintro e w12 ⟨rfl, hX⟩
            have HX12 := Lib.hid hX
            obtain ⟨c0, c1, c2⟩ := hX.cells
            clear hX d0 d1 d2
            go_wp2_with fail
            refine HX12.out.awake.mono ?_
            rintro e w15 ⟨rfl, hb⟩
            have HB := Lib.hid hb
            clear hb c0 c1 c2
            go_wp2
            go_ret
            exact ⟨rfl, HB.out⟩
        · rw [decide_eq_false hnk, Bool.or_false] at HOF
          have e1 : ((N : Int) == (K : Int) + 1) = false := by simpa using hnk
          have HKK := Lib.hid hnk
          clear hnk
          cases y <;>
          · go_wp2_with fail
            refine (HX11.out.fits HQ.out (z := .slice (some ⟨qm, 0, none⟩) N N) (by simp) HOF.out).mono ?_
            rintro e w12 ⟨rfl, hX⟩
            have HX12 := Lib.hid hX
            obtain ⟨c0, c1, c2⟩ := hX.cells
            clear hX d0 d1 d2
            go_wp2_with fail
            refine HX12.out.awake.mono ?_
            rintro e w15 ⟨rfl, hb⟩
            have HB := Lib.hid hb
            clear hb c0 c1 c2
            go_wp2
            go_ret
            exact ⟨rfl, HB.out⟩
end Go.Proofs.YtgdclefnfjbbdaaDoor
