
/- The walk of ShareCombines: its beginning. -/
import Derived.Test.YtbfkkdbniallnaaDoorHOdd
import Derived.Test.YtbfkkdbniallnaaDoorHDlt
import Derived.Test.YtbfkkdbniallnaaDoorHHLaw
namespace Go.Proofs.YtbfkkdbniallnaaDoor
open Go.RowKit Go.Sort
open Num
set_option linter.unusedVariables false

/-- A list of shares that a statement holds: from before the dice, or made since. -/
def LstX (w1 W : World) (g : Nat) (v : Value) (X : List Shr) : Prop := Shares w1 v X ∨ SharesN W (g + 1) v X
theorem LstX.but {w1 W W' : World} {g : Nat} {v : Value} {X : List Shr} (h : LstX w1 W g v X) (k : But g W W') : LstX w1 W' g v X := by
  rcases h with h1 | h1
  · exact .inl h1
  · exact .inr (h1.but k (Nat.lt_succ_self g))
theorem LstX.shares {w1 W : World} {g : Nat} {v : Value} {X : List Shr} (h : LstX w1 W g v X) (b : Below g w1 W) (hg : w1.heap.size ≤ g) : Shares W v X := by
  rcases h with h1 | h1
  · exact h1.below hg b
  · exact h1.shares
def LstK (w1 W : World) (g : Nat) (v : Value) : Prop := ∃ X : List Shr, LstX w1 W g v X ∧ X.length ≤ 100 ∧ ∀ x ∈ X, x.2.length ≤ 100001
theorem LstK.but {w1 W W' : World} {g : Nat} {v : Value} (h : LstK w1 W g v) (k : But g W W') : LstK w1 W' g v := by
  obtain ⟨X, h1, h2, h3⟩ := h
  exact ⟨X, h1.but k, h2, h3⟩
theorem LstK.ofN {w1 W : World} {g B : Nat} {v : Value} {X : List Shr} (h : SharesN W B v X) (hB : g + 1 ≤ B) (h2 : X.length ≤ 100) (h3 : ∀ x ∈ X, x.2.length ≤ 100001) : LstK w1 W g v := ⟨X, .inr (h.mono hB), h2, h3⟩
theorem shares_one {W : World} {ad : Nat} {h : Int} {v : Value} {l : List Int} (c0 : W.cell? ⟨ad, 0, none⟩ = some (.int .i64 h)) (c1 : W.cell? ⟨ad, 1, none⟩ = some v) (hI : Ints W v l) : Shares W (.slice (some ⟨ad, 0, none⟩) 1 1) [(h, l)] := by
  refine ⟨_, 1, rfl, by simp, by simp, by omega, fun _ => ⟨ad, 0, rfl, fun i hi => ?_⟩⟩
  obtain rfl : i = 0 := by simpa using hi
  exact ⟨v, c0, c1, hI⟩
theorem ShAt.belowB {w w' : World} {g B : Nat} {h : Int} {v : Value} (hs : ShAt w g h v) (b : Below B w w') (hB : g < B) : ShAt w' g h v := by
  obtain ⟨t, hs⟩ := hs
  exact ⟨t, by rw [b.block g hB]; exact hs⟩
theorem addR_len (p k n : Int) (a b : Shr) : (addR p k n a b).2.length ≤ a.2.length + b.2.length := by
  unfold addR
  split
  · simp only; rw [linF_len]; omega
  · simp
theorem same_lits (W : World) {x y : Nat} {h : Int} {v v' : Value} {l : List Int} (a : ShAt W x h v) (ai : Ints W v l) (b : ShAt W y h v') (bi : Ints W v' l) :
    Calls Tryd.prog 22 #[.slice (some ⟨x, 0, none⟩) 1 1, .slice (some ⟨y, 0, none⟩) 1 1] W fun e w' => e = .returned (.bool true) ∧ Below W.heap.size W w' :=
  sameS_yes _ _ [(h, l)] W (shares_one a.c0 a.c1 ai) (shares_one b.c0 b.c1 bi)
theorem ShAt.allocB {w : World} {g : Nat} {h : Int} {v : Value} (hs : ShAt w g h v) (o : Obj) : ShAt (w.alloc o) g h v :=
  hs.belowB ((Below.refl w.heap.size w).alloc (Nat.le_refl _) o) (by obtain ⟨t, hs⟩ := hs; exact block_lt hs)
theorem Ints.allocB {w : World} {v : Value} {l : List Int} (h : Ints w v l) (o : Obj) : Ints (w.alloc o) v l :=
  h.below (Nat.le_refl _) ((Below.refl w.heap.size w).alloc (Nat.le_refl _) o)
theorem shAt_new1 (w : World) (o : Obj) (h : Int) (v : Value) (t : TypeId) : ShAt ((w.alloc o).alloc (.cells #[.int .i64 h, v] t)) (w.heap.size + 1) h v := by
  have h1 := shAt_new (w.alloc o) h v t
  rwa [show (w.alloc o).heap.size = w.heap.size + 1 by simp] at h1
/-- What stands when the lists are laid. -/
structure CbS (w1 W : World) (g gp go A : Nat) (s : Value) (l : List Int) (p k n k2 : Int) (v : Value) (D : List Shr) (V : Nat → Value) : Prop where
  st : StL w1 W g gp s l p k n
  ot : PlanR W go p k2 n
  lt : g < go
  sh : SharesN W (g + 1) v D
  ar : ∀ j, j < 5 → W.cell? ⟨A, j, none⟩ = some (V j)
  la : g < A
  sa : A < W.heap.size
  ls : ∀ j, j < 5 → LstK w1 W g (V j)
theorem CbS.but {w1 W W' : World} {g gp go A : Nat} {s : Value} {l : List Int} {p k n k2 : Int} {v : Value} {D : List Shr} {V : Nat → Value} (h : CbS w1 W g gp go A s l p k n k2 v D V) (b : But g W W') (hd : DiceAt W' g s l) : CbS w1 W' g gp go A s l p k n k2 v D V := by
  have h1 := h.lt
  have h2 := h.la
  refine ⟨h.st.but b hd, h.ot.but b (by omega), h.lt, h.sh.but b (Nat.lt_succ_self g), fun j hj => ?_, h.la, Nat.lt_of_lt_of_le h.sa b.size, fun j hj => (h.ls j hj).but b⟩
  rw [b.cell (p := ⟨A, j, none⟩) h.sa (by show A ≠ g; omega)]
  exact h.ar j hj
def lst5 (a b c d e : Value) : Nat → Value
  | 0 => a | 1 => b | 2 => c | 3 => d | _ => e
theorem take_bound {L D : List Shr} {m M : Nat} (hp : L.Perm D) (h : ∀ x ∈ D, x.2.length ≤ M) : ∀ x ∈ L.take m, x.2.length ≤ M := fun x hx => h x (hp.mem_iff.1 (List.mem_of_mem_take hx))
theorem take_len {L D : List Shr} {m : Nat} (hm : m ≤ D.length) : (L.take m).length ≤ D.length := by rw [List.length_take]; omega
set_option maxRecDepth 100000 in
set_option maxHeartbeats 8000000 in
theorem shareCombines_walkF (F : Sh) (s : Value) (l : List Int) (sr : Value) (R : List Shr) (cc : Int) (w : World) (hw : Wheel w) (hs : Ints w s l) (hr : SharesU w sr R) :
    Calls Tryd.prog 4 #[s, sr, .int .i64 cc] w fun e w' => e = .returned (.bool true) ∧ Below w.heap.size w w' := by
  have HL := Lib.hid (light_any s l w hs)
  have HSM := Lib.hid (small_any sr R w hr)
  have HAW := Lib.hid (awake6_any F w hw)
  obtain ⟨g0, hg0⟩ : ∃ g, w.heap.size = g := ⟨_, rfl⟩
  have hta0 : 0 < g0 := by rw [← hg0]; exact hw.size
  obtain ⟨bl, hbl⟩ : ∃ b, decide ((l.length : Int) ≤ 500) = b := ⟨_, rfl⟩
  rw [hbl] at HL
  rw [hg0] at HSM HAW ⊢
  have HWW := Lib.hid hw
  have HSS := Lib.hid hs
  have HRR := Lib.hid hr
  have HG0 := Lib.hid hg0
  obtain ⟨sra, srn, src, rfl⟩ : ∃ a n c, sr = .slice a n c := by obtain ⟨a, c, h, _⟩ := hr; exact ⟨a, _, c, h⟩
  clear hw hs hr hbl hg0
  cases bl with
  | false =>
    go_enter Tryd.func4, Tryd.ntmps4
    go_wp2_with fail
    refine HL.out.mono ?_
    rintro e w' ⟨rfl, rfl⟩
    go_wp2_with fail
    refine HAW.out.mono ?_
    rintro e w' ⟨rfl, hb⟩
    have HB := Lib.hid hb
    clear hb
    go_wp2
    go_ret
    exact ⟨rfl, HB.out⟩
  | true =>
    go_enter Tryd.func4, Tryd.ntmps4
    go_wp2_with fail
    refine HL.out.mono ?_
    rintro e w' ⟨rfl, rfl⟩
    go_wp2_with fail
    refine HSM.out.mono ?_
    rintro e w1 ⟨bs, rfl, hbs, hb1⟩
    have HB1 := Lib.hid hb1
    have HW1 := Lib.hid (HWW.out.below HWW.out.size (by rw [HG0.out]; exact hb1))
    clear hb1 HL HSM
    cases bs with
    | false =>
      clear hbs
      go_wp2_with fail
      refine (awake6_any F w1 HW1.out).mono ?_
      rintro e w' ⟨rfl, hb⟩
      have HB := Lib.hid (HB1.out.trans (hb.mono (by rw [← HG0.out]; exact (HG0.out ▸ HB1.out).size)))
      clear hb
      go_wp2
      go_ret
      exact ⟨rfl, HB.out⟩
    | true =>
      obtain ⟨hr12, hr20⟩ := hbs rfl
      have HRL := Lib.hid (show R.length ≤ 12 ∧ ∀ x ∈ R, x.2.length ≤ 20 from ⟨hr12, hr20⟩)
      have HR1 := Lib.hid ((HRR.out.below (Nat.le_of_eq HG0.out) HB1.out).few (by omega))
      have hs1 := HSS.out.below (Nat.le_of_eq HG0.out) HB1.out
      have hd0 := dice_new hs1
      have HRO := Lib.hid (roll_any s w1 (by obtain ⟨a, c, h, _⟩ := hs1; exact ⟨a, _, c, h⟩))
      obtain ⟨g, hg⟩ : ∃ g, w1.heap.size = g := ⟨_, rfl⟩
      have hta : 0 < g := by rw [← hg]; exact HW1.out.size
      have HGG : Hid (g0 ≤ g) := by show _ ≤ _; rw [← hg, ← HG0.out]; exact (HG0.out ▸ HB1.out).size
      have HGE := Lib.hid hg
      rw [hg] at HRO hd0
      have HW0 := Lib.hid (HW1.out.below HW1.out.size ((Below.refl w1.heap.size w1).alloc (Nat.le_refl _) (.cells #[s, .int .i64 0] 69)))
      have HB0 : Hid (Below g w1 (w1.alloc (.cells #[s, .int .i64 0] 69))) := by rw [← hg]; exact (Below.refl _ _).alloc (Nat.le_refl _) _
      have HD0 := Lib.hid hd0
      clear hd0 hbs hr12 hr20 hs1 hg
      go_wp2_with fail
      refine HRO.out.mono ?_
      rintro e w2 ⟨rfl, rfl⟩
      generalize w1.alloc (.cells #[s, .int .i64 0] 69) = w2 at *
      go_wp2_with fail
      refine (prime_any g s l w2 HD0.out).mono ?_
      rintro e w3 ⟨p, hprm, hp2, rfl, hd2, hb2⟩
      have HPRM := Lib.hid hprm
      have hpp : 2 ≤ p := by have := hprm.1; omega
      have HP2 := Lib.hid hp2
      have HD2 := Lib.hid hd2
      have HB2 := Lib.hid (HB0.out.trans (hb2.below (Nat.le_refl _) (Nat.le_of_lt HD0.out.size)))
      have HW2 := Lib.hid (HW0.out.below hta (hb2.below (Nat.le_refl _) (Nat.le_of_lt HD0.out.size)))
      clear hb2 hd2 hprm HD0 HB0 HW0 HRO
      go_wp2_with fail
      refine (plan_any g s l p w3 HD2.out hpp (by omega)).mono ?_
      rintro e w4 ⟨k, n, rfl, hk1, hkn, hn7, hnp, hd3, hb3⟩
      have HPB : Hid (planB p k n = true) := planB_of HPRM.out (by have := HP2.out; omega) hk1 hkn (by omega) hnp
      obtain ⟨K, hK⟩ := Int.eq_ofNat_of_zero_le (show 0 ≤ k - 1 by omega)
      obtain ⟨N, rfl⟩ := Int.eq_ofNat_of_zero_le (show 0 ≤ n by omega)
      obtain rfl : k = (K : Int) + 1 := by omega
      have HKN : Hid (K + 1 ≤ N ∧ N ≤ 7) := ⟨by omega, by omega⟩
      have hb3' := hb3.below (Nat.le_refl _) (Nat.le_of_lt HD2.out.size)
      have hg3 : g < w4.heap.size := hd3.size
      have hST : StL w1 (w4.alloc (.cells #[.int .i64 p, .int .i64 ((K : Int) + 1), .int .i64 (N : Int)] 24)) g w4.heap.size s l p ((K : Int) + 1) (N : Int) := by
        have hal : Below w4.heap.size w4 (w4.alloc (.cells #[.int .i64 p, .int .i64 ((K : Int) + 1), .int .i64 (N : Int)] 24)) := (Below.refl _ _).alloc (Nat.le_refl _) _
        exact ⟨hd3.below hal hg3, planAt_new _ _ _ _ _, (HW2.out.below hta hb3').below (by omega) hal, (HB2.out.trans hb3').trans (hal.mono (by omega)), hg3, by simp, hta⟩
      have HST := Lib.hid hST
      unfold planV
      clear hST hb3 hb3' hg3 hd3 HB2 HW2 HD2 hK hk1 hkn hn7 hnp hp2
      go_wp2_with fail
      obtain ⟨gp, hgp⟩ : ∃ gp, w4.heap.size = gp := ⟨_, rfl⟩
      rw [hgp] at HST ⊢
      generalize w4.alloc (.cells #[.int .i64 p, .int .i64 ((K : Int) + 1), .int .i64 (N : Int)] 24) = w5 at *
      clear hgp
      have c0 := HST.out.pl.c0
      have c1 := HST.out.pl.c1
      have c2 := HST.out.pl.c2
      have hpm : p ≤ 1073741824 := by have := HP2.out; omega
      have hp1 : 1 ≤ p := by omega
      have hde := dealt_any g s l p K N 3 w5 HST.out.di HPRM.out hpm HPB.out HKN.out ⟨by omega, by omega⟩
      unfold planV at hde
      rw [show ((3 : Nat) : Int) = 3 from rfl] at hde
      have HDE := Lib.hid hde
      clear hde
      go_wp2_with fail
      refine HDE.out.mono ?_
      rintro e w6 ⟨v1, v2, S, Rr, rfl, hS1, hS3, hn6, hd6, hb6⟩
      obtain ⟨D, hD⟩ : ∃ D, dealF p K N S Rr = D := ⟨_, rfl⟩
      have hDL : D.length = N := by rw [← hD]; exact dealF_len _ _ _ _ _
      have hGD : Gd p N S.length D := by rw [← hD]; exact dealF_gd hp1 K N S Rr
      rw [hD] at hn6
      have HDL := Lib.hid hDL
      have HGD := Lib.hid hGD
      have HDB : Hid (∀ x ∈ D, x.2.length ≤ 100000) := fun x hx => by rw [hGD.len x hx]; omega
      have HDI : Hid (∀ x ∈ D, Els p x.2 ∧ x.2.length ≤ 1000000) := fun x hx => ⟨hGD.els x hx, by rw [hGD.len x hx]; omega⟩
      have HS6 := Lib.hid (HST.out.but hb6 hd6)
      have hn6' := hn6.mono (Nat.succ_le_of_lt (Nat.lt_trans HST.out.lt HST.out.sz))
      obtain ⟨aD, cD, rfl, hcD, hcD2⟩ := hn6.shape
      rw [hDL] at hcD hn6' ⊢
      have HN6 := Lib.hid hn6'
      clear hd6 hb6 hn6 hn6' hD hDL hGD HDE HST c0 c1 c2 hS1
      have c0 := HS6.out.pl.c0
      have c1 := HS6.out.pl.c1
      have c2 := HS6.out.pl.c2
      obtain ⟨go, hgo⟩ : ∃ q, w6.heap.size = q := ⟨_, rfl⟩
      have hal6 : Below w6.heap.size w6 (w6.alloc (.cells #[.int .i64 p, .int .i64 ((K : Int) + 1), .int .i64 (N : Int)] 24)) := (Below.refl _ _).alloc (Nat.le_refl _) _
      have HO7 : Hid (PlanR (w6.alloc (.cells #[.int .i64 p, .int .i64 ((K : Int) + 1), .int .i64 (N : Int)] 24)) go p ((K : Int) + 1) (N : Int)) := by rw [← hgo]; exact planR_new w6 p _ _ _
      have HS7 := Lib.hid (HS6.out.below hal6)
      have HB67 : Hid (But g w6 (w6.alloc (.cells #[.int .i64 p, .int .i64 ((K : Int) + 1), .int .i64 (N : Int)] 24))) := But.alloc _ _ _
      have HGO : Hid (g < go) := by rw [← hgo]; exact HS6.out.di.size
      have HGOE := Lib.hid hgo
      have c2' := HS7.out.pl.c2
      clear hal6
      go_wp2_with fail
      clear hgo c0 c1 c2
      generalize w6.alloc (.cells #[.int .i64 p, .int .i64 ((K : Int) + 1), .int .i64 (N : Int)] 24) = w7 at *
      refine (next_any g s l (N : Int) w7 HS7.out.di (by have := HKN.out; omega) (by have := HKN.out; omega)).mono ?_
      rintro e w8 ⟨r, r0, r1, rfl, hd8, hb8⟩
      obtain ⟨k2, hk2⟩ : ∃ k2, IntKind.i64.wrap (1 + r) = k2 := ⟨_, rfl⟩
      have HO8 := Lib.hid (HO7.out.but hb8 (by have := HGO.out; omega))
      have HB68 := Lib.hid (HB67.out.trans hb8)
      have HD8 := Lib.hid hd8
      have o1 := HO8.out.c1
      have o2 := HO8.out.fr 1
      clear hd8 hb8 r0 r1 HO7 HS7 HB67 c2'
      go_wp2_with fail
      have hsb : Below go w8 (w8.setCell ⟨go, 1, none⟩ (.int .i64 k2)) := set1_below _ _ _ (Nat.le_refl _)
      have HO9 := Lib.hid (HO8.out.set1 k2)
      have HB69 := Lib.hid (HB68.out.above hsb (Nat.le_of_eq HGOE.out))
      have HD9 := Lib.hid (HD8.out.below hsb HGO.out)
      clear hsb o1 o2 hk2 HO8 HB68 HD8
      generalize w8.setCell ⟨go, 1, none⟩ (.int .i64 k2) = w9 at *
      have HS9 := Lib.hid (HS6.out.but HB69.out HD9.out)
      have HN9 := Lib.hid (HN6.out.but HB69.out (Nat.lt_succ_self g))
      have HSZ : Hid (g + 1 ≤ w9.heap.size) := HD9.out.size
      clear HS6 HN6 HB69 HGOE
      have hdn9 : D.length ≤ 7 := by rw [HDL.out]; have := HKN.out; omega
      have HD7 := Lib.hid hdn9
      have htu0 := turn_any g s l (.slice aD N cD) D 0 w9 HS9.out.di HN9.out.shares HDB.out (by omega) (by omega)
      rw [show ((0 : Nat) : Int) = 0 from rfl] at htu0
      have HTU0 := Lib.hid htu0
      clear htu0 hdn9
      go_wp2_with fail
      refine HTU0.out.mono ?_
      rintro e w10 ⟨x1, L1, m1, rfl, hpm1, _, hm1, hn10, hd10, hb10⟩
      have HX1 : Hid (LstK w1 w10 g x1) := LstK.ofN hn10 HSZ.out (Nat.le_trans (take_len hm1) (Nat.le_trans HD7.out (by omega))) (fun x hx => Nat.le_trans (take_bound hpm1 HDB.out x hx) (by omega))
      obtain ⟨ax1, cx1, rfl, hcx1, hcx1'⟩ := hn10.shape
      obtain ⟨n1, hn1⟩ : ∃ n, (L1.take m1).length = n := ⟨_, rfl⟩
      rw [hn1] at HX1 hcx1 ⊢
      have HS10 := Lib.hid (HS9.out.but hb10 hd10)
      have HO10 := Lib.hid (HO9.out.but hb10 (by have := HGO.out; omega))
      have HN10 := Lib.hid (HN9.out.but hb10 (Nat.lt_succ_self g))
      have HOD := Lib.hid (odd_any g s l (.slice aD N cD) D w10 HS10.out.di HN10.out.shares HDB.out (by have := HD7.out; omega))
      clear hn10 hd10 hb10 hpm1 hm1 hn1 HTU0 HN9
      go_wp2_with fail
      refine HOD.out.mono ?_
      rintro e w11 ⟨x2, rfl, L2, hn11, hl11, hv11, hd11, hb11⟩
      have HX1 := Lib.hid (HX1.out.but hb11)
      have HX2 : Hid (LstK w1 w11 g x2) := LstK.ofN hn11 HS10.out.di.size (by have := HD7.out; omega) hv11
      obtain ⟨ax2, cx2, rfl, hcx2, hcx2'⟩ := hn11.shape
      obtain ⟨n2, hn2⟩ : ∃ n, L2.length = n := ⟨_, rfl⟩
      rw [hn2] at HX2 hcx2 ⊢
      have HS11 := Lib.hid (HS10.out.but hb11 hd11)
      have HO11 := Lib.hid (HO10.out.but hb11 (by have := HGO.out; omega))
      have HN11 := Lib.hid (HN10.out.but hb11 (Nat.lt_succ_self g))
      have htu1 := turn_any g s l (.slice aD N cD) D 1 w11 HS11.out.di HN11.out.shares HDB.out (by have := HD7.out; omega) (by omega)
      rw [show ((1 : Nat) : Int) = 1 from rfl] at htu1
      have HTU1 := Lib.hid htu1
      clear htu1 hn11 hl11 hv11 hd11 hb11 hn2 HOD HN10 HS10
      go_wp2_with fail
      refine HTU1.out.mono ?_
      rintro e w12 ⟨x3, L3, m3, rfl, hpm3, _, hm3, hn12, hd12, hb12⟩
      have HX1 := Lib.hid (HX1.out.but hb12)
      have HX2 := Lib.hid (HX2.out.but hb12)
      have HS12 := Lib.hid (HS11.out.but hb12 hd12)
      have HO12 := Lib.hid (HO11.out.but hb12 (by have := HGO.out; omega))
      have HN12 := Lib.hid (HN11.out.but hb12 (Nat.lt_succ_self g))
      have hl3 : (L3.take m3).length ≤ 7 := Nat.le_trans (take_len hm3) HD7.out
      have HOD := Lib.hid (odd_any g s l x3 (L3.take m3) w12 HS12.out.di hn12.shares (take_bound hpm3 HDB.out) (by omega))
      have HL3 := Lib.hid hl3
      obtain ⟨ax3, cx3, rfl, hcx3, hcx3'⟩ := hn12.shape
      obtain ⟨n3, hn3⟩ : ∃ n, (L3.take m3).length = n := ⟨_, rfl⟩
      rw [hn3] at HL3 HOD hcx3 ⊢
      clear hn12 hd12 hb12 hpm3 hm3 hl3 hn3 HTU1 HN11 HS11
      go_wp2_with fail
      refine HOD.out.mono ?_
      rintro e w13 ⟨x4, rfl, L4, hn13, hl13, hv13, hd13, hb13⟩
      have HX1 := Lib.hid (HX1.out.but hb13)
      have HX2 := Lib.hid (HX2.out.but hb13)
      have HX4 : Hid (LstK w1 w13 g x4) := LstK.ofN hn13 HS12.out.di.size (by have := HL3.out; omega) hv13
      obtain ⟨ax4, cx4, rfl, hcx4, hcx4'⟩ := hn13.shape
      obtain ⟨n4, hn4⟩ : ∃ n, L4.length = n := ⟨_, rfl⟩
      rw [hn4] at HX4 hcx4 ⊢
      have HX3 : Hid (LstK w1 w13 g (.slice sra srn src)) := ⟨R, .inl HR1.out, by have := HRL.out.1; omega, fun x hx => by have := HRL.out.2 x hx; omega⟩
      have HS13 := Lib.hid (HS12.out.but hb13 hd13)
      have HN13 := Lib.hid (HN12.out.but hb13 (Nat.lt_succ_self g))
      have HX0 : Hid (LstK w1 w13 g (.slice aD N cD)) := ⟨D, .inr HN13.out, by have := HD7.out; omega, fun x hx => Nat.le_trans (HDB.out x hx) (by omega)⟩
      have HO13 := Lib.hid (HO12.out.but hb13 (by have := HGO.out; omega))
      clear hn13 hl13 hv13 hd13 hb13 hn4 HOD HN12 HS12 HL3
      go_wp2_with fail
      obtain ⟨A, hA⟩ : ∃ A, w13.heap.size = A := ⟨_, rfl⟩
      rw [hA]
      have hal : Below w13.heap.size w13 (w13.alloc (Obj.cells #[.slice aD N cD, .slice ax1 n1 cx1, .slice ax2 n2 cx2, .slice sra srn src, .slice ax4 n4 cx4] 37)) := (Below.refl _ _).alloc (Nat.le_refl _) _
      have hbal : But g w13 (w13.alloc (Obj.cells #[.slice aD N cD, .slice ax1 n1 cx1, .slice ax2 n2 cx2, .slice sra srn src, .slice ax4 n4 cx4] 37)) := But.alloc _ _ _
      have hC : CbS w1 (w13.alloc (Obj.cells #[.slice aD N cD, .slice ax1 n1 cx1, .slice ax2 n2 cx2, .slice sra srn src, .slice ax4 n4 cx4] 37)) g gp go A s l p ((K : Int) + 1) (N : Int) k2 (.slice aD N cD) D (lst5 (.slice aD N cD) (.slice ax1 n1 cx1) (.slice ax2 n2 cx2) (.slice sra srn src) (.slice ax4 n4 cx4)) := by
        refine ⟨HS13.out.below hal, HO13.out.below hal HO13.out.lt, HGO.out, HN13.out.but hbal (Nat.lt_succ_self g), fun j hj => ?_, by rw [← hA]; exact HS13.out.di.size, by rw [← hA]; simp, fun j hj => ?_⟩
        · rw [← hA, cell_new]
          have : j = 0 ∨ j = 1 ∨ j = 2 ∨ j = 3 ∨ j = 4 := by omega
          rcases this with rfl | rfl | rfl | rfl | rfl <;> rfl
        · have : j = 0 ∨ j = 1 ∨ j = 2 ∨ j = 3 ∨ j = 4 := by omega
          rcases this with rfl | rfl | rfl | rfl | rfl
          · exact HX0.out.but hbal
          · exact HX1.out.but hbal
          · exact HX2.out.but hbal
          · exact HX3.out.but hbal
          · exact HX4.out.but hbal
      have HC := Lib.hid hC
      clear hC hal hbal HS13 HN13 HO13 HO12 HO11 HO10 HO9 HX0 HX1 HX2 HX3 HX4 hA
      generalize w13.alloc (Obj.cells #[.slice aD N cD, .slice ax1 n1 cx1, .slice ax2 n2 cx2, .slice sra srn src, .slice ax4 n4 cx4] 37) = wL at *
      generalize lst5 (.slice aD N cD) (.slice ax1 n1 cx1) (.slice ax2 n2 cx2) (.slice sra srn src) (.slice ax4 n4 cx4) = V at *
      have HL0 : Hid (But g wL wL) := But.refl _ _
      have HDL0 := Lib.hid HC.out.st.di
      clear HS9
      go_loopw [13, 15, 16, 17, 18, 19, 20, 21, 22, 23, 24, 25, 26, 71] (fun _ _ _ _ _ _ _ _ _ _ _ _ _ i wr => ∃ j : Nat, j ≤ 5 ∧ i = .int .i64 j ∧ Hid (But g wL wr) ∧ Hid (DiceAt wr g s l)) (fun _ _ _ _ _ _ _ _ _ _ _ _ _ i _ => 5 - (intOf i).toNat)
      case atStart => exact ⟨0, Nat.zero_le _, rfl, HL0, HDL0⟩
      case round =>
        obtain ⟨j, hj, rfl, HB, HD⟩ := hrel
        have HCr := Lib.hid (HC.out.but HB.out HD.out)
        by_cases hlt : j < 5
        · obtain ⟨wo, hwo⟩ : ∃ wo, wo = wr := ⟨_, rfl⟩
          subst hwo
          obtain ⟨X, hlx, hx100, hxl⟩ := HCr.out.ls j hlt
          have t0 := HCr.out.ar j hlt
          obtain ⟨ax, cx, hvx, hx1000, hxc, hxc2, _⟩ := id (hlx.shares HCr.out.st.be (Nat.le_of_eq HGE.out))
          rw [hvx] at hlx t0
          obtain ⟨nX, hnX⟩ : ∃ n, X.length = n := ⟨_, rfl⟩
          rw [hnX] at hlx t0 hx100 hxc hx1000
          have HNX := Lib.hid hnX
          have HLX := Lib.hid hlx
          have HXL := Lib.hid hxl
          have hjl : (j : Int) < 5 := by omega
          have HAP : Hid (∀ W, DiceAt W g s l → Calls Tryd.prog 13 #[.pointer (some ⟨g, 0, none⟩)] W fun e w' => ∃ p k n : Int, e = .returned (.agg #[.int .i64 p, .int .i64 k, .int .i64 n]) ∧ (Lit.int .i64 p).wf = true ∧ DiceAt w' g s l ∧ But g W w') := fun W hW => by
            have h := anyPlan_any g s l W hW
            unfold planV at h
            exact h
          have HCD : Hid (CbS w1 wo.drew g gp go A s l p ((K : Int) + 1) (N : Int) k2 (.slice aD N cD) D V) := HCr.out.but (But.of_below (Below.refl _ _).drew (Nat.le_refl _)) (HCr.out.st.di)
          have HLD : Hid (LstX w1 wo.drew g (.slice ax nX cx) X) := HLX.out.but (But.of_below (Below.refl _ _).drew (Nat.le_refl _))
          have HBD : Hid (But g wL wo.drew) := HB.out.trans (But.of_below (Below.refl _ _).drew (Nat.le_refl _))
          have c0 := HCr.out.st.pl.c0
          have c1 := HCr.out.st.pl.c1
          have c2 := HCr.out.st.pl.c2
          have d0 := HCr.out.ot.c0
          have d1 := HCr.out.ot.c1
          have d2 := HCr.out.ot.c2
          clear hvx hlx hnX hxl HCr HLX HB HD
          go_wp2_with fail
          clear t0
          go_region_held3 (fun W' => W'.cell? ⟨gp, 0, none⟩ = some (.int .i64 p) ∧ W'.cell? ⟨gp, 1, none⟩ = some (.int .i64 ((K : Int) + 1)) ∧ W'.cell? ⟨gp, 2, none⟩ = some (.int .i64 (N : Int)) ∧ W'.cell? ⟨go, 0, none⟩ = some (.int .i64 p) ∧ W'.cell? ⟨go, 1, none⟩ = some (.int .i64 k2) ∧ W'.cell? ⟨go, 2, none⟩ = some (.int .i64 (N : Int))) (first | go_keep | exact HSK)
            (first
              | (go_at_call 13; refine (HAP.out wo.drew HCD.out.st.di).mono ?_; rintro e w11 ⟨pA, kA, nA, rfl, hpA, hd, hb⟩; have HC11 := Lib.hid (HCD.out.but hb hd); have HL11 := Lib.hid (HLD.out.but hb); have HB11 := Lib.hid (HBD.out.trans hb); have HSK := And.intro HC11.out.st.pl.c0 (And.intro HC11.out.st.pl.c1 (And.intro HC11.out.st.pl.c2 (And.intro HC11.out.ot.c0 (And.intro HC11.out.ot.c1 HC11.out.ot.c2)))); have HPA := Lib.hid hpA; clear hd hb hpA))
          clear HSK HCD HLD HBD HAP c0 c1 c2 d0 d1 d2
          go_wp2_with fail
          obtain ⟨B7, hB7⟩ : ∃ B7, w11.heap.size = B7 := ⟨_, rfl⟩
          rw [hB7]
          have hbal : But g w11 (w11.alloc (Obj.cells #[.int .i64 p, .int .i64 ((K : Int) + 1), .int .i64 (N : Int), .int .i64 p, .int .i64 k2, .int .i64 (N : Int), .int .i64 pA, .int .i64 kA, .int .i64 nA] 24)) := But.alloc _ _ _
          have hCM := HC11.out.but hbal (HC11.out.st.di.below ((Below.refl w11.heap.size w11).alloc (Nat.le_refl _) (Obj.cells #[.int .i64 p, .int .i64 ((K : Int) + 1), .int .i64 (N : Int), .int .i64 p, .int .i64 k2, .int .i64 (N : Int), .int .i64 pA, .int .i64 kA, .int .i64 nA] 24)) HC11.out.st.di.size)
          have hLM := HL11.out.but hbal
          have hBM := HB11.out.trans hbal
          have hbg : g < B7 := by rw [← hB7]; exact HC11.out.st.di.size
          have hPC : ∀ i, i < 3 → ∃ pp kk nn : Int, (Lit.int .i64 pp).wf = true ∧ (w11.alloc (Obj.cells #[.int .i64 p, .int .i64 ((K : Int) + 1), .int .i64 (N : Int), .int .i64 p, .int .i64 k2, .int .i64 (N : Int), .int .i64 pA, .int .i64 kA, .int .i64 nA] 24)).cell? ⟨B7, i * 3, none⟩ = some (.int .i64 pp) ∧ (w11.alloc (Obj.cells #[.int .i64 p, .int .i64 ((K : Int) + 1), .int .i64 (N : Int), .int .i64 p, .int .i64 k2, .int .i64 (N : Int), .int .i64 pA, .int .i64 kA, .int .i64 nA] 24)).cell? ⟨B7, i * 3 + 1, none⟩ = some (.int .i64 kk) ∧ (w11.alloc (Obj.cells #[.int .i64 p, .int .i64 ((K : Int) + 1), .int .i64 (N : Int), .int .i64 p, .int .i64 k2, .int .i64 (N : Int), .int .i64 pA, .int .i64 kA, .int .i64 nA] 24)).cell? ⟨B7, i * 3 + 2, none⟩ = some (.int .i64 nn) := fun i hi => by
            rw [← hB7]
            have : i = 0 ∨ i = 1 ∨ i = 2 := by omega
            rcases this with rfl | rfl | rfl
            · exact ⟨p, (K : Int) + 1, N, wf_small hp1 hpm, by rw [cell_new]; rfl, by rw [cell_new]; rfl, by rw [cell_new]; rfl⟩
            · exact ⟨p, k2, N, wf_small hp1 hpm, by rw [cell_new]; rfl, by rw [cell_new]; rfl, by rw [cell_new]; rfl⟩
            · exact ⟨pA, kA, nA, HPA.out, by rw [cell_new]; rfl, by rw [cell_new]; rfl, by rw [cell_new]; rfl⟩
          have hsL : B7 < (w11.alloc (Obj.cells #[.int .i64 p, .int .i64 ((K : Int) + 1), .int .i64 (N : Int), .int .i64 p, .int .i64 k2, .int .i64 (N : Int), .int .i64 pA, .int .i64 kA, .int .i64 nA] 24)).heap.size := by rw [← hB7]; simp
          have HCM := Lib.hid hCM
          have HLM := Lib.hid hLM
          have HBM := Lib.hid hBM
          clear hbal hCM hLM hBM HC11 HL11 HB11 hB7
          generalize w11.alloc (Obj.cells #[.int .i64 p, .int .i64 ((K : Int) + 1), .int .i64 (N : Int), .int .i64 p, .int .i64 k2, .int .i64 (N : Int), .int .i64 pA, .int .i64 kA, .int .i64 nA] 24) = wM at *
          have HPC : Hid (∀ W, But g wM W → ∀ i, i < 3 → ∃ pp kk nn : Int, (Lit.int .i64 pp).wf = true ∧ W.cell? ⟨B7, i * 3, none⟩ = some (.int .i64 pp) ∧ W.cell? ⟨B7, i * 3 + 1, none⟩ = some (.int .i64 kk) ∧ W.cell? ⟨B7, i * 3 + 2, none⟩ = some (.int .i64 nn)) := fun W hb i hi => by
            obtain ⟨pp, kk, nn, h1, h2, h3, h4⟩ := hPC i hi
            exact ⟨pp, kk, nn, h1, by rw [hb.cell (p := ⟨B7, i * 3, none⟩) hsL (by show B7 ≠ g; omega)]; exact h2, by rw [hb.cell (p := ⟨B7, i * 3 + 1, none⟩) hsL (by show B7 ≠ g; omega)]; exact h3, by rw [hb.cell (p := ⟨B7, i * 3 + 2, none⟩) hsL (by show B7 ≠ g; omega)]; exact h4⟩
          have HM0 : Hid (But g wM wM) := But.refl _ _
          have HDM := Lib.hid HCM.out.st.di
          have HGB := Lib.hid hbg
          clear hPC hsL hbg
          go_loopw [15, 16, 17, 18, 19, 81] (fun _ _ _ _ _ i wr => ∃ t : Nat, t ≤ 3 ∧ i = .int .i64 t ∧ Hid (But g wM wr) ∧ Hid (DiceAt wr g s l)) (fun _ _ _ _ _ i _ => 3 - (intOf i).toNat)
          case atStart => exact ⟨0, Nat.zero_le _, rfl, HM0, HDM⟩
          case round =>
            obtain ⟨t, ht, rfl, HB2, HD2⟩ := hrel
            have HC2 := Lib.hid (HCM.out.but HB2.out HD2.out)
            have HL2 := Lib.hid (HLM.out.but HB2.out)
            by_cases hlt2 : t < 3
            · obtain ⟨wp, hwp⟩ : ∃ wp, wp = wr := ⟨_, rfl⟩
              subst hwp
              obtain ⟨pp, kk, nn, hwf, t0, t1, t2⟩ := HPC.out wp HB2.out t hlt2
              have HWF := Lib.hid hwf
              have hji : (t : Int) < 3 := by omega
              obtain ⟨qB, hqB⟩ : ∃ q, wp.heap.size = q := ⟨_, rfl⟩
              have hQB : PlanR (wp.alloc (.cells #[.int .i64 pp, .int .i64 kk, .int .i64 nn] 24)) qB pp kk nn := by rw [← hqB]; exact planR_new wp pp kk nn _
              have HQB := Lib.hid hQB
              have hbq : But g wp (wp.alloc (.cells #[.int .i64 pp, .int .i64 kk, .int .i64 nn] 24)) := But.alloc _ _ _
              have HC3 := Lib.hid (HC2.out.but hbq (HC2.out.st.di.below ((Below.refl wp.heap.size wp).alloc (Nat.le_refl _) (.cells #[.int .i64 pp, .int .i64 kk, .int .i64 nn] 24)) HC2.out.st.di.size))
              have HL3 := Lib.hid (HL2.out.but hbq)
              have HB3 := Lib.hid (HB2.out.trans hbq)
              have HGQ : Hid (g < qB) := by rw [← hqB]; exact HC2.out.st.di.size
              have u0 := hQB.c0
              have u1 := hQB.c1
              have u2 := hQB.c2
              clear hwf hQB hbq HC2 HL2 HB2 HD2
              go_wp2_with fail
              clear t0 t1 t2 u0 u1 u2 hqB
              generalize wp.alloc (.cells #[.int .i64 pp, .int .i64 kk, .int .i64 nn] 24) = w12 at *
              obtain ⟨ce, hce⟩ : ∃ c, combE pp kk nn X = c := ⟨_, rfl⟩
              obtain ⟨cl, hcl⟩ : ∃ c, combL pp kk nn X = c := ⟨_, rfl⟩
              obtain ⟨fb, hfb⟩ : ∃ c, fitB pp kk nn X = c := ⟨_, rfl⟩
              have HK1 : Hid (∀ W, Wheel W → Shares W (.slice ax nX cx) X → Calls Tryd.prog 29 #[.agg #[.int .i64 pp, .int .i64 kk, .int .i64 nn], .slice ax nX cx] W fun e w' => ∃ v', e = .returned (.tuple #[v', .int .i64 ce]) ∧ Ints w' v' cl ∧ Below W.heap.size W w') := fun W h1 h2 => by
                have h := F.combine pp kk nn _ X W h1 HWF.out h2
                unfold planV at h
                rw [hce, hcl] at h
                exact h
              have HK2 : Hid (∀ W, Shares W (.slice ax nX cx) X → Calls Tryd.prog 30 #[.agg #[.int .i64 pp, .int .i64 kk, .int .i64 nn], .slice ax nX cx] W fun e w' => ∃ v', e = .returned (.tuple #[v', .int .i64 ce]) ∧ Gath w' W.heap.size v' cl ∧ Below W.heap.size W w') := fun W h2 => by
                have h := ref6_combine_any pp kk nn _ X W HWF.out h2
                unfold planV at h
                rw [hce, hcl] at h
                exact h
              have HK3 : Hid (∀ W, Wheel W → Shares W (.slice ax nX cx) X → Calls Tryd.prog 32 #[.agg #[.int .i64 pp, .int .i64 kk, .int .i64 nn], .slice ax nX cx] W fun e w' => e = .returned (.bool fb) ∧ Below W.heap.size W w') := fun W h1 h2 => by
                have h := F.fits pp kk nn _ X W h1 HWF.out h2
                unfold planV at h
                rw [hfb] at h
                exact h
              have HK4 : Hid (∀ W, Shares W (.slice ax nX cx) X → Calls Tryd.prog 33 #[.agg #[.int .i64 pp, .int .i64 kk, .int .i64 nn], .slice ax nX cx] W fun e w' => e = .returned (.bool fb) ∧ Below W.heap.size W w') := fun W h2 => by
                have h := ref6_fits pp kk nn _ X W HWF.out h2
                unfold planV at h
                rw [hfb] at h
                exact h
              clear hce hcl hfb
              have b0 := HQB.out.c0
              have b1 := HQB.out.c1
              have b2 := HQB.out.c2
              go_wp2_with fail
              refine (HK1.out w12 HC3.out.st.wh (HL3.out.shares HC3.out.st.be (Nat.le_of_eq HGE.out))).mono ?_
              rintro e w13 ⟨va, rfl, hia, hb⟩
              have HIA := Lib.hid hia
              have HLN : Hid (cl.length ≤ 140737488355328) := by obtain ⟨_, _, _, h, _⟩ := hia; exact h
              obtain ⟨aa, ac, rfl⟩ := hia.shape
              obtain ⟨nc, hnc⟩ : ∃ n, cl.length = n := ⟨_, rfl⟩
              rw [hnc] at HIA ⊢
              have hbt := But.of_below (b := g) hb (Nat.le_refl _)
              have HQ13 := Lib.hid (HQB.out.below hb HQB.out.lt)
              have HC13 := Lib.hid (HC3.out.but hbt (HC3.out.st.di.below hb HC3.out.st.di.size))
              have HL13 := Lib.hid (HL3.out.but hbt)
              have HB13 := Lib.hid (HB3.out.trans hbt)
              clear hia hb hbt b0 b1 b2 HQB HC3 HL3 HB3 HK1
              have b0 := HQ13.out.c0
              have b1 := HQ13.out.c1
              have b2 := HQ13.out.c2
              go_wp2_with fail
              refine (HK2.out w13 (HL13.out.shares HC13.out.st.be (Nat.le_of_eq HGE.out))).mono ?_
              rintro e w14 ⟨vb, rfl, hib, hb⟩
              have HIB := Lib.hid (hib.reads HLN.out)
              have HIA := Lib.hid (HIA.out.below (Nat.le_refl _) hb)
              obtain ⟨ba, bc, rfl⟩ := hib.shape
              rw [hnc] at HIB ⊢
              have hbt := But.of_below (b := g) hb (Nat.le_refl _)
              have HQ14 := Lib.hid (HQ13.out.below hb HQ13.out.lt)
              have HC14 := Lib.hid (HC13.out.but hbt (HC13.out.st.di.below hb HC13.out.st.di.size))
              have HL14 := Lib.hid (HL13.out.but hbt)
              have HB14 := Lib.hid (HB13.out.trans hbt)
              clear hib hb hbt b0 b1 b2 HQ13 HC13 HL13 HB13 HK2 hnc
              have hgr : ∀ d os, But g w14 (grow (redrawn w14 d) os) := fun d os => But.of_below (below_regrown w14 d os) (Nat.le_refl _)
              have HSG : Hid (∀ d os, Shares (grow (redrawn w14 d) os) (.slice ax nX cx) X) := fun d os => (HL14.out.but (hgr d os)).shares (HC14.out.st.below (below_regrown w14 d os)).be (Nat.le_of_eq HGE.out)
              have HWG : Hid (∀ d os, Wheel (grow (redrawn w14 d) os)) := fun d os => (HC14.out.st.below (below_regrown w14 d os)).wh
              have HGR := Lib.hid hgr
              clear hgr
              go_wp2_with fail
              have b0 := cell_regrown HQ14.out.c0
              have b1 := cell_regrown HQ14.out.c1
              have b2 := cell_regrown HQ14.out.c2
              have cSM : ∀ d os, Calls Tryd.prog 31 #[.slice aa nc ac, .slice ba nc bc] (grow (redrawn w14 d) os) fun e w'' => e = .returned (.bool true) ∧ ∃ p : Regrown, w'' = grow (redrawn w14 p.d) p.os := fun d os => Calls.regrown_of ((same_yes _ _ cl _ (HIA.out.below (Nat.le_refl _) (below_regrown w14 d os)) (HIB.out.below (Nat.le_refl _) (below_regrown w14 d os))).mono fun e w' ⟨h1, h2⟩ => by subst h2; exact ⟨h1, Below.refl _ _⟩)
              have cF1 : ∀ d os, Calls Tryd.prog 32 #[.agg #[.int .i64 pp, .int .i64 kk, .int .i64 nn], .slice ax nX cx] (grow (redrawn w14 d) os) fun e w'' => e = .returned (.bool fb) ∧ ∃ p : Regrown, w'' = grow (redrawn w14 p.d) p.os := fun d os => Calls.regrown_of (HK3.out _ (HWG.out d os) (HSG.out d os))
              have cF2 : ∀ d os, Calls Tryd.prog 33 #[.agg #[.int .i64 pp, .int .i64 kk, .int .i64 nn], .slice ax nX cx] (grow (redrawn w14 d) os) fun e w'' => e = .returned (.bool fb) ∧ ∃ p : Regrown, w'' = grow (redrawn w14 p.d) p.os := fun d os => Calls.regrown_of (HK4.out _ (HSG.out d os))
              have n1 : (ce != ce) = false := by simp
              have n2 : (fb != fb) = false := by simp
              refine wp_region_quiet_below (by kernel_rfl) (by kernel_rfl) ?_
              repeat (go_big_quiet_step (first | with_reducible exact cSM _ _ | with_reducible exact cF1 _ _ | with_reducible exact cF2 _ _))
              refine wpQuiet_nil ?_
              intro _ hw'
              obtain ⟨⟨dq, osq⟩, hw''⟩ := hw'
              subst hw''
              have HBW := Lib.hid (HB14.out.trans (HGR.out dq osq))
              have HDW := Lib.hid (HC14.out.st.di.below (below_regrown w14 dq osq) HC14.out.st.di.size)
              clear cSM cF1 cF2 n1 n2 b0 b1 b2 HSG HWG HGR HK3 HK4
              generalize grow (redrawn w14 dq) osq = W at *
              go_wp2
              go_roundw
              case rel => exact ⟨t + 1, by omega, by go_num, HBW, HDW⟩
              case measure => simp [intOf]; omega
            · have htt : ¬ ((t : Int) < 3) := by omega
              have hdt : decide ((t : Int) < 3) = false := decide_eq_false htt
              have HBQ := Lib.hid (HBM.out.trans HB2.out)
              clear HBM HCM HLM HPC HM0 HDM HB2
              obtain ⟨wq, hwq⟩ : ∃ wq, wq = wr := ⟨_, rfl⟩
              subst hwq
              have HQ0 : Hid (But g wq wq) := But.refl _ _
              go_wp2_with fail
              go_loopw [20, 21, 22, 23, 24, 25, 26, 118] (fun _ _ _ _ _ _ _ i wr => ∃ y : Nat, y ≤ nX ∧ i = .int .i64 y ∧ Hid (But g wq wr) ∧ Hid (DiceAt wr g s l)) (fun _ _ _ _ _ _ _ i _ => nX - (intOf i).toNat)
              case atStart => exact ⟨0, Nat.zero_le _, rfl, HQ0, HD2⟩
              case round =>
                obtain ⟨y, hy, rfl, HB4, HD4⟩ := hrel
                have HC4 := Lib.hid (HC2.out.but HB4.out HD4.out)
                have HL4 := Lib.hid (HL2.out.but HB4.out)
                by_cases hlt3 : y < nX
                · obtain ⟨wv, hwv⟩ : ∃ wv, wv = wr := ⟨_, rfl⟩
                  subst hwv
                  have HCB : Hid (∀ W, Below wv.heap.size wv W → CbS w1 W g gp go A s l p ((K : Int) + 1) (N : Int) k2 (.slice aD N cD) D V) := fun W hb => HC4.out.but (But.of_below hb (Nat.le_refl _)) (HC4.out.st.di.below hb HC4.out.st.di.size)
                  obtain ⟨b1, o1, v1, hax, c0, c1, hi1⟩ := (HL4.out.shares HC4.out.st.be (Nat.le_of_eq HGE.out)).at hlt3
                  subst hax
                  obtain ⟨t, hty⟩ : ∃ t, y % N = t := ⟨_, rfl⟩
                  have hN1 : (1 : Int) ≤ (N : Int) := by have := HKN.out; omega
                  have htN : t < N := by rw [← hty]; exact Nat.mod_lt _ (by omega)
                  have hrem : Int.tmod (y : Int) (N : Int) = (t : Int) := by rw [tmod_nonneg_eq _ _ (by omega), ← hty]; exact (Int.natCast_emod y N).symm
                  have hyb : y < 100 := by omega
                  have hNb : N ≤ 7 := HKN.out.2
                  have htI : (t : Int) < (N : Int) := by omega
                  obtain ⟨b2, o2, v2, haD, d0, d1, hi2⟩ := HC4.out.sh.shares.at htN
                  subst haD
                  have hl1 : (X.getD y (0, [])).2.length ≤ 100001 := HXL.out _ (by rw [List.getD_eq_getElem?_getD, List.getElem?_eq_getElem (by rw [HNX.out]; exact hlt3)]; exact List.getElem_mem _)
                  have hl2 : (D.getD t (0, [])).2.length ≤ 100000 := HDB.out _ (by rw [List.getD_eq_getElem?_getD, List.getElem?_eq_getElem (by rw [HDL.out]; exact htN)]; exact List.getElem_mem _)
                  obtain ⟨⟨h1, l1⟩, hsh1⟩ : ∃ z, X.getD y (0, []) = z := ⟨_, rfl⟩
                  obtain ⟨⟨h2, l2⟩, hsh2⟩ : ∃ z, D.getD t (0, []) = z := ⟨_, rfl⟩
                  rw [hsh1] at c0 hi1 hl1
                  rw [hsh2] at d0 hi2 hl2
                  simp only at c0 hi1 hl1 d0 hi2 hl2
                  obtain ⟨va1, vc1, rfl⟩ := hi1.shape
                  obtain ⟨va2, vc2, rfl⟩ := hi2.shape
                  obtain ⟨m1, hm1⟩ : ∃ m, l1.length = m := ⟨_, rfl⟩
                  obtain ⟨m2, hm2⟩ : ∃ m, l2.length = m := ⟨_, rfl⟩
                  rw [hm1] at c1 hi1
                  rw [hm2] at d1 hi2
                  obtain ⟨⟨ah, al⟩, har⟩ : ∃ r, addR p ((K : Int) + 1) (N : Int) (h1, l1) (h2, l2) = r := ⟨_, rfl⟩
                  obtain ⟨ae, hae⟩ : ∃ e, addE p ((K : Int) + 1) (N : Int) (h1, l1) (h2, l2) = e := ⟨_, rfl⟩
                  have HA1 : Hid (∀ W, Wheel W → Ints W (.slice va1 m1 vc1) l1 → Ints W (.slice va2 m2 vc2) l2 → Calls Tryd.prog 34 #[.agg #[.int .i64 p, .int .i64 ((K : Int) + 1), .int .i64 (N : Int)], .agg #[.int .i64 h1, .slice va1 m1 vc1], .agg #[.int .i64 h2, .slice va2 m2 vc2]] W fun e w' => ∃ v, e = .returned (.tuple #[.agg #[.int .i64 ah, v], .int .i64 ae]) ∧ Gath w' W.heap.size v al ∧ Below W.heap.size W w') := fun W q1 q2 q3 => by
                    have h := F.add p ((K : Int) + 1) (N : Int) h1 h2 _ _ l1 l2 W q1 (wf_small hp1 hpm) q2 q3 (by omega) (by omega)
                    unfold planV shareV at h
                    rw [har, hae] at h
                    exact h
                  have HA2 : Hid (∀ W, Ints W (.slice va1 m1 vc1) l1 → Ints W (.slice va2 m2 vc2) l2 → Calls Tryd.prog 35 #[.agg #[.int .i64 p, .int .i64 ((K : Int) + 1), .int .i64 (N : Int)], .agg #[.int .i64 h1, .slice va1 m1 vc1], .agg #[.int .i64 h2, .slice va2 m2 vc2]] W fun e w' => ∃ v, e = .returned (.tuple #[.agg #[.int .i64 ah, v], .int .i64 ae]) ∧ Gath w' W.heap.size v al ∧ Below W.heap.size W w') := fun W q2 q3 => by
                    have h := ref6_add p ((K : Int) + 1) (N : Int) h1 h2 _ _ l1 l2 W (wf_small hp1 hpm) q2 q3 (by omega) (by omega)
                    unfold planV shareV at h
                    rw [har, hae] at h
                    exact h
                  have hal1 : al.length ≤ 1000000 := by
                    have h := addR_len p ((K : Int) + 1) (N : Int) (h1, l1) (h2, l2)
                    rw [har] at h
                    simp only at h
                    omega
                  have HLA := Lib.hid hal1
                  obtain ⟨na, hna⟩ : ∃ n, al.length = n := ⟨_, rfl⟩
                  have HNA := Lib.hid hna
                  obtain ⟨qs, hqs⟩ : ∃ q, wv.heap.size = q := ⟨_, rfl⟩
                  rw [hqs] at HCB
                  obtain ⟨wx, hwx⟩ : ∃ W, wv.alloc (.cells #[.int .i64 h1, .slice va1 m1 vc1] 55) = W := ⟨_, rfl⟩
                  obtain ⟨wy, hwy⟩ : ∃ W, wx.alloc (.cells #[.int .i64 h2, .slice va2 m2 vc2] 55) = W := ⟨_, rfl⟩
                  have hqx : wx.heap.size = qs + 1 := by rw [← hwx, ← hqs]; simp
                  have hqy : wy.heap.size = qs + 2 := by rw [← hwy]; simp [hqx]
                  have hbx : Below qs wv wx := by rw [← hwx, ← hqs]; exact (Below.refl _ _).alloc (Nat.le_refl _) _
                  have hbxy : Below (qs + 1) wx wy := by rw [← hwy, ← hqx]; exact (Below.refl _ _).alloc (Nat.le_refl _) _
                  have hbvy : Below qs wv wy := hbx.trans (hbxy.mono (by omega))
                  have hsx : ShAt wx qs h1 (.slice va1 m1 vc1) := by rw [← hwx, ← hqs]; exact shAt_new _ _ _ _
                  have hsy : ShAt wy (qs + 1) h2 (.slice va2 m2 vc2) := by rw [← hwy, ← hqx]; exact shAt_new _ _ _ _
                  have HSX := Lib.hid (hsx.belowB hbxy (Nat.lt_succ_self _))
                  have HSY := Lib.hid hsy
                  have HI1 := Lib.hid (hi1.below (Nat.le_of_eq hqs) hbvy)
                  have HI2 := Lib.hid (hi2.below (Nat.le_of_eq hqs) hbvy)
                  have HBV := Lib.hid hbvy
                  have HQY := Lib.hid hqy
                  have d0 : wx.cell? ⟨b2, o2 + t * 2, none⟩ = some (.int .i64 h2) := by rw [hbx.cell (p := ⟨b2, o2 + t * 2, none⟩) (by rw [← hqs]; exact cell_lt d0)]; exact d0
                  have d1 : wx.cell? ⟨b2, o2 + t * 2 + 1, none⟩ = some (.slice va2 m2 vc2) := by rw [hbx.cell (p := ⟨b2, o2 + t * 2 + 1, none⟩) (by rw [← hqs]; exact cell_lt d1)]; exact d1
                  have HCY := Lib.hid (HCB.out wy hbvy)
                  have p0 := HCY.out.st.pl.c0
                  have p1 := HCY.out.st.pl.c1
                  have p2 := HCY.out.st.pl.c2
                  have s0 := HSX.out.c0
                  have s1 := HSX.out.c1
                  have y0 := HSY.out.c0
                  have y1 := HSY.out.c1
                  clear hi1 hi2 hl1 hl2 hsh1 hsh2 hm1 hm2 har hae hal1 hna hbx hbxy hbvy hsx hsy hqy hty
                  go_wp2_with fail
                  refine (HA1.out wy HCY.out.st.wh HI1.out HI2.out).mono ?_
                  rintro e w20 ⟨vu, rfl, hgu, hb⟩
                  have HQS := Lib.hid hqs
                  clear c0 c1 d0 d1 p0 p1 p2 s0 s1 y0 y1 hwx hwy hqx hqs
                  obtain ⟨au, cu, rfl⟩ := hgu.shape
                  have hiu := hgu.reads (Nat.le_trans HLA.out (by omega))
                  rw [HNA.out] at hiu ⊢
                  obtain ⟨qu, hqu⟩ : ∃ q, w20.heap.size = q := ⟨_, rfl⟩
                  obtain ⟨w21, hw21⟩ : ∃ W, w20.alloc (.cells #[.int .i64 ah, .slice au na cu] 55) = W := ⟨_, rfl⟩
                  have hb21 : Below qu w20 w21 := by rw [← hw21, ← hqu]; exact (Below.refl _ _).alloc (Nat.le_refl _) _
                  have hz20 : qs + 2 ≤ qu := by rw [← hqu, ← HQY.out]; exact hb.size
                  have hz21 : w21.heap.size = qu + 1 := by rw [← hw21, ← hqu]; simp
                  have hbt : Below qs wv w21 := (HBV.out.trans (hb.mono (by rw [HQY.out]; omega))).trans (hb21.mono (by omega))
                  have HSX2 := Lib.hid ((HSX.out.belowB hb (by rw [HQY.out]; omega)).belowB hb21 (by omega))
                  have HSY2 := Lib.hid ((HSY.out.belowB hb (by rw [HQY.out]; omega)).belowB hb21 (by omega))
                  have HU21 : Hid (ShAt w21 qu ah (.slice au na cu)) := by rw [← hw21, ← hqu]; exact shAt_new _ _ _ _
                  have HJ1 := Lib.hid ((HI1.out.below (Nat.le_refl _) hb).below (Nat.le_of_eq hqu) hb21)
                  have HJ2 := Lib.hid ((HI2.out.below (Nat.le_refl _) hb).below (Nat.le_of_eq hqu) hb21)
                  have HIU := Lib.hid (hiu.below (Nat.le_of_eq hqu) hb21)
                  have HBT := Lib.hid hbt
                  have HZ21 := Lib.hid hz21
                  have HQQ := Lib.hid hz20
                  have HC21 := Lib.hid (HCB.out w21 hbt)
                  have p0 := HC21.out.st.pl.c0
                  have p1 := HC21.out.st.pl.c1
                  have p2 := HC21.out.st.pl.c2
                  have s0 := HSX2.out.c0
                  have s1 := HSX2.out.c1
                  have y0 := HSY2.out.c0
                  have y1 := HSY2.out.c1
                  clear hgu hiu hb hb21 hbt hz20 hz21 HSX HSY HI1 HI2 HBV HQY HCY HC2 HL2
                  go_wp2_with fail
                  refine (HA2.out w21 HJ1.out HJ2.out).mono ?_
                  rintro e w22 ⟨vv, rfl, hgv, hb⟩
                  clear p0 p1 p2 s0 s1 y0 y1 hqu hw21
                  obtain ⟨av, cv, rfl⟩ := hgv.shape
                  have hiv := hgv.reads (Nat.le_trans HLA.out (by omega))
                  rw [HNA.out] at hiv ⊢
                  obtain ⟨qv, hqv⟩ : ∃ q, w22.heap.size = q := ⟨_, rfl⟩
                  obtain ⟨w23, hw23⟩ : ∃ W, w22.alloc (.cells #[.int .i64 ah, .slice av na cv] 55) = W := ⟨_, rfl⟩
                  obtain ⟨w24, hw24⟩ : ∃ W, w23.alloc (.cells #[.int .i64 ah, .slice au na cu] 55) = W := ⟨_, rfl⟩
                  obtain ⟨w25, hw25⟩ : ∃ W, w24.alloc (.cells #[.int .i64 ah, .slice av na cv] 55) = W := ⟨_, rfl⟩
                  obtain ⟨q24, hz23⟩ : ∃ q, w23.heap.size = q := ⟨_, rfl⟩
                  obtain ⟨q25, hz24⟩ : ∃ q, w24.heap.size = q := ⟨_, rfl⟩
                  have h24 : q24 = qv + 1 := by rw [← hz23, ← hw23, ← hqv]; simp
                  have h25 : q25 = q24 + 1 := by rw [← hz24, ← hw24, ← hz23]; simp
                  have hz25 : w25.heap.size = q25 + 1 := by rw [← hw25, ← hz24]; simp
                  have hb23 : Below qv w22 w23 := by rw [← hw23, ← hqv]; exact (Below.refl _ _).alloc (Nat.le_refl _) _
                  have hb24 : Below q24 w23 w24 := by rw [← hw24, ← hz23]; exact (Below.refl _ _).alloc (Nat.le_refl _) _
                  have hb25 : Below q25 w24 w25 := by rw [← hw25, ← hz24]; exact (Below.refl _ _).alloc (Nat.le_refl _) _
                  have hb2325 : Below q24 w23 w25 := hb24.trans (hb25.mono (by omega))
                  have huv : qu + 1 ≤ qv := by rw [← hqv, ← HZ21.out]; exact hb.size
                  have hu22 : ShAt w22 qu ah (.slice au na cu) := HU21.out.belowB hb (by rw [HZ21.out]; omega)
                  have hu23 := hu22.belowB hb23 (by omega)
                  have hv23 : ShAt w23 qv ah (.slice av na cv) := by rw [← hw23, ← hqv]; exact shAt_new _ _ _ _
                  have hv24 := hv23.belowB hb24 (by omega)
                  have hx24 : ShAt w24 q24 ah (.slice au na cu) := by rw [← hw24, ← hz23]; exact shAt_new _ _ _ _
                  have hx25 := hx24.belowB hb25 (by omega)
                  have hy25 : ShAt w25 q25 ah (.slice av na cv) := by rw [← hw25, ← hz24]; exact shAt_new _ _ _ _
                  have hiu25 := ((HIU.out.below (Nat.le_refl _) hb).below (Nat.le_of_eq hqv) hb23).below (Nat.le_of_eq hz23) hb2325
                  have hiv25 := (hiv.below (Nat.le_of_eq hqv) hb23).below (Nat.le_of_eq hz23) hb2325
                  have HSME := Lib.hid (sameS_yes _ _ _ w25 (shares_one hx25.c0 hx25.c1 hiu25) (shares_one hy25.c0 hy25.c1 hiv25))
                  have hqv2 : qs ≤ qv := by have := HQQ.out; omega
                  have HB25 : Hid (Below qs wv w25) := ((HBT.out.trans (hb.mono (by rw [HZ21.out]; have := HQQ.out; omega))).trans (hb23.mono hqv2)).trans (hb2325.mono (by omega))
                  have HZ25 : Hid (w25.heap.size = q25 + 1 ∧ qs ≤ q25) := ⟨hz25, by omega⟩
                  have u0 := hu23.c0
                  have u1 := hu23.c1
                  have x0 := hv24.c0
                  have x1 := hv24.c1
                  have n1 : (ae != ae) = false := by simp
                  clear hgv hiv hb hb23 hb24 hb25 hb2325 huv hu22 hu23 hv23 hv24 hx24 hx25 hy25 hiu25 hiv25 hz25 hqv2 h24 h25 HSX2 HSY2 HJ1 HJ2
                  go_wp2_with fail
                  refine HSME.out.mono ?_
                  rintro e w26 ⟨rfl, hb⟩
                  have hbf : Below qs wv w26 := HB25.out.trans (hb.mono (by rw [HZ25.out.1]; have := HZ25.out.2; omega))
                  have HBF := Lib.hid (HB4.out.trans (But.of_below hbf (Nat.le_of_eq HQS.out)))
                  have HDF := Lib.hid (HCB.out w26 hbf).st.di
                  clear n1 hrem htI hb hbf u0 u1 x0 x1 hqv hw23 hw24 hw25 hz23 hz24
                  have HY1 : Hid (y + 1 ≤ nX) := hlt3
                  go_wp2
                  go_roundw
                  case rel => exact ⟨y + 1, HY1.out, by go_num, HBF, HDF⟩
                  case measure => simp [intOf]; omega
                · obtain rfl : y = nX := by omega
                  have HBE := Lib.hid (HBQ.out.trans HB4.out)
                  go_wp2_with fail
                  go_roundw
                  case rel => exact ⟨j + 1, by omega, by go_num, HBE, HD4⟩
                  case measure => simp [intOf]; omega
        · obtain rfl : j = 5 := by omega
          have p0 := HCr.out.st.pl.c0
          have p1 := HCr.out.st.pl.c1
          have p2 := HCr.out.st.pl.c2
          have HFIN : Hid (∀ W, Below wr.heap.size wr W → Below g0 w W) := fun W hb => HB1.out.trans ((HCr.out.st.be.trans (hb.mono (Nat.le_of_lt HCr.out.st.di.size))).mono HGG.out)
          go_wp2_with fail
          refine (mod_any cc p wr hp1 (by omega)).mono ?_
          rintro e w' ⟨rfl, rfl⟩
          obtain ⟨c, hc⟩ : ∃ c, cc % p = c := ⟨_, rfl⟩
          have HEC : Hid (El p c) := by show El p c; rw [← hc]; exact ⟨Int.emod_nonneg _ (by omega), Int.emod_lt_of_pos _ (by omega)⟩
          rw [hc]
          clear hc
          have hN0 : 0 < N := by have := HKN.out; omega
          obtain ⟨b2, o2, v2, haD, d0, d1, hi2⟩ := HCr.out.sh.shares.at hN0
          subst haD
          rw [Nat.zero_mul, Nat.add_zero] at d0 d1
          have hdi := HDI.out (D.getD 0 (0, [])) (by rw [List.getD_eq_getElem?_getD, List.getElem?_eq_getElem (by rw [HDL.out]; exact hN0)]; exact List.getElem_mem _)
          obtain ⟨⟨h2, l2⟩, hsh2⟩ : ∃ z, D.getD 0 (0, []) = z := ⟨_, rfl⟩
          rw [hsh2] at d0 hi2 hdi
          simp only at d0 hi2 hdi
          obtain ⟨va2, vc2, rfl⟩ := hi2.shape
          obtain ⟨m2, hm2⟩ : ∃ m, l2.length = m := ⟨_, rfl⟩
          rw [hm2] at d1 hi2
          obtain ⟨sc, hsc⟩ : ∃ z, linF p [] l2 c = z := ⟨_, rfl⟩
          have hsl : sc.length ≤ 1000000 := by rw [← hsc, linF_len]; simp; omega
          obtain ⟨ns, hns⟩ : ∃ n, sc.length = n := ⟨_, rfl⟩
          have HS1 : Hid (∀ W, Wheel W → Ints W (.slice va2 m2 vc2) l2 → Calls Tryd.prog 37 #[.agg #[.int .i64 p, .int .i64 ((K : Int) + 1), .int .i64 (N : Int)], .agg #[.int .i64 h2, .slice va2 m2 vc2], .int .i64 c] W fun e w' => ∃ a k, e = .returned (.agg #[.int .i64 h2, .slice a ns k]) ∧ Ints w' (.slice a ns k) sc ∧ Below W.heap.size W w') := fun W q1 q2 => by
            have h := F.scale p ((K : Int) + 1) (N : Int) h2 c _ l2 W q1 HPRM.out hpm HEC.out hdi.1 q2 hdi.2
            unfold planV shareV at h
            rw [hsc] at h
            refine h.mono ?_
            rintro e w' ⟨v', rfl, hg, hb⟩
            obtain ⟨a, k, rfl⟩ := hg.shape
            have hi := hg.reads (by omega)
            rw [hns] at hi ⊢
            exact ⟨a, k, rfl, hi, hb⟩
          have HS2 : Hid (∀ W, Ints W (.slice va2 m2 vc2) l2 → Calls Tryd.prog 38 #[.agg #[.int .i64 p, .int .i64 ((K : Int) + 1), .int .i64 (N : Int)], .agg #[.int .i64 h2, .slice va2 m2 vc2], .int .i64 c] W fun e w' => ∃ a k, e = .returned (.agg #[.int .i64 h2, .slice a ns k]) ∧ Ints w' (.slice a ns k) sc ∧ Below W.heap.size W w') := fun W q2 => by
            have h := ref6_scale p ((K : Int) + 1) (N : Int) h2 c _ l2 W hp1 hpm HEC.out hdi.1 q2 hdi.2
            unfold planV shareV at h
            rw [hsc] at h
            refine h.mono ?_
            rintro e w' ⟨v', rfl, hg, hb⟩
            obtain ⟨a, k, rfl⟩ := hg.shape
            have hi := hg.reads (by omega)
            rw [hns] at hi ⊢
            exact ⟨a, k, rfl, hi, hb⟩
          have HKP : Hid (∀ W', Below wr.heap.size wr W' → (W'.cell? ⟨gp, 0, none⟩ = some (.int .i64 p) ∧ W'.cell? ⟨gp, 1, none⟩ = some (.int .i64 ((K : Int) + 1)) ∧ W'.cell? ⟨gp, 2, none⟩ = some (.int .i64 (N : Int)) ∧ W'.cell? ⟨b2, o2, none⟩ = some (.int .i64 h2) ∧ W'.cell? ⟨b2, o2 + 1, none⟩ = some (.slice va2 m2 vc2))) := fun W' hb => ⟨by rw [hb.cell (cell_lt p0)]; exact p0, by rw [hb.cell (cell_lt p1)]; exact p1, by rw [hb.cell (cell_lt p2)]; exact p2, by rw [hb.cell (cell_lt d0)]; exact d0, by rw [hb.cell (cell_lt d1)]; exact d1⟩
          have HWH : Hid (∀ W', Below wr.heap.size wr W' → Wheel W') := fun W' hb => HCr.out.st.wh.below HCr.out.st.wh.size hb
          have HIN : Hid (∀ W', Below wr.heap.size wr W' → Ints W' (.slice va2 m2 vc2) l2) := fun W' hb => hi2.below (Nat.le_refl _) hb
          have HSZ : Hid (∀ W', Below wr.heap.size wr W' → wr.heap.size ≤ W'.heap.size) := fun W' hb => hb.size
          have HBD : Hid (Below wr.heap.size wr wr.drew) := (Below.refl _ _).drew
          have HBA : Hid (∀ W', Below wr.heap.size wr W' → ∀ o, Below wr.heap.size wr (W'.alloc o)) := fun W' hb o => hb.alloc hb.size o
          clear hdi hsc hsl hns hm2 hsh2 hi2
          go_wp2_with fail
          go_region_held3 (fun W' => W'.cell? ⟨gp, 0, none⟩ = some (.int .i64 p) ∧ W'.cell? ⟨gp, 1, none⟩ = some (.int .i64 ((K : Int) + 1)) ∧ W'.cell? ⟨gp, 2, none⟩ = some (.int .i64 (N : Int)) ∧ W'.cell? ⟨b2, o2, none⟩ = some (.int .i64 h2) ∧ W'.cell? ⟨b2, o2 + 1, none⟩ = some (.slice va2 m2 vc2)) (first | go_keep | exact HSK)
            (first
              | (go_at_call 37; refine (HS1.out wr.drew (HWH.out _ HBD.out) (HIN.out _ HBD.out)).mono ?_; rintro e w31 ⟨a3, c3, rfl, hi3, hb⟩; have HB31 := Lib.hid (HBD.out.trans hb); have HSK := HKP.out w31 HB31.out; have HI3 := Lib.hid hi3; clear hi3 hb)
              | (go_at_call 38; (with_reducible refine (HS2.out w31 (HIN.out _ HB31.out)).mono ?_); rintro e w32 ⟨a4, c4, rfl, hi4, hb⟩; have HB32 := Lib.hid (HB31.out.trans (hb.mono (HSZ.out _ HB31.out))); have HSK := HKP.out w32 HB32.out; have HI3 := Lib.hid (HI3.out.below (Nat.le_refl _) hb); have HI4 := Lib.hid hi4; clear hi4 hb)
              | (go_at_call 38; (with_reducible refine (HS2.out (w31.alloc (.cells #[.int .i64 h2, .slice a3 ns c3] 55)) (HIN.out _ (HBA.out _ HB31.out _))).mono ?_); rintro e w32 ⟨a4, c4, rfl, hi4, hb⟩; have HB32 := Lib.hid ((HBA.out _ HB31.out (.cells #[.int .i64 h2, .slice a3 ns c3] 55)).trans (hb.mono (HSZ.out _ (HBA.out _ HB31.out (.cells #[.int .i64 h2, .slice a3 ns c3] 55))))); have HSK := HKP.out w32 HB32.out; have HX3 := Lib.hid ((shAt_new w31 h2 (.slice a3 ns c3) 55).belowB hb (by simp)); have HI3 := Lib.hid ((HI3.out.allocB (.cells #[.int .i64 h2, .slice a3 ns c3] 55)).below (Nat.le_refl _) hb); have HI4 := Lib.hid hi4; clear hi4 hb)
              | (go_at_call 22; (with_reducible refine (same_lits (w32.alloc (.cells #[.int .i64 h2, .slice a4 ns c4] 55)) (HX3.out.allocB (.cells #[.int .i64 h2, .slice a4 ns c4] 55)) (HI3.out.allocB (.cells #[.int .i64 h2, .slice a4 ns c4] 55)) (shAt_new w32 h2 (.slice a4 ns c4) 55) (HI4.out.allocB (.cells #[.int .i64 h2, .slice a4 ns c4] 55))).mono ?_); rintro e w33 ⟨rfl, hb⟩; have HB33 := Lib.hid ((HBA.out _ HB32.out (.cells #[.int .i64 h2, .slice a4 ns c4] 55)).trans (hb.mono (HSZ.out _ (HBA.out _ HB32.out (.cells #[.int .i64 h2, .slice a4 ns c4] 55))))); have HSK := HKP.out w33 HB33.out; clear hb)
              | (go_at_call 22; (with_reducible refine (same_lits ((w32.alloc (.cells #[.int .i64 h2, .slice a3 ns c3] 55)).alloc (.cells #[.int .i64 h2, .slice a4 ns c4] 55)) ((shAt_new w32 h2 (.slice a3 ns c3) 55).allocB (.cells #[.int .i64 h2, .slice a4 ns c4] 55)) ((HI3.out.allocB (.cells #[.int .i64 h2, .slice a3 ns c3] 55)).allocB (.cells #[.int .i64 h2, .slice a4 ns c4] 55)) (shAt_new1 w32 (.cells #[.int .i64 h2, .slice a3 ns c3] 55) h2 (.slice a4 ns c4) 55) ((HI4.out.allocB (.cells #[.int .i64 h2, .slice a3 ns c3] 55)).allocB (.cells #[.int .i64 h2, .slice a4 ns c4] 55))).mono ?_); rintro e w33 ⟨rfl, hb⟩; have HB33 := Lib.hid ((HBA.out _ (HBA.out _ HB32.out (.cells #[.int .i64 h2, .slice a3 ns c3] 55)) (.cells #[.int .i64 h2, .slice a4 ns c4] 55)).trans (hb.mono (HSZ.out _ (HBA.out _ (HBA.out _ HB32.out (.cells #[.int .i64 h2, .slice a3 ns c3] 55)) (.cells #[.int .i64 h2, .slice a4 ns c4] 55))))); have HSK := HKP.out w33 HB33.out; clear hb)
              | (go_at_call 22; (with_reducible refine (same_lits ((w32.alloc (.cells #[.int .i64 h2, .slice a4 ns c4] 55)).alloc (.cells #[.int .i64 h2, .slice a3 ns c3] 55)) (shAt_new1 w32 (.cells #[.int .i64 h2, .slice a4 ns c4] 55) h2 (.slice a3 ns c3) 55) ((HI3.out.allocB (.cells #[.int .i64 h2, .slice a4 ns c4] 55)).allocB (.cells #[.int .i64 h2, .slice a3 ns c3] 55)) ((shAt_new w32 h2 (.slice a4 ns c4) 55).allocB (.cells #[.int .i64 h2, .slice a3 ns c3] 55)) ((HI4.out.allocB (.cells #[.int .i64 h2, .slice a4 ns c4] 55)).allocB (.cells #[.int .i64 h2, .slice a3 ns c3] 55))).mono ?_); rintro e w33 ⟨rfl, hb⟩; have HB33 := Lib.hid ((HBA.out _ (HBA.out _ HB32.out (.cells #[.int .i64 h2, .slice a4 ns c4] 55)) (.cells #[.int .i64 h2, .slice a3 ns c3] 55)).trans (hb.mono (HSZ.out _ (HBA.out _ (HBA.out _ HB32.out (.cells #[.int .i64 h2, .slice a4 ns c4] 55)) (.cells #[.int .i64 h2, .slice a3 ns c3] 55))))); have HSK := HKP.out w33 HB33.out; clear hb)
              | (go_at_call 11; refine (awake6_any F w33 (HWH.out _ HB33.out)).mono ?_; rintro e w34 ⟨rfl, hb⟩; have HB34 := Lib.hid (HB33.out.trans (hb.mono (HSZ.out _ HB33.out))); have HSK := HKP.out w34 HB34.out; clear hb))
          all_goals
            go_wp2
            go_ret
            exact ⟨rfl, HFIN.out _ HB34.out⟩
end Go.Proofs.YtbfkkdbniallnaaDoor
