
/- The walk of PolyActs. -/
import Derived.Test.YtdanpnjfcajfnaaRfM
import Derived.Test.YtdanpnjfcajfnaaRfD
import Derived.Test.YtdanpnjfcajfnaaDLaw
namespace Go.Proofs.Ytdanpnjfcajfnaa
open Go.RowKit Go.Sort
open Num
set_option linter.unusedVariables false

/-- Either answer of a division. -/
structure DivA (p : Int) (a b q r : List Int) (ec : Int) : Prop where
  none : dg b = 0 → q = [] ∧ r = [] ∧ ec = 7
  some : dg b ≠ 0 → DivS p a b q r ∧ ec = 0
theorem DivA.unique {p : Int} (hp : PrmI p) {a b q r q' r' : List Int} {c c' : Int} (hb : Els p b) (h : DivA p a b q r c) (h' : DivA p a b q' r' c') : q' = q ∧ r' = r ∧ c' = c := by
  by_cases e : dg b = 0
  · obtain ⟨h1, h2, h3⟩ := h.none e
    obtain ⟨h4, h5, h6⟩ := h'.none e
    exact ⟨by rw [h1, h4], by rw [h2, h5], by rw [h3, h6]⟩
  · obtain ⟨h1, h2⟩ := h.some e
    obtain ⟨h3, h4⟩ := h'.some e
    obtain ⟨h5, h6⟩ := DivS.unique hp hb h3 h1
    exact ⟨h5, h6, by rw [h2, h4]⟩
def DivOut (p : Int) (a b : List Int) (w : World) (e : Ending) (w' : World) : Prop :=
  ∃ vq vr q r ec, e = .returned (.tuple #[vq, vr, .int .i64 ec]) ∧ Ints w' vq q ∧ Ints w' vr r ∧ DivA p a b q r ec ∧ Below w.heap.size w w'
theorem nil_ints (w : World) : Ints w (.slice none 0 0) [] := (gath_nil w 0).reads (by simp)
theorem divide_all (p : Int) (aa ab : Option Addr) (la lb ca cb : Nat) (a b : List Int) (w : World) (hp : PrmI p) (hp2 : p ≤ 1073741824) (ha : Els p a) (hb : Els p b)
    (hsa : Ints w (.slice aa la ca) a) (hsb : Ints w (.slice ab lb cb) b) (hla : la = a.length) (hlb : lb = b.length) (hl : la ≤ 1000) (hl2 : lb ≤ 1000) (hcb : lb ≤ cb) :
    Calls Try.prog 14 #[.int .i64 p, .slice aa la ca, .slice ab lb cb] w (DivOut p a b w) := by
  by_cases h : dg b = 0
  · refine (divide_err p (.slice aa la ca) ab lb cb b w hsb h).mono ?_
    rintro e w' ⟨rfl, hb⟩
    exact ⟨_, _, [], [], 7, rfl, nil_ints _, nil_ints _, ⟨fun _ => ⟨rfl, rfl, rfl⟩, fun h' => absurd h h'⟩, hb⟩
  · obtain ⟨n, hn⟩ : ∃ n, dg b = n + 1 := ⟨dg b - 1, by omega⟩
    refine ((callsIn_wide (n := 6)).1 (divide_any p aa ab la lb ca cb n a b w hp hp2 ha hb hsa hsb hla hlb hn hl hl2 hcb)).mono ?_
    rintro e w' ⟨vq, vr, q, r, rfl, hq, hr, hd, _, hb⟩
    exact ⟨_, _, q, r, 0, rfl, hq, hr, ⟨fun h' => absurd h' h, fun _ => ⟨hd, rfl⟩⟩, hb⟩
theorem ref_divide_all (p : Int) (aa ab : Option Addr) (la lb ca cb : Nat) (a b : List Int) (w : World) (hp : PrmI p) (hp2 : p ≤ 1073741824) (ha : Els p a) (hb : Els p b)
    (hsa : Ints w (.slice aa la ca) a) (hsb : Ints w (.slice ab lb cb) b) (hla : la = a.length) (hlb : lb = b.length) (hl : la ≤ 1000) (hl2 : lb ≤ 1000) :
    Calls Try.prog 15 #[.int .i64 p, .slice aa la ca, .slice ab lb cb] w (DivOut p a b w) := by
  by_cases h : dg b = 0
  · refine (ref_divide_err p (.slice aa la ca) ab lb cb b w hsb h (by omega)).mono ?_
    rintro e w' ⟨rfl, rfl⟩
    exact ⟨_, _, [], [], 7, rfl, nil_ints _, nil_ints _, ⟨fun _ => ⟨rfl, rfl, rfl⟩, fun h' => absurd h h'⟩, Below.refl _ _⟩
  · obtain ⟨n, hn⟩ : ∃ n, dg b = n + 1 := ⟨dg b - 1, by omega⟩
    refine (ref_divide_any p _ _ n a b w hp hp2 ha hb hsa hsb hn (by omega) (by omega)).mono ?_
    rintro e w' ⟨vq, vr, q, r, rfl, hq, hr, hd, hb⟩
    exact ⟨_, _, q, r, 0, rfl, hq, hr, ⟨fun h' => absurd h' h, fun _ => ⟨hd, rfl⟩⟩, hb⟩
theorem But.then_below {b : Nat} {w w' w'' : World} (h : But b w w') (k : Below w.heap.size w' w'') : But b w w'' :=
  ⟨k.os.trans h.os, k.tape.trans h.tape, k.output.trans h.output, Nat.le_trans h.size k.size, fun i hi hne => (k.block i hi).trans (h.block i hi hne)⟩

structure Held (w W : World) (va vb vq vs vr vu : Value) (a b q r : List Int) : Prop where
  ia : Ints W va a
  ib : Ints W vb b
  iq : Ints W vq q
  is : Ints W vs q
  ir : Ints W vr r
  iu : Ints W vu r
  bel : Below w.heap.size w W
theorem Held.next {w W W' : World} {va vb vq vs vr vu : Value} {a b q r : List Int} (h : Held w W va vb vq vs vr vu a b q r) (k : Below W.heap.size W W') : Held w W' va vb vq vs vr vu a b q r :=
  ⟨h.ia.below (Nat.le_refl _) k, h.ib.below (Nat.le_refl _) k, h.iq.below (Nat.le_refl _) k, h.is.below (Nat.le_refl _) k, h.ir.below (Nat.le_refl _) k, h.iu.below (Nat.le_refl _) k, h.bel.trans (k.mono h.bel.size)⟩

set_option maxRecDepth 100000 in
set_option maxHeartbeats 8000000 in
theorem polyActs_walk (s : Value) (l : List Int) (w : World) (hs : Ints w s l) :
    Calls Try.prog 3 #[s] w fun e w' => e = .returned (.bool true) ∧ Below w.heap.size w w' := by
  by_cases hl : (l.length : Int) ≤ 500
  · have hl' : decide ((l.length : Int) ≤ 500) = true := by simpa using hl
    clear hl
    go_enter Try.func3, Try.ntmps3
    go_wp2_with (first
      | (go_at_call 8; refine (light_any _ _ _ hs).mono ?_; rintro e w' ⟨rfl, rfl⟩)
      | (go_at_call 10; refine (roll_any _ _ (slice_of hs)).mono ?_; rintro e w' ⟨rfl, rfl⟩))
    refine (prime_any _ s l _ (dice_new hs)).mono ?_
    rintro e w1 ⟨p, hprm, hp2, rfl, hd1, hbut⟩
    have hb1 := But.trans (But.alloc w.heap.size w _) hbut
    have hp0 : 2 ≤ p := hprm.1
    have hp1 : 1 ≤ p := by omega
    have hp3 : p ≤ 1073741824 := by omega
    have HPR := Lib.hid hprm
    have HB1 := Lib.hid hb1
    clear hbut hs hprm hb1
    go_wp2_with fail
    refine (next_any _ s l 8 _ hd1 (by omega) (by omega)).mono ?_
    rintro e w2 ⟨n1, n10, n11, rfl, hd2, hb2⟩
    obtain ⟨na, rfl⟩ : ∃ k : Nat, n1 = k := ⟨n1.toNat, by omega⟩
    have HB2 := Lib.hid (HB1.out.trans hb2)
    clear hb2 hd1
    go_wp2_with fail
    refine (dice_elements _ s l p na _ hd2 hp1 hp3 (by omega)).mono ?_
    rintro e w3 ⟨va, a, rfl, hal, hae, hga, hd3, hb3⟩
    have HB3 := Lib.hid (HB2.out.trans hb3)
    have hsw2 := hd2.size
    have hIa := hga.slc (by omega)
    obtain ⟨aa, ca, rfl, hca1, hca2, hIa⟩ := hIa
    have hba := hga.block
    have HAL := Lib.hid hal
    have HAE := Lib.hid hae
    have HIA := Lib.hid hIa
    have hd3s := hd3.size
    clear hb3 hd2 hga hIa hae
    rw [hal] at hca1 hba HIA ⊢
    go_wp2_with fail
    refine (next_any _ s l 5 _ hd3 (by omega) (by omega)).mono ?_
    rintro e w4 ⟨n2, n20, n21, rfl, hd4, hb4⟩
    obtain ⟨nb, rfl⟩ : ∃ k : Nat, n2 = k := ⟨n2.toNat, by omega⟩
    have HB4 := Lib.hid (HB3.out.trans hb4)
    have HIA4 := Lib.hid (HIA.out.but hb4 (fun g hg => by have := hba g hg; omega))
    have hs4 := hd4.size
    clear hb4 hd3 HIA
    go_wp2_with fail
    refine (dice_elements _ s l p nb _ hd4 hp1 hp3 (by omega)).mono ?_
    rintro e w5 ⟨vb, b, rfl, hbl, hbe, hgb, hd5, hb5⟩
    have hs5 := hd5.size
    have HB5 := Lib.hid hb5
    have hbb := hgb.block
    have HBE := Lib.hid hbe
    have HGB := Lib.hid hgb
    have HBL := Lib.hid hbl
    obtain ⟨ab, cb, rfl, -, -, -⟩ := hgb.slc (by omega)
    rw [hbl] at hbb HGB ⊢
    have hna8 : na ≤ 8 := by omega
    have hnb4 : nb ≤ 4 := by omega
    clear hb5 hd4 hgb hbe hal hbl n20 n21 n10 n11
    go_wp2_with fail
    refine (next_any _ s l 3 _ hd5 (by omega) (by omega)).mono ?_
    rintro e w6 ⟨n3, n30, n31, rfl, hd6, hb6⟩
    have HB6 := Lib.hid (HB5.out.trans hb6)
    have HGB6 := Lib.hid (HGB.out.but' hb6 (fun g hg => by have := hbb g hg; omega))
    have hsz6 := HB6.out.size
    have HD6 := Lib.hid hd6
    clear hb6 hd5 hd6
    by_cases h1 : n3 = 1
    case' pos =>
      subst h1
      go_wp2_with (at_builtin; refine append_list _ rfl _ _ rfl w4.heap.size _ b [0, 0] rfl (HGB6.out.alloc _) _ rfl (ints_two w6 0 0 _) ?c1 ?c2 ?_)
      case c1 => rw [HBL.out]; simp; omega
      case c2 => simp; omega
      intro v' w8 hg8 hgr
      have hbel : Below w4.heap.size w6 w8 := ((Below.refl _ _).alloc hsz6 _).grown hgr (by simp; omega) (fun g hg => hbb g hg)
      have HB8 := Lib.hid (HB6.out.then_below hbel)
      have hd8 := HD6.out.below hbel hs4
      have hbk8 := hg8.block
      obtain ⟨b8, hb8⟩ : ∃ b8, b ++ [0, 0] = b8 := ⟨_, rfl⟩
      have HBE8 : Hid (Els p b8) := by
        show Els p b8
        rw [← hb8]
        intro z hz
        rcases List.mem_append.1 hz with h | h
        · exact HBE.out z h
        · simp at h; subst h; exact el_zero hp1
      have hlb8 : b8.length = nb + 2 := by rw [← hb8]; simp; exact HBL.out
      rw [hb8] at hg8
      obtain ⟨nb8, hnb8⟩ : ∃ n, b8.length = n := ⟨_, rfl⟩
      have hnb6 : nb8 ≤ 6 := by omega
      have HBL8 := Lib.hid hnb8
      obtain ⟨ab8, cb8, rfl, hcb8, hcb82, hIb8⟩ := hg8.slc (by omega)
      rw [hnb8] at hcb8 hbk8 hIb8 ⊢
      clear hbel hg8 hgr hb8 hlb8 hnb8 HGB6 HGB HD6 hbb HB6
    case' neg =>
      have h1' : (n3 == 1) = false := by simpa using h1
      have h1'' : decide (n3 = 1) = false := decide_eq_false h1
      obtain ⟨w8, hw8⟩ : ∃ w8, w6 = w8 := ⟨_, rfl⟩
      have HB8 : Hid (But w.heap.size w4 w8) := by rw [← hw8]; exact HB6
      have hd8 := HD6.out
      have hbk8 := HGB6.out.block
      have HBE8 : Hid (Els p b) := HBE.out
      have hnb6 : nb ≤ 6 := by omega
      have HBL8 := HBL
      obtain ⟨ab8, cb8, e8, hcb8, hcb82, hIb8⟩ := HGB6.out.slc (by have := HBL.out; omega)
      rw [HBL8.out] at e8 hcb8 hIb8
      injection e8 with e81 e82 e83
      subst e81 e83
      rw [hw8] at hd8 hIb8 ⊢
      clear HGB6 HGB HD6 hbb HB6 h1 hw8
    all_goals
      go_wp2_with fail
      refine (next_any _ s l p _ hd8 (by omega) (by omega)).mono ?_
      rintro e w9 ⟨x, hx0, hx1, rfl, hd9, hb9⟩
      have ex : El p x := ⟨hx0, hx1⟩
      have HB89 := Lib.hid (HB8.out.trans hb9)
      have HA := Lib.hid (HIA4.out.but HB89.out (fun g hg => by have := hba g hg; omega))
      have HBi := Lib.hid (hIb8.but hb9 (fun g hg => by have := hbk8 g hg; omega))
      have HW := Lib.hid ((HB4.out.trans HB89.out).below (Nat.le_refl _) (Nat.le_refl _))
      clear hd8 hd9 hb9 hIb8 hbk8 hba HB8 HB89 HIA4 HB4 HB3 HB2 HB1 hx0 hx1
      have HD1 := Lib.hid (divide_all p _ _ _ _ _ _ a _ _ HPR.out hp3 HAE.out HBE8.out HA.out HBi.out HAL.out.symm HBL8.out.symm (by omega) (by omega) hcb8)
      go_wp2_with (go_at_call 14; refine HD1.out.mono ?_; rintro e w10 ⟨vq, vr, q, r, ec, rfl, hq, hr, hda, hbw⟩)
      have HDA := Lib.hid hda
      have HQ := Lib.hid hq
      have HR := Lib.hid hr
      have HA10 := Lib.hid (HA.out.below (Nat.le_refl _) hbw)
      have HB10 := Lib.hid (HBi.out.below (Nat.le_refl _) hbw)
      have HW10 := Lib.hid (HW.out.trans (hbw.mono HW.out.size))
      obtain ⟨aq, cq, rfl, -, -⟩ := id hq
      obtain ⟨ar, cr, rfl, -, -⟩ := id hr
      have HD2 := Lib.hid (ref_divide_all p _ _ _ _ _ _ a _ _ HPR.out hp3 HAE.out HBE8.out HA10.out HB10.out HAL.out.symm HBL8.out.symm (by omega) (by omega))
      clear hda hq hr hbw HD1 HA HBi HW
      go_wp2_with (go_at_call 15; refine HD2.out.mono ?_; rintro e w11 ⟨vs, vu, s', u, f, rfl, hs, hu, hda, hbw⟩)
      obtain ⟨es, eu, ef⟩ := HDA.out.unique HPR.out HBE8.out hda
      subst es eu ef
      have HS := Lib.hid hs
      have HU := Lib.hid hu
      have HA11 := Lib.hid (HA10.out.below (Nat.le_refl _) hbw)
      have HB11 := Lib.hid (HB10.out.below (Nat.le_refl _) hbw)
      have HQ11 := Lib.hid (HQ.out.below (Nat.le_refl _) hbw)
      have HR11 := Lib.hid (HR.out.below (Nat.le_refl _) hbw)
      have HW11 := Lib.hid (HW10.out.trans (hbw.mono HW10.out.size))
      clear hda hs hu hbw HD2 HA10 HB10 HW10 HDA HQ HR
      obtain ⟨a3, c3, rfl, -, -⟩ := id HS.out
      obtain ⟨a4, c4, rfl, -, -⟩ := id HU.out
      have H11 := Lib.hid (Held.mk HA11.out HB11.out HQ11.out HS.out HR11.out HU.out HW11.out)
      clear HA11 HB11 HQ11 HS HR11 HU HW11
      obtain ⟨lq, hlq⟩ : ∃ k, s'.length = k := ⟨_, rfl⟩
      obtain ⟨lr, hlr⟩ : ∃ k, u.length = k := ⟨_, rfl⟩
      rw [hlq, hlr] at H11 ⊢
      have HEV := Lib.hid (eval_any _ hp1 hp3 ex HAE.out H11.out.ia)
      refine HEV.out.mono ?_
      rintro e w12 ⟨rfl, hb⟩
      have H12 := Lib.hid (H11.out.next hb)
      have HE2 := Lib.hid (ref_eval_any p x _ a w12 hp1 hp3 ex HAE.out H12.out.ia (by rw [HAL.out]; omega))
      obtain ⟨ev, hev⟩ : ∃ ev, E a x % p = ev := ⟨_, rfl⟩
      rw [hev] at HE2 ⊢
      clear hb H11 HEV hev
      go_wp2_with (go_at_call 17; refine HE2.out.mono ?_; rintro e w' ⟨rfl, rfl⟩)
      have HG1 := Lib.hid (degree_any _ a _ H12.out.ia)
      refine HG1.out.mono ?_
      rintro e w13 ⟨rfl, hb⟩
      have H13 := Lib.hid (H12.out.next hb)
      have HG2 := Lib.hid (ref_degree_any _ a w13 H13.out.ia (by rw [HAL.out]; omega))
      obtain ⟨da, hda⟩ : ∃ d, dg a = d := ⟨_, rfl⟩
      rw [hda] at HG2 ⊢
      clear hb H12 HE2 HG1 hda
      go_wp2_with (go_at_call 19; refine HG2.out.mono ?_; rintro e w' ⟨rfl, rfl⟩)
      have HG1 := Lib.hid (degree_any _ _ _ H13.out.ib)
      refine HG1.out.mono ?_
      rintro e w14 ⟨rfl, hb⟩
      have H14 := Lib.hid (H13.out.next hb)
      have HG3 := Lib.hid (ref_degree_any _ _ w14 H14.out.ib (by rw [HBL8.out]; omega))
      clear hb H13 HG1 HG2
      go_wp2_with (go_at_call 19; refine HG3.out.mono ?_; rintro e w' ⟨rfl, rfl⟩)
      have HM := Lib.hid (pmul_any _ hp1 hp3 HAE.out HBE8.out H14.out.ia H14.out.ib (by rw [HBL8.out, HAL.out]; omega))
      refine HM.out.mono ?_
      rintro e w15 ⟨vz, z, rfl, hz, hpz, hb⟩
      have H15 := Lib.hid (H14.out.next hb)
      have HM2 := Lib.hid (ref_mul_any _ hp1 hp3 HAE.out HBE8.out H15.out.ia H15.out.ib (by rw [HBL8.out, HAL.out]; omega))
      have HZ := Lib.hid hz
      have HPZ := Lib.hid hpz
      obtain ⟨az, cz, rfl, -, -⟩ := id hz
      clear hb H14 HM HG3 hz hpz
      go_wp2_with (go_at_call 22; refine HM2.out.mono ?_; rintro e w16 ⟨vy, y, rfl, hy, hpy, hb⟩)
      obtain rfl := HPZ.out.unique hp1 hpy
      have H16 := Lib.hid (H15.out.next hb)
      have HSM := Lib.hid (same_yes _ _ _ _ (HZ.out.below (Nat.le_refl _) hb) hy)
      obtain ⟨ay, cy, rfl, -, -⟩ := id hy
      clear hb H15 HM2 HZ hy hpy HPZ
      refine HSM.out.mono ?_
      rintro e w' ⟨rfl, rfl⟩
      have HS1 := Lib.hid (same_yes _ _ _ _ H16.out.iq H16.out.is)
      have HS2 := Lib.hid (same_yes _ _ _ _ H16.out.ir H16.out.iu)
      clear HSM
      go_wp2_with fail
      refine HS1.out.mono ?_
      rintro e w' ⟨rfl, rfl⟩
      go_wp2_with fail
      refine HS2.out.mono ?_
      rintro e w' ⟨rfl, rfl⟩
      go_wp2_with (go_at_call 9; refine (awake_any _).mono ?_; rintro e w17 ⟨rfl, hbe⟩)
      go_ret
      exact ⟨rfl, H16.out.bel.trans (hbe.mono H16.out.bel.size)⟩
  · have hl' := long_len hl
    clear hl
    go_enter Try.func3, Try.ntmps3
    go_wp2_with (first
      | (go_at_call 8; refine (light_any _ _ _ hs).mono ?_; rintro e w' ⟨rfl, rfl⟩)
      | (go_at_call 9; refine (awake_any _).mono ?_; rintro e w' ⟨rfl, hbe⟩))
    go_ret
    exact ⟨rfl, hbe⟩
end Go.Proofs.Ytdanpnjfcajfnaa
