
/- Contracts of the document's answers for Weights and Interpolate. -/
import Derived.Test.YtpohhgbmdgjipaaRfP
import Derived.Test.YtpohhgbmdgjipaaDraw
import Derived.BigQuiet
namespace Go.Proofs.Ytpohhgbmdgjipaa
open Go.RowKit Go.Sort
open Num
set_option linter.unusedVariables false

def wtsK (p : Int) (xs : List Int) (x : Int) (k : Nat) : List Int := (List.range k).map (wt p xs x)
theorem wtsK_len (p : Int) (xs : List Int) (x : Int) (k : Nat) : (wtsK p xs x k).length = k := by simp [wtsK]
theorem wtsK_succ (p : Int) (xs : List Int) (x : Int) (k : Nat) : wtsK p xs x k ++ [wt p xs x k] = wtsK p xs x (k + 1) := by simp [wtsK, List.range_succ]
theorem wts_step {p x z : Int} {xs : List Int} {k B : Nat} {wb w8 wr : World} {v v' : Value} {o : Obj} (hz : z = wt p xs x k) (hB : B ≤ wb.heap.size) (hown : Gath w8 B v (wtsK p xs x k)) (hbel : Below B wb w8)
    (hown2 : Gath wr B v' (wtsK p xs x k ++ [z])) (hgr : (w8.alloc o).grownBy wr v.ownBlock) : Gath wr B v' (wtsK p xs x (k + 1)) ∧ Below B wb wr := by
  subst hz
  rw [wtsK_succ] at hown2
  exact ⟨hown2, (hbel.alloc (Nat.le_trans hB hbel.size) o).grown hgr (by have := hbel.size; simp; omega) fun g hg => hown.block g hg⟩
theorem wt_val {p x : Int} (hp : PrmI p) {xs : List Int} {i : Nat} (hi : i < xs.length) (hn : xs.Nodup) (he : Els p xs) :
    0 < PK xs i (xs.getD i 0) xs.length % p ∧ PK xs i x xs.length % p * iv p (PK xs i (xs.getD i 0) xs.length % p) % p = wt p xs x i := by
  have hp1 : 1 ≤ p := by have := hp.1; omega
  have h1 := prodE_out hp (els_getD hp1 he i) (rest_els he i) (not_mem_rest hn hi)
  have h2 := el_mod hp1 (prodE (rest xs i) (xs.getD i 0))
  have h3 : prodE (rest xs i) (xs.getD i 0) % p ≠ 0 := fun e => h1 ((Cg.mod p _).symm.trans (Cg.of_eq e))
  rw [PK_rest hi, PK_rest hi]
  refine ⟨by have := h2.1; omega, ?_⟩
  unfold wt mulF iv0
  rw [if_neg h3]

set_option maxRecDepth 100000 in
set_option maxHeartbeats 4000000 in
theorem ref_weights_core (p x : Int) (aa : Option Addr) (n ca : Nat) (xs : List Int) (w : World) (hp : PrmI p) (hp2 : p ≤ 1073741824) (hx : El p x) (hxs : Els p xs)
    (hsx : Ints w (.slice aa n ca) xs) (hnx : Hid (n = xs.length)) (hok : Hid (plc xs = 0)) (hl : n ≤ 1000) (hc : n ≤ ca) (hc2 : ca ≤ 9223372036854775807) :
    Calls Try.prog 25 #[.int .i64 p, .slice aa n ca, .int .i64 x] w fun e w' =>
      ∃ v, e = .returned (.tuple #[v, .int .i64 0]) ∧ Gath w' w.heap.size v (wts p xs x) ∧ Below w.heap.size w w' := by
  have hp0 := hp.1
  have hp1 : 1 ≤ p := by omega
  have HPR := Lib.hid hp
  have hne : xs ≠ [] := fun e => by have h := hok.out; rw [e, plc_nil] at h; cases h
  have h0 : 0 < n := by rw [hnx.out]; exact List.length_pos_iff.2 hne
  have hp00 : plc0 xs = 0 := by rw [← plc_of hne]; exact hok.out
  have HND : Hid (xs.Nodup) := nodup_of (by
    have h := hp00; unfold plc0 at h
    cases e : dupB xs with
    | false => rfl
    | true => rw [e] at h; cases h)
  have HPL := Lib.hid (ref_places_core aa n ca xs w hsx hnx (by omega) hc hc2)
  rw [hp00] at HPL
  have z1 : ((n : Int) == 0) = false := by simp; omega
  have q1 : (1 : Int).tmod p = 1 := by rw [Int.tmod_eq_emod_of_nonneg (by omega)]; exact one_mod hp0
  have q2 : ¬ p = 0 := by omega
  have hmx : Try.prog.follows .mixedOrders = true := by kernel_rfl
  obtain ⟨hx0, hx1⟩ := id hx
  clear hp hne hp00
  go_enter Try.func25, Try.ntmps25
  go_wp2_with (go_at_call 44; refine HPL.out.mono ?_; rintro e w' ⟨rfl, rfl⟩)
  clear HPL
  go_loopw [9, 10, 11, 12, 13, 14, 15, 16, 17, 28] (fun v _ _ _ _ _ _ _ _ i wr => ∃ k : Nat, k ≤ n ∧ i = .int .i64 k ∧ Hid (Gath wr w.heap.size v (wtsK p xs x k)) ∧ Hid (Below w.heap.size w wr)) (fun _ _ _ _ _ _ _ _ _ i _ => n - (intOf i).toNat)
  case atStart => exact ⟨0, Nat.zero_le _, rfl, gath_nil _ _, Below.refl _ _⟩
  case round =>
    obtain ⟨k, hk, rfl, hg, hbel⟩ := hrel
    have hsxr := Lib.hid (hsx.below (Nat.le_refl _) hbel.out)
    by_cases hlt : k < n
    · obtain ⟨b0, o0, rfl, hca⟩ := ints_at hsxr.out hnx.out (k := k) hlt
      have ea := els_at hp1 hxs k
      obtain ⟨a, hav⟩ : ∃ a, xs.getD k 0 = a := ⟨_, rfl⟩
      rw [hav] at hca ea
      have HA := Lib.hid hav
      have HWT := Lib.hid (wt_val (x := x) HPR.out (by rw [← hnx.out]; exact hlt) HND.out hxs)
      rw [hav] at HWT
      clear hav
      go_wp2
      refine wp_region_quiet_below (by kernel_rfl) (by kernel_rfl) ?_
      repeat (go_big_quiet_step (fail))
      refine wpQuiet_nil ?_
      intro _ hw'
      obtain ⟨⟨dq, osq⟩, hw''⟩ := hw'
      subst hw''
      have hbq := below_regrown wr dq osq
      generalize grow (redrawn wr dq) osq = w3 at *
      have HG3 := Lib.hid (hg.out.kept hbq (Nat.le_refl _))
      have HB3 := Lib.hid (hbel.out.trans (hbq.mono hbel.out.size))
      have HX3 := Lib.hid (hsxr.out.below (Nat.le_refl _) hbq)
      clear hbq hg hbel hsxr hca
      go_wp2
      go_loopw [12, 13, 14, 15, 39] (fun t lo _ _ c wr' => ∃ j : Nat, j ≤ n ∧ c = .int .i64 j ∧ t = .int .i64 (PK xs k x j % p) ∧ lo = .int .i64 (PK xs k a j % p) ∧ Hid (Below w3.heap.size w3 wr')) (fun _ _ _ _ c _ => n - (intOf c).toNat)
      case atStart => exact ⟨0, Nat.zero_le _, rfl, by rw [show PK xs k x 0 = 1 from rfl, one_mod hp0], by rw [show PK xs k a 0 = 1 from rfl, one_mod hp0], Lib.hid (Below.refl _ _)⟩
      case round =>
        obtain ⟨j, hj, rfl, rfl, rfl, hbel⟩ := hrel
        by_cases hjn : j < n
        · obtain ⟨b1, o1, e1, hcb⟩ := ints_at (HX3.out.below (Nat.le_refl _) hbel.out) hnx.out (k := j) hjn
          injection e1 with e1
          injection e1 with e1 e2
          subst e1 e2
          have eb := els_at hp1 hxs j
          obtain ⟨b, hbv⟩ : ∃ b, xs.getD j 0 = b := ⟨_, rfl⟩
          rw [hbv] at hcb eb
          by_cases hjk : j = k
          · subst hjk
            have H1 : Hid (PK xs j x (j + 1) = PK xs j x j) := PK_skip rfl
            have H2 : Hid (PK xs j a (j + 1) = PK xs j a j) := PK_skip rfl
            clear hbv
            go_wp2
            go_roundw
            case rel => exact ⟨j + 1, by omega, by go_num, by rw [H1.out], by rw [H2.out], hbel⟩
            case measure => simp [intOf]; omega
          · have hkj : ((k : Int) == (j : Int)) = false := by simp; omega
            have hkj2 : decide ((k : Int) = (j : Int)) = false := decide_eq_false (by omega)
            have H1 := Lib.hid (PK_step (p := p) (x := x) hjk hbv)
            have H2 := Lib.hid (PK_step (p := p) (x := a) hjk hbv)
            have eT := el_mod hp1 (PK xs k x j)
            have eL := el_mod hp1 (PK xs k a j)
            obtain ⟨T, hT⟩ : ∃ T, PK xs k x j % p = T := ⟨_, rfl⟩
            obtain ⟨L, hL⟩ : ∃ L, PK xs k a j % p = L := ⟨_, rfl⟩
            rw [hT] at H1 eT ⊢
            rw [hL] at H2 eL ⊢
            obtain ⟨eT0, eT1⟩ := eT
            obtain ⟨eL0, eL1⟩ := eL
            have cS1 : ∀ d os, Calls Try.prog 39 #[.int .i64 p, .int .i64 x, .int .i64 b] (grow (redrawn wr d) os) fun e w'' => e = .returned (.int .i64 (subF p x b)) ∧ ∃ q : Regrown, w'' = grow (redrawn wr q.d) q.os :=
              fun d os => Calls.regrown_of (pure_below (ref_sub_el _ hp1 hp2 hx eb))
            have cS2 : ∀ d os, Calls Try.prog 39 #[.int .i64 p, .int .i64 a, .int .i64 b] (grow (redrawn wr d) os) fun e w'' => e = .returned (.int .i64 (subF p a b)) ∧ ∃ q : Regrown, w'' = grow (redrawn wr q.d) q.os :=
              fun d os => Calls.regrown_of (pure_below (ref_sub_el _ hp1 hp2 ea eb))
            obtain ⟨s10, s11⟩ := el_sub hp1 x b
            obtain ⟨s20, s21⟩ := el_sub hp1 a b
            obtain ⟨S1, hS1⟩ : ∃ S, subF p x b = S := ⟨_, rfl⟩
            obtain ⟨S2, hS2⟩ : ∃ S, subF p a b = S := ⟨_, rfl⟩
            rw [hS1] at cS1 H1 s10 s11
            rw [hS2] at cS2 H2 s20 s21
            obtain ⟨m1, m2⟩ := mul_bound hp2 eT0 eT1 s10 s11
            obtain ⟨m3, m4⟩ := mul_bound hp2 eL0 eL1 s20 s21
            have u1 : IntKind.i64.wrap (T * S1) = T * S1 := IntWalk.i64_in _ (by omega)
            have u2 : IntKind.i64.wrap (L * S2) = L * S2 := IntWalk.i64_in _ (by omega)
            have u3 : (T * S1).tmod p = T * S1 % p := Int.tmod_eq_emod_of_nonneg m1
            have u4 : (L * S2).tmod p = L * S2 % p := Int.tmod_eq_emod_of_nonneg m3
            have r1 := el_mod hp1 (T * S1)
            have r2 := el_mod hp1 (L * S2)
            have u5 : IntKind.i64.wrap (T * S1 % p) = T * S1 % p := IntWalk.i64_in _ (by have := r1.1; have := r1.2; omega)
            have u6 : IntKind.i64.wrap (L * S2 % p) = L * S2 % p := IntWalk.i64_in _ (by have := r2.1; have := r2.2; omega)
            clear hbv hT hL hS1 hS2 r1 r2 eT0 eT1 eL0 eL1 s10 s11 s20 s21 m1 m2 m3 m4
            go_wp2
            refine wp_region_quiet_below (by kernel_rfl) (by kernel_rfl) ?_
            repeat (go_big_quiet_step (first | with_reducible exact cS1 _ _ | with_reducible exact cS2 _ _))
            refine wpQuiet_nil ?_
            intro _ hw'
            obtain ⟨⟨dq, osq⟩, hw''⟩ := hw'
            subst hw''
            have hbq := below_regrown wr dq osq
            have HBQ := Lib.hid (hbel.out.trans (hbq.mono hbel.out.size))
            clear cS1 cS2 hbq hbel hcb
            generalize grow (redrawn wr dq) osq = w4 at *
            go_wp2
            go_roundw
            case rel => exact ⟨j + 1, by omega, by go_num, by rw [← H1.out], by rw [← H2.out], HBQ⟩
            case measure => simp [intOf]; omega
        · obtain rfl : j = n := by omega
          have HG4 := Lib.hid (HG3.out.kept hbel.out (Nat.le_refl _))
          have HB4 := Lib.hid (HB3.out.trans (hbel.out.mono HB3.out.size))
          have hw0 := HWT.out.1
          have hw1 := HWT.out.2
          have eT := el_mod hp1 (PK xs k x j)
          have eL := el_mod hp1 (PK xs k a j)
          rw [← hnx.out] at hw0 hw1
          obtain ⟨T, hT⟩ : ∃ T, PK xs k x j % p = T := ⟨_, rfl⟩
          obtain ⟨L, hL⟩ : ∃ L, PK xs k a j % p = L := ⟨_, rfl⟩
          rw [hT] at hw1 eT ⊢
          rw [hL] at hw0 hw1 eL ⊢
          have HIV := Lib.hid (ref_inverse_some p L wr HPR.out hp2 hw0 eL.2)
          obtain ⟨eT0, eT1⟩ := eT
          obtain ⟨ei0, ei1⟩ := el_iv hp1 L
          obtain ⟨v, hv⟩ : ∃ v, iv p L = v := ⟨_, rfl⟩
          rw [hv] at hw1 HIV ei0 ei1
          obtain ⟨m1, m2⟩ := mul_bound hp2 eT0 eT1 ei0 ei1
          have HZ : Hid (T * v % p = wt p xs x k) := hw1
          have hs4 := HB4.out.size
          clear hT hL hv hw0 hw1 eL hbel HG3 HB3 HX3
          go_wp2_with fail
          refine HIV.out.mono ?_
          rintro e w' ⟨rfl, rfl⟩
          go_wp2_with (at_builtin; refine append_one _ rfl _ _ rfl w.heap.size _ (wtsK p xs x k) (T * v % p) rfl (HG4.out.alloc _) ⟨wr.heap.size, 0, none⟩ rfl ?c1 ?c2 ?c3 ?_)
          case c1 => rw [cell_new]; rfl
          case c2 => rw [wtsK_len]; omega
          case c3 => first | omega | (simp; omega)
          intro v' w8 hown2 hgr
          have R := wts_step HZ.out (Nat.le_refl _) HG4.out HB4.out hown2 hgr
          have HR1 := Lib.hid R.1
          have HR2 := Lib.hid R.2
          clear R hown2 hgr
          go_wp2
          go_roundw
          case rel => exact ⟨k + 1, by omega, by go_num, HR1, HR2⟩
          case measure => simp [intOf]; omega
    · obtain rfl : k = n := by omega
      have HG : Hid (Gath wr w.heap.size u9 (wts p xs x)) := by have h := hg.out; rw [show wtsK p xs x k = wts p xs x by unfold wtsK wts; rw [hnx.out]] at h; exact h
      clear hg hsxr
      go_wp2
      go_ret2
      exact ⟨_, rfl, HG.out, hbel.out⟩
end Go.Proofs.Ytpohhgbmdgjipaa
