
/- Contract of the document's answer for Mul. -/
import Derived.Test.YtpohhgbmdgjipaaRfA
import Derived.Test.YtpohhgbmdgjipaaMul
namespace Go.Proofs.Ytpohhgbmdgjipaa
open Go.RowKit Go.Shelf Go.Sort
open Num
set_option linter.unusedVariables false

theorem add_mul_eq (p v c d : Int) : (v + c * d) % p = addF p v (mulF p c d) := by unfold addF mulF; rw [Int.add_emod_emod]
set_option maxRecDepth 100000 in
set_option maxHeartbeats 2000000 in
theorem ref_mul_core (p : Int) (aa ab : Option Addr) (la lb ca cb n : Nat) (a b : List Int) (w : World) (hp : 1 ≤ p) (hp2 : p ≤ 1073741824) (ha : Els p a) (hb : Els p b)
    (hsa : Ints w (.slice aa la ca) a) (hsb : Ints w (.slice ab lb cb) b) (hla : Hid (la = a.length)) (hlb : Hid (lb = b.length)) (hnn : la + lb = n + 1) (hn : la + lb ≤ 1000000) (h0 : 0 < la) (h1 : 0 < lb) :
    Calls Try.prog 22 #[.int .i64 p, .slice aa la ca, .slice ab lb cb] w fun e w' =>
      ∃ v z, e = .returned v ∧ Ints w' v z ∧ Prod p a b z ∧ (∀ g, v.ownBlock = some g → w.heap.size ≤ g) ∧ Below w.heap.size w w' := by
  have hmk := run_make_row' (P := Try.prog) 22 3 (.int .i64 0) 8 Try.underlying22 infoInt rfl .i64 .i64 n (by omega) (by omega)
  have e1 : (la : Int) + (lb : Int) - 1 = (n : Int) := by omega
  have bla : la ≤ 1000000 := by omega
  have blb : lb ≤ 1000000 := by omega
  have bn : n ≤ 1000000 := by omega
  have z1 : ((la : Int) == 0) = false := by simp; omega
  have z2 : ((lb : Int) == 0) = false := by simp; omega
  have HN := Lib.hid hnn
  clear hnn
  go_enter Try.func22, Try.ntmps22
  go_wp2
  go_loopw [8, 9, 10, 11, 29] (fun _ _ _ _ i wr => ∃ k : Nat, ∃ l : List Int, k ≤ la ∧ i = .int .i64 k ∧ Row wr w.heap.size l ∧ Hid (l.length = n) ∧ Hid (Els p l) ∧ Hid (Pc p (E l) (fun x => E (a.take k) x * E b x)) ∧ Below w.heap.size w wr) (fun _ _ _ _ i _ => la - (intOf i).toNat)
  case atStart => exact ⟨0, List.replicate n 0, Nat.zero_le _, rfl, Row.made w n, Lib.hid (by simp), Lib.hid (els_zeros hp n), Lib.hid (Pc.of_eq fun x => by rw [E_zeros]; simp [E]), (Below.refl _ _).alloc (Nat.le_refl _) _⟩
  case round =>
    obtain ⟨i, l, hi, rfl, hrow, hlen, hel, hpc, hbel⟩ := hrel
    have HR := Lib.hid hrow
    have HB := Lib.hid hbel
    clear hrow hbel
    by_cases hlt : i < la
    · obtain ⟨x0, off, rfl, hcx⟩ := ints_at (hsa.below (Nat.le_refl _) HB.out) hla.out (k := i) hlt
      have hc := els_at hp ha i
      obtain ⟨c, hcv⟩ : ∃ c, a.getD i 0 = c := ⟨_, rfl⟩
      rw [hcv] at hcx hc
      have HCV := Lib.hid hcv
      obtain ⟨hc0, hc1⟩ := id hc
      clear hcv
      go_wp2
      go_loopw [10, 11, 36] (fun _ _ j wr => ∃ k : Nat, ∃ l : List Int, k ≤ lb ∧ j = .int .i64 k ∧ Row wr w.heap.size l ∧ Hid (l.length = n) ∧ Hid (Els p l) ∧ Hid (Pc p (E l) (fun x => E (a.take i) x * E b x + x ^ i * c * E (b.take k) x)) ∧ Below w.heap.size w wr) (fun _ _ j _ => lb - (intOf j).toNat)
      case atStart => exact ⟨0, l, Nat.zero_le _, rfl, HR.out, hlen, hel, Lib.hid (mul_start hpc.out), HB.out⟩
      case round =>
        obtain ⟨k, l2, hk, rfl, hrow2, hlen2, hel2, hpc2, hbel2⟩ := hrel
        have HR2 := Lib.hid hrow2
        have HB2 := Lib.hid hbel2
        clear hrow2 hbel2
        by_cases hlt2 : k < lb
        · obtain ⟨y0, offb, rfl, hcy⟩ := ints_at (hsb.below (Nat.le_refl _) HB2.out) hlb.out (k := k) hlt2
          have hd := els_at hp hb k
          obtain ⟨d, hdv⟩ : ∃ d, b.getD k 0 = d := ⟨_, rfl⟩
          rw [hdv] at hcy hd
          have hj : i + k < l2.length := by rw [hlen2.out]; have := HN.out; omega
          have hcl := HR2.out.cell hj
          have hfr := HR2.out.frozen (i + k)
          have hv := els_at hp hel2.out (i + k)
          have HS := Lib.hid (mul_step hj hdv hpc2.out)
          have HRS := Lib.hid (HR2.out.set hj (addF p (l2.getD (i + k) 0) (mulF p c d)))
          have HES : Hid (Els p (l2.set (i + k) (addF p (l2.getD (i + k) 0) (mulF p c d)))) := els_set hel2.out (el_add hp _ _) _
          have HLS : Hid ((l2.set (i + k) (addF p (l2.getD (i + k) 0) (mulF p c d))).length = n) := by show _ = n; rw [List.length_set]; exact hlen2.out
          have hin : i + k < n := by rw [← hlen2.out]; exact hj
          have HEQ := Lib.hid (add_mul_eq p (l2.getD (i + k) 0) c d)
          clear hdv hj hpc2
          generalize l2.getD (i + k) 0 = v at *
          rw [← HEQ.out] at HS HRS HES HLS
          obtain ⟨hd0, hd1⟩ := id hd
          obtain ⟨hv0, hv1⟩ := id hv
          obtain ⟨m1, m2⟩ := mul_bound hp2 hc0 hc1 hd0 hd1
          have s1 : IntKind.i64.wrap ((i : Int) + (k : Int)) = (i : Int) + (k : Int) := IntWalk.i64_in _ (by omega)
          have s2 : ((i : Int) + (k : Int)).toNat = i + k := by omega
          have s3 : 0 ≤ (i : Int) + (k : Int) := by omega
          have s4 : (i : Int) + (k : Int) < (n : Int) := by omega
          go_wp2
          go_roundw
          case rel => exact ⟨k + 1, _, by omega, by go_num, HRS.out, HLS, HES, HS, HB2.out.setCell (p := ⟨w.heap.size, i + k, none⟩) (Nat.le_refl _) _⟩
          case measure => simp [intOf]; omega
        · obtain rfl : k = lb := by omega
          have HP : Hid (Pc p (E l2) (fun x => E (a.take (i + 1)) x * E b x)) := mul_row HCV.out (by have h := hpc2.out; rw [hlb.out, List.take_length] at h; exact h)
          clear hpc2
          go_wp2
          go_roundw
          case rel => exact ⟨i + 1, l2, by omega, by go_num, HR2.out, hlen2, hel2, HP, HB2.out⟩
          case measure => simp [intOf]; omega
    · obtain rfl : i = la := by omega
      have HP : Hid (Pc p (E l) (fun x => E a x * E b x)) := by have h := hpc.out; rw [hla.out, List.take_length] at h; exact h
      have HI := Lib.hid (Row.reads (cap := n) HR.out (by rw [hlen.out]; omega))
      clear hpc
      have HS := Lib.hid (ref_short_any _ n l wr HI.out (by rw [hlen.out]; omega) (by rw [hlen.out]; omega) (by omega))
      rw [hlen.out] at HS
      go_wp2_with (go_at_call 40; refine HS.out.mono ?_; rintro e w1 ⟨v1, rfl, hg1, hb1⟩)
      have HB1 := Lib.hid (HB.out.trans (hb1.mono HB.out.size))
      have hlen2 := dg_le l
      have HI1 := Lib.hid (hg1.reads (by rw [sh_len]; rw [hlen.out] at hlen2; omega))
      have HFR : Hid (∀ g, v1.ownBlock = some g → w.heap.size ≤ g) := fun g hg => Nat.le_trans HB.out.size (hg1.block g hg)
      clear hb1 hg1 hlen2
      go_ret
      exact ⟨_, sh l, rfl, HI1.out, prod_of hp hel.out HP.out, HFR.out, HB1.out⟩
set_option maxHeartbeats 1000000 in
theorem ref_mul_none (p : Int) (aa ab : Option Addr) (la lb ca cb : Nat) (w : World) (h : la = 0 ∨ lb = 0) :
    Calls Try.prog 22 #[.int .i64 p, .slice aa la ca, .slice ab lb cb] w fun e w' => e = .returned (.slice none 0 0) ∧ w = w' := by
  by_cases h0 : la = 0
  · subst h0
    go_enter Try.func22, Try.ntmps22
    go_wp2
    go_ret
    exact ⟨rfl, rfl⟩
  · obtain rfl : lb = 0 := by omega
    have z1 : ((la : Int) == 0) = false := by simp; omega
    go_enter Try.func22, Try.ntmps22
    go_wp2
    go_ret
    exact ⟨rfl, rfl⟩
theorem ref_mul_fresh {p : Int} {sa sb : Value} {a b : List Int} (w : World) (hp : 1 ≤ p) (hp2 : p ≤ 1073741824) (ha : Els p a) (hb : Els p b) (hsa : Ints w sa a) (hsb : Ints w sb b) (hn : a.length + b.length ≤ 1000000) :
    Calls Try.prog 22 #[.int .i64 p, sa, sb] w fun e w' => ∃ v z, e = .returned v ∧ Ints w' v z ∧ Prod p a b z ∧ (∀ g, v.ownBlock = some g → w.heap.size ≤ g) ∧ Below w.heap.size w w' := by
  obtain ⟨aa, ca, rfl, _, _⟩ := id hsa
  obtain ⟨ab, cb, rfl, _, _⟩ := id hsb
  by_cases h : a.length = 0 ∨ b.length = 0
  · refine (ref_mul_none p aa ab a.length b.length ca cb w h).mono ?_
    rintro e w' ⟨rfl, rfl⟩
    refine ⟨_, [], rfl, (gath_nil _ 0).reads (by simp), ⟨(fun x hx => by cases hx), rfl, Nat.zero_le _, Pc.of_eq fun x => ?_⟩, (fun g hg => by cases hg), Below.refl _ _⟩
    rcases h with h | h
    · rw [List.length_eq_zero_iff.1 h]; simp [E]
    · rw [List.length_eq_zero_iff.1 h]; simp [E]
  · exact ref_mul_core p aa ab a.length b.length ca cb (a.length + b.length - 1) a b w hp hp2 ha hb hsa hsb (Lib.hid rfl) (Lib.hid rfl) (by omega) hn (by omega) (by omega)
theorem ref_mul_any {p : Int} {sa sb : Value} {a b : List Int} (w : World) (hp : 1 ≤ p) (hp2 : p ≤ 1073741824) (ha : Els p a) (hb : Els p b) (hsa : Ints w sa a) (hsb : Ints w sb b) (hn : a.length + b.length ≤ 1000000) :
    Calls Try.prog 22 #[.int .i64 p, sa, sb] w fun e w' => ∃ v z, e = .returned v ∧ Ints w' v z ∧ Prod p a b z ∧ Below w.heap.size w w' :=
  (ref_mul_fresh w hp hp2 ha hb hsa hsb hn).mono fun e w' ⟨v, z, h1, h2, h3, _, h4⟩ => ⟨v, z, h1, h2, h3, h4⟩
end Go.Proofs.Ytpohhgbmdgjipaa
