
/- Contract of the document's answer for Linear. -/
import Derived.Test.YtpohhgbmdgjipaaLin
namespace Go.Proofs.Ytpohhgbmdgjipaa
open Go.RowKit
open Num
set_option linter.unusedVariables false

def pre (p : Int) (a b : List Int) (c : Int) (k : Nat) : List Int := (List.range k).map (linAt p a b c)
theorem pre_length (p : Int) (a b : List Int) (c : Int) (k : Nat) : (pre p a b c k).length = k := by simp [pre]
theorem pre_succ {p c z : Int} {a b : List Int} {k : Nat} (h : z = linAt p a b c k) : pre p a b c k ++ [z] = pre p a b c (k + 1) := by
  subst h; simp [pre, List.range_succ]
theorem lin_both {p c x y : Int} {a b : List Int} {k : Nat} (hx : a.getD k 0 = x) (hy : b.getD k 0 = y) : (x + c * y) % p = linAt p a b c k := by
  subst hx hy; unfold linAt addF mulF; rw [Int.add_emod_emod]
theorem lin_left {p c x : Int} {a b : List Int} {k : Nat} (hx : a.getD k 0 = x) (hk : b.length ≤ k) (he : El p x) : x = linAt p a b c k := by
  subst hx; unfold linAt addF mulF
  rw [show b.getD k 0 = 0 by simp [List.getD, hk]]
  simp; exact (el_fix he).symm
theorem lin_right {p c y : Int} {a b : List Int} {k : Nat} (hk : a.length ≤ k) (hy : b.getD k 0 = y) : c * y % p = linAt p a b c k := by
  subst hy; unfold linAt addF mulF
  rw [show a.getD k 0 = 0 by simp [List.getD, hk]]
  simp

theorem ref_step {p c z : Int} {a b : List Int} {k B : Nat} {w wr w2 : World} {v v' : Value} {o : Obj} (hz : z = linAt p a b c k) (hB : B = w.heap.size) (hown : Gath wr B v (pre p a b c k)) (hbel : Below B w wr)
    (hown2 : Gath w2 B v' (pre p a b c k ++ [z])) (hgr : (wr.alloc o).grownBy w2 v.ownBlock) : Gath w2 B v' (pre p a b c (k + 1)) ∧ Below B w w2 := by
  rw [pre_succ hz] at hown2
  refine ⟨hown2, ((hbel.alloc (by subst hB; exact hbel.size) o).grown hgr (by subst hB; have := hbel.size; simp; omega) fun g hg => hown.block g hg)⟩

set_option maxHeartbeats 4000000 in
theorem ref_linear_core (p c : Int) (aa ab : Option Addr) (la lb ca cb n : Nat) (a b : List Int) (w : World) (hp : 1 ≤ p) (hp2 : p ≤ 1073741824) (hc : El p c) (ha : Els p a) (hb : Els p b)
    (hsa : Ints w (.slice aa la ca) a) (hsb : Ints w (.slice ab lb cb) b) (hla : Hid (la = a.length)) (hlb : Hid (lb = b.length)) (hn : (la < lb ∧ n = lb) ∨ (lb ≤ la ∧ n = la)) (hn2 : n ≤ 1000000) :
    Calls Try.prog 31 #[.int .i64 p, .slice aa la ca, .slice ab lb cb, .int .i64 c] w fun e w' =>
      ∃ v, e = .returned v ∧ Gath w' w.heap.size v (pre p a b c n) ∧ Below w.heap.size w w' := by
  have hmax : la ≤ n ∧ lb ≤ n ∧ (n = la ∨ n = lb) := by omega
  obtain ⟨m1, m2, m3⟩ := hmax
  have HLA := hla
  have HLB := hlb
  clear hla hlb
  obtain ⟨hc0, hc1⟩ := id hc
  go_enter Try.func31, Try.ntmps31
  rcases hn with ⟨hn, rfl⟩ | ⟨hn, rfl⟩
  · go_wp2
    go_loopw [9, 10, 11, 17] (fun v _ _ i wr => ∃ k : Nat, k ≤ n ∧ i = .int .i64 k ∧ Gath wr w.heap.size v (pre p a b c k) ∧ Below w.heap.size w wr) (fun _ _ _ i _ => n - (intOf i).toNat)
    case atStart => exact ⟨0, Nat.zero_le _, rfl, gath_nil _ _, Below.refl _ _⟩
    case round =>
      obtain ⟨k, hk, rfl, hown, hbel⟩ := hrel
      have HB := Lib.hid hbel
      clear hbel
      by_cases hlt : k < n
      · by_cases hlt2 : k < la
        · obtain ⟨x0, off, rfl, hcx⟩ := ints_at (hsa.below (Nat.le_refl _) HB.out) HLA.out (k := k) (by omega)
          have ex := els_at hp ha k
          obtain ⟨x, hx⟩ : ∃ x, a.getD k 0 = x := ⟨_, rfl⟩
          rw [hx] at hcx ex
          obtain ⟨ex0, ex1⟩ := id ex
          have HX := Lib.hid hx
          clear hx
          obtain ⟨y0, offb, rfl, hcy⟩ := ints_at (hsb.below (Nat.le_refl _) HB.out) HLB.out (k := k) (by omega)
          have ey := els_at hp hb k
          obtain ⟨y, hy⟩ : ∃ y, b.getD k 0 = y := ⟨_, rfl⟩
          rw [hy] at hcy ey
          obtain ⟨ey0, ey1⟩ := id ey
          have HY := Lib.hid hy
          clear hy
          obtain ⟨m4, m5⟩ := mul_bound hp2 hc0 hc1 ey0 ey1
          go_wp2_with (at_builtin; refine append_one _ rfl _ _ rfl w.heap.size _ (pre p a b c k) ((x + c * y) % p) rfl (hown.alloc _) ⟨wr.heap.size, 0, none⟩ rfl ?c1 ?c2 ?c3 ?_)
          case c1 => rw [cell_new]; rfl
          case c2 => rw [pre_length]; omega
          case c3 => have := HB.out.size; simp; omega
          intro v' w2 hown2 hgr
          have R := ref_step (lin_both HX.out HY.out) rfl hown HB.out hown2 hgr
          clear hown2 hgr hown
          go_wp2
          go_roundw
          case rel => exact ⟨k + 1, by omega, by go_num, R.1, R.2⟩
          case measure => simp [intOf]; omega
        · obtain ⟨y0, offb, rfl, hcy⟩ := ints_at (hsb.below (Nat.le_refl _) HB.out) HLB.out (k := k) (by omega)
          have ey := els_at hp hb k
          obtain ⟨y, hy⟩ : ∃ y, b.getD k 0 = y := ⟨_, rfl⟩
          rw [hy] at hcy ey
          obtain ⟨ey0, ey1⟩ := id ey
          have HY := Lib.hid hy
          clear hy
          obtain ⟨m4, m5⟩ := mul_bound hp2 hc0 hc1 ey0 ey1
          go_wp2_with (at_builtin; refine append_one _ rfl _ _ rfl w.heap.size _ (pre p a b c k) (c * y % p) rfl (hown.alloc _) ⟨wr.heap.size, 0, none⟩ rfl ?c1 ?c2 ?c3 ?_)
          case c1 => rw [cell_new]; rfl
          case c2 => rw [pre_length]; omega
          case c3 => have := HB.out.size; simp; omega
          intro v' w2 hown2 hgr
          have R := ref_step (lin_right (by have := HLA.out; omega) HY.out) rfl hown HB.out hown2 hgr
          clear hown2 hgr hown
          go_wp2
          go_roundw
          case rel => exact ⟨k + 1, by omega, by go_num, R.1, R.2⟩
          case measure => simp [intOf]; omega
      · obtain rfl : k = n := by omega
        go_wp2
        go_ret
        exact ⟨_, rfl, hown, HB.out⟩
  · go_wp2
    go_loopw [9, 10, 11, 17] (fun v _ _ i wr => ∃ k : Nat, k ≤ n ∧ i = .int .i64 k ∧ Gath wr w.heap.size v (pre p a b c k) ∧ Below w.heap.size w wr) (fun _ _ _ i _ => n - (intOf i).toNat)
    case atStart => exact ⟨0, Nat.zero_le _, rfl, gath_nil _ _, Below.refl _ _⟩
    case round =>
      obtain ⟨k, hk, rfl, hown, hbel⟩ := hrel
      have HB := Lib.hid hbel
      clear hbel
      by_cases hlt : k < n
      · by_cases hlt2 : k < lb
        · obtain ⟨x0, off, rfl, hcx⟩ := ints_at (hsa.below (Nat.le_refl _) HB.out) HLA.out (k := k) (by omega)
          have ex := els_at hp ha k
          obtain ⟨x, hx⟩ : ∃ x, a.getD k 0 = x := ⟨_, rfl⟩
          rw [hx] at hcx ex
          obtain ⟨ex0, ex1⟩ := id ex
          have HX := Lib.hid hx
          clear hx
          obtain ⟨y0, offb, rfl, hcy⟩ := ints_at (hsb.below (Nat.le_refl _) HB.out) HLB.out (k := k) (by omega)
          have ey := els_at hp hb k
          obtain ⟨y, hy⟩ : ∃ y, b.getD k 0 = y := ⟨_, rfl⟩
          rw [hy] at hcy ey
          obtain ⟨ey0, ey1⟩ := id ey
          have HY := Lib.hid hy
          clear hy
          obtain ⟨m4, m5⟩ := mul_bound hp2 hc0 hc1 ey0 ey1
          go_wp2_with (at_builtin; refine append_one _ rfl _ _ rfl w.heap.size _ (pre p a b c k) ((x + c * y) % p) rfl (hown.alloc _) ⟨wr.heap.size, 0, none⟩ rfl ?c1 ?c2 ?c3 ?_)
          case c1 => rw [cell_new]; rfl
          case c2 => rw [pre_length]; omega
          case c3 => have := HB.out.size; simp; omega
          intro v' w2 hown2 hgr
          have R := ref_step (lin_both HX.out HY.out) rfl hown HB.out hown2 hgr
          clear hown2 hgr hown
          go_wp2
          go_roundw
          case rel => exact ⟨k + 1, by omega, by go_num, R.1, R.2⟩
          case measure => simp [intOf]; omega
        · obtain ⟨x0, off, rfl, hcx⟩ := ints_at (hsa.below (Nat.le_refl _) HB.out) HLA.out (k := k) (by omega)
          have ex := els_at hp ha k
          obtain ⟨x, hx⟩ : ∃ x, a.getD k 0 = x := ⟨_, rfl⟩
          rw [hx] at hcx ex
          obtain ⟨ex0, ex1⟩ := id ex
          have HX := Lib.hid hx
          clear hx
          go_wp2_with (at_builtin; refine append_one _ rfl _ _ rfl w.heap.size _ (pre p a b c k) (x) rfl (hown.alloc _) ⟨wr.heap.size, 0, none⟩ rfl ?c1 ?c2 ?c3 ?_)
          case c1 => rw [cell_new]; rfl
          case c2 => rw [pre_length]; omega
          case c3 => have := HB.out.size; simp; omega
          intro v' w2 hown2 hgr
          have R := ref_step (lin_left HX.out (by have := HLB.out; omega) ex) rfl hown HB.out hown2 hgr
          clear hown2 hgr hown
          go_wp2
          go_roundw
          case rel => exact ⟨k + 1, by omega, by go_num, R.1, R.2⟩
          case measure => simp [intOf]; omega
      · obtain rfl : k = n := by omega
        go_wp2
        go_ret
        exact ⟨_, rfl, hown, HB.out⟩
theorem ref_linear_any (p c : Int) (sa sb : Value) (a b : List Int) (w : World) (hp : 1 ≤ p) (hp2 : p ≤ 1073741824) (hc : El p c) (ha : Els p a) (hb : Els p b) (hsa : Ints w sa a) (hsb : Ints w sb b)
    (hla : a.length ≤ 1000000) (hlb : b.length ≤ 1000000) :
    Calls Try.prog 31 #[.int .i64 p, sa, sb, .int .i64 c] w fun e w' =>
      ∃ v, e = .returned v ∧ Gath w' w.heap.size v (linF p a b c) ∧ Below w.heap.size w w' := by
  obtain ⟨aa, ca, rfl, _, _⟩ := id hsa
  obtain ⟨ab, cb, rfl, _, _⟩ := id hsb
  exact ref_linear_core p c aa ab a.length b.length ca cb (max a.length b.length) a b w hp hp2 hc ha hb hsa hsb rfl rfl (by omega) (by omega)
end Go.Proofs.Ytpohhgbmdgjipaa
