
/- Contracts of the document's answers for Eval, Degree, short. -/
import Derived.Test.YtpgbjnenllfmlaaGreatDoorWts
import Derived.Test.YtpgbjnenllfmlaaGreatDoorOwn
import Derived.Test.YtpgbjnenllfmlaaGreatDoorNum
import Derived.Test.YtpgbjnenllfmlaaGreatDoorThru
import Derived.BigQuiet
/-! Contracts of the document's answers for Eval, Degree, short. -/
namespace Go.Proofs.YtpgbjnenllfmlaaGreatDoor
open Go.RowKit
open Num
set_option linter.unusedVariables false

theorem E_at (l : List Int) (k : Nat) (x : Int) : E (l.drop k) x = l.getD k 0 + x * E (l.drop (k + 1)) x := by
  induction l generalizing k with
  | nil => simp [E]
  | cons c l ih =>
    cases k with
    | zero => simp [E_cons]
    | succ k => simpa using ih k
theorem eval_back {p x c : Int} {l : List Int} {k : Nat} (h : l.getD k 0 = c) : (E (l.drop (k + 1)) x % p * x + c) % p = E (l.drop k) x % p := by
  subst h
  rw [E_at l k, Int.add_comm (l.getD k 0), Int.add_emod, Int.mul_emod, Int.emod_emod_of_dvd _ (Int.dvd_refl p), ← Int.mul_emod, Int.mul_comm x, ← Int.add_emod]

set_option maxHeartbeats 1000000 in
theorem ref_eval_core (p x : Int) (a : Option Addr) (len cap : Nat) (l : List Int) (w : World) (hp : 1 ≤ p) (hp2 : p ≤ 1073741824) (hx : El p x) (hl : Els p l) (hI : Ints w (.slice a len cap) l) (hlen : Hid (len = l.length)) (hn : len ≤ 1000000) :
    Calls Tryz.prog 43 #[.int .i64 p, .slice a len cap, .int .i64 x] w fun e w' => e = .returned (.int .i64 (E l x % p)) ∧ w = w' := by
  obtain ⟨x0, x1⟩ := id hx
  go_enter Tryz.func43, Tryz.ntmps43
  go_wp2
  go_loopw [7, 8] (fun v i wr => ∃ k : Nat, k ≤ len ∧ i = .int .i64 ((k : Int) - 1) ∧ v = .int .i64 (E (l.drop k) x % p) ∧ wr = w) (fun _ i _ => (intOf i + 1).toNat)
  case atStart => exact ⟨len, Nat.le_refl _, rfl, by rw [hlen.out, List.drop_length]; simp [E], rfl⟩
  case round =>
    obtain ⟨k, hk, rfl, rfl, rfl⟩ := hrel
    cases k with
    | succ k =>
      obtain ⟨b, o, rfl, hc⟩ := ints_at hI hlen.out (k := k) (by omega)
      have ec := els_at hp hl k
      obtain ⟨c, hcv⟩ : ∃ c, l.getD k 0 = c := ⟨_, rfl⟩
      rw [hcv] at hc ec
      have HE := Lib.hid (eval_back (p := p) (x := x) hcv)
      obtain ⟨v0, v1⟩ := el_mod hp (E (l.drop (k + 1)) x)
      obtain ⟨c0, c1⟩ := id ec
      obtain ⟨v, hv⟩ : ∃ v, E (l.drop (k + 1)) x % p = v := ⟨_, rfl⟩
      rw [hv] at HE v0 v1 ⊢
      clear hv hcv
      obtain ⟨m1, m2⟩ := mul_bound hp2 v0 v1 x0 x1
      have e1 : ((k + 1 : Nat) : Int) - 1 = (k : Int) := by omega
      rw [e1]
      go_wp2
      go_roundw
      case rel => exact ⟨k, by omega, by go_num, by first | (rw [← HE.out]; go_num) | (rw [HE.out]), trivial⟩
      case measure => simp [intOf] <;> omega
    | zero =>
      go_wp2
      go_ret
      exact ⟨by simp, rfl⟩

set_option maxHeartbeats 1000000 in
theorem ref_degree_core (a : Option Addr) (len cap : Nat) (l : List Int) (w : World) (hI : Ints w (.slice a len cap) l) (hlen : Hid (len = l.length)) (hn : len ≤ 1000000) :
    Calls Tryz.prog 70 #[.slice a len cap] w fun e w' => e = .returned (.int .i64 (dg l - 1)) ∧ w = w' := by
  go_enter Tryz.func70, Tryz.ntmps70
  go_wp2
  go_loopw [3] (fun i wr => ∃ k : Nat, k ≤ len ∧ i = .int .i64 ((k : Int) - 1) ∧ Hid (∀ j, k ≤ j → l.getD j 0 = 0) ∧ wr = w) (fun i _ => (intOf i + 1).toNat)
  case atStart => exact ⟨len, Nat.le_refl _, rfl, Lib.hid (fun j hj => getD_ge (by have := hlen.out; omega)), rfl⟩
  case round =>
    obtain ⟨k, hk, rfl, hz, rfl⟩ := hrel
    cases k with
    | succ k =>
      obtain ⟨b, o, rfl, hc⟩ := ints_at hI hlen.out (k := k) (by omega)
      obtain ⟨c, hcv⟩ : ∃ c, l.getD k 0 = c := ⟨_, rfl⟩
      rw [hcv] at hc
      have HC := Lib.hid hcv
      have e1 : ((k + 1 : Nat) : Int) - 1 = (k : Int) := by omega
      rw [e1]
      clear hcv
      by_cases h0 : c = 0
      · subst h0
        go_wp2
        go_roundw
        case rel =>
          refine ⟨k, by omega, by go_num, Lib.hid fun j hj => ?_, trivial⟩
          by_cases e : j = k
          · subst e; exact HC.out
          · exact hz.out j (by omega)
        case measure => simp [intOf] <;> omega
      · have hd : Hid (dg l = k + 1) := dg_eq hz.out (.inr (by rw [Nat.add_sub_cancel, HC.out]; exact h0))
        have h1 : (c == 0) = false := by simpa using h0
        clear hz
        go_wp2
        go_ret
        exact ⟨by rw [hd.out, show ((k + 1 : Nat) : Int) - 1 = (k : Int) by omega]; rfl, rfl⟩
    | zero =>
      have hd : Hid (dg l = 0) := dg_eq hz.out (.inl rfl)
      clear hz
      go_wp2
      go_ret
      exact ⟨by rw [hd.out]; rfl, rfl⟩

theorem ref_degree_any (s : Value) (l : List Int) (w : World) (hI : Ints w s l) (hn : l.length ≤ 1000000) :
    Calls Tryz.prog 70 #[s] w fun e w' => e = .returned (.int .i64 (dg l - 1)) ∧ w = w' := by
  obtain ⟨a, c, rfl, _, _⟩ := id hI
  exact ref_degree_core a _ c l w hI (Lib.hid rfl) hn
theorem ref_eval_any (p x : Int) (s : Value) (l : List Int) (w : World) (hp : 1 ≤ p) (hp2 : p ≤ 1073741824) (hx : El p x) (hl : Els p l) (hI : Ints w s l) (hn : l.length ≤ 1000000) :
    Calls Tryz.prog 43 #[.int .i64 p, s, .int .i64 x] w fun e w' => e = .returned (.int .i64 (E l x % p)) ∧ w = w' := by
  obtain ⟨a, c, rfl, _, _⟩ := id hI
  exact ref_eval_core p x a _ c l w hp hp2 hx hl hI (Lib.hid rfl) hn

set_option maxHeartbeats 1000000 in
theorem ref_short_any (a : Option Addr) (cap : Nat) (l : List Int) (w : World) (hI : Ints w (.slice a l.length cap) l) (hn : l.length ≤ 1000000) (hc : l.length ≤ cap) (hc2 : cap ≤ 9223372036854775807) :
    Calls Tryz.prog 94 #[.slice a l.length cap] w fun e w' => ∃ v, e = .returned v ∧ Gath w' w.heap.size v (sh l) ∧ Below w.heap.size w w' := by
  have HD := Lib.hid (ref_degree_any _ l w hI hn)
  have hS : Ints w (.slice a (dg l) cap) (sh l) := ints_sh hI
  have hdl := dg_le l
  have HSL := Lib.hid (sh_len l)
  obtain ⟨g, hg⟩ : ∃ g, dg l = g := ⟨_, rfl⟩
  obtain ⟨z, hz⟩ : ∃ z, sh l = z := ⟨_, rfl⟩
  rw [hg] at HD hS hdl HSL
  rw [hz] at hS HSL ⊢
  have e1 : IntKind.i64.wrap ((g : Int) - 1 + 1) = (g : Int) := by rw [IntWalk.i64_in _ (by omega)]; omega
  obtain ⟨n, hnn⟩ : ∃ n, l.length = n := ⟨_, rfl⟩
  rw [hnn] at hdl hn hc HD ⊢
  clear hI hnn hg hz
  go_enter Tryz.func94, Tryz.ntmps94
  go_wp2_with (first
    | (go_at_call 70; refine HD.out.mono ?_; rintro e w' ⟨rfl, rfl⟩)
    | (at_builtin; refine append_list _ rfl _ _ rfl w.heap.size _ [] z rfl (gath_nil _ _) _ rfl hS (by have := HSL.out; simp; omega) (Nat.le_refl _) ?_))
  intro v' w2 hown hgr
  go_wp2
  go_ret
  exact ⟨v', rfl, hown, (Below.refl _ _).grown hgr (Nat.le_refl _) (fun k h => by cases h)⟩
end Go.Proofs.YtpgbjnenllfmlaaGreatDoor
/-! Contract of the document's answer for places; the product that its weights gather. -/
namespace Go.Proofs.YtpgbjnenllfmlaaGreatDoor
open Go.RowKit
open Num
set_option linter.unusedVariables false

theorem take_has {xs : List Int} {j k : Nat} {v : Int} (hj : j < k) (hk : k ≤ xs.length) (h : xs.getD j 0 = v) : (xs.take k).contains v = true := by
  refine List.elem_eq_true_of_mem ?_
  rw [List.mem_iff_getElem]
  refine ⟨j, by rw [List.length_take]; omega, ?_⟩
  rw [List.getElem_take, ← h, getD_lt (by omega)]
theorem take_hasnt {xs : List Int} {k : Nat} {v : Int} (hk : k ≤ xs.length) (h : ∀ j, j < k → xs.getD j 0 ≠ v) : (xs.take k).contains v = false := by
  cases e : (xs.take k).contains v with
  | false => rfl
  | true =>
    have hm : v ∈ xs.take k := List.mem_of_elem_eq_true e
    obtain ⟨j, hj, he⟩ := List.mem_iff_getElem.1 hm
    rw [List.length_take] at hj
    rw [List.getElem_take] at he
    exact absurd (by rw [getD_lt (by omega)]; exact he) (h j (by omega))
def plc0 (xs : List Int) : Int := if dupB xs = true then 6 else 0
theorem plc_of {xs : List Int} (h : xs ≠ []) : plc xs = plc0 xs := by unfold plc plc0; rw [if_neg h]
theorem plc0_dup {xs : List Int} {k : Nat} (hk : k < xs.length) (h : (xs.take k).contains (xs.getD k 0) = true) : plc0 xs = 6 := by unfold plc0; rw [if_pos (dupB_true hk h)]
theorem plc0_ok {xs : List Int} (h : ∀ k, k < xs.length → (xs.take k).contains (xs.getD k 0) = false) : plc0 xs = 0 := by unfold plc0; rw [if_neg (by rw [dupB_false h]; simp)]

/-! ### The product over all places but one -/
def PK (xs : List Int) (i : Nat) (x : Int) : Nat → Int
  | 0 => 1
  | j + 1 => if j = i then PK xs i x j else PK xs i x j * (x - xs.getD j 0)
theorem PK_low {xs : List Int} {i : Nat} {x : Int} : ∀ j, j ≤ i → j ≤ xs.length → PK xs i x j = prodE (xs.take j) x
  | 0, _, _ => by simp [PK, prodE]
  | j + 1, h, hl => by rw [PK, if_neg (by omega), PK_low j (by omega) (by omega), take_succ_getD (by omega), prodE_snoc]
theorem PK_all {xs : List Int} {i : Nat} {x : Int} (hi : i < xs.length) : ∀ k, i + 1 + k ≤ xs.length → PK xs i x (i + 1 + k) = prodE (xs.take i ++ (xs.drop (i + 1)).take k) x
  | 0, _ => by rw [Nat.add_zero, PK, if_pos rfl, PK_low i (Nat.le_refl _) (by omega)]; simp
  | k + 1, h => by
    have h1 : (xs.drop (i + 1)).take (k + 1) = (xs.drop (i + 1)).take k ++ [xs.getD (i + 1 + k) 0] := by
      rw [take_succ_getD (by rw [List.length_drop]; omega)]
      congr 2
      simp [List.getD, List.getElem?_drop]
    rw [show i + 1 + (k + 1) = (i + 1 + k) + 1 by omega, PK, if_neg (by omega), PK_all hi k (by omega), h1, ← List.append_assoc, prodE_snoc]
theorem PK_rest {xs : List Int} {i : Nat} {x : Int} (hi : i < xs.length) : PK xs i x xs.length = prodE (rest xs i) x := by
  have h := PK_all (x := x) hi (xs.length - (i + 1)) (by omega)
  rw [show i + 1 + (xs.length - (i + 1)) = xs.length by omega, List.take_of_length_le (l := xs.drop (i + 1)) (by rw [List.length_drop]; omega)] at h
  exact h
theorem PK_step {p x b : Int} {xs : List Int} {i j : Nat} (h : j ≠ i) (hb : xs.getD j 0 = b) : (PK xs i x j % p) * subF p x b % p = PK xs i x (j + 1) % p := by
  subst hb
  rw [PK, if_neg h, subF, ← Int.mul_emod]
theorem PK_skip {x : Int} {xs : List Int} {i j : Nat} (h : j = i) : PK xs i x (j + 1) = PK xs i x j := by rw [PK, if_pos h]
end Go.Proofs.YtpgbjnenllfmlaaGreatDoor
/-! Contracts of the document's answers for Weights and Interpolate. -/
namespace Go.Proofs.YtpgbjnenllfmlaaGreatDoor
open Go.RowKit Go.Sort
open Num
set_option linter.unusedVariables false

def wtsK (p : Int) (xs : List Int) (x : Int) (k : Nat) : List Int := (List.range k).map (wt p xs x)
theorem wtsK_len (p : Int) (xs : List Int) (x : Int) (k : Nat) : (wtsK p xs x k).length = k := by simp [wtsK]
theorem wtsK_succ (p : Int) (xs : List Int) (x : Int) (k : Nat) : wtsK p xs x k ++ [wt p xs x k] = wtsK p xs x (k + 1) := by simp [wtsK, List.range_succ]
theorem wts_step {p x z : Int} {xs : List Int} {k B : Nat} {wb w8 wr : World} {v v' : Value} {o : Obj} (hz : z = wt p xs x k) (hB : B ≤ wb.heap.size) (hown : Gath w8 B v (wtsK p xs x k)) (hbel : Below B wb w8)
    (hown2 : Gath wr B v' (wtsK p xs x k ++ [z])) (hgr : (w8.alloc o).grownBy wr v.ownBlock) : Gath wr B v' (wtsK p xs x (k + 1)) ∧ Below B wb wr := by
  subst hz
  rw [wtsK_succ] at hown2
  exact ⟨hown2, (hbel.alloc (Nat.le_trans hB hbel.size) o).grown hgr (by have := hbel.size; simp; omega) fun g hg => hown.block g hg⟩
theorem wt_val {p x : Int} (hp : PrmI p) {xs : List Int} {i : Nat} (hi : i < xs.length) (hn : xs.Nodup) (he : Els p xs) :
    0 < PK xs i (xs.getD i 0) xs.length % p ∧ PK xs i x xs.length % p * iv p (PK xs i (xs.getD i 0) xs.length % p) % p = wt p xs x i := by
  have hp1 : 1 ≤ p := by have := hp.1; omega
  have h1 := prodE_out hp (els_getD hp1 he i) (rest_els he i) (not_mem_rest hn hi)
  have h2 := el_mod hp1 (prodE (rest xs i) (xs.getD i 0))
  have h3 : prodE (rest xs i) (xs.getD i 0) % p ≠ 0 := fun e => h1 ((Cg.mod p _).symm.trans (Cg.of_eq e))
  rw [PK_rest hi, PK_rest hi]
  refine ⟨by have := h2.1; omega, ?_⟩
  unfold wt mulF iv0
  rw [if_neg h3]

end Go.Proofs.YtpgbjnenllfmlaaGreatDoor
/-! Contract of the document's answer for Interpolate, and all answers that are errors. -/
namespace Go.Proofs.YtpgbjnenllfmlaaGreatDoor
open Go.RowKit Go.Sort
open Num
set_option linter.unusedVariables false

/-- The error of points. -/
def ec (xs ys : List Int) : Int := if xs.length = ys.length then plc xs else 1
theorem ec_eq {xs ys : List Int} (h : xs.length = ys.length) : ec xs ys = plc xs := if_pos h
theorem add_mul_eq' (p v c d : Int) : (v + c * d) % p = addF p v (mulF p c d) := by unfold addF mulF; rw [Int.add_emod_emod]
theorem ec_ne {xs ys : List Int} (h : ¬ xs.length = ys.length) : ec xs ys = 1 := if_neg h

set_option maxHeartbeats 1000000 in
theorem through_err (p : Int) (ax ay : Option Addr) (n m cx cy : Nat) (xs ys : List Int) (w : World) (hp2 : p ≤ 1073741824) (hxs : Els p xs) (hsx : Ints w (.slice ax n cx) xs) (hnx : Hid (n = xs.length)) (hny : Hid (m = ys.length)) (hok : ec xs ys ≠ 0) (hl : n ≤ 1000) (hl2 : m ≤ 1000) :
    Calls Tryz.prog 84 #[.int .i64 p, .slice ax n cx, .slice ay m cy] w fun e w' => e = .returned (.tuple #[.slice none 0 0, .int .i64 (ec xs ys)]) ∧ Below w.heap.size w w' := by
  by_cases he : n = m
  · subst he
    rw [ec_eq (by rw [← hnx.out, ← hny.out])] at hok ⊢
    have HCP := Lib.hid (checkPlaces_any _ xs w hsx (els_wf hp2 hxs))
    have hbn : (plc xs != 0) = true := by simpa using hok
    have hbn' : (plc xs == 0) = false := by simpa using hok
    generalize plc xs = e0 at *
    go_enter Tryz.func84, Tryz.ntmps84
    go_wp2_with (go_at_call 99; refine HCP.out.mono ?_; rintro e w1 ⟨rfl, hb1⟩)
    go_ret2
    exact ⟨rfl, hb1⟩
  · have z2 : ((n : Int) == (m : Int)) = false := by simp; omega
    have z3 : ((n : Int) != (m : Int)) = true := by simp; omega
    have HP : Hid (ec xs ys = 1) := ec_ne (by rw [← hnx.out, ← hny.out]; exact he)
    clear hok
    go_enter Tryz.func84, Tryz.ntmps84
    go_wp2
    go_ret2
    exact ⟨by rw [HP.out]; rfl, Below.refl _ _⟩
end Go.Proofs.YtpgbjnenllfmlaaGreatDoor
/-! The walk of PolyWeights. -/
namespace Go.Proofs.YtpgbjnenllfmlaaGreatDoor
open Go.RowKit
open Num
set_option linter.unusedVariables false

theorem slice_of {s : Value} {l : List Int} {w : World} (h : Ints w s l) : ∃ a n c, s = .slice a n c := by obtain ⟨x, y, h, _⟩ := h; exact ⟨x, _, y, h⟩
theorem plc_nodup {xs : List Int} (h0 : 0 < xs.length) (h : xs.Nodup) : plc xs = 0 := plc_ok (fun e => by subst e; simp at h0) (dup_of_nodup h)
theorem one_mod {p : Int} (hp : 2 ≤ p) : (1 : Int) % p = 1 := Int.emod_eq_of_lt (by omega) (by omega)
theorem wt_own {p : Int} (hp : PrmI p) {xs : List Int} (hn : xs.Nodup) (he : Els p xs) {i : Nat} (h : i < xs.length) : wt p xs (xs.getD i 0) i = 1 :=
  (wt_one hp hn he h).el (wt_el (by have := hp.1; omega) _ _ _) ⟨by omega, by have := hp.1; omega⟩
theorem wt_other {p : Int} (hp : 1 ≤ p) {xs : List Int} {i j : Nat} (hj : j < xs.length) (h : j ≠ i) : wt p xs (xs.getD j 0) i = 0 :=
  (wt_zero hj h).el (wt_el hp _ _ _) (el_zero hp)

/-- A long list: only the sanity check. -/
theorem long_len {l : List Int} (h : ¬ (l.length : Int) ≤ 500) : decide ((l.length : Int) ≤ 500) = false := by simpa using h

end Go.Proofs.YtpgbjnenllfmlaaGreatDoor
