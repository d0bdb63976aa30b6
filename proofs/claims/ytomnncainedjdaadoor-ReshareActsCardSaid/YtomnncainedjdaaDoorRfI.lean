
/- Contracts of the document's answers for Eval, Degree, short. -/
import Derived.Test.YtomnncainedjdaaDoorWts
import Derived.Test.YtomnncainedjdaaDoorOwn
import Derived.Test.YtomnncainedjdaaDoorNum
import Derived.Test.YtomnncainedjdaaDoorThru
import Derived.BigQuiet
/-! Contracts of the document's answers for Eval, Degree, short. -/
namespace Go.Proofs.YtomnncainedjdaaDoor
open Go.RowKit
open Num
set_option linter.unusedVariables false

theorem E_at (l : List Int) (k : Nat) (x : Int) : E (l.drop k) x = l.getD k 0 + x * E (l.drop (k + 1)) x := by
  induction l generalizing k with
  | nil => simp [E]
  | cons c l ih =>
    cases k with
    | zero => simp [E_cons]
    | succ k => simpa using ih k
theorem eval_back {p x c : Int} {l : List Int} {k : Nat} (h : l.getD k 0 = c) : (E (l.drop (k + 1)) x % p * x + c) % p = E (l.drop k) x % p := by
  subst h
  rw [E_at l k, Int.add_comm (l.getD k 0), Int.add_emod, Int.mul_emod, Int.emod_emod_of_dvd _ (Int.dvd_refl p), ← Int.mul_emod, Int.mul_comm x, ← Int.add_emod]

set_option maxHeartbeats 1000000 in
theorem ref_eval_core (p x : Int) (a : Option Addr) (len cap : Nat) (l : List Int) (w : World) (hp : 1 ≤ p) (hp2 : p ≤ 1073741824) (hx : El p x) (hl : Els p l) (hI : Ints w (.slice a len cap) l) (hlen : Hid (len = l.length)) (hn : len ≤ 1000000) :
    Calls Tryd.prog 51 #[.int .i64 p, .slice a len cap, .int .i64 x] w fun e w' => e = .returned (.int .i64 (E l x % p)) ∧ w = w' := by
  obtain ⟨x0, x1⟩ := id hx
  go_enter Tryd.func51, Tryd.ntmps51
  go_wp2
  go_loopw [7, 8] (fun v i wr => ∃ k : Nat, k ≤ len ∧ i = .int .i64 ((k : Int) - 1) ∧ v = .int .i64 (E (l.drop k) x % p) ∧ wr = w) (fun _ i _ => (intOf i + 1).toNat)
  case atStart => exact ⟨len, Nat.le_refl _, rfl, by rw [hlen.out, List.drop_length]; simp [E], rfl⟩
  case round =>
    obtain ⟨k, hk, rfl, rfl, rfl⟩ := hrel
    cases k with
    | succ k =>
      obtain ⟨b, o, rfl, hc⟩ := ints_at hI hlen.out (k := k) (by omega)
      have ec := els_at hp hl k
      obtain ⟨c, hcv⟩ : ∃ c, l.getD k 0 = c := ⟨_, rfl⟩
      rw [hcv] at hc ec
      have HE := Lib.hid (eval_back (p := p) (x := x) hcv)
      obtain ⟨v0, v1⟩ := el_mod hp (E (l.drop (k + 1)) x)
      obtain ⟨c0, c1⟩ := id ec
      obtain ⟨v, hv⟩ : ∃ v, E (l.drop (k + 1)) x % p = v := ⟨_, rfl⟩
      rw [hv] at HE v0 v1 ⊢
      clear hv hcv
      obtain ⟨m1, m2⟩ := mul_bound hp2 v0 v1 x0 x1
      have e1 : ((k + 1 : Nat) : Int) - 1 = (k : Int) := by omega
      rw [e1]
      go_wp2
      go_roundw
      case rel => exact ⟨k, by omega, by go_num, by first | (rw [← HE.out]; go_num) | (rw [HE.out]), trivial⟩
      case measure => simp [intOf] <;> omega
    | zero =>
      go_wp2
      go_ret
      exact ⟨by simp, rfl⟩

theorem ref_eval_any (p x : Int) (s : Value) (l : List Int) (w : World) (hp : 1 ≤ p) (hp2 : p ≤ 1073741824) (hx : El p x) (hl : Els p l) (hI : Ints w s l) (hn : l.length ≤ 1000000) :
    Calls Tryd.prog 51 #[.int .i64 p, s, .int .i64 x] w fun e w' => e = .returned (.int .i64 (E l x % p)) ∧ w = w' := by
  obtain ⟨a, c, rfl, _, _⟩ := id hI
  exact ref_eval_core p x a _ c l w hp hp2 hx hl hI (Lib.hid rfl) hn

end Go.Proofs.YtomnncainedjdaaDoor
/-! Contract of the document's answer for places; the product that its weights gather. -/
namespace Go.Proofs.YtomnncainedjdaaDoor
open Go.RowKit
open Num
set_option linter.unusedVariables false

theorem take_has {xs : List Int} {j k : Nat} {v : Int} (hj : j < k) (hk : k ≤ xs.length) (h : xs.getD j 0 = v) : (xs.take k).contains v = true := by
  refine List.elem_eq_true_of_mem ?_
  rw [List.mem_iff_getElem]
  refine ⟨j, by rw [List.length_take]; omega, ?_⟩
  rw [List.getElem_take, ← h, getD_lt (by omega)]
theorem take_hasnt {xs : List Int} {k : Nat} {v : Int} (hk : k ≤ xs.length) (h : ∀ j, j < k → xs.getD j 0 ≠ v) : (xs.take k).contains v = false := by
  cases e : (xs.take k).contains v with
  | false => rfl
  | true =>
    have hm : v ∈ xs.take k := List.mem_of_elem_eq_true e
    obtain ⟨j, hj, he⟩ := List.mem_iff_getElem.1 hm
    rw [List.length_take] at hj
    rw [List.getElem_take] at he
    exact absurd (by rw [getD_lt (by omega)]; exact he) (h j (by omega))
def plc0 (xs : List Int) : Int := if dupB xs = true then 6 else 0
theorem plc_of {xs : List Int} (h : xs ≠ []) : plc xs = plc0 xs := by unfold plc plc0; rw [if_neg h]
theorem plc0_dup {xs : List Int} {k : Nat} (hk : k < xs.length) (h : (xs.take k).contains (xs.getD k 0) = true) : plc0 xs = 6 := by unfold plc0; rw [if_pos (dupB_true hk h)]
theorem plc0_ok {xs : List Int} (h : ∀ k, k < xs.length → (xs.take k).contains (xs.getD k 0) = false) : plc0 xs = 0 := by unfold plc0; rw [if_neg (by rw [dupB_false h]; simp)]

set_option maxRecDepth 100000 in
set_option maxHeartbeats 1000000 in
theorem ref_places_core (a : Option Addr) (len cap : Nat) (xs : List Int) (w : World) (hI : Ints w (.slice a len cap) xs) (hlen : Hid (len = xs.length)) (hn : len ≤ 1000000) (hc : len ≤ cap) (hc2 : cap ≤ 9223372036854775807) :
    Calls Tryd.prog 65 #[.slice a len cap] w fun e w' => e = .returned (.int .i64 (plc0 xs)) ∧ w = w' := by
  go_enter Tryd.func65, Tryd.ntmps65
  go_wp2
  go_loopw [3, 4, 6, 9] (fun _ _ _ i wr => ∃ k : Nat, k ≤ len ∧ i = .int .i64 k ∧ Hid (∀ j, j < k → (xs.take j).contains (xs.getD j 0) = false) ∧ wr = w) (fun _ _ _ i _ => len - (intOf i).toNat)
  case atStart => exact ⟨0, Nat.zero_le _, rfl, Lib.hid (fun j hj => by omega), rfl⟩
  case round =>
    obtain ⟨k, hk, rfl, hd, rfl⟩ := hrel
    by_cases hlt : k < len
    · obtain ⟨b, o, rfl, hcx⟩ := ints_at hI hlen.out (k := k) hlt
      obtain ⟨x, hx⟩ : ∃ x, xs.getD k 0 = x := ⟨_, rfl⟩
      rw [hx] at hcx
      have HX := Lib.hid hx
      clear hx
      go_wp2
      go_loopw [6, 18] (fun _ c wr' => ∃ j : Nat, j ≤ k ∧ c = .int .i64 j ∧ Hid (∀ i, i < j → xs.getD i 0 ≠ x) ∧ wr' = wr) (fun _ c _ => k - (intOf c).toNat)
      case atStart => exact ⟨0, Nat.zero_le _, rfl, Lib.hid (fun j hj => by omega), rfl⟩
      case round =>
        obtain ⟨j, hj, rfl, hne, rfl⟩ := hrel
        by_cases hjk : j < k
        · obtain ⟨b1, o1, e1, hcy⟩ := ints_at hI hlen.out (k := j) (by omega)
          injection e1 with e1
          injection e1 with e1 e2
          subst e1 e2
          obtain ⟨y, hy⟩ : ∃ y, xs.getD j 0 = y := ⟨_, rfl⟩
          rw [hy] at hcy
          have HY := Lib.hid hy
          clear hy
          by_cases hxy : x = y
          · have hp6 : Hid (plc0 xs = 6) := plc0_dup (k := k) (by rw [← hlen.out]; exact hlt) (take_has hjk (by rw [← hlen.out]; omega) (by rw [HY.out, HX.out, hxy]))
            subst hxy
            clear hne hd
            go_wp2
            go_ret
            exact ⟨by rw [hp6.out]; rfl, rfl⟩
          · have hb : (x == y) = false := by simpa using hxy
            have hb2 : decide (x = y) = false := decide_eq_false hxy
            go_wp2
            go_roundw
            case rel =>
              refine ⟨j + 1, by omega, by go_num, Lib.hid fun i hi => ?_, trivial⟩
              by_cases e : i = j
              · subst e; rw [HY.out]; exact fun e => hxy e.symm
              · exact hne.out i (by omega)
            case measure => simp [intOf]; omega
        · obtain rfl : j = k := by omega
          have hct : Hid ((xs.take j).contains (xs.getD j 0) = false) := by
            show _ = _
            rw [HX.out]; exact take_hasnt (by rw [← hlen.out]; omega) hne.out
          clear hne
          go_wp2
          go_roundw
          case rel =>
            refine ⟨j + 1, by omega, by go_num, Lib.hid fun i hi => ?_, trivial⟩
            by_cases e : i = j
            · subst e; exact hct.out
            · exact hd.out i (by omega)
          case measure => simp [intOf]; omega
    · obtain rfl : k = len := by omega
      have hp0 : Hid (plc0 xs = 0) := plc0_ok fun j hj => hd.out j (by rw [hlen.out]; exact hj)
      clear hd
      go_wp2
      go_ret
      exact ⟨by rw [hp0.out]; rfl, rfl⟩

/-! ### The product over all places but one -/
def PK (xs : List Int) (i : Nat) (x : Int) : Nat → Int
  | 0 => 1
  | j + 1 => if j = i then PK xs i x j else PK xs i x j * (x - xs.getD j 0)
theorem PK_low {xs : List Int} {i : Nat} {x : Int} : ∀ j, j ≤ i → j ≤ xs.length → PK xs i x j = prodE (xs.take j) x
  | 0, _, _ => by simp [PK, prodE]
  | j + 1, h, hl => by rw [PK, if_neg (by omega), PK_low j (by omega) (by omega), take_succ_getD (by omega), prodE_snoc]
theorem PK_all {xs : List Int} {i : Nat} {x : Int} (hi : i < xs.length) : ∀ k, i + 1 + k ≤ xs.length → PK xs i x (i + 1 + k) = prodE (xs.take i ++ (xs.drop (i + 1)).take k) x
  | 0, _ => by rw [Nat.add_zero, PK, if_pos rfl, PK_low i (Nat.le_refl _) (by omega)]; simp
  | k + 1, h => by
    have h1 : (xs.drop (i + 1)).take (k + 1) = (xs.drop (i + 1)).take k ++ [xs.getD (i + 1 + k) 0] := by
      rw [take_succ_getD (by rw [List.length_drop]; omega)]
      congr 2
      simp [List.getD, List.getElem?_drop]
    rw [show i + 1 + (k + 1) = (i + 1 + k) + 1 by omega, PK, if_neg (by omega), PK_all hi k (by omega), h1, ← List.append_assoc, prodE_snoc]
theorem PK_rest {xs : List Int} {i : Nat} {x : Int} (hi : i < xs.length) : PK xs i x xs.length = prodE (rest xs i) x := by
  have h := PK_all (x := x) hi (xs.length - (i + 1)) (by omega)
  rw [show i + 1 + (xs.length - (i + 1)) = xs.length by omega, List.take_of_length_le (l := xs.drop (i + 1)) (by rw [List.length_drop]; omega)] at h
  exact h
theorem PK_step {p x b : Int} {xs : List Int} {i j : Nat} (h : j ≠ i) (hb : xs.getD j 0 = b) : (PK xs i x j % p) * subF p x b % p = PK xs i x (j + 1) % p := by
  subst hb
  rw [PK, if_neg h, subF, ← Int.mul_emod]
theorem PK_skip {x : Int} {xs : List Int} {i j : Nat} (h : j = i) : PK xs i x (j + 1) = PK xs i x j := by rw [PK, if_pos h]
end Go.Proofs.YtomnncainedjdaaDoor
/-! Contracts of the document's answers for Weights and Interpolate. -/
namespace Go.Proofs.YtomnncainedjdaaDoor
open Go.RowKit Go.Sort
open Num
set_option linter.unusedVariables false

def wtsK (p : Int) (xs : List Int) (x : Int) (k : Nat) : List Int := (List.range k).map (wt p xs x)
theorem wtsK_len (p : Int) (xs : List Int) (x : Int) (k : Nat) : (wtsK p xs x k).length = k := by simp [wtsK]
theorem wtsK_succ (p : Int) (xs : List Int) (x : Int) (k : Nat) : wtsK p xs x k ++ [wt p xs x k] = wtsK p xs x (k + 1) := by simp [wtsK, List.range_succ]
theorem wts_step {p x z : Int} {xs : List Int} {k B : Nat} {wb w8 wr : World} {v v' : Value} {o : Obj} (hz : z = wt p xs x k) (hB : B ≤ wb.heap.size) (hown : Gath w8 B v (wtsK p xs x k)) (hbel : Below B wb w8)
    (hown2 : Gath wr B v' (wtsK p xs x k ++ [z])) (hgr : (w8.alloc o).grownBy wr v.ownBlock) : Gath wr B v' (wtsK p xs x (k + 1)) ∧ Below B wb wr := by
  subst hz
  rw [wtsK_succ] at hown2
  exact ⟨hown2, (hbel.alloc (Nat.le_trans hB hbel.size) o).grown hgr (by have := hbel.size; simp; omega) fun g hg => hown.block g hg⟩
theorem wt_val {p x : Int} (hp : PrmI p) {xs : List Int} {i : Nat} (hi : i < xs.length) (hn : xs.Nodup) (he : Els p xs) :
    0 < PK xs i (xs.getD i 0) xs.length % p ∧ PK xs i x xs.length % p * iv p (PK xs i (xs.getD i 0) xs.length % p) % p = wt p xs x i := by
  have hp1 : 1 ≤ p := by have := hp.1; omega
  have h1 := prodE_out hp (els_getD hp1 he i) (rest_els he i) (not_mem_rest hn hi)
  have h2 := el_mod hp1 (prodE (rest xs i) (xs.getD i 0))
  have h3 : prodE (rest xs i) (xs.getD i 0) % p ≠ 0 := fun e => h1 ((Cg.mod p _).symm.trans (Cg.of_eq e))
  rw [PK_rest hi, PK_rest hi]
  refine ⟨by have := h2.1; omega, ?_⟩
  unfold wt mulF iv0
  rw [if_neg h3]

set_option maxRecDepth 100000 in
set_option maxHeartbeats 4000000 in
theorem ref_weights_core (p x : Int) (aa : Option Addr) (n ca : Nat) (xs : List Int) (w : World) (hp : PrmI p) (hp2 : p ≤ 1073741824) (hx : El p x) (hxs : Els p xs)
    (hsx : Ints w (.slice aa n ca) xs) (hnx : Hid (n = xs.length)) (hok : Hid (plc xs = 0)) (hl : n ≤ 1000) (hc : n ≤ ca) (hc2 : ca ≤ 9223372036854775807) :
    Calls Tryd.prog 44 #[.int .i64 p, .slice aa n ca, .int .i64 x] w fun e w' =>
      ∃ v, e = .returned (.tuple #[v, .int .i64 0]) ∧ Gath w' w.heap.size v (wts p xs x) ∧ Below w.heap.size w w' := by
  have hp0 := hp.1
  have hp1 : 1 ≤ p := by omega
  have HPR := Lib.hid hp
  have hne : xs ≠ [] := fun e => by have h := hok.out; rw [e, plc_nil] at h; cases h
  have h0 : 0 < n := by rw [hnx.out]; exact List.length_pos_iff.2 hne
  have hp00 : plc0 xs = 0 := by rw [← plc_of hne]; exact hok.out
  have HND : Hid (xs.Nodup) := nodup_of (by
    have h := hp00; unfold plc0 at h
    cases e : dupB xs with
    | false => rfl
    | true => rw [e] at h; cases h)
  have HPL := Lib.hid (ref_places_core aa n ca xs w hsx hnx (by omega) hc hc2)
  rw [hp00] at HPL
  have z1 : ((n : Int) == 0) = false := by simp; omega
  have q1 : (1 : Int).tmod p = 1 := by rw [Int.tmod_eq_emod_of_nonneg (by omega)]; exact one_mod hp0
  have q2 : ¬ p = 0 := by omega
  have hmx : Tryd.prog.follows .mixedOrders = true := by kernel_rfl
  obtain ⟨hx0, hx1⟩ := id hx
  clear hp hne hp00
  go_enter Tryd.func44, Tryd.ntmps44
  go_wp2_with (go_at_call 65; refine HPL.out.mono ?_; rintro e w' ⟨rfl, rfl⟩)
  clear HPL
  go_loopw [9, 10, 11, 12, 13, 14, 15, 16, 17, 28] (fun v _ _ _ _ _ _ _ _ i wr => ∃ k : Nat, k ≤ n ∧ i = .int .i64 k ∧ Hid (Gath wr w.heap.size v (wtsK p xs x k)) ∧ Hid (Below w.heap.size w wr)) (fun _ _ _ _ _ _ _ _ _ i _ => n - (intOf i).toNat)
  case atStart => exact ⟨0, Nat.zero_le _, rfl, gath_nil _ _, Below.refl _ _⟩
  case round =>
    obtain ⟨k, hk, rfl, hg, hbel⟩ := hrel
    have hsxr := Lib.hid (hsx.below (Nat.le_refl _) hbel.out)
    by_cases hlt : k < n
    · obtain ⟨b0, o0, rfl, hca⟩ := ints_at hsxr.out hnx.out (k := k) hlt
      have ea := els_at hp1 hxs k
      obtain ⟨a, hav⟩ : ∃ a, xs.getD k 0 = a := ⟨_, rfl⟩
      rw [hav] at hca ea
      have HA := Lib.hid hav
      have HWT := Lib.hid (wt_val (x := x) HPR.out (by rw [← hnx.out]; exact hlt) HND.out hxs)
      rw [hav] at HWT
      clear hav
      go_wp2
      refine wp_region_quiet_below (by kernel_rfl) (by kernel_rfl) ?_
      repeat (go_big_quiet_step (fail))
      refine wpQuiet_nil ?_
      intro _ hw'
      obtain ⟨⟨dq, osq⟩, hw''⟩ := hw'
      subst hw''
      have hbq := below_regrown wr dq osq
      generalize grow (redrawn wr dq) osq = w3 at *
      have HG3 := Lib.hid (hg.out.kept hbq (Nat.le_refl _))
      have HB3 := Lib.hid (hbel.out.trans (hbq.mono hbel.out.size))
      have HX3 := Lib.hid (hsxr.out.below (Nat.le_refl _) hbq)
      clear hbq hg hbel hsxr hca
      go_wp2
      go_loopw [12, 13, 14, 15, 39] (fun t lo _ _ c wr' => ∃ j : Nat, j ≤ n ∧ c = .int .i64 j ∧ t = .int .i64 (PK xs k x j % p) ∧ lo = .int .i64 (PK xs k a j % p) ∧ Hid (Below w3.heap.size w3 wr')) (fun _ _ _ _ c _ => n - (intOf c).toNat)
      case atStart => exact ⟨0, Nat.zero_le _, rfl, by rw [show PK xs k x 0 = 1 from rfl, one_mod hp0], by rw [show PK xs k a 0 = 1 from rfl, one_mod hp0], Lib.hid (Below.refl _ _)⟩
      case round =>
        obtain ⟨j, hj, rfl, rfl, rfl, hbel⟩ := hrel
        by_cases hjn : j < n
        · obtain ⟨b1, o1, e1, hcb⟩ := ints_at (HX3.out.below (Nat.le_refl _) hbel.out) hnx.out (k := j) hjn
          injection e1 with e1
          injection e1 with e1 e2
          subst e1 e2
          have eb := els_at hp1 hxs j
          obtain ⟨b, hbv⟩ : ∃ b, xs.getD j 0 = b := ⟨_, rfl⟩
          rw [hbv] at hcb eb
          by_cases hjk : j = k
          · subst hjk
            have H1 : Hid (PK xs j x (j + 1) = PK xs j x j) := PK_skip rfl
            have H2 : Hid (PK xs j a (j + 1) = PK xs j a j) := PK_skip rfl
            clear hbv
            go_wp2
            go_roundw
            case rel => exact ⟨j + 1, by omega, by go_num, by rw [H1.out], by rw [H2.out], hbel⟩
            case measure => simp [intOf]; omega
          · have hkj : ((k : Int) == (j : Int)) = false := by simp; omega
            have hkj2 : decide ((k : Int) = (j : Int)) = false := decide_eq_false (by omega)
            have H1 := Lib.hid (PK_step (p := p) (x := x) hjk hbv)
            have H2 := Lib.hid (PK_step (p := p) (x := a) hjk hbv)
            have eT := el_mod hp1 (PK xs k x j)
            have eL := el_mod hp1 (PK xs k a j)
            obtain ⟨T, hT⟩ : ∃ T, PK xs k x j % p = T := ⟨_, rfl⟩
            obtain ⟨L, hL⟩ : ∃ L, PK xs k a j % p = L := ⟨_, rfl⟩
            rw [hT] at H1 eT ⊢
            rw [hL] at H2 eL ⊢
            obtain ⟨eT0, eT1⟩ := eT
            obtain ⟨eL0, eL1⟩ := eL
            have cS1 : ∀ d os, Calls Tryd.prog 66 #[.int .i64 p, .int .i64 x, .int .i64 b] (grow (redrawn wr d) os) fun e w'' => e = .returned (.int .i64 (subF p x b)) ∧ ∃ q : Regrown, w'' = grow (redrawn wr q.d) q.os :=
              fun d os => Calls.regrown_of (pure_below (ref_sub_el _ hp1 hp2 hx eb))
            have cS2 : ∀ d os, Calls Tryd.prog 66 #[.int .i64 p, .int .i64 a, .int .i64 b] (grow (redrawn wr d) os) fun e w'' => e = .returned (.int .i64 (subF p a b)) ∧ ∃ q : Regrown, w'' = grow (redrawn wr q.d) q.os :=
              fun d os => Calls.regrown_of (pure_below (ref_sub_el _ hp1 hp2 ea eb))
            obtain ⟨s10, s11⟩ := el_sub hp1 x b
            obtain ⟨s20, s21⟩ := el_sub hp1 a b
            obtain ⟨S1, hS1⟩ : ∃ S, subF p x b = S := ⟨_, rfl⟩
            obtain ⟨S2, hS2⟩ : ∃ S, subF p a b = S := ⟨_, rfl⟩
            rw [hS1] at cS1 H1 s10 s11
            rw [hS2] at cS2 H2 s20 s21
            obtain ⟨m1, m2⟩ := mul_bound hp2 eT0 eT1 s10 s11
            obtain ⟨m3, m4⟩ := mul_bound hp2 eL0 eL1 s20 s21
            have u1 : IntKind.i64.wrap (T * S1) = T * S1 := IntWalk.i64_in _ (by omega)
            have u2 : IntKind.i64.wrap (L * S2) = L * S2 := IntWalk.i64_in _ (by omega)
            have u3 : (T * S1).tmod p = T * S1 % p := Int.tmod_eq_emod_of_nonneg m1
            have u4 : (L * S2).tmod p = L * S2 % p := Int.tmod_eq_emod_of_nonneg m3
            have r1 := el_mod hp1 (T * S1)
            have r2 := el_mod hp1 (L * S2)
            have u5 : IntKind.i64.wrap (T * S1 % p) = T * S1 % p := IntWalk.i64_in _ (by have := r1.1; have := r1.2; omega)
            have u6 : IntKind.i64.wrap (L * S2 % p) = L * S2 % p := IntWalk.i64_in _ (by have := r2.1; have := r2.2; omega)
            clear hbv hT hL hS1 hS2 r1 r2 eT0 eT1 eL0 eL1 s10 s11 s20 s21 m1 m2 m3 m4
            go_wp2
            refine wp_region_quiet_below (by kernel_rfl) (by kernel_rfl) ?_
            repeat (go_big_quiet_step (first | with_reducible exact cS1 _ _ | with_reducible exact cS2 _ _))
            refine wpQuiet_nil ?_
            intro _ hw'
            obtain ⟨⟨dq, osq⟩, hw''⟩ := hw'
            subst hw''
            have hbq := below_regrown wr dq osq
            have HBQ := Lib.hid (hbel.out.trans (hbq.mono hbel.out.size))
            clear cS1 cS2 hbq hbel hcb
            generalize grow (redrawn wr dq) osq = w4 at *
            go_wp2
            go_roundw
            case rel => exact ⟨j + 1, by omega, by go_num, by rw [← H1.out], by rw [← H2.out], HBQ⟩
            case measure => simp [intOf]; omega
        · obtain rfl : j = n := by omega
          have HG4 := Lib.hid (HG3.out.kept hbel.out (Nat.le_refl _))
          have HB4 := Lib.hid (HB3.out.trans (hbel.out.mono HB3.out.size))
          have hw0 := HWT.out.1
          have hw1 := HWT.out.2
          have eT := el_mod hp1 (PK xs k x j)
          have eL := el_mod hp1 (PK xs k a j)
          rw [← hnx.out] at hw0 hw1
          obtain ⟨T, hT⟩ : ∃ T, PK xs k x j % p = T := ⟨_, rfl⟩
          obtain ⟨L, hL⟩ : ∃ L, PK xs k a j % p = L := ⟨_, rfl⟩
          rw [hT] at hw1 eT ⊢
          rw [hL] at hw0 hw1 eL ⊢
          have HIV := Lib.hid (ref_inverse_some p L wr HPR.out hp2 hw0 eL.2)
          obtain ⟨eT0, eT1⟩ := eT
          obtain ⟨ei0, ei1⟩ := el_iv hp1 L
          obtain ⟨v, hv⟩ : ∃ v, iv p L = v := ⟨_, rfl⟩
          rw [hv] at hw1 HIV ei0 ei1
          obtain ⟨m1, m2⟩ := mul_bound hp2 eT0 eT1 ei0 ei1
          have HZ : Hid (T * v % p = wt p xs x k) := hw1
          have hs4 := HB4.out.size
          clear hT hL hv hw0 hw1 eL hbel HG3 HB3 HX3
          go_wp2_with fail
          refine HIV.out.mono ?_
          rintro e w' ⟨rfl, rfl⟩
          go_wp2_with (at_builtin; refine append_one _ rfl _ _ rfl w.heap.size _ (wtsK p xs x k) (T * v % p) rfl (HG4.out.alloc _) ⟨wr.heap.size, 0, none⟩ rfl ?c1 ?c2 ?c3 ?_)
          case c1 => rw [cell_new]; rfl
          case c2 => rw [wtsK_len]; omega
          case c3 => first | omega | (simp; omega)
          intro v' w8 hown2 hgr
          have R := wts_step HZ.out (Nat.le_refl _) HG4.out HB4.out hown2 hgr
          have HR1 := Lib.hid R.1
          have HR2 := Lib.hid R.2
          clear R hown2 hgr
          go_wp2
          go_roundw
          case rel => exact ⟨k + 1, by omega, by go_num, HR1, HR2⟩
          case measure => simp [intOf]; omega
    · obtain rfl : k = n := by omega
      have HG : Hid (Gath wr w.heap.size u9 (wts p xs x)) := by have h := hg.out; rw [show wtsK p xs x k = wts p xs x by unfold wtsK wts; rw [hnx.out]] at h; exact h
      clear hg hsxr
      go_wp2
      go_ret2
      exact ⟨_, rfl, HG.out, hbel.out⟩
end Go.Proofs.YtomnncainedjdaaDoor
/-! Contract of the document's answer for Interpolate, and all answers that are errors. -/
namespace Go.Proofs.YtomnncainedjdaaDoor
open Go.RowKit Go.Sort
open Num
set_option linter.unusedVariables false

/-- The error of points. -/
def ec (xs ys : List Int) : Int := if xs.length = ys.length then plc xs else 1
theorem ec_eq {xs ys : List Int} (h : xs.length = ys.length) : ec xs ys = plc xs := if_pos h
theorem add_mul_eq' (p v c d : Int) : (v + c * d) % p = addF p v (mulF p c d) := by unfold addF mulF; rw [Int.add_emod_emod]
theorem ec_ne {xs ys : List Int} (h : ¬ xs.length = ys.length) : ec xs ys = 1 := if_neg h

set_option maxHeartbeats 1000000 in
theorem ref_weights_err (p x : Int) (aa : Option Addr) (n ca : Nat) (xs : List Int) (w : World) (hsx : Ints w (.slice aa n ca) xs) (hnx : Hid (n = xs.length)) (hok : plc xs ≠ 0) (hl : n ≤ 1000) (hc : n ≤ ca) (hc2 : ca ≤ 9223372036854775807) :
    Calls Tryd.prog 44 #[.int .i64 p, .slice aa n ca, .int .i64 x] w fun e w' => e = .returned (.tuple #[.slice none 0 0, .int .i64 (plc xs)]) ∧ w = w' := by
  by_cases h0 : n = 0
  · have hx : xs = [] := List.length_eq_zero_iff.1 (by rw [← hnx.out, h0])
    have HP : Hid (plc xs = 1) := by show _ = _; rw [hx, plc_nil]
    subst h0
    clear hok
    go_enter Tryd.func44, Tryd.ntmps44
    go_wp2
    go_ret2
    exact ⟨by rw [HP.out]; rfl, rfl⟩
  · have hx : xs ≠ [] := fun e => by have := hnx.out; rw [e] at this; exact h0 this
    have z1 : ((n : Int) == 0) = false := by simp; omega
    have HPL := Lib.hid (ref_places_core aa n ca xs w hsx hnx (by omega) hc hc2)
    rw [plc_of hx] at hok ⊢
    have hbn : (plc0 xs != 0) = true := by simpa using hok
    have hbn' : (plc0 xs == 0) = false := by simpa using hok
    generalize plc0 xs = e0 at *
    clear hx
    go_enter Tryd.func44, Tryd.ntmps44
    go_wp2_with (go_at_call 65; refine HPL.out.mono ?_; rintro e w' ⟨rfl, rfl⟩)
    go_ret2
    exact ⟨rfl, rfl⟩

set_option maxRecDepth 100000 in
set_option maxHeartbeats 2000000 in
theorem ref_interp_core (p x : Int) (ax ay : Option Addr) (n cx cy : Nat) (xs ys : List Int) (w : World) (hp : PrmI p) (hp2 : p ≤ 1073741824) (hx : El p x) (hxs : Els p xs) (hys : Els p ys)
    (hsx : Ints w (.slice ax n cx) xs) (hsy : Ints w (.slice ay n cy) ys) (hnx : Hid (n = xs.length)) (hny : Hid (n = ys.length)) (hok : Hid (plc xs = 0)) (hn : n ≤ 1000) (hc : n ≤ cx) (hc2 : cx ≤ 9223372036854775807) :
    Calls Tryd.prog 49 #[.int .i64 p, .slice ax n cx, .slice ay n cy, .int .i64 x] w fun e w' => e = .returned (.tuple #[.int .i64 (wsum p xs ys x n % p), .int .i64 0]) ∧ Below w.heap.size w w' := by
  have hp0 := hp.1
  have hp1 : 1 ≤ p := by omega
  have h0 : 0 < n := by rw [hnx.out]; exact List.length_pos_iff.2 (fun e => by have h := hok.out; rw [e, plc_nil] at h; cases h)
  have z1 : ((n : Int) == 0) = false := by simp; omega
  have HW := Lib.hid (ref_weights_core p x ax n cx xs w hp hp2 hx hxs hsx hnx hok hn hc hc2)
  go_enter Tryd.func49, Tryd.ntmps49
  go_wp2_with fail
  refine HW.out.mono ?_; rintro e w1 ⟨v, rfl, hgw, hb1⟩
  have hsy1 := Lib.hid (hsy.below (Nat.le_refl _) hb1)
  have hwl : (wts p xs x).length = n := by rw [wts_len, hnx.out]
  have hIw := hgw.reads (by rw [hwl]; omega)
  have HIW := Lib.hid hIw
  have HB := Lib.hid hb1
  obtain ⟨aw, cw, rfl, _, _⟩ := hIw
  rw [hwl] at HIW ⊢
  clear hb1 hsx hsy hwl hgw HW
  go_wp2
  go_loop [12, 13, 14, 37] (fun t _ _ i => ∃ k : Nat, ∃ s : Int, k ≤ n ∧ i = .int .i64 k ∧ t = .int .i64 s ∧ El p s ∧ Hid (Cg p s (wsum p xs ys x k))) (fun _ _ _ i => n - (intOf i).toNat)
  case atStart => exact ⟨0, 0, Nat.zero_le _, rfl, rfl, el_zero hp1, Lib.hid (Cg.refl p 0)⟩
  case round =>
    obtain ⟨k, s, hk, rfl, rfl, hs, hcg⟩ := hrel
    by_cases hlt : k < n
    · obtain ⟨x0, off, rfl, hcx⟩ := ints_at HIW.out (by rw [wts_len, hnx.out]) (k := k) hlt
      obtain ⟨y0, offy, rfl, hcy⟩ := ints_at hsy1.out hny.out (k := k) hlt
      rw [wts_getD (by rw [← hnx.out]; exact hlt)] at hcx
      have ew := wt_el hp1 xs x k
      have ey := els_at hp1 hys k
      have HS : Hid (Cg p (addF p s (mulF p (wt p xs x k) (ys.getD k 0))) (wsum p xs ys x (k + 1))) := interp_step hcg.out rfl
      rw [← add_mul_eq' p s (wt p xs x k) (ys.getD k 0)] at HS
      clear hcg
      generalize wt p xs x k = c at *
      generalize ys.getD k 0 = d at *
      obtain ⟨c0, c1⟩ := ew
      obtain ⟨d0, d1⟩ := ey
      obtain ⟨s0, s1⟩ := hs
      obtain ⟨m1, m2⟩ := mul_bound hp2 c0 c1 d0 d1
      go_wp2
      go_round
      case rel => exact ⟨k + 1, _, by omega, by go_num, rfl, el_mod hp1 _, HS⟩
      case measure => simp [intOf]; omega
    · obtain rfl : k = n := by omega
      have HE : Hid (s = wsum p xs ys x k % p) := by
        show _ = _
        rw [← hcg.out.eq]; exact (Int.emod_eq_of_lt hs.1 hs.2).symm
      clear hcg
      go_wp2
      go_ret2
      exact ⟨ret_pair HE.out, HB.out⟩

set_option maxHeartbeats 1000000 in
theorem ref_interp_err (p x : Int) (ax ay : Option Addr) (n m cx cy : Nat) (xs ys : List Int) (w : World) (hsx : Ints w (.slice ax n cx) xs) (hnx : Hid (n = xs.length)) (hny : Hid (m = ys.length)) (hok : ec xs ys ≠ 0) (hl : n ≤ 1000) (hl2 : m ≤ 1000) (hc : n ≤ cx) (hc2 : cx ≤ 9223372036854775807) :
    Calls Tryd.prog 49 #[.int .i64 p, .slice ax n cx, .slice ay m cy, .int .i64 x] w fun e w' => e = .returned (.tuple #[.int .i64 0, .int .i64 (ec xs ys)]) ∧ w = w' := by
  by_cases h0 : n = 0
  · have hx : xs = [] := List.length_eq_zero_iff.1 (by rw [← hnx.out, h0])
    have HP : Hid (ec xs ys = 1) := by show _ = _; unfold ec; rw [hx, plc_nil]; split <;> rfl
    subst h0
    clear hok
    go_enter Tryd.func49, Tryd.ntmps49
    go_wp2
    go_ret2
    exact ⟨by rw [HP.out]; rfl, rfl⟩
  · have z1 : ((n : Int) == 0) = false := by simp; omega
    by_cases he : n = m
    · subst he
      rw [ec_eq (by rw [← hnx.out, ← hny.out])] at hok ⊢
      have HW := Lib.hid (ref_weights_err p x ax n cx xs w hsx hnx hok hl hc hc2)
      have hbn : (plc xs != 0) = true := by simpa using hok
      have hbn' : (plc xs == 0) = false := by simpa using hok
      generalize plc xs = e0 at *
      go_enter Tryd.func49, Tryd.ntmps49
      go_wp2_with (go_at_call 44; refine HW.out.mono ?_; rintro e w' ⟨rfl, rfl⟩)
      go_ret2
      exact ⟨rfl, rfl⟩
    · have z2 : ((n : Int) == (m : Int)) = false := by simp; omega
      have z3 : ((n : Int) != (m : Int)) = true := by simp; omega
      have HP : Hid (ec xs ys = 1) := ec_ne (by rw [← hnx.out, ← hny.out]; exact he)
      clear hok
      go_enter Tryd.func49, Tryd.ntmps49
      go_wp2
      go_ret2
      exact ⟨by rw [HP.out]; rfl, rfl⟩
end Go.Proofs.YtomnncainedjdaaDoor
/-! The walk of PolyWeights. -/
namespace Go.Proofs.YtomnncainedjdaaDoor
open Go.RowKit
open Num
set_option linter.unusedVariables false

theorem slice_of {s : Value} {l : List Int} {w : World} (h : Ints w s l) : ∃ a n c, s = .slice a n c := by obtain ⟨x, y, h, _⟩ := h; exact ⟨x, _, y, h⟩
theorem plc_nodup {xs : List Int} (h0 : 0 < xs.length) (h : xs.Nodup) : plc xs = 0 := plc_ok (fun e => by subst e; simp at h0) (dup_of_nodup h)
theorem one_mod {p : Int} (hp : 2 ≤ p) : (1 : Int) % p = 1 := Int.emod_eq_of_lt (by omega) (by omega)
theorem wt_own {p : Int} (hp : PrmI p) {xs : List Int} (hn : xs.Nodup) (he : Els p xs) {i : Nat} (h : i < xs.length) : wt p xs (xs.getD i 0) i = 1 :=
  (wt_one hp hn he h).el (wt_el (by have := hp.1; omega) _ _ _) ⟨by omega, by have := hp.1; omega⟩
theorem wt_other {p : Int} (hp : 1 ≤ p) {xs : List Int} {i j : Nat} (hj : j < xs.length) (h : j ≠ i) : wt p xs (xs.getD j 0) i = 0 :=
  (wt_zero hj h).el (wt_el hp _ _ _) (el_zero hp)

/-- A long list: only the sanity check. -/
theorem long_len {l : List Int} (h : ¬ (l.length : Int) ≤ 500) : decide ((l.length : Int) ≤ 500) = false := by simpa using h

end Go.Proofs.YtomnncainedjdaaDoor
