
/- Sums of shares are shares of sums: the mathematics. -/
import Derived.Test.YtpgbjnenllfmlaaGreatDoorHSh
/-! Sums of shares are shares of sums: the mathematics. -/
namespace Go.Proofs.YtpgbjnenllfmlaaGreatDoor
open Go.RowKit Go.Sort
open Num
set_option linter.unusedVariables false

/-- The share of holder h of the sum. -/
def sumV (p : Int) (K : Nat) (a ra b rb : List Int) (c h : Int) : List Int := linF p (dealV p K a ra h) (linF p [] (dealV p K b rb h) c) 1
def sumF (p : Int) (K n : Nat) (a ra b rb : List Int) (c : Int) : List Shr := (List.range n).map fun j => (((j + 1 : Nat) : Int), sumV p K a ra b rb c ((j + 1 : Nat) : Int))
theorem sumF_len (p : Int) (K n : Nat) (a ra b rb : List Int) (c : Int) : (sumF p K n a ra b rb c).length = n := by simp [sumF]
theorem sumF_succ (p : Int) (K n : Nat) (a ra b rb : List Int) (c : Int) : sumF p K (n + 1) a ra b rb c = sumF p K n a ra b rb c ++ [(((n + 1 : Nat) : Int), sumV p K a ra b rb c ((n + 1 : Nat) : Int))] := by simp [sumF, List.range_succ]
theorem sumV_len {p : Int} {K : Nat} {a ra b rb : List Int} {c h : Int} (hl : b.length = a.length) : (sumV p K a ra b rb c h).length = a.length := by
  unfold sumV
  rw [linF_len', linF_len', dealV_len, dealV_len, hl]
  simp
theorem addL_le : ∀ (a b : List Int) (k : Nat), a.length ≤ k → b.length ≤ k → (addL a b).length ≤ k
  | [], b, k, _, h => by simpa [addL] using h
  | x :: a, [], k, h, _ => by simpa [addL] using h
  | x :: a, y :: b, k, h1, h2 => by
    rw [List.length_cons] at h1 h2
    obtain ⟨k', rfl⟩ : ∃ k', k = k' + 1 := ⟨k - 1, by omega⟩
    have := addL_le a b k' (by omega) (by omega)
    simp only [addL, List.length_cons]
    omega
/-- The polynomial of place i of the sum. -/
def sumP (K : Nat) (a ra b rb : List Int) (c : Int) (i : Nat) : List Int := addL (polyL K a ra i) (smulL c (polyL K b rb i))
theorem el_cg {p x y : Int} (hx : El p x) (h : Cg p x y) : x = y % p := by
  rw [← h.eq]
  exact (Int.emod_eq_of_lt hx.1 hx.2).symm
theorem sumF_gd {p : Int} (hp : 1 ≤ p) {K n : Nat} {a ra b rb : List Int} {c : Int} (hl : b.length = a.length) : Gd p n a.length (sumF p K n a ra b rb c) := by
  refine ⟨fun x hx => ?_, fun x hx => ?_, fun x hx => ?_, ?_⟩
  · obtain ⟨j, hj, rfl⟩ := List.mem_map.1 hx
    have := List.mem_range.1 hj
    exact ⟨by show (1 : Int) ≤ ((j + 1 : Nat) : Int); omega, by show ((j + 1 : Nat) : Int) ≤ n; omega⟩
  · obtain ⟨j, hj, rfl⟩ := List.mem_map.1 hx
    exact linF_els' hp _ _ _
  · obtain ⟨j, hj, rfl⟩ := List.mem_map.1 hx
    exact sumV_len hl
  · unfold sumF
    rw [List.map_map]
    rw [List.nodup_iff_pairwise_ne, List.pairwise_map]
    refine (List.pairwise_lt_range (n := n)).imp fun {a b} h => ?_
    show ((a + 1 : Nat) : Int) ≠ ((b + 1 : Nat) : Int)
    omega
theorem sumV_at {p : Int} (hp : 1 ≤ p) {K : Nat} {a ra b rb : List Int} {c h : Int} (hl : b.length = a.length) {i : Nat} (hi : i < a.length) : (sumV p K a ra b rb c h).getD i 0 = E (sumP K a ra b rb c i) h % p := by
  have hel : El p ((sumV p K a ra b rb c h).getD i 0) := els_getD hp (linF_els' hp _ _ _) i
  refine el_cg hel ?_
  have e1 : (dealV p K a ra h).getD i 0 = E (polyL K a ra i) h % p := by simp [dealV, List.getD, hi]
  have e2 : (dealV p K b rb h).getD i 0 = E (polyL K b rb i) h % p := by simp [dealV, List.getD, hl, hi]
  have h1 := linF_getD p (dealV p K a ra h) (linF p [] (dealV p K b rb h) c) 1 i
  have h2 := linF_getD p [] (dealV p K b rb h) c i
  have e3 : ([] : List Int).getD i 0 = 0 := rfl
  rw [e1] at h1
  rw [e2, e3, Int.zero_add] at h2
  rw [Int.one_mul] at h1
  unfold sumV sumP
  rw [E_addL, E_smulL]
  exact h1.trans ((Cg.mod p _).symm.symm.add (h2.trans ((Cg.refl p c).mul (Cg.mod p _))))
theorem sumF_on {p : Int} (hp : 1 ≤ p) {K n : Nat} {a ra b rb : List Int} {c : Int} (hl : b.length = a.length) : On p (K + 1) a.length (sumP K a ra b rb c) (sumF p K n a ra b rb c) := by
  refine ⟨fun i => ?_, fun x hx i hi => ?_⟩
  · unfold sumP
    exact addL_le _ _ _ (polyL_len _ _ _ _) (by unfold smulL; rw [List.length_map]; exact polyL_len _ _ _ _)
  · obtain ⟨j, _, rfl⟩ := List.mem_map.1 hx
    exact sumV_at hp hl hi
theorem sum_back {p : Int} {K N : Nat} {a ra b rb : List Int} {c : Int} {Q : List Shr} (hp : PrmI p) (hn : (N : Int) < p) (ha : Els p a) (hb : Els p b) (hl : b.length = a.length) (hg : Gd p N a.length Q) (ho : On p (K + 1) a.length (sumP K a ra b rb c) Q) (hq : K + 1 ≤ Q.length) : cmbV p (K + 1) Q = linF p a b c := by
  rw [cmb_on hp hn hg ho hq (by omega)]
  have hp1 : 1 ≤ p := by have := hp.1; omega
  refine List.ext_getElem (by rw [linF_len', hl]; simp) fun i h1 h2 => ?_
  rw [List.getElem_map, List.getElem_range, ← getD_at h2]
  refine (el_cg (els_getD hp1 (linF_els' hp1 a b c) i) ?_).symm
  refine (linF_getD p a b c i).trans ?_
  unfold sumP
  rw [E_addL, E_smulL]
  have k1 : Cg p (a.getD i 0) (E (polyL K a ra i) 0) := by rw [← polyL_zero (k := K) (r := ra) (i := i) hp1 ha]; exact Cg.mod p _
  have k2 : Cg p (b.getD i 0) (E (polyL K b rb i) 0) := by rw [← polyL_zero (k := K) (r := rb) (i := i) hp1 hb]; exact Cg.mod p _
  exact k1.add ((Cg.refl p c).mul k2)
/-- A region whose orders all end alike, but for two values and a place. -/
theorem region_oneS {P : Program} {id : Nat} {ops : Array Oper} {d : Bool} {Q : Exit → Act → World → Prop} {a : Act} {w : World} (R : Value → Nat → World → Prop) (A : Value → Value → Nat → Act) (hr : (Code.region id ops d).wp P (fun e a' W => e = .normal ∧ ∃ v x n, a' = A v x n ∧ R v n W) a w)
    (h : ∀ v x n W, R v n W → Q .normal (A v x n) W) : (Code.region id ops d).wp P Q a w :=
  Code.wp_mono (fun _ _ _ ⟨h1, v, x, n, h2, h3⟩ => by subst h1; subst h2; exact h v x n _ h3) hr
theorem GathS.sharesN {w : World} {base : Nat} {v : Value} {L : List Shr} (h : GathS w base v L) (hl : L.length ≤ 1000) : SharesN w base v L := by
  obtain ⟨a, c, hv, hc1, hc2⟩ := h.shape
  subst hv
  have h1 := (h.turnS).shares (m := L.length) (c := c) (Nat.le_refl _) hl hc1 hc2
  rwa [List.take_length] at h1
end Go.Proofs.YtpgbjnenllfmlaaGreatDoor
/-! The walk through ShareSums. -/
namespace Go.Proofs.YtpgbjnenllfmlaaGreatDoor
open Go.RowKit Go.Sort
open Num
set_option linter.unusedVariables false

end Go.Proofs.YtpgbjnenllfmlaaGreatDoor
/-! Plans that may not be valid: kit's AnyPlan. -/
namespace Go.Proofs.YtpgbjnenllfmlaaGreatDoor
open Go.RowKit Go.Sort
open Num
set_option linter.unusedVariables false

def odd3 (n : Int) : Nat → Int
  | 0 => 0 | 1 => -1 | _ => n + 1
def odd4 (p : Int) : Nat → Int
  | 0 => 0 | 1 => 16 | 2 => 17 | _ => p
/-- A region whose orders all end alike, but for three numbers. -/
theorem region_oneJ {P : Program} {id : Nat} {ops : Array Oper} {d : Bool} {Q : Exit → Act → World → Prop} {a : Act} {w : World} (R : Int → World → Prop) (A : Int → Nat → Nat → Act) (hr : (Code.region id ops d).wp P (fun e a' W => e = .normal ∧ ∃ x j m, a' = A x j m ∧ R x W) a w)
    (h : ∀ x j m W, R x W → Q .normal (A x j m) W) : (Code.region id ops d).wp P Q a w :=
  Code.wp_mono (fun _ _ _ ⟨h1, x, j, m, h2, h3⟩ => by subst h1; subst h2; exact h x j m _ h3) hr
def odd8 : Nat → Int
  | 0 => 0 | 1 => 1 | 2 => 4 | 3 => 9 | 4 => -7 | 5 => 1073741824 | 6 => 1073741827 | _ => 500000004
theorem odd8_wf (j : Nat) : -9223372036854775808 ≤ odd8 j ∧ odd8 j ≤ 9223372036854775807 := by unfold odd8; split <;> omega
theorem wf_any {x : Int} (h : -9223372036854775808 ≤ x ∧ x ≤ 9223372036854775807) : (Lit.int .i64 x).wf = true := wf64 h.1 h.2
theorem odd3_le {n : Int} (h : 0 ≤ n ∧ n ≤ 7) (j : Nat) : odd3 n j ≤ 8 := by unfold odd3; split <;> omega
end Go.Proofs.YtpgbjnenllfmlaaGreatDoor
