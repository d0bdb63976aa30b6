
/- Contracts of the document's answers for Eval, Degree, short. -/
import Derived.Test.YtpohhgbmdgjipaaClone
import Derived.Test.YtpohhgbmdgjipaaRefLin
import Derived.Test.YtpohhgbmdgjipaaPm
namespace Go.Proofs.Ytpohhgbmdgjipaa
open Go.RowKit
open Num
set_option linter.unusedVariables false

theorem E_at (l : List Int) (k : Nat) (x : Int) : E (l.drop k) x = l.getD k 0 + x * E (l.drop (k + 1)) x := by
  induction l generalizing k with
  | nil => simp [E]
  | cons c l ih =>
    cases k with
    | zero => simp [E_cons]
    | succ k => simpa using ih k
theorem eval_back {p x c : Int} {l : List Int} {k : Nat} (h : l.getD k 0 = c) : (E (l.drop (k + 1)) x % p * x + c) % p = E (l.drop k) x % p := by
  subst h
  rw [E_at l k, Int.add_comm (l.getD k 0), Int.add_emod, Int.mul_emod, Int.emod_emod_of_dvd _ (Int.dvd_refl p), ← Int.mul_emod, Int.mul_comm x, ← Int.add_emod]

set_option maxHeartbeats 1000000 in
theorem ref_eval_core (p x : Int) (a : Option Addr) (len cap : Nat) (l : List Int) (w : World) (hp : 1 ≤ p) (hp2 : p ≤ 1073741824) (hx : El p x) (hl : Els p l) (hI : Ints w (.slice a len cap) l) (hlen : Hid (len = l.length)) (hn : len ≤ 1000000) :
    Calls Try.prog 17 #[.int .i64 p, .slice a len cap, .int .i64 x] w fun e w' => e = .returned (.int .i64 (E l x % p)) ∧ w = w' := by
  obtain ⟨x0, x1⟩ := id hx
  go_enter Try.func17, Try.ntmps17
  go_wp2
  go_loopw [7, 8] (fun v i wr => ∃ k : Nat, k ≤ len ∧ i = .int .i64 ((k : Int) - 1) ∧ v = .int .i64 (E (l.drop k) x % p) ∧ wr = w) (fun _ i _ => (intOf i + 1).toNat)
  case atStart => exact ⟨len, Nat.le_refl _, rfl, by rw [hlen.out, List.drop_length]; simp [E], rfl⟩
  case round =>
    obtain ⟨k, hk, rfl, rfl, rfl⟩ := hrel
    cases k with
    | succ k =>
      obtain ⟨b, o, rfl, hc⟩ := ints_at hI hlen.out (k := k) (by omega)
      have ec := els_at hp hl k
      obtain ⟨c, hcv⟩ : ∃ c, l.getD k 0 = c := ⟨_, rfl⟩
      rw [hcv] at hc ec
      have HE := Lib.hid (eval_back (p := p) (x := x) hcv)
      obtain ⟨v0, v1⟩ := el_mod hp (E (l.drop (k + 1)) x)
      obtain ⟨c0, c1⟩ := id ec
      obtain ⟨v, hv⟩ : ∃ v, E (l.drop (k + 1)) x % p = v := ⟨_, rfl⟩
      rw [hv] at HE v0 v1 ⊢
      clear hv hcv
      obtain ⟨m1, m2⟩ := mul_bound hp2 v0 v1 x0 x1
      have e1 : ((k + 1 : Nat) : Int) - 1 = (k : Int) := by omega
      rw [e1]
      go_wp2
      go_roundw
      case rel => exact ⟨k, by omega, by go_num, by first | (rw [← HE.out]; go_num) | (rw [HE.out]), trivial⟩
      case measure => simp [intOf] <;> omega
    | zero =>
      go_wp2
      go_ret
      exact ⟨by simp, rfl⟩

set_option maxHeartbeats 1000000 in
theorem ref_degree_core (a : Option Addr) (len cap : Nat) (l : List Int) (w : World) (hI : Ints w (.slice a len cap) l) (hlen : Hid (len = l.length)) (hn : len ≤ 1000000) :
    Calls Try.prog 19 #[.slice a len cap] w fun e w' => e = .returned (.int .i64 (dg l - 1)) ∧ w = w' := by
  go_enter Try.func19, Try.ntmps19
  go_wp2
  go_loopw [3] (fun i wr => ∃ k : Nat, k ≤ len ∧ i = .int .i64 ((k : Int) - 1) ∧ Hid (∀ j, k ≤ j → l.getD j 0 = 0) ∧ wr = w) (fun i _ => (intOf i + 1).toNat)
  case atStart => exact ⟨len, Nat.le_refl _, rfl, Lib.hid (fun j hj => getD_ge (by have := hlen.out; omega)), rfl⟩
  case round =>
    obtain ⟨k, hk, rfl, hz, rfl⟩ := hrel
    cases k with
    | succ k =>
      obtain ⟨b, o, rfl, hc⟩ := ints_at hI hlen.out (k := k) (by omega)
      obtain ⟨c, hcv⟩ : ∃ c, l.getD k 0 = c := ⟨_, rfl⟩
      rw [hcv] at hc
      have HC := Lib.hid hcv
      have e1 : ((k + 1 : Nat) : Int) - 1 = (k : Int) := by omega
      rw [e1]
      clear hcv
      by_cases h0 : c = 0
      · subst h0
        go_wp2
        go_roundw
        case rel =>
          refine ⟨k, by omega, by go_num, Lib.hid fun j hj => ?_, trivial⟩
          by_cases e : j = k
          · subst e; exact HC.out
          · exact hz.out j (by omega)
        case measure => simp [intOf] <;> omega
      · have hd : Hid (dg l = k + 1) := dg_eq hz.out (.inr (by rw [Nat.add_sub_cancel, HC.out]; exact h0))
        have h1 : (c == 0) = false := by simpa using h0
        clear hz
        go_wp2
        go_ret
        exact ⟨by rw [hd.out, show ((k + 1 : Nat) : Int) - 1 = (k : Int) by omega]; rfl, rfl⟩
    | zero =>
      have hd : Hid (dg l = 0) := dg_eq hz.out (.inl rfl)
      clear hz
      go_wp2
      go_ret
      exact ⟨by rw [hd.out]; rfl, rfl⟩

theorem ref_degree_any (s : Value) (l : List Int) (w : World) (hI : Ints w s l) (hn : l.length ≤ 1000000) :
    Calls Try.prog 19 #[s] w fun e w' => e = .returned (.int .i64 (dg l - 1)) ∧ w = w' := by
  obtain ⟨a, c, rfl, _, _⟩ := id hI
  exact ref_degree_core a _ c l w hI (Lib.hid rfl) hn
theorem ref_eval_any (p x : Int) (s : Value) (l : List Int) (w : World) (hp : 1 ≤ p) (hp2 : p ≤ 1073741824) (hx : El p x) (hl : Els p l) (hI : Ints w s l) (hn : l.length ≤ 1000000) :
    Calls Try.prog 17 #[.int .i64 p, s, .int .i64 x] w fun e w' => e = .returned (.int .i64 (E l x % p)) ∧ w = w' := by
  obtain ⟨a, c, rfl, _, _⟩ := id hI
  exact ref_eval_core p x a _ c l w hp hp2 hx hl hI (Lib.hid rfl) hn

set_option maxHeartbeats 1000000 in
theorem ref_short_any (a : Option Addr) (cap : Nat) (l : List Int) (w : World) (hI : Ints w (.slice a l.length cap) l) (hn : l.length ≤ 1000000) (hc : l.length ≤ cap) (hc2 : cap ≤ 9223372036854775807) :
    Calls Try.prog 40 #[.slice a l.length cap] w fun e w' => ∃ v, e = .returned v ∧ Gath w' w.heap.size v (sh l) ∧ Below w.heap.size w w' := by
  have HD := Lib.hid (ref_degree_any _ l w hI hn)
  have hS : Ints w (.slice a (dg l) cap) (sh l) := ints_sh hI
  have hdl := dg_le l
  have HSL := Lib.hid (sh_len l)
  obtain ⟨g, hg⟩ : ∃ g, dg l = g := ⟨_, rfl⟩
  obtain ⟨z, hz⟩ : ∃ z, sh l = z := ⟨_, rfl⟩
  rw [hg] at HD hS hdl HSL
  rw [hz] at hS HSL ⊢
  have e1 : IntKind.i64.wrap ((g : Int) - 1 + 1) = (g : Int) := by rw [IntWalk.i64_in _ (by omega)]; omega
  obtain ⟨n, hnn⟩ : ∃ n, l.length = n := ⟨_, rfl⟩
  rw [hnn] at hdl hn hc HD ⊢
  clear hI hnn hg hz
  go_enter Try.func40, Try.ntmps40
  go_wp2_with (first
    | (go_at_call 19; refine HD.out.mono ?_; rintro e w' ⟨rfl, rfl⟩)
    | (at_builtin; refine append_list _ rfl _ _ rfl w.heap.size _ [] z rfl (gath_nil _ _) _ rfl hS (by have := HSL.out; simp; omega) (Nat.le_refl _) ?_))
  intro v' w2 hown hgr
  go_wp2
  go_ret
  exact ⟨v', rfl, hown, (Below.refl _ _).grown hgr (Nat.le_refl _) (fun k h => by cases h)⟩
end Go.Proofs.Ytpohhgbmdgjipaa
