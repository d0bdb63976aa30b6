
/- Both sides' answers for points, errors included. -/
import Derived.Test.YtpohhgbmdgjipaaRfT
import Derived.Test.YtpohhgbmdgjipaaDr2
namespace Go.Proofs.Ytpohhgbmdgjipaa
open Go.RowKit
open Num
set_option linter.unusedVariables false

def WA (p : Int) (xs : List Int) (x : Int) : List Int := if plc xs = 0 then wts p xs x else []
def IA (p : Int) (xs ys : List Int) (x : Int) : Int := if ec xs ys = 0 then wsum p xs ys x xs.length % p else 0
structure TA (p : Int) (xs ys z : List Int) : Prop where
  ok : ec xs ys = 0 → Thru p xs ys z
  err : ec xs ys ≠ 0 → z = []
theorem ec_ok {xs ys : List Int} (h : ec xs ys = 0) : xs.length = ys.length ∧ plc xs = 0 := by
  by_cases e : xs.length = ys.length
  · rw [ec_eq e] at h; exact ⟨e, h⟩
  · rw [ec_ne e] at h; cases h
theorem plc_distinct {xs : List Int} (h : plc xs = 0) : xs.Nodup := by
  refine nodup_of ?_
  unfold plc at h
  split at h
  · cases h
  · split at h
    · cases h
    · rename_i _ h2; cases e : dupB xs with
      | false => rfl
      | true => exact absurd e h2
theorem TA.unique {p : Int} (hp : PrmI p) {xs ys z z' : List Int} (he : Els p xs) (h : TA p xs ys z) (h' : TA p xs ys z') : z' = z := by
  by_cases e : ec xs ys = 0
  · exact (h'.ok e).unique hp (plc_distinct (ec_ok e).2) he (h.ok e)
  · rw [h.err e, h'.err e]
theorem nil_ints' (w : World) : Ints w (.slice none 0 0) [] := (gath_nil w 0).reads (by simp)
section
variable {p x : Int} {ax ay : Option Addr} {n m cx cy : Nat} {xs ys : List Int} (w : World) (hp : PrmI p) (hp2 : p ≤ 1073741824) (hx : El p x) (hxs : Els p xs) (hys : Els p ys)
  (hsx : Ints w (.slice ax n cx) xs) (hsy : Ints w (.slice ay m cy) ys) (hnx : Hid (n = xs.length)) (hny : Hid (m = ys.length)) (hl : n ≤ 1000) (hl2 : m ≤ 1000) (hc : n ≤ cx) (hc2 : cx ≤ 9223372036854775807)
include hp hp2 hx hxs hsx hnx hl in
theorem weights_all : Calls Try.prog 24 #[.int .i64 p, .slice ax n cx, .int .i64 x] w fun e w' => ∃ v, e = .returned (.tuple #[v, .int .i64 (plc xs)]) ∧ Ints w' v (WA p xs x) ∧ Below w.heap.size w w' := by
  by_cases h : plc xs = 0
  · refine (weights_ok w hp hp2 hx hxs hsx h (by rw [← hnx.out]; exact hl)).mono ?_
    rintro e w' ⟨v, rfl, h1, _, h2⟩
    exact ⟨v, by rw [h], by unfold WA; rw [if_pos h]; exact h1, h2⟩
  · refine (weights_err w hp2 hxs hsx h).mono ?_
    rintro e w' ⟨rfl, h2⟩
    exact ⟨_, rfl, by unfold WA; rw [if_neg h]; exact nil_ints' _, h2⟩
include hp hp2 hx hxs hsx hnx hl hc hc2 in
theorem ref_weights_all : Calls Try.prog 25 #[.int .i64 p, .slice ax n cx, .int .i64 x] w fun e w' => ∃ v, e = .returned (.tuple #[v, .int .i64 (plc xs)]) ∧ Ints w' v (WA p xs x) ∧ Below w.heap.size w w' := by
  by_cases h : plc xs = 0
  · refine (ref_weights_core p x ax n cx xs w hp hp2 hx hxs hsx hnx (Lib.hid h) hl hc hc2).mono ?_
    rintro e w' ⟨v, rfl, h1, h2⟩
    exact ⟨v, by rw [h], by unfold WA; rw [if_pos h]; exact h1.reads (by rw [wts_len, ← hnx.out]; omega), h2⟩
  · refine (ref_weights_err p x ax n cx xs w hsx hnx h hl hc hc2).mono ?_
    rintro e w' ⟨rfl, rfl⟩
    exact ⟨_, rfl, by unfold WA; rw [if_neg h]; exact nil_ints' _, Below.refl _ _⟩
include hp hp2 hx hxs hys hsx hsy hnx hny hl hl2 in
theorem interp_all : Calls Try.prog 26 #[.int .i64 p, .slice ax n cx, .slice ay m cy, .int .i64 x] w fun e w' => e = .returned (.tuple #[.int .i64 (IA p xs ys x), .int .i64 (ec xs ys)]) ∧ Below w.heap.size w w' := by
  by_cases h : ec xs ys = 0
  · obtain ⟨h1, h2⟩ := ec_ok h
    refine (interp_ok w hp hp2 hx hxs hys hsx hsy h1 h2 (by rw [← hnx.out]; exact hl)).mono ?_
    rintro e w' ⟨rfl, h3⟩
    exact ⟨by unfold IA; rw [if_pos h, h], h3⟩
  · refine (interp_err p x ax ay n m cx cy xs ys w hp2 hxs hsx hnx hny h hl hl2).mono ?_
    rintro e w' ⟨rfl, h3⟩
    exact ⟨by unfold IA; rw [if_neg h], h3⟩
include hp hp2 hx hxs hys hsx hsy hnx hny hl hl2 hc hc2 in
theorem ref_interp_all : Calls Try.prog 27 #[.int .i64 p, .slice ax n cx, .slice ay m cy, .int .i64 x] w fun e w' => e = .returned (.tuple #[.int .i64 (IA p xs ys x), .int .i64 (ec xs ys)]) ∧ Below w.heap.size w w' := by
  by_cases h : ec xs ys = 0
  · obtain ⟨h1, h2⟩ := ec_ok h
    have hmn : m = n := by rw [hnx.out, hny.out, h1]
    subst hmn
    refine (ref_interp_core p x ax ay m cx cy xs ys w hp hp2 hx hxs hys hsx hsy hnx hny (Lib.hid h2) hl hc hc2).mono ?_
    rintro e w' ⟨rfl, h3⟩
    exact ⟨by unfold IA; rw [if_pos h, h, ← hnx.out], h3⟩
  · refine (ref_interp_err p x ax ay n m cx cy xs ys w hsx hnx hny h hl hl2 hc hc2).mono ?_
    rintro e w' ⟨rfl, rfl⟩
    exact ⟨by unfold IA; rw [if_neg h], Below.refl _ _⟩
include hp hp2 hxs hys hsx hsy hnx hny hl hl2 in
theorem through_all : Calls Try.prog 28 #[.int .i64 p, .slice ax n cx, .slice ay m cy] w fun e w' => ∃ v z, e = .returned (.tuple #[v, .int .i64 (ec xs ys)]) ∧ Ints w' v z ∧ TA p xs ys z ∧ Below w.heap.size w w' := by
  by_cases h : ec xs ys = 0
  · obtain ⟨h1, h2⟩ := ec_ok h
    refine (through_ok w hp hp2 hxs hys hsx hsy h1 h2 (by rw [← hnx.out]; exact hl)).mono ?_
    rintro e w' ⟨v, z, rfl, h3, h4, _, h5⟩
    exact ⟨v, z, by rw [h], h3, ⟨fun _ => h4, fun h' => absurd h h'⟩, h5⟩
  · refine (through_err p ax ay n m cx cy xs ys w hp2 hxs hsx hnx hny h hl hl2).mono ?_
    rintro e w' ⟨rfl, h3⟩
    exact ⟨_, [], rfl, nil_ints' _, ⟨fun h' => absurd h' h, fun _ => rfl⟩, h3⟩
include hp hp2 hxs hys hsx hsy hnx hny hl hl2 hc hc2 in
theorem ref_through_all : Calls Try.prog 29 #[.int .i64 p, .slice ax n cx, .slice ay m cy] w fun e w' => ∃ v z, e = .returned (.tuple #[v, .int .i64 (ec xs ys)]) ∧ Ints w' v z ∧ TA p xs ys z ∧ Below w.heap.size w w' := by
  by_cases h : ec xs ys = 0
  · obtain ⟨h1, h2⟩ := ec_ok h
    have hmn : m = n := by rw [hnx.out, hny.out, h1]
    subst hmn
    refine (ref_through_core p ax ay m cx cy xs ys w hp hp2 hxs hys hsx hsy hnx hny (Lib.hid h2) hl hc hc2).mono ?_
    rintro e w' ⟨v, z, rfl, h3, h4, h5⟩
    exact ⟨v, z, by rw [h], h3, ⟨fun _ => h4, fun h' => absurd h h'⟩, h5⟩
  · refine (ref_through_err p ax ay n m cx cy xs ys w hsx hnx hny h hl hl2 hc hc2).mono ?_
    rintro e w' ⟨rfl, rfl⟩
    exact ⟨_, [], rfl, nil_ints' _, ⟨fun h' => absurd h' h, fun _ => rfl⟩, Below.refl _ _⟩
end
end Go.Proofs.Ytpohhgbmdgjipaa
