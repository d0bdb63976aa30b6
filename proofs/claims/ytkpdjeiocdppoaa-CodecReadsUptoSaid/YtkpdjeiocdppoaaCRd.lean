
/- What both sides read at a place, and what is put before it. -/
import Derived.Test.YtkpdjeiocdppoaaCRts
import Derived.Test.YtkpdjeiocdppoaaVSam
import Derived.Test.YtkpdjeiocdppoaaCAwk
import Derived.Test.YtkpdjeiocdppoaaVPtx
namespace Go.Proofs.Ytkpdjeiocdppoaa
open Go.RowKit
set_option linter.unusedVariables false

theorem both_int (s : ByteArray) (p : Int) (hs : s.size ≤ 1000000000) : ∃ x q e : Int, (∀ w, Calls Try.prog 20 #[.string s, .int .i64 p] w fun r w' => r = .returned (.tuple #[.int .i64 x, .int .i64 q, .int .i64 e]) ∧ w = w') ∧
    ∀ w, Calls Try.prog 21 #[.string s, .int .i64 p] w fun r w' => r = .returned (.tuple #[.int .i64 x, .int .i64 q, .int .i64 e]) ∧ w = w' :=
  ⟨_, _, _, fun w => int_any s p w hs, fun w => refInt_any s p w hs⟩
theorem both_text (s : ByteArray) (p : Int) (hs : s.size ≤ 1000000000) : ∃ (u : ByteArray) (q e : Int), (∀ w, Calls Try.prog 22 #[.string s, .int .i64 p] w fun r w' => r = .returned (.tuple #[.string u, .int .i64 q, .int .i64 e]) ∧ w = w') ∧
    ∀ w, Calls Try.prog 23 #[.string s, .int .i64 p] w fun r w' => r = .returned (.tuple #[.string u, .int .i64 q, .int .i64 e]) ∧ w = w' :=
  ⟨_, _, _, fun w => text_any s p w hs, fun w => refText_any s p w hs⟩
theorem both_ints (s : ByteArray) (p : Int) (hs : s.size ≤ 1000000000) : ∃ (l : List Int) (q e : Int), l.length ≤ 2048 ∧ (∀ w, Calls Try.prog 24 #[.string s, .int .i64 p] w fun r w' => ∃ a c, r = .returned (.tuple #[.slice a l.length c, .int .i64 q, .int .i64 e]) ∧ Ints w' (.slice a l.length c) l ∧ Below w.heap.size w w') ∧
    ∀ w, Calls Try.prog 25 #[.string s, .int .i64 p] w fun r w' => ∃ a c, r = .returned (.tuple #[.slice a l.length c, .int .i64 q, .int .i64 e]) ∧ Ints w' (.slice a l.length c) l ∧ Below w.heap.size w w' := by
  have hl := intsR_len s.data.toList p
  refine ⟨(intsR s.data.toList p 2048).1, (intsR s.data.toList p 2048).2.1, (intsR s.data.toList p 2048).2.2, hl, fun w => (ints_any s p w hs).mono ?_, fun w => (refInts_any s p w hs).mono ?_⟩
  · rintro r w' ⟨v, rfl, hi, hb⟩
    obtain ⟨a, c, rfl, _⟩ := id hi
    exact ⟨a, c, rfl, hi, hb⟩
  · rintro r w' ⟨v, rfl, hg, hb⟩
    have hi := hg.reads (by omega)
    obtain ⟨a, c, rfl, _⟩ := id hi
    exact ⟨a, c, rfl, hi, hb⟩
theorem both_texts (s : ByteArray) (p : Int) (hs : s.size ≤ 1000000000) : ∃ (l : List ByteArray) (q e : Int), (∀ w, Calls Try.prog 26 #[.string s, .int .i64 p] w fun r w' => ∃ a c, r = .returned (.tuple #[.slice a l.length c, .int .i64 q, .int .i64 e]) ∧ Strs w' (.slice a l.length c) l ∧ Below w.heap.size w w') ∧
    ∀ w, Calls Try.prog 27 #[.string s, .int .i64 p] w fun r w' => ∃ a c, r = .returned (.tuple #[.slice a l.length c, .int .i64 q, .int .i64 e]) ∧ Strs w' (.slice a l.length c) l ∧ Below w.heap.size w w' := by
  have hl := textsR_len s.data.toList p
  have hz := textsR_size s.data.toList p
  rw [← Lib.size_eq] at hz
  refine ⟨(textsR s.data.toList p 256).1, (textsR s.data.toList p 256).2.1, (textsR s.data.toList p 256).2.2, fun w => (texts_any s p w hs).mono ?_, fun w => (refTexts_any s p w hs).mono ?_⟩
  · rintro r w' ⟨v, rfl, hi, hb⟩
    obtain ⟨a, c, rfl, _⟩ := id hi
    exact ⟨a, c, rfl, hi, hb⟩
  · rintro r w' ⟨v, rfl, hg, hb⟩
    have hi := hg.reads (by omega) (fun x hx => by have := hz x hx; omega)
    obtain ⟨a, c, rfl, _⟩ := id hi
    exact ⟨a, c, rfl, hi, hb⟩

theorem put_short (n : Int) (hn : in64 n) : ∃ R : ByteArray, R.size ≤ 10 ∧ ∀ w, Calls Try.prog 11 #[.string ⟨#[]⟩, .int .i64 n] w fun e w' => e = .returned (.string R) ∧ Below w.heap.size w w' := by
  refine ⟨⟨(Vi.grp (Vi.zz n)).toArray⟩, ?_, fun w => refPutInt_any ⟨#[]⟩ n w (by decide) hn⟩
  rw [Lib.size_eq]
  exact Vi.grp_len10 (Vi.zz_lt n hn)
theorem puts_short (aa : Option Addr) (n c : Nat) (l : List Int) (hn : l.length = n) (hl : n ≤ 50) (hx : ∀ x ∈ l, in64 x) : ∃ R : ByteArray, R.size ≤ 510 ∧ ∀ w, Ints w (.slice aa n c) l → Calls Try.prog 15 #[.string ⟨#[]⟩, .slice aa n c] w fun e w' => e = .returned (.string R) ∧ Below w.heap.size w w' := by
  refine ⟨⟨(Vi.grp (Vi.zz (n : Int)) ++ gnums l).toArray⟩, ?_, fun w h => refPutInts_any ⟨#[]⟩ aa n c l w h (Lib.hid hn.symm) (by omega) (Lib.hid hx) (by decide)⟩
  rw [Lib.size_eq]
  have h1 := Vi.grp_len10 (Vi.zz_lt (n : Int) (by omega))
  have h2 := gnums_len l hx
  simp only [List.length_append]
  omega
theorem putx_short (aa : Option Addr) (n c : Nat) (l : List ByteArray) (hn : l.length = n) (hl : n ≤ 30) (hx : ∀ x ∈ l, x.size ≤ 1048576) : ∃ R : ByteArray, R.size ≤ 50000000 ∧ ∀ w, Strs w (.slice aa n c) l → Calls Try.prog 17 #[.string ⟨#[120]⟩, .slice aa n c] w fun e w' => e = .returned (.string R) ∧ Below w.heap.size w w' := by
  refine ⟨⟨([120] ++ Vi.grp (Vi.zz (n : Int)) ++ gtxts l).toArray⟩, ?_, fun w h => refPutTexts_any ⟨#[120]⟩ aa n c l w h (Lib.hid hn.symm) (by omega) (Lib.hid fun x h => by have := hx x h; omega) (by decide)⟩
  rw [Lib.size_eq]
  have h1 := Vi.grp_len10 (Vi.zz_lt (n : Int) (by omega))
  have h2 := gtxts_len l 1048576 (by omega) hx
  simp only [List.length_append, List.length_cons, List.length_nil]
  omega
theorem putt_short (s : ByteArray) (hs : s.size ≤ 500) : ∃ R : ByteArray, R.size ≤ 510 ∧ s.size ≤ R.size ∧ ∀ w, Calls Try.prog 13 #[.string ⟨#[]⟩, .string s] w fun e w' => e = .returned (.string R) ∧ Below w.heap.size w w' := by
  refine ⟨⟨(gtxt s.data.toList).toArray⟩, ?_, ?_, fun w => refPutText_any ⟨#[]⟩ s w (by decide) (by omega)⟩
  · rw [Lib.size_eq]
    have := gtxt_len s.data.toList (by rw [← Lib.size_eq]; omega)
    rw [← Lib.size_eq] at this
    simp only
    omega
  · have h : (⟨(gtxt s.data.toList).toArray⟩ : ByteArray).size = (gtxt s.data.toList).length := by rw [Lib.size_eq]
    have h2 : s.data.toList.length ≤ (gtxt s.data.toList).length := by unfold gtxt; rw [List.length_append]; omega
    rw [← Lib.size_eq] at h2
    omega
theorem row_strs {w : World} {g n : Nat} {l : List ByteArray} (hn : l.length = n) (hs : n ≤ 1000) (hx : ∀ x ∈ l, x.size ≤ 100000000) (h : ∀ i, i < n → w.cell? ⟨g, i, none⟩ = some (.string (l.getD i ByteArray.empty))) : Strs w (.slice (some ⟨g, 0, none⟩) n n) l := by
  subst hn
  exact ⟨_, _, rfl, by omega, fun x h => by have := hx x h; omega, fun _ => ⟨g, 0, rfl, fun i hi => by rw [Nat.zero_add]; exact h i hi⟩⟩
theorem row_ints3 {w : World} {g n : Nat} {l : List Int} (hn : l.length = n) (hs : n ≤ 1000) (h : ∀ i, i < n → w.cell? ⟨g, i, none⟩ = some (.int .i64 (l.getD i 0))) : Ints w (.slice (some ⟨g, 0, none⟩) n n) l := by
  subst hn
  exact ⟨_, _, rfl, by omega, fun _ => ⟨g, 0, rfl, fun i hi => by rw [Nat.zero_add]; exact h i hi⟩⟩
end Go.Proofs.Ytkpdjeiocdppoaa
