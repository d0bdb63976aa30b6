
/- Lists of numbers written: the document's PutInts. -/
import Derived.Test.YtkpdjeiocdppoaaVTxt
namespace Go.Proofs.Ytkpdjeiocdppoaa
open Go.RowKit
set_option linter.unusedVariables false

theorem Ints.at' {w : World} {a : Option Addr} {n c : Nat} {l : List Int} (h : Ints w (.slice a n c) l) {k : Nat} (hk : k < n) : ∃ b off, a = some ⟨b, off, none⟩ ∧ w.cell? ⟨b, off + k, none⟩ = some (.int .i64 (l.getD k 0)) := by
  obtain ⟨a', c', hv, _, hc⟩ := h
  simp only [Value.slice.injEq] at hv
  obtain ⟨rfl, rfl, _⟩ := hv
  obtain ⟨b, off, ha, hx⟩ := hc (fun e => by subst e; simp at hk)
  exact ⟨b, off, ha, hx k hk⟩
/-- Numbers as they are written, one after the other. -/
def gnums (l : List Int) : List UInt8 := l.flatMap fun x => Vi.grp (Vi.zz x)
def in64 (x : Int) : Prop := -9223372036854775808 ≤ x ∧ x ≤ 9223372036854775807
theorem gnums_next (l : List Int) (k : Nat) (hk : k < l.length) : gnums (l.take k) ++ Vi.grp (Vi.zz (l.getD k 0)) = gnums (l.take (k + 1)) := by
  unfold gnums
  rw [List.take_add_one, List.flatMap_append, List.getElem?_eq_getElem hk]
  simp [List.getElem?_eq_getElem hk]
theorem gnums_len (l : List Int) (h : ∀ x ∈ l, in64 x) : (gnums l).length ≤ 10 * l.length := by
  induction l with
  | nil => simp [gnums]
  | cons x r ih =>
    have h1 := ih (fun y hy => h y (List.mem_cons_of_mem _ hy))
    have h2 := Vi.grp_len10 (Vi.zz_lt x (h x (List.mem_cons_self ..)))
    unfold gnums at h1 ⊢
    rw [List.flatMap_cons, List.length_append, List.length_cons]
    omega

set_option maxRecDepth 100000 in
set_option maxHeartbeats 4000000 in
theorem refPutInts_any (b : ByteArray) (aa : Option Addr) (n c : Nat) (l : List Int) (w : World) (hs : Ints w (.slice aa n c) l) (hn : Hid (n = l.length)) (hl : n ≤ 1000000) (hx : Hid (∀ x ∈ l, in64 x)) (hb : b.size ≤ 500000000) :
    Calls Try.prog 15 #[.string b, .slice aa n c] w fun e w' => e = .returned (.string ⟨(b.data.toList ++ Vi.grp (Vi.zz (n : Int)) ++ gnums l).toArray⟩) ∧ Below w.heap.size w w' := by
  have HS := Lib.hid hs
  obtain ⟨H0, hH0⟩ : ∃ H, b.data.toList ++ Vi.grp (Vi.zz (n : Int)) = H := ⟨_, rfl⟩
  have HP := refPutInt_any b (n : Int) w (by omega) (by omega)
  rw [hH0] at HP ⊢
  have hH0l : H0.length ≤ 500000010 := by
    rw [← hH0, List.length_append, ← Lib.size_eq]
    have := Vi.grp_len10 (Vi.zz_lt (n : Int) (by omega))
    omega
  have HTL : Hid (∀ k, (H0 ++ gnums (l.take k)).length ≤ 600000000) := fun k => by
    have h := gnums_len (l.take k) (fun x hx' => hx.out x (List.mem_of_mem_take hx'))
    rw [List.length_append]
    rw [List.length_take] at h
    have := hn.out
    omega
  have HP := Lib.hid HP
  clear hs hH0 hH0l
  obtain ⟨g0, hg0⟩ : ∃ g, w.heap.size = g := ⟨_, rfl⟩
  have HG0 := Lib.hid hg0
  rw [hg0] at HP ⊢
  clear hg0
  go_enter Try.func15, Try.ntmps15
  go_wp2_with fail
  refine HP.out.mono ?_
  rintro e w1 ⟨rfl, hb1⟩
  have HB1 := Lib.hid hb1
  obtain ⟨S0, hS0⟩ : ∃ S : ByteArray, (⟨H0.toArray⟩ : ByteArray) = S := ⟨_, rfl⟩
  have HS0 : Hid (S0.data.toList = H0 ++ gnums (l.take 0)) := by
    show _ = _
    rw [← hS0]
    simp [gnums]
  rw [hS0]
  clear hS0 hb1 HP
  go_wp2_with fail
  go_loopw [0, 6, 13] (fun v _ i wr => ∃ (k : Nat) (S : ByteArray), k ≤ n ∧ v = .string S ∧ i = .int .i64 k ∧ Hid (S.data.toList = H0 ++ gnums (l.take k)) ∧ Hid (Below g0 w wr)) (fun _ _ i _ => n - (intOf i).toNat)
  case atStart => exact ⟨0, S0, by omega, rfl, rfl, HS0, HB1⟩
  case round =>
    obtain ⟨k, S, hk, rfl, rfl, HSL, HB⟩ := hrel
    have hbr : g0 ≤ wr.heap.size := by have := HB.out.size; have := HG0.out; omega
    have hSs : S.size ≤ 600000000 := by rw [Lib.size_eq, HSL.out]; exact HTL.out k
    by_cases hlt : k < n
    · obtain ⟨bk, off, rfl, hcl⟩ := Ints.at' (HS.out.below (Nat.le_refl _) (by rw [HG0.out]; exact HB.out)) hlt
      have hmem : l.getD k 0 ∈ l := by
        have hk2 : k < l.length := by have := hn.out; omega
        rw [List.getD_eq_getElem?_getD, List.getElem?_eq_getElem hk2]
        exact List.getElem_mem hk2
      have hxs := hx.out _ hmem
      have HTN := Lib.hid (gnums_next l k (by have := hn.out; omega))
      obtain ⟨x, hxx⟩ : ∃ x, l.getD k 0 = x := ⟨_, rfl⟩
      rw [hxx] at hcl hxs HTN
      have HQ := refPutInt_any S x wr (by omega) hxs
      rw [HSL.out, List.append_assoc, HTN.out] at HQ
      obtain ⟨S5, hS5⟩ : ∃ S : ByteArray, (⟨(H0 ++ gnums (l.take (k + 1))).toArray⟩ : ByteArray) = S := ⟨_, rfl⟩
      have HS5 : Hid (S5.data.toList = H0 ++ gnums (l.take (k + 1))) := by show _ = _; rw [← hS5]
      rw [hS5] at HQ
      have HQ := Lib.hid HQ
      clear hmem hxx hS5 hxs HTN HSL hSs
      go_wp2_with fail
      refine HQ.out.mono ?_
      rintro e w5 ⟨rfl, hb5⟩
      have HB5 := Lib.hid (HB.out.trans (hb5.mono hbr))
      clear hb5 HB HQ hcl
      go_wp2
      exact ⟨⟨k + 1, _, by omega, rfl, by go_num, HS5, HB5⟩, by simp [intOf]; omega⟩
    · have hkl : l.take k = l := List.take_of_length_le (by have := hn.out; omega)
      have HE : Hid ((⟨(H0 ++ gnums l).toArray⟩ : ByteArray) = S) := by
        show _ = _
        rw [← hkl, ← HSL.out]
        try simp
      clear hkl HSL hSs
      go_wp2
      go_ret
      exact ⟨by rw [HE.out]; rfl, HB.out⟩
end Go.Proofs.Ytkpdjeiocdppoaa
