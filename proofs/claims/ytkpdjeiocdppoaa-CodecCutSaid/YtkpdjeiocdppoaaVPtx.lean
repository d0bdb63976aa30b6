
/- Lists of texts written: the document's PutTexts. -/
import Derived.Test.YtkpdjeiocdppoaaVPts
import Derived.Test.YtkpdjeiocdppoaaStrs
namespace Go.Proofs.Ytkpdjeiocdppoaa
open Go.RowKit
set_option linter.unusedVariables false

/-- Texts as they are written, one after the other. -/
def gtxts (l : List ByteArray) : List UInt8 := l.flatMap fun s => gtxt s.data.toList
theorem gtxts_next (l : List ByteArray) (k : Nat) (hk : k < l.length) : gtxts (l.take k) ++ gtxt (l.getD k ByteArray.empty).data.toList = gtxts (l.take (k + 1)) := by
  unfold gtxts
  rw [List.take_add_one, List.flatMap_append, List.getElem?_eq_getElem hk]
  simp [List.getElem?_eq_getElem hk]
theorem gtxts_len (l : List ByteArray) (B : Nat) (hB : B ≤ 1000000000) (h : ∀ x ∈ l, x.size ≤ B) : (gtxts l).length ≤ (B + 10) * l.length := by
  induction l with
  | nil => simp [gtxts]
  | cons x r ih =>
    have h1 := ih (fun y hy => h y (List.mem_cons_of_mem _ hy))
    have h2 := h x (List.mem_cons_self ..)
    have h3 := gtxt_len x.data.toList (by rw [← Lib.size_eq]; omega)
    rw [← Lib.size_eq] at h3
    unfold gtxts at h1 ⊢
    rw [List.flatMap_cons, List.length_append, List.length_cons, Nat.mul_add, Nat.mul_one]
    omega

set_option maxRecDepth 100000 in
set_option maxHeartbeats 4000000 in
theorem refPutTexts_any (b : ByteArray) (aa : Option Addr) (n c : Nat) (l : List ByteArray) (w : World) (hs : Strs w (.slice aa n c) l) (hn : Hid (n = l.length)) (hl : n ≤ 300) (hx : Hid (∀ x ∈ l, x.size ≤ 1100000)) (hb : b.size ≤ 500000000) :
    Calls Try.prog 17 #[.string b, .slice aa n c] w fun e w' => e = .returned (.string ⟨(b.data.toList ++ Vi.grp (Vi.zz (n : Int)) ++ gtxts l).toArray⟩) ∧ Below w.heap.size w w' := by
  have HS := Lib.hid hs
  obtain ⟨H0, hH0⟩ : ∃ H, b.data.toList ++ Vi.grp (Vi.zz (n : Int)) = H := ⟨_, rfl⟩
  have HP := refPutInt_any b (n : Int) w (by omega) (by omega)
  rw [hH0] at HP ⊢
  have hH0l : H0.length ≤ 500000010 := by
    rw [← hH0, List.length_append, ← Lib.size_eq]
    have := Vi.grp_len10 (Vi.zz_lt (n : Int) (by omega))
    omega
  have HTL : Hid (∀ k, (H0 ++ gtxts (l.take k)).length ≤ 1000000000) := fun k => by
    have h := gtxts_len (l.take k) 1100000 (by omega) (fun x hx' => hx.out x (List.mem_of_mem_take hx'))
    rw [List.length_append]
    rw [List.length_take] at h
    have := hn.out
    omega
  have HP := Lib.hid HP
  clear hs hH0 hH0l
  obtain ⟨g0, hg0⟩ : ∃ g, w.heap.size = g := ⟨_, rfl⟩
  have HG0 := Lib.hid hg0
  rw [hg0] at HP ⊢
  clear hg0
  go_enter Try.func17, Try.ntmps17
  go_wp2_with fail
  refine HP.out.mono ?_
  rintro e w1 ⟨rfl, hb1⟩
  have HB1 := Lib.hid hb1
  obtain ⟨S0, hS0⟩ : ∃ S : ByteArray, (⟨H0.toArray⟩ : ByteArray) = S := ⟨_, rfl⟩
  have HS0 : Hid (S0.data.toList = H0 ++ gtxts (l.take 0)) := by
    show _ = _
    rw [← hS0]
    simp [gtxts]
  rw [hS0]
  clear hS0 hb1 HP
  go_wp2_with fail
  go_loopw [0, 6, 13] (fun v _ i wr => ∃ (k : Nat) (S : ByteArray), k ≤ n ∧ v = .string S ∧ i = .int .i64 k ∧ Hid (S.data.toList = H0 ++ gtxts (l.take k)) ∧ Hid (Below g0 w wr)) (fun _ _ i _ => n - (intOf i).toNat)
  case atStart => exact ⟨0, S0, by omega, rfl, rfl, HS0, HB1⟩
  case round =>
    obtain ⟨k, S, hk, rfl, rfl, HSL, HB⟩ := hrel
    have hbr : g0 ≤ wr.heap.size := by have := HB.out.size; have := HG0.out; omega
    have hSs : S.size ≤ 1000000000 := by rw [Lib.size_eq, HSL.out]; exact HTL.out k
    by_cases hlt : k < n
    · obtain ⟨bk, off, rfl, hcl⟩ := (HS.out.below (Nat.le_refl _) (by rw [HG0.out]; exact HB.out)).at hlt
      have hmem : l.getD k ByteArray.empty ∈ l := by
        have hk2 : k < l.length := by have := hn.out; omega
        rw [List.getD_eq_getElem?_getD, List.getElem?_eq_getElem hk2]
        exact List.getElem_mem hk2
      have hxs := hx.out _ hmem
      have HTN := Lib.hid (gtxts_next l k (by have := hn.out; omega))
      obtain ⟨x, hxx⟩ : ∃ x, l.getD k ByteArray.empty = x := ⟨_, rfl⟩
      rw [hxx] at hcl hxs HTN
      have HQ := refPutText_any S x wr (by omega) (by omega)
      rw [HSL.out, List.append_assoc, HTN.out] at HQ
      obtain ⟨S5, hS5⟩ : ∃ S : ByteArray, (⟨(H0 ++ gtxts (l.take (k + 1))).toArray⟩ : ByteArray) = S := ⟨_, rfl⟩
      have HS5 : Hid (S5.data.toList = H0 ++ gtxts (l.take (k + 1))) := by show _ = _; rw [← hS5]
      rw [hS5] at HQ
      have HQ := Lib.hid HQ
      clear hmem hxx hS5 hxs HTN HSL hSs
      go_wp2_with fail
      refine HQ.out.mono ?_
      rintro e w5 ⟨rfl, hb5⟩
      have HB5 := Lib.hid (HB.out.trans (hb5.mono hbr))
      clear hb5 HB HQ hcl
      go_wp2
      exact ⟨⟨k + 1, _, by omega, rfl, by go_num, HS5, HB5⟩, by simp [intOf]; omega⟩
    · have hkl : l.take k = l := List.take_of_length_le (by have := hn.out; omega)
      have HE : Hid ((⟨(H0 ++ gtxts l).toArray⟩ : ByteArray) = S) := by
        show _ = _
        rw [← hkl, ← HSL.out]
        try simp
      clear hkl HSL hSs
      go_wp2
      go_ret
      exact ⟨by rw [HE.out]; rfl, HB.out⟩
end Go.Proofs.Ytkpdjeiocdppoaa
