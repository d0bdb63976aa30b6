
/- Lists written: the program's put, PutInts, PutTexts. -/
import Derived.Test.YtkpdjeiocdppoaaCPut
import Derived.Test.YtkpdjeiocdppoaaVPtx
namespace Go.Proofs.Ytkpdjeiocdppoaa
open Go.RowKit
set_option linter.unusedVariables false

set_option maxRecDepth 100000 in
set_option maxHeartbeats 4000000 in
theorem putI_any (b : ByteArray) (aa : Option Addr) (n c : Nat) (l : List Int) (w : World) (hs : Ints w (.slice aa n c) l) (hn : Hid (n = l.length)) (hl : n ≤ 1000000) (hx : Hid (∀ x ∈ l, in64 x)) (hb : b.size ≤ 500000000) :
    Calls Try.prog 31 #[.string b, .slice aa n c, .func (.func 29) #[] #[]] w fun e w' => e = .returned (.string ⟨(b.data.toList ++ Vi.grp (Vi.zz (n : Int)) ++ gnums l).toArray⟩) ∧ Below w.heap.size w w' := by
  have HS := Lib.hid hs
  obtain ⟨g0, hg0⟩ : ∃ g, w.heap.size = g := ⟨_, rfl⟩
  have HP := addInt_any g0 _ [] (n : Int) w (own_nil _ _) (Nat.le_of_eq hg0.symm) (by simp) (by omega)
  have hHl := Vi.grp_len10 (Vi.zz_lt (n : Int) (by omega))
  rw [List.nil_append] at HP
  obtain ⟨H0, hH0⟩ : ∃ H, Vi.grp (Vi.zz (n : Int)) = H := ⟨_, rfl⟩
  rw [hH0] at HP hHl ⊢
  have HTL : Hid (∀ k, (H0 ++ gnums (l.take k)).length ≤ 10000010) := fun k => by
    have h := gnums_len (l.take k) (fun x hx' => hx.out x (List.mem_of_mem_take hx'))
    rw [List.length_append]
    rw [List.length_take] at h
    have := hn.out
    omega
  have HP := Lib.hid HP
  have HG0 := Lib.hid hg0
  have HBS := Lib.hid hb
  rw [hg0]
  clear hs hH0 hHl hg0
  go_enter Try.func31, Try.ntmps31
  go_wp2_with fail
  refine HP.out.mono ?_
  rintro e w1 ⟨v1, rfl, ho1, hb1⟩
  have HB1 := Lib.hid hb1
  have HO1 : Hid (OwnB w1 g0 v1 (H0 ++ gnums (l.take 0))) := by
    show OwnB _ _ _ _
    rw [List.take_zero]
    simpa [gnums] using ho1
  clear ho1 hb1 HP
  go_wp2_with fail
  go_loopw [7, 9, 15] (fun v _ i wr => ∃ (k : Nat), k ≤ n ∧ i = .int .i64 k ∧ Hid (OwnB wr g0 v (H0 ++ gnums (l.take k))) ∧ Hid (Below g0 w wr)) (fun _ _ i _ => n - (intOf i).toNat)
  case atStart => exact ⟨0, by omega, rfl, HO1, HB1⟩
  case round =>
    obtain ⟨k, hk, rfl, HO, HB⟩ := hrel
    have hbr : g0 ≤ wr.heap.size := by have := HB.out.size; have := HG0.out; omega
    by_cases hlt : k < n
    · obtain ⟨bk, off, rfl, hcl⟩ := Ints.at' (HS.out.below (Nat.le_refl _) (by rw [HG0.out]; exact HB.out)) hlt
      have hmem : l.getD k 0 ∈ l := by
        have hk2 : k < l.length := by have := hn.out; omega
        rw [List.getD_eq_getElem?_getD, List.getElem?_eq_getElem hk2]
        exact List.getElem_mem hk2
      have hxs := hx.out _ hmem
      have HTN := Lib.hid (gnums_next l k (by have := hn.out; omega))
      obtain ⟨x, hxx⟩ : ∃ x, l.getD k 0 = x := ⟨_, rfl⟩
      rw [hxx] at hcl hxs HTN
      have HQ := addInt_any g0 _ _ x wr HO.out hbr (by have := HTL.out k; omega) hxs
      rw [List.append_assoc, HTN.out] at HQ
      have HQ := Lib.hid HQ
      clear hmem hxx hxs HTN HO
      go_wp2_with (go_at_fn 29)
      refine HQ.out.mono ?_
      rintro e w5 ⟨v5, rfl, ho5, hb5⟩
      have HO5 := Lib.hid ho5
      have HB5 := Lib.hid (HB.out.trans hb5)
      clear ho5 hb5 HB HQ hcl
      go_wp2
      exact ⟨⟨k + 1, by omega, by go_num, HO5, HB5⟩, by simp [intOf]; omega⟩
    · have hkl : l.take k = l := List.take_of_length_le (by have := hn.out; omega)
      have hconv := string_own HO.out
      have hsz := HTL.out k
      rw [hkl] at hconv hsz
      obtain ⟨G, hG⟩ : ∃ G, H0 ++ gnums l = G := ⟨_, rfl⟩
      rw [hG] at hconv hsz
      obtain ⟨r, hr⟩ : ∃ r : ByteArray, (⟨G.toArray⟩ : ByteArray) = r := ⟨_, rfl⟩
      have hrl : r.data.toList = G := by rw [← hr]
      have hrs : r.size ≤ 10000010 := by rw [Lib.size_eq, hrl]; exact hsz
      have HF : Hid ((⟨(b.data.toList ++ H0 ++ gnums l).toArray⟩ : ByteArray) = b ++ r) := by
        show _ = _
        have h : (b ++ r).data.toList = b.data.toList ++ H0 ++ gnums l := by rw [cat_list, hrl, ← hG, List.append_assoc]
        rw [← h]
        try simp
      rw [hr] at hconv
      have hb2 := HBS.out
      clear hkl hsz hG hr hrl HO
      go_wp2
      go_ret
      exact ⟨by rw [HF.out]; rfl, HB.out⟩
set_option maxHeartbeats 4000000 in
theorem putInts_any (b : ByteArray) (aa : Option Addr) (n c : Nat) (l : List Int) (w : World) (hs : Ints w (.slice aa n c) l) (hn : Hid (n = l.length)) (hl : n ≤ 1000000) (hx : Hid (∀ x ∈ l, in64 x)) (hb : b.size ≤ 500000000) :
    Calls Try.prog 14 #[.string b, .slice aa n c] w fun e w' => e = .returned (.string ⟨(b.data.toList ++ Vi.grp (Vi.zz (n : Int)) ++ gnums l).toArray⟩) ∧ Below w.heap.size w w' := by
  have HP := Lib.hid (putI_any b aa n c l w hs hn hl hx hb)
  obtain ⟨r, hr⟩ : ∃ r : ByteArray, (⟨(b.data.toList ++ Vi.grp (Vi.zz (n : Int)) ++ gnums l).toArray⟩ : ByteArray) = r := ⟨_, rfl⟩
  rw [hr] at HP ⊢
  clear hr hs hx hb hl
  go_enter Try.func14, Try.ntmps14
  go_wp2_with fail
  refine HP.out.mono ?_
  rintro e w1 ⟨rfl, hb1⟩
  have HB1 := Lib.hid hb1
  clear hb1 HP
  go_wp2
  go_ret
  exact ⟨rfl, HB1.out⟩

set_option maxRecDepth 100000 in
set_option maxHeartbeats 4000000 in
theorem putT_any (b : ByteArray) (aa : Option Addr) (n c : Nat) (l : List ByteArray) (w : World) (hs : Strs w (.slice aa n c) l) (hn : Hid (n = l.length)) (hl : n ≤ 300) (hx : Hid (∀ x ∈ l, x.size ≤ 1100000)) (hb : b.size ≤ 500000000) :
    Calls Try.prog 32 #[.string b, .slice aa n c, .func (.func 30) #[] #[]] w fun e w' => e = .returned (.string ⟨(b.data.toList ++ Vi.grp (Vi.zz (n : Int)) ++ gtxts l).toArray⟩) ∧ Below w.heap.size w w' := by
  have HS := Lib.hid hs
  obtain ⟨g0, hg0⟩ : ∃ g, w.heap.size = g := ⟨_, rfl⟩
  have HP := addInt_any g0 _ [] (n : Int) w (own_nil _ _) (Nat.le_of_eq hg0.symm) (by simp) (by omega)
  have hHl := Vi.grp_len10 (Vi.zz_lt (n : Int) (by omega))
  rw [List.nil_append] at HP
  obtain ⟨H0, hH0⟩ : ∃ H, Vi.grp (Vi.zz (n : Int)) = H := ⟨_, rfl⟩
  rw [hH0] at HP hHl ⊢
  have HTL : Hid (∀ k, (H0 ++ gtxts (l.take k)).length ≤ 400000000) := fun k => by
    have h := gtxts_len (l.take k) 1100000 (by omega) (fun x hx' => hx.out x (List.mem_of_mem_take hx'))
    rw [List.length_append]
    rw [List.length_take] at h
    have := hn.out
    omega
  have HP := Lib.hid HP
  have HG0 := Lib.hid hg0
  have HBS := Lib.hid hb
  rw [hg0]
  clear hs hH0 hHl hg0
  go_enter Try.func32, Try.ntmps32
  go_wp2_with fail
  refine HP.out.mono ?_
  rintro e w1 ⟨v1, rfl, ho1, hb1⟩
  have HB1 := Lib.hid hb1
  have HO1 : Hid (OwnB w1 g0 v1 (H0 ++ gtxts (l.take 0))) := by
    show OwnB _ _ _ _
    rw [List.take_zero]
    simpa [gtxts] using ho1
  clear ho1 hb1 HP
  go_wp2_with fail
  go_loopw [7, 9, 15] (fun v _ i wr => ∃ (k : Nat), k ≤ n ∧ i = .int .i64 k ∧ Hid (OwnB wr g0 v (H0 ++ gtxts (l.take k))) ∧ Hid (Below g0 w wr)) (fun _ _ i _ => n - (intOf i).toNat)
  case atStart => exact ⟨0, by omega, rfl, HO1, HB1⟩
  case round =>
    obtain ⟨k, hk, rfl, HO, HB⟩ := hrel
    have hbr : g0 ≤ wr.heap.size := by have := HB.out.size; have := HG0.out; omega
    by_cases hlt : k < n
    · obtain ⟨bk, off, rfl, hcl⟩ := (HS.out.below (Nat.le_refl _) (by rw [HG0.out]; exact HB.out)).at hlt
      have hmem : l.getD k ByteArray.empty ∈ l := by
        have hk2 : k < l.length := by have := hn.out; omega
        rw [List.getD_eq_getElem?_getD, List.getElem?_eq_getElem hk2]
        exact List.getElem_mem hk2
      have hxs := hx.out _ hmem
      have HTN := Lib.hid (gtxts_next l k (by have := hn.out; omega))
      obtain ⟨x, hxx⟩ : ∃ x, l.getD k ByteArray.empty = x := ⟨_, rfl⟩
      rw [hxx] at hcl hxs HTN
      have HQ := addText_any g0 _ _ x wr HO.out hbr (by have := HTL.out k; omega) (by omega)
      rw [List.append_assoc, HTN.out] at HQ
      have HQ := Lib.hid HQ
      clear hmem hxx hxs HTN HO
      go_wp2_with (go_at_fn 30)
      refine HQ.out.mono ?_
      rintro e w5 ⟨v5, rfl, ho5, hb5⟩
      have HO5 := Lib.hid ho5
      have HB5 := Lib.hid (HB.out.trans hb5)
      clear ho5 hb5 HB HQ hcl
      go_wp2
      exact ⟨⟨k + 1, by omega, by go_num, HO5, HB5⟩, by simp [intOf]; omega⟩
    · have hkl : l.take k = l := List.take_of_length_le (by have := hn.out; omega)
      have hconv := string_own HO.out
      have hsz := HTL.out k
      rw [hkl] at hconv hsz
      obtain ⟨G, hG⟩ : ∃ G, H0 ++ gtxts l = G := ⟨_, rfl⟩
      rw [hG] at hconv hsz
      obtain ⟨r, hr⟩ : ∃ r : ByteArray, (⟨G.toArray⟩ : ByteArray) = r := ⟨_, rfl⟩
      have hrl : r.data.toList = G := by rw [← hr]
      have hrs : r.size ≤ 400000000 := by rw [Lib.size_eq, hrl]; exact hsz
      have HF : Hid ((⟨(b.data.toList ++ H0 ++ gtxts l).toArray⟩ : ByteArray) = b ++ r) := by
        show _ = _
        have h : (b ++ r).data.toList = b.data.toList ++ H0 ++ gtxts l := by rw [cat_list, hrl, ← hG, List.append_assoc]
        rw [← h]
        try simp
      rw [hr] at hconv
      have hb2 := HBS.out
      clear hkl hsz hG hr hrl HO
      go_wp2
      go_ret
      exact ⟨by rw [HF.out]; rfl, HB.out⟩
set_option maxHeartbeats 4000000 in
theorem putTexts_any (b : ByteArray) (aa : Option Addr) (n c : Nat) (l : List ByteArray) (w : World) (hs : Strs w (.slice aa n c) l) (hn : Hid (n = l.length)) (hl : n ≤ 300) (hx : Hid (∀ x ∈ l, x.size ≤ 1100000)) (hb : b.size ≤ 500000000) :
    Calls Try.prog 16 #[.string b, .slice aa n c] w fun e w' => e = .returned (.string ⟨(b.data.toList ++ Vi.grp (Vi.zz (n : Int)) ++ gtxts l).toArray⟩) ∧ Below w.heap.size w w' := by
  have HP := Lib.hid (putT_any b aa n c l w hs hn hl hx hb)
  obtain ⟨r, hr⟩ : ∃ r : ByteArray, (⟨(b.data.toList ++ Vi.grp (Vi.zz (n : Int)) ++ gtxts l).toArray⟩ : ByteArray) = r := ⟨_, rfl⟩
  rw [hr] at HP ⊢
  clear hr hs hx hb hl
  go_enter Try.func16, Try.ntmps16
  go_wp2_with fail
  refine HP.out.mono ?_
  rintro e w1 ⟨rfl, hb1⟩
  have HB1 := Lib.hid hb1
  clear hb1 HP
  go_wp2
  go_ret
  exact ⟨rfl, HB1.out⟩
end Go.Proofs.Ytkpdjeiocdppoaa
