
/- Numbers and texts written: the program's unsigned, addInt, addText, PutInt, PutText. -/
import Derived.Test.YtpgbjnenllfmlaaGreatDoorVTxt
import Derived.Test.YtpgbjnenllfmlaaGreatDoorVPtx
/-! Numbers and texts written: the program's unsigned, addInt, addText, PutInt, PutText. -/
namespace Go.Proofs.YtpgbjnenllfmlaaGreatDoor
open Go.RowKit
set_option linter.unusedVariables false

theorem unsigned_any (n : Int) (w : World) (hn : -9223372036854775808 ≤ n ∧ n ≤ 9223372036854775807) :
    Calls Tryz.prog 97 #[.int .i64 n] w fun e w' => e = .returned (.int .u64 (Vi.zz n)) ∧ w = w' := by
  obtain ⟨u, hu⟩ : ∃ u, Vi.zz n = u := ⟨_, rfl⟩
  have hl := Vi.zz_lt n hn
  rw [hu] at hl ⊢
  unfold Vi.zz at hu
  by_cases h0 : n < 0
  · have hlt : decide (n < 0) = true := decide_eq_true h0
    obtain ⟨m, hm⟩ : ∃ m : Int, IntKind.i64.wrap (-2 * n) = m := ⟨_, rfl⟩
    obtain ⟨m2, hm2⟩ : ∃ m2 : Int, IntKind.i64.wrap (m - 1) = m2 := ⟨_, rfl⟩
    have h3 : IntKind.u64.wrap m2 = (u : Int) := by
      rw [IntKind.wrap_i64] at hm hm2
      rw [IntKind.wrap_u64]
      split at hu <;> omega
    clear hu hl hn h0
    go_enter Tryz.func97, Tryz.ntmps97
    go_wp2
    go_ret
    exact ⟨rfl, rfl⟩
  · have hlt : decide (n < 0) = false := decide_eq_false h0
    obtain ⟨m, hm⟩ : ∃ m : Int, IntKind.i64.wrap (2 * n) = m := ⟨_, rfl⟩
    have h3 : IntKind.u64.wrap m = (u : Int) := by
      rw [IntKind.wrap_i64] at hm
      rw [IntKind.wrap_u64]
      split at hu <;> omega
    clear hu hl hn h0
    go_enter Tryz.func97, Tryz.ntmps97
    go_wp2
    go_ret
    exact ⟨rfl, rfl⟩

set_option maxRecDepth 100000 in
set_option maxHeartbeats 4000000 in
theorem addInt_any (B : Nat) (v : Value) (l : List UInt8) (n : Int) (w : World) (ho : OwnB w B v l) (hBw : B ≤ w.heap.size) (hll : l.length ≤ 1000000000) (hn : -9223372036854775808 ≤ n ∧ n ≤ 9223372036854775807) :
    Calls Tryz.prog 76 #[v, .int .i64 n] w fun e w' => ∃ v', e = .returned v' ∧ OwnB w' B v' (l ++ Vi.grp (Vi.zz n)) ∧ Below B w w' := by
  have HUN := Lib.hid (unsigned_any n w hn)
  have hzl := Vi.zz_lt n hn
  obtain ⟨u0, hu0⟩ : ∃ u0, Vi.zz n = u0 := ⟨_, rfl⟩
  rw [hu0] at hzl HUN ⊢
  obtain ⟨T, hT⟩ : ∃ T, l ++ Vi.grp u0 = T := ⟨_, rfl⟩
  have HTL : Hid (T.length ≤ 1000000010) := by
    show _ ≤ _
    rw [← hT, List.length_append]
    have := Vi.grp_len10 hzl
    omega
  rw [hT]
  have HT := Lib.hid hT
  have HU := Lib.hid hzl
  have HO0 := Lib.hid ho
  have HB0 : Hid (Below B w w) := Below.refl _ _
  have HBW := Lib.hid hBw
  clear hu0 hzl hn hT ho hll hBw
  go_enter Tryz.func76, Tryz.ntmps76
  go_wp2_with fail
  refine HUN.out.mono ?_
  rintro e w1 ⟨rfl, rfl⟩
  go_wp2_with fail
  go_loopw [0, 5] (fun v i wr => ∃ (u : Nat) (l : List UInt8), i = .int .u64 u ∧ Hid (u < 18446744073709551616) ∧ Hid (OwnB wr B v l) ∧ Hid (l ++ Vi.grp u = T) ∧ Hid (Below B w wr)) (fun _ i _ => (intOf i).toNat)
  case atStart => exact ⟨u0, l, rfl, HU, HO0, HT, HB0⟩
  case round =>
    obtain ⟨u, l, rfl, HUR, HO, HLT, HB⟩ := hrel
    have hBr : B ≤ wr.heap.size := by have := HB.out.size; have := HBW.out; omega
    have HLL : Hid (l.length + 1 ≤ 1000000000000) := by
      show _ ≤ _
      have h1 := congrArg List.length HLT.out
      rw [List.length_append] at h1
      have h2 := Vi.grp_pos u
      have := HTL.out
      omega
    by_cases h1 : u < 128
    · have hge : decide ((128 : Int) ≤ (u : Int)) = false := decide_eq_false (by omega)
      have hw8 : IntKind.u8.wrap (u : Int) = (u : Int) := by rw [IntKind.wrap_u8]; omega
      have HBV : Hid ((u : Int) = ((UInt8.ofNat u).toNat : Int)) := by show _ = _; simp; omega
      have HG := Lib.hid (Vi.grp_lo h1)
      clear h1
      go_wp2_with (at_builtin; refine wpList_append_ex _ rfl _ _ _ _ rfl _ _ rfl rfl _ (push_one HO.out hBr (UInt8.ofNat u) _ HBV.out HLL.out _) ?_)
      intro v2 w2 hp2
      have HO2 := Lib.hid hp2.own
      have HB2 := Lib.hid (HB.out.trans hp2.bel)
      rw [← HG.out, HLT.out] at HO2
      clear hp2 HO HB
      go_wp2
      go_ret
      exact ⟨_, rfl, HO2.out, HB2.out⟩
    · have hge : decide ((128 : Int) ≤ (u : Int)) = true := decide_eq_true (by omega)
      obtain ⟨r, hr⟩ : ∃ r : Nat, u % 128 = r := ⟨_, rfl⟩
      have hmd : (u : Int) % 128 = (r : Int) := by omega
      obtain ⟨x, hx⟩ : ∃ x : Nat, r + 128 = x := ⟨_, rfl⟩
      have hw64 : IntKind.u64.wrap ((r : Int) + 128) = (x : Int) := by rw [IntKind.wrap_u64]; omega
      have hw8 : IntKind.u8.wrap (x : Int) = (x : Int) := by rw [IntKind.wrap_u8]; omega
      have HBV : Hid ((x : Int) = ((UInt8.ofNat x).toNat : Int)) := by show _ = _; simp; omega
      obtain ⟨u2, hu2⟩ : ∃ u2 : Nat, u / 128 = u2 := ⟨_, rfl⟩
      have HG : Hid (Vi.grp u = UInt8.ofNat x :: Vi.grp u2) := by show _ = _; rw [Vi.grp_hi h1, hr, hx, hu2]
      have HU2 : Hid (u2 < 18446744073709551616) := by show _ < _; have := HUR.out; omega
      have hdv : (u : Int) / 128 = (u2 : Int) := by omega
      have hdec : u2 < u := by omega
      clear h1 hr hx hu2
      go_wp2_with (at_builtin; refine wpList_append_ex _ rfl _ _ _ _ rfl _ _ rfl rfl _ (push_one HO.out hBr (UInt8.ofNat x) _ HBV.out HLL.out _) ?_)
      intro v2 w2 hp2
      have HO2 := Lib.hid hp2.own
      have HB2 := Lib.hid (HB.out.trans hp2.bel)
      have HL2 : Hid ((l ++ [UInt8.ofNat x]) ++ Vi.grp u2 = T) := by
        show _ = _
        rw [← HLT.out, HG.out, List.append_assoc]
        rfl
      clear hp2 HO HB HLT
      go_wp2
      exact ⟨⟨u2, _, by first | rfl | go_num, HU2, HO2, HL2, HB2⟩, by simp [intOf]; omega⟩

theorem byteCells_map (s : ByteArray) : byteCells s = s.data.toList.map fun b => Value.int .u8 (b.toNat : Int) := rfl
/-- A text more. -/
theorem push_text {W : World} {B : Nat} {v : Value} {l : List UInt8} (h : OwnB W B v l) (hB : B ≤ W.heap.size) (s : ByteArray) (hl : l.length + s.size ≤ 1000000000000) (ty : TypeId) :
    ∃ v' W', (Builtin.append_ #[88, 9] ty #[v, .string s]).run Tryz.prog W = .ok v' W' ∧ Pushed B W (l ++ s.data.toList) v' W' := by
  obtain ⟨v', W', h1, h2, h3⟩ := append_own h hB (.string s) 9 s.data.toList s.size (by rw [← Lib.size_eq]) (by rw [← byteCells_map]; exact Src.ofString (P := Tryz.prog) W Tryz.underlying9 s) hl ty
  exact ⟨v', W', h1, h2, h3⟩
theorem own_nil (w : World) (B : Nat) : OwnB w B (.slice none 0 0) [] := .inl ⟨rfl, rfl⟩
set_option maxHeartbeats 4000000 in
theorem putInt_any (b : ByteArray) (n : Int) (w : World) (hb : b.size ≤ 1000000000) (hn : -9223372036854775808 ≤ n ∧ n ≤ 9223372036854775807) :
    Calls Tryz.prog 46 #[.string b, .int .i64 n] w fun e w' => e = .returned (.string ⟨(b.data.toList ++ Vi.grp (Vi.zz n)).toArray⟩) ∧ Below w.heap.size w w' := by
  have HA := Lib.hid (addInt_any w.heap.size _ [] n w (own_nil _ _) (Nat.le_refl _) (by simp) hn)
  have hg := Vi.grp_len10 (Vi.zz_lt n hn)
  obtain ⟨G, hG⟩ : ∃ G, Vi.grp (Vi.zz n) = G := ⟨_, rfl⟩
  rw [hG] at HA hg ⊢
  obtain ⟨r, hr⟩ : ∃ r : ByteArray, (⟨G.toArray⟩ : ByteArray) = r := ⟨_, rfl⟩
  have hrl : r.data.toList = G := by rw [← hr]
  have hrs : r.size ≤ 10 := by rw [Lib.size_eq, hrl]; exact hg
  have HF : Hid ((⟨(b.data.toList ++ G).toArray⟩ : ByteArray) = b ++ r) := by
    show _ = _
    have h : (b ++ r).data.toList = b.data.toList ++ G := by rw [cat_list, hrl]
    rw [← h]
    try simp
  have HR := Lib.hid hr
  clear hr hrl hn hG hg
  go_enter Tryz.func46, Tryz.ntmps46
  go_wp2_with fail
  refine HA.out.mono ?_
  rintro e w1 ⟨v1, rfl, ho1, hb1⟩
  have hconv := string_own ho1
  rw [List.nil_append, HR.out] at hconv
  have HB1 := Lib.hid hb1
  clear ho1 hb1 HA
  go_wp2
  go_ret
  exact ⟨by rw [HF.out]; rfl, HB1.out⟩
end Go.Proofs.YtpgbjnenllfmlaaGreatDoor
/-! Lists written: the program's put, PutInts, PutTexts. -/
namespace Go.Proofs.YtpgbjnenllfmlaaGreatDoor
open Go.RowKit
set_option linter.unusedVariables false

set_option maxRecDepth 100000 in
set_option maxHeartbeats 4000000 in
theorem putI_any (b : ByteArray) (aa : Option Addr) (n c : Nat) (l : List Int) (w : World) (hs : Ints w (.slice aa n c) l) (hn : Hid (n = l.length)) (hl : n ≤ 1000000) (hx : Hid (∀ x ∈ l, in64 x)) (hb : b.size ≤ 500000000) :
    Calls Tryz.prog 75 #[.string b, .slice aa n c, .func (.func 76) #[] #[]] w fun e w' => e = .returned (.string ⟨(b.data.toList ++ Vi.grp (Vi.zz (n : Int)) ++ gnums l).toArray⟩) ∧ Below w.heap.size w w' := by
  have HS := Lib.hid hs
  obtain ⟨g0, hg0⟩ : ∃ g, w.heap.size = g := ⟨_, rfl⟩
  have HP := addInt_any g0 _ [] (n : Int) w (own_nil _ _) (Nat.le_of_eq hg0.symm) (by simp) (by omega)
  have hHl := Vi.grp_len10 (Vi.zz_lt (n : Int) (by omega))
  rw [List.nil_append] at HP
  obtain ⟨H0, hH0⟩ : ∃ H, Vi.grp (Vi.zz (n : Int)) = H := ⟨_, rfl⟩
  rw [hH0] at HP hHl ⊢
  have HTL : Hid (∀ k, (H0 ++ gnums (l.take k)).length ≤ 10000010) := fun k => by
    have h := gnums_len (l.take k) (fun x hx' => hx.out x (List.mem_of_mem_take hx'))
    rw [List.length_append]
    rw [List.length_take] at h
    have := hn.out
    omega
  have HP := Lib.hid HP
  have HG0 := Lib.hid hg0
  have HBS := Lib.hid hb
  rw [hg0]
  clear hs hH0 hHl hg0
  go_enter Tryz.func75, Tryz.ntmps75
  go_wp2_with fail
  refine HP.out.mono ?_
  rintro e w1 ⟨v1, rfl, ho1, hb1⟩
  have HB1 := Lib.hid hb1
  have HO1 : Hid (OwnB w1 g0 v1 (H0 ++ gnums (l.take 0))) := by
    show OwnB _ _ _ _
    rw [List.take_zero]
    simpa [gnums] using ho1
  clear ho1 hb1 HP
  go_wp2_with fail
  go_loopw [7, 9, 15] (fun v _ i wr => ∃ (k : Nat), k ≤ n ∧ i = .int .i64 k ∧ Hid (OwnB wr g0 v (H0 ++ gnums (l.take k))) ∧ Hid (Below g0 w wr)) (fun _ _ i _ => n - (intOf i).toNat)
  case atStart => exact ⟨0, by omega, rfl, HO1, HB1⟩
  case round =>
    obtain ⟨k, hk, rfl, HO, HB⟩ := hrel
    have hbr : g0 ≤ wr.heap.size := by have := HB.out.size; have := HG0.out; omega
    by_cases hlt : k < n
    · obtain ⟨bk, off, rfl, hcl⟩ := Ints.at' (HS.out.below (Nat.le_refl _) (by rw [HG0.out]; exact HB.out)) hlt
      have hmem : l.getD k 0 ∈ l := by
        have hk2 : k < l.length := by have := hn.out; omega
        rw [List.getD_eq_getElem?_getD, List.getElem?_eq_getElem hk2]
        exact List.getElem_mem hk2
      have hxs := hx.out _ hmem
      have HTN := Lib.hid (gnums_next l k (by have := hn.out; omega))
      obtain ⟨x, hxx⟩ : ∃ x, l.getD k 0 = x := ⟨_, rfl⟩
      rw [hxx] at hcl hxs HTN
      have HQ := addInt_any g0 _ _ x wr HO.out hbr (by have := HTL.out k; omega) hxs
      rw [List.append_assoc, HTN.out] at HQ
      have HQ := Lib.hid HQ
      clear hmem hxx hxs HTN HO
      go_wp2_with (go_at_fn 76)
      refine HQ.out.mono ?_
      rintro e w5 ⟨v5, rfl, ho5, hb5⟩
      have HO5 := Lib.hid ho5
      have HB5 := Lib.hid (HB.out.trans hb5)
      clear ho5 hb5 HB HQ hcl
      go_wp2
      exact ⟨⟨k + 1, by omega, by go_num, HO5, HB5⟩, by simp [intOf]; omega⟩
    · have hkl : l.take k = l := List.take_of_length_le (by have := hn.out; omega)
      have hconv := string_own HO.out
      have hsz := HTL.out k
      rw [hkl] at hconv hsz
      obtain ⟨G, hG⟩ : ∃ G, H0 ++ gnums l = G := ⟨_, rfl⟩
      rw [hG] at hconv hsz
      obtain ⟨r, hr⟩ : ∃ r : ByteArray, (⟨G.toArray⟩ : ByteArray) = r := ⟨_, rfl⟩
      have hrl : r.data.toList = G := by rw [← hr]
      have hrs : r.size ≤ 10000010 := by rw [Lib.size_eq, hrl]; exact hsz
      have HF : Hid ((⟨(b.data.toList ++ H0 ++ gnums l).toArray⟩ : ByteArray) = b ++ r) := by
        show _ = _
        have h : (b ++ r).data.toList = b.data.toList ++ H0 ++ gnums l := by rw [cat_list, hrl, ← hG, List.append_assoc]
        rw [← h]
        try simp
      rw [hr] at hconv
      have hb2 := HBS.out
      clear hkl hsz hG hr hrl HO
      go_wp2
      go_ret
      exact ⟨by rw [HF.out]; rfl, HB.out⟩
set_option maxHeartbeats 4000000 in
theorem putInts_any (b : ByteArray) (aa : Option Addr) (n c : Nat) (l : List Int) (w : World) (hs : Ints w (.slice aa n c) l) (hn : Hid (n = l.length)) (hl : n ≤ 1000000) (hx : Hid (∀ x ∈ l, in64 x)) (hb : b.size ≤ 500000000) :
    Calls Tryz.prog 45 #[.string b, .slice aa n c] w fun e w' => e = .returned (.string ⟨(b.data.toList ++ Vi.grp (Vi.zz (n : Int)) ++ gnums l).toArray⟩) ∧ Below w.heap.size w w' := by
  have HP := Lib.hid (putI_any b aa n c l w hs hn hl hx hb)
  obtain ⟨r, hr⟩ : ∃ r : ByteArray, (⟨(b.data.toList ++ Vi.grp (Vi.zz (n : Int)) ++ gnums l).toArray⟩ : ByteArray) = r := ⟨_, rfl⟩
  rw [hr] at HP ⊢
  clear hr hs hx hb hl
  go_enter Tryz.func45, Tryz.ntmps45
  go_wp2_with fail
  refine HP.out.mono ?_
  rintro e w1 ⟨rfl, hb1⟩
  have HB1 := Lib.hid hb1
  clear hb1 HP
  go_wp2
  go_ret
  exact ⟨rfl, HB1.out⟩

end Go.Proofs.YtpgbjnenllfmlaaGreatDoor
