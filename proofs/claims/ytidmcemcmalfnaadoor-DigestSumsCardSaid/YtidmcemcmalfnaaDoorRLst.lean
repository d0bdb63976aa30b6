
/- Sums of lists: the document's List; slices of strings that came in. -/
import Derived.Test.YtidmcemcmalfnaaDoorRPair
import Derived.Test.YtidmcemcmalfnaaDoorSLst
import Derived.Test.YtidmcemcmalfnaaDoorSFrm
import Derived.SliceStrings
namespace Go.Proofs.YtidmcemcmalfnaaDoor
open Go.RowKit
set_option linter.unusedVariables false

open Go.ChangeShapes Go.WideShapes

theorem cellsStr : Tryd.prog.cellsOf 9 = 1 := by kernel_rfl
theorem bytesStr : Tryd.prog.bytesOf 9 = 16 := by kernel_rfl
theorem weights_strs {H : Type} (P : Program) (e : TypeId) (l : List ByteArray) (x : ByteArray) (hx : x ∈ l) : x.data.toList.length ∈ DataW.weightsAll P e (Go.ChangeShapes.strs l : List (DataW H)) := by
  induction l with
  | nil => cases hx
  | cons y r ih =>
    unfold Go.ChangeShapes.strs at ih ⊢
    rw [List.map_cons, DataW.weightsAll, List.mem_append]
    rcases List.mem_cons.1 hx with rfl | h
    · left
      simp [DataW.weights]
    · right
      exact ih h
/-- A slice of strings that came in. -/
theorem strs_open {H : Type} {enc : TypeId × Value → H} {W : World} {fuel : Nat} {a : Option Addr} {len cap : Nat} {d : DataW H} {m : List MemPlace} {ts : List TypeId} {ds : List (DataW H)}
    (hf : DataW.trod enc Tryd.prog W 0 (fun _ => true) true fuel 25 (Value.slice a len cap).cells.toList = some (d, m))
    (hsz : (DataW.weightsEach Tryd.prog ts ds).all (· ≤ reachBytes) = true) (j : Nat) (ht : ts[j]? = some 25) (hd : ds[j]? = some d) : ∃ l, Strs W (.slice a len cap) l := by
  rcases open_strings Tryd.underlying25 Tryd.underlying9 cellsStr hf with ⟨hcs, _⟩ | ⟨x, n, c, ss, hcs, _, hl, hm, hz, hx, hcell, _⟩
  · simp [Value.cells] at hcs
    obtain ⟨rfl, rfl, rfl⟩ := hcs
    exact ⟨[], none, 0, rfl, by simp, (fun x hx => by cases hx), fun h => absurd rfl h⟩
  · simp [Value.cells] at hcs
    obtain ⟨rfl, rfl, rfl⟩ := hcs
    simp only [Prod.mk.injEq] at hx
    obtain ⟨rfl, _⟩ := hx
    have hr := sized_slice hsz ht hd Tryd.underlying25
    rw [bytesStr] at hr
    simp only [if_true] at hz
    have hlen : (ss.take len).length = len := by rw [List.length_take]; omega
    have hb : len ≤ 140737488355328 := by
      simp only [Go.ChangeShapes.strs, List.length_map, List.length_take, List.length_drop] at hr
      have := reachBytes_lt
      omega
    have hsmall : ∀ y ∈ ss.take len, y.size ≤ 140737488355328 := fun y hy => by
      have h1 := List.all_eq_true.1 hsz _ (DataW.weights_mem_each ht hd y.data.toList.length (by
        rw [DataW.weights, Tryd.underlying25]
        exact List.mem_cons_of_mem _ (List.mem_append_left _ (weights_strs _ _ _ _ hy))))
      have h2 : y.data.toList.length ≤ reachBytes := by simpa using h1
      have := reachBytes_lt
      rw [Lib.size_eq]
      omega
    refine ⟨ss.take len, some x, cap, by rw [hlen], by omega, hsmall, fun hne => ?_⟩
    have h0 : 0 < len := by
      by_cases h : 0 < len
      · exact h
      · obtain rfl : len = 0 := by omega
        simp at hne
    obtain ⟨b, off, spot⟩ := x
    have hc0 := hcell 0 (by omega)
    have hspot : spot = none := by simpa [Addr.add] using World.cell?_spot hc0
    subst hspot
    refine ⟨b, off, rfl, fun i hi => ?_⟩
    have hci := hcell i (by omega)
    have e : (ss.take len).getD i ByteArray.empty = ss.getD i ByteArray.empty := by
      simp only [List.getD]
      rw [List.getElem?_take_of_lt (by omega)]
    rw [e]
    have ea : (⟨b, off, none⟩ : Addr).add i = ⟨b, off + i, none⟩ := by unfold Addr.add; split <;> simp_all
    rwa [ea] at hci

set_option maxRecDepth 100000 in
set_option maxHeartbeats 4000000 in
theorem refList_any (aa : Option Addr) (n c : Nat) (l : List ByteArray) (w : World) (hs : Strs w (.slice aa n c) l) (hn : Hid (n = l.length)) (hl : n ≤ 50) (hx : Hid (∀ x ∈ l, x.size ≤ 3000)) :
    Calls Tryd.prog 15 #[.slice aa n c] w fun e w' => e = .returned (.string ⟨(Sha.sum (([2] ++ hf n 4) ++ txts l)).toArray⟩) ∧ Below w.heap.size w w' := by
  have HS := Lib.hid hs
  have HTL : Hid (∀ k, (([2] ++ hf n 4) ++ txts (l.take k)).length < 400000) := fun k => by
    have h := txts_len (l.take k) (fun x hx' => hx.out x (List.mem_of_mem_take hx'))
    rw [List.length_append, List.length_append, hf_len]
    rw [List.length_take] at h
    simp
    have := hn.out
    omega
  clear hs
  obtain ⟨g0, hg0⟩ : ∃ g, w.heap.size = g := ⟨_, rfl⟩
  have HG0 := Lib.hid hg0
  rw [hg0]
  go_enter Tryd.func15, Tryd.ntmps15
  go_wp2_with fail
  refine (four_any n w (by omega)).mono ?_
  rintro e w1 ⟨rfl, hb1⟩
  rw [hg0] at hb1
  obtain ⟨fa, hfa⟩ : ∃ r : ByteArray, (⟨(hf n 4).toArray⟩ : ByteArray) = r := ⟨_, rfl⟩
  have hfl : fa.data.toList = hf n 4 := by rw [← hfa]
  have hfas : fa.size = 4 := by rw [Lib.size_eq, hfl, hf_len]
  rw [hfa]
  have HFA := Lib.hid hfl
  have HB1 := Lib.hid hb1
  clear hfa hfl hb1 hg0
  go_wp2
  obtain ⟨S0, hS0⟩ : ∃ S : ByteArray, (⟨#[2]⟩ : ByteArray) ++ fa = S := ⟨_, rfl⟩
  have HS0 : Hid (S0.data.toList = ([2] ++ hf n 4) ++ txts (l.take 0)) := by
    show _ = _
    rw [← hS0, cat_toList, HFA.out, List.take_zero]
    simp [txts]
  rw [hS0]
  clear hS0
  go_loopw [3, 5, 12] (fun v _ i wr => ∃ (k : Nat) (S : ByteArray), k ≤ n ∧ v = .string S ∧ i = .int .i64 k ∧ Hid (S.data.toList = ([2] ++ hf n 4) ++ txts (l.take k)) ∧ Hid (Below g0 w wr)) (fun _ _ i _ => n - (intOf i).toNat)
  case atStart => exact ⟨0, S0, by omega, rfl, rfl, HS0, HB1⟩
  case round =>
    obtain ⟨k, S, hk, rfl, rfl, HSL, HB⟩ := hrel
    have hbr : g0 ≤ wr.heap.size := by have := HB.out.size; have := HG0.out; omega
    have hSs : S.size < 400000 := by rw [Lib.size_eq, HSL.out]; exact HTL.out k
    by_cases hlt : k < n
    · obtain ⟨b, off, rfl, hcl⟩ := (HS.out.below (Nat.le_refl _) (by rw [HG0.out]; exact HB.out)).at hlt
      have hmem : l.getD k ByteArray.empty ∈ l := by
        have hk2 : k < l.length := by have := hn.out; omega
        rw [List.getD_eq_getElem?_getD, List.getElem?_eq_getElem hk2]
        exact List.getElem_mem hk2
      have hxs := hx.out _ hmem
      have HTN := Lib.hid (txts_next l k (by have := hn.out; omega))
      obtain ⟨x, hxx⟩ : ∃ x, l.getD k ByteArray.empty = x := ⟨_, rfl⟩
      rw [hxx] at hcl hxs HTN
      obtain ⟨nx, hnx⟩ : ∃ n, x.size = n := ⟨_, rfl⟩
      have HNX : Hid (x.data.toList.length = nx) := by show _ = _; rw [← hnx, ← Lib.size_eq]
      rw [hnx] at hxs
      clear hmem hxx
      go_wp2_with fail
      refine (four_any nx wr (by omega)).mono ?_
      rintro e w5 ⟨rfl, hb5⟩
      obtain ⟨fx, hfx⟩ : ∃ r : ByteArray, (⟨(hf nx 4).toArray⟩ : ByteArray) = r := ⟨_, rfl⟩
      have hfl : fx.data.toList = hf nx 4 := by rw [← hfx]
      have hfxs : fx.size = 4 := by rw [Lib.size_eq, hfl, hf_len]
      rw [hfx]
      have HFX := Lib.hid hfl
      have HB5 := Lib.hid (HB.out.trans (hb5.mono hbr))
      have HS5 : Hid ((S ++ (fx ++ x)).data.toList = ([2] ++ hf n 4) ++ txts (l.take (k + 1))) := by
        show _ = _
        rw [cat_toList, cat_toList, HSL.out, HFX.out, ← HTN.out]
        unfold txt
        rw [HNX.out, List.append_assoc]
      clear hfx hfl hb5 HB HSL hcl
      go_wp2
      exact ⟨⟨k + 1, _, by omega, rfl, by go_num, HS5, HB5⟩, by simp [intOf]; omega⟩
    · have hkl : l.take k = l := List.take_of_length_le (by have := hn.out; omega)
      have HRC := Lib.hid (refSum_any S wr (by omega))
      rw [HSL.out, hkl] at HRC
      obtain ⟨M, hM⟩ : ∃ M, ([2] ++ hf n 4) ++ txts l = M := ⟨_, rfl⟩
      have HM := Lib.hid hM
      rw [hM] at HRC
      clear hkl hM HSL hSs
      go_wp2_with fail
      refine HRC.out.mono ?_
      rintro e w4 ⟨rfl, hb4⟩
      have HB4 := Lib.hid (HB.out.trans (hb4.mono hbr))
      obtain ⟨sr, hsr⟩ : ∃ r : ByteArray, (⟨(Sha.sum M).toArray⟩ : ByteArray) = r := ⟨_, rfl⟩
      have HSR := Lib.hid hsr
      rw [hsr]
      clear hsr hb4
      go_wp2
      go_ret
      refine ⟨?_, HB4.out⟩
      show Ending.returned (Value.string sr) = _
      rw [← HSR.out, ← HM.out]
      try simp
end Go.Proofs.YtidmcemcmalfnaaDoor
