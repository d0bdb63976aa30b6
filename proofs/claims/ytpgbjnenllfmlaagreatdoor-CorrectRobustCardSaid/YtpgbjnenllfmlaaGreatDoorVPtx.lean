
/- Lists of numbers written: the document's PutInts. -/
import Derived.Test.YtpgbjnenllfmlaaGreatDoorVTxt
import Derived.Test.YtpgbjnenllfmlaaGreatDoorFrame
import Derived.Lib.Strings
import Derived.SliceStrings
/-! Lists of numbers written: the document's PutInts. -/
namespace Go.Proofs.YtpgbjnenllfmlaaGreatDoor
open Go.RowKit
set_option linter.unusedVariables false

theorem Ints.at' {w : World} {a : Option Addr} {n c : Nat} {l : List Int} (h : Ints w (.slice a n c) l) {k : Nat} (hk : k < n) : ∃ b off, a = some ⟨b, off, none⟩ ∧ w.cell? ⟨b, off + k, none⟩ = some (.int .i64 (l.getD k 0)) := by
  obtain ⟨a', c', hv, _, hc⟩ := h
  simp only [Value.slice.injEq] at hv
  obtain ⟨rfl, rfl, _⟩ := hv
  obtain ⟨b, off, ha, hx⟩ := hc (fun e => by subst e; simp at hk)
  exact ⟨b, off, ha, hx k hk⟩
/-- Numbers as they are written, one after the other. -/
def gnums (l : List Int) : List UInt8 := l.flatMap fun x => Vi.grp (Vi.zz x)
theorem gnums_next (l : List Int) (k : Nat) (hk : k < l.length) : gnums (l.take k) ++ Vi.grp (Vi.zz (l.getD k 0)) = gnums (l.take (k + 1)) := by
  unfold gnums
  rw [List.take_add_one, List.flatMap_append, List.getElem?_eq_getElem hk]
  simp [List.getElem?_eq_getElem hk]
theorem gnums_len (l : List Int) (h : ∀ x ∈ l, in64 x) : (gnums l).length ≤ 10 * l.length := by
  induction l with
  | nil => simp [gnums]
  | cons x r ih =>
    have h1 := ih (fun y hy => h y (List.mem_cons_of_mem _ hy))
    have h2 := Vi.grp_len10 (Vi.zz_lt x (h x (List.mem_cons_self ..)))
    unfold gnums at h1 ⊢
    rw [List.flatMap_cons, List.length_append, List.length_cons]
    omega

set_option maxRecDepth 100000 in
set_option maxHeartbeats 4000000 in
theorem refPutInts_any (b : ByteArray) (aa : Option Addr) (n c : Nat) (l : List Int) (w : World) (hs : Ints w (.slice aa n c) l) (hn : Hid (n = l.length)) (hl : n ≤ 1000000) (hx : Hid (∀ x ∈ l, in64 x)) (hb : b.size ≤ 500000000) :
    Calls Tryz.prog 30 #[.string b, .slice aa n c] w fun e w' => e = .returned (.string ⟨(b.data.toList ++ Vi.grp (Vi.zz (n : Int)) ++ gnums l).toArray⟩) ∧ Below w.heap.size w w' := by
  have HS := Lib.hid hs
  obtain ⟨H0, hH0⟩ : ∃ H, b.data.toList ++ Vi.grp (Vi.zz (n : Int)) = H := ⟨_, rfl⟩
  have HP := refPutInt_any b (n : Int) w (by omega) (by omega)
  rw [hH0] at HP ⊢
  have hH0l : H0.length ≤ 500000010 := by
    rw [← hH0, List.length_append, ← Lib.size_eq]
    have := Vi.grp_len10 (Vi.zz_lt (n : Int) (by omega))
    omega
  have HTL : Hid (∀ k, (H0 ++ gnums (l.take k)).length ≤ 600000000) := fun k => by
    have h := gnums_len (l.take k) (fun x hx' => hx.out x (List.mem_of_mem_take hx'))
    rw [List.length_append]
    rw [List.length_take] at h
    have := hn.out
    omega
  have HP := Lib.hid HP
  clear hs hH0 hH0l
  obtain ⟨g0, hg0⟩ : ∃ g, w.heap.size = g := ⟨_, rfl⟩
  have HG0 := Lib.hid hg0
  rw [hg0] at HP ⊢
  clear hg0
  go_enter Tryz.func30, Tryz.ntmps30
  go_wp2_with fail
  refine HP.out.mono ?_
  rintro e w1 ⟨rfl, hb1⟩
  have HB1 := Lib.hid hb1
  obtain ⟨S0, hS0⟩ : ∃ S : ByteArray, (⟨H0.toArray⟩ : ByteArray) = S := ⟨_, rfl⟩
  have HS0 : Hid (S0.data.toList = H0 ++ gnums (l.take 0)) := by
    show _ = _
    rw [← hS0]
    simp [gnums]
  rw [hS0]
  clear hS0 hb1 HP
  go_wp2_with fail
  go_loopw [0, 6, 13] (fun v _ i wr => ∃ (k : Nat) (S : ByteArray), k ≤ n ∧ v = .string S ∧ i = .int .i64 k ∧ Hid (S.data.toList = H0 ++ gnums (l.take k)) ∧ Hid (Below g0 w wr)) (fun _ _ i _ => n - (intOf i).toNat)
  case atStart => exact ⟨0, S0, by omega, rfl, rfl, HS0, HB1⟩
  case round =>
    obtain ⟨k, S, hk, rfl, rfl, HSL, HB⟩ := hrel
    have hbr : g0 ≤ wr.heap.size := by have := HB.out.size; have := HG0.out; omega
    have hSs : S.size ≤ 600000000 := by rw [Lib.size_eq, HSL.out]; exact HTL.out k
    by_cases hlt : k < n
    · obtain ⟨bk, off, rfl, hcl⟩ := Ints.at' (HS.out.below (Nat.le_refl _) (by rw [HG0.out]; exact HB.out)) hlt
      have hmem : l.getD k 0 ∈ l := by
        have hk2 : k < l.length := by have := hn.out; omega
        rw [List.getD_eq_getElem?_getD, List.getElem?_eq_getElem hk2]
        exact List.getElem_mem hk2
      have hxs := hx.out _ hmem
      have HTN := Lib.hid (gnums_next l k (by have := hn.out; omega))
      obtain ⟨x, hxx⟩ : ∃ x, l.getD k 0 = x := ⟨_, rfl⟩
      rw [hxx] at hcl hxs HTN
      have HQ := refPutInt_any S x wr (by omega) hxs
      rw [HSL.out, List.append_assoc, HTN.out] at HQ
      obtain ⟨S5, hS5⟩ : ∃ S : ByteArray, (⟨(H0 ++ gnums (l.take (k + 1))).toArray⟩ : ByteArray) = S := ⟨_, rfl⟩
      have HS5 : Hid (S5.data.toList = H0 ++ gnums (l.take (k + 1))) := by show _ = _; rw [← hS5]
      rw [hS5] at HQ
      have HQ := Lib.hid HQ
      clear hmem hxx hS5 hxs HTN HSL hSs
      go_wp2_with fail
      refine HQ.out.mono ?_
      rintro e w5 ⟨rfl, hb5⟩
      have HB5 := Lib.hid (HB.out.trans (hb5.mono hbr))
      clear hb5 HB HQ hcl
      go_wp2
      exact ⟨⟨k + 1, _, by omega, rfl, by go_num, HS5, HB5⟩, by simp [intOf]; omega⟩
    · have hkl : l.take k = l := List.take_of_length_le (by have := hn.out; omega)
      have HE : Hid ((⟨(H0 ++ gnums l).toArray⟩ : ByteArray) = S) := by
        show _ = _
        rw [← hkl, ← HSL.out]
        try simp
      clear hkl HSL hSs
      go_wp2
      go_ret
      exact ⟨by rw [HE.out]; rfl, HB.out⟩
end Go.Proofs.YtpgbjnenllfmlaaGreatDoor
/-! Slices of strings: what they read as, and such that came in. -/
namespace Go.Proofs.YtpgbjnenllfmlaaGreatDoor
open Go.RowKit
set_option linter.unusedVariables false

theorem bytes_ext {X Y : ByteArray} (h : X.data.toList = Y.data.toList) : X = Y := by
  cases X; cases Y
  simp at h
  subst h
  rfl
theorem beq_dec (x y : ByteArray) : (x.toList == y.toList) = decide (x = y) := by
  rw [ByteArray.toList_eq, ByteArray.toList_eq]
  by_cases h : x = y
  · subst h; simp
  · rw [decide_eq_false h]
    simp only [beq_eq_false_iff_ne]
    exact fun e => h (bytes_ext e)
/-- A slice that reads as a list of strings. -/
def Strs (w : World) (s : Value) (l : List ByteArray) : Prop :=
  ∃ a c, s = .slice a l.length c ∧ l.length ≤ 140737488355328 ∧ (∀ x ∈ l, x.size ≤ 140737488355328) ∧
    (l ≠ [] → ∃ b off, a = some ⟨b, off, none⟩ ∧ ∀ i, i < l.length → w.cell? ⟨b, off + i, none⟩ = some (.string (l.getD i ByteArray.empty)))
theorem Strs.below {w w' : World} {s : Value} {l : List ByteArray} (h : Strs w s l) {B : Nat} (hB : w.heap.size ≤ B) (b : Below B w w') : Strs w' s l := by
  obtain ⟨a, c, h1, h2, h3, h4⟩ := h
  refine ⟨a, c, h1, h2, h3, fun hl => ?_⟩
  obtain ⟨b', off, ha, hc⟩ := h4 hl
  refine ⟨b', off, ha, fun i hi => ?_⟩
  have h := hc i hi
  have hlt : b' < w.heap.size := cell_lt h
  rw [b.cell (p := ⟨b', off + i, none⟩) (by show b' < B; omega)]
  exact h
theorem Strs.at {w : World} {a : Option Addr} {n c : Nat} {l : List ByteArray} (h : Strs w (.slice a n c) l) {k : Nat} (hk : k < n) : ∃ b off, a = some ⟨b, off, none⟩ ∧ w.cell? ⟨b, off + k, none⟩ = some (.string (l.getD k ByteArray.empty)) := by
  obtain ⟨a', c', hv, _, _, hc⟩ := h
  simp only [Value.slice.injEq] at hv
  obtain ⟨rfl, rfl, _⟩ := hv
  obtain ⟨b, off, ha, hx⟩ := hc (fun e => by subst e; simp at hk)
  exact ⟨b, off, ha, hx k hk⟩
open Go.ChangeShapes Go.WideShapes

theorem cellsStr : Tryz.prog.cellsOf 9 = 1 := by kernel_rfl
theorem bytesStr : Tryz.prog.bytesOf 9 = 16 := by kernel_rfl
theorem weights_strs {H : Type} (P : Program) (e : TypeId) (l : List ByteArray) (x : ByteArray) (hx : x ∈ l) : x.data.toList.length ∈ DataW.weightsAll P e (Go.ChangeShapes.strs l : List (DataW H)) := by
  induction l with
  | nil => cases hx
  | cons y r ih =>
    unfold Go.ChangeShapes.strs at ih ⊢
    rw [List.map_cons, DataW.weightsAll, List.mem_append]
    rcases List.mem_cons.1 hx with rfl | h
    · left
      simp [DataW.weights]
    · right
      exact ih h
/-- A slice of strings that came in. -/
theorem strs_open {H : Type} {enc : TypeId × Value → H} {W : World} {fuel : Nat} {a : Option Addr} {len cap : Nat} {d : DataW H} {m : List MemPlace} {ts : List TypeId} {ds : List (DataW H)}
    (hf : DataW.trod enc Tryz.prog W 0 (fun _ => true) true fuel 24 (Value.slice a len cap).cells.toList = some (d, m))
    (hsz : (DataW.weightsEach Tryz.prog ts ds).all (· ≤ reachBytes) = true) (j : Nat) (ht : ts[j]? = some 24) (hd : ds[j]? = some d) : ∃ l, Strs W (.slice a len cap) l := by
  rcases open_strings Tryz.underlying24 Tryz.underlying9 cellsStr hf with ⟨hcs, _⟩ | ⟨x, n, c, ss, hcs, _, hl, hm, hz, hx, hcell, _⟩
  · simp [Value.cells] at hcs
    obtain ⟨rfl, rfl, rfl⟩ := hcs
    exact ⟨[], none, 0, rfl, by simp, (fun x hx => by cases hx), fun h => absurd rfl h⟩
  · simp [Value.cells] at hcs
    obtain ⟨rfl, rfl, rfl⟩ := hcs
    simp only [Prod.mk.injEq] at hx
    obtain ⟨rfl, _⟩ := hx
    have hr := sized_slice hsz ht hd Tryz.underlying24
    rw [bytesStr] at hr
    simp only [if_true] at hz
    have hlen : (ss.take len).length = len := by rw [List.length_take]; omega
    have hb : len ≤ 140737488355328 := by
      simp only [Go.ChangeShapes.strs, List.length_map, List.length_take, List.length_drop] at hr
      have := reachBytes_lt
      omega
    have hsmall : ∀ y ∈ ss.take len, y.size ≤ 140737488355328 := fun y hy => by
      have h1 := List.all_eq_true.1 hsz _ (DataW.weights_mem_each ht hd y.data.toList.length (by
        rw [DataW.weights, Tryz.underlying24]
        exact List.mem_cons_of_mem _ (List.mem_append_left _ (weights_strs _ _ _ _ hy))))
      have h2 : y.data.toList.length ≤ reachBytes := by simpa using h1
      have := reachBytes_lt
      rw [Lib.size_eq]
      omega
    refine ⟨ss.take len, some x, cap, by rw [hlen], by omega, hsmall, fun hne => ?_⟩
    have h0 : 0 < len := by
      by_cases h : 0 < len
      · exact h
      · obtain rfl : len = 0 := by omega
        simp at hne
    obtain ⟨b, off, spot⟩ := x
    have hc0 := hcell 0 (by omega)
    have hspot : spot = none := by simpa [Addr.add] using World.cell?_spot hc0
    subst hspot
    refine ⟨b, off, rfl, fun i hi => ?_⟩
    have hci := hcell i (by omega)
    have e : (ss.take len).getD i ByteArray.empty = ss.getD i ByteArray.empty := by
      simp only [List.getD]
      rw [List.getElem?_take_of_lt (by omega)]
    rw [e]
    have ea : (⟨b, off, none⟩ : Addr).add i = ⟨b, off + i, none⟩ := by unfold Addr.add; split <;> simp_all
    rwa [ea] at hci
end Go.Proofs.YtpgbjnenllfmlaaGreatDoor
/-! Lists of texts written: the document's PutTexts. -/
namespace Go.Proofs.YtpgbjnenllfmlaaGreatDoor
open Go.RowKit
set_option linter.unusedVariables false

/-- Texts as they are written, one after the other. -/
def gtxts (l : List ByteArray) : List UInt8 := l.flatMap fun s => gtxt s.data.toList
theorem gtxts_next (l : List ByteArray) (k : Nat) (hk : k < l.length) : gtxts (l.take k) ++ gtxt (l.getD k ByteArray.empty).data.toList = gtxts (l.take (k + 1)) := by
  unfold gtxts
  rw [List.take_add_one, List.flatMap_append, List.getElem?_eq_getElem hk]
  simp [List.getElem?_eq_getElem hk]
theorem gtxts_len (l : List ByteArray) (B : Nat) (hB : B ≤ 1000000000) (h : ∀ x ∈ l, x.size ≤ B) : (gtxts l).length ≤ (B + 10) * l.length := by
  induction l with
  | nil => simp [gtxts]
  | cons x r ih =>
    have h1 := ih (fun y hy => h y (List.mem_cons_of_mem _ hy))
    have h2 := h x (List.mem_cons_self ..)
    have h3 := gtxt_len x.data.toList (by rw [← Lib.size_eq]; omega)
    rw [← Lib.size_eq] at h3
    unfold gtxts at h1 ⊢
    rw [List.flatMap_cons, List.length_append, List.length_cons, Nat.mul_add, Nat.mul_one]
    omega

end Go.Proofs.YtpgbjnenllfmlaaGreatDoor
