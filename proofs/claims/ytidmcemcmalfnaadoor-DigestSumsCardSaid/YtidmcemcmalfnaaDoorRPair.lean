
/- Pairs, streams and elements: the document's. -/
import Derived.Test.YtidmcemcmalfnaaDoorRSum
import Derived.Test.YtidmcemcmalfnaaDoorSElt
import Derived.Test.YtidmcemcmalfnaaDoorOwn
namespace Go.Proofs.YtidmcemcmalfnaaDoor
open Go.RowKit
set_option linter.unusedVariables false

theorem hf_cells (n : Nat) (a b c d : Int) (ha : a = (n : Int) / 16777216 % 256) (hb : b = (n : Int) / 65536 % 256) (hc : c = (n : Int) / 256 % 256) (hd : d = (n : Int) % 256) (j : Nat) (hj : j < (hf n 4).length) :
    (#[Value.int .u8 a, .int .u8 b, .int .u8 c, .int .u8 d] : Array Value)[j]? = some (.int .u8 ((hf n 4)[j].toNat : Int)) := by
  rw [hf_len] at hj
  have : j = 0 ∨ j = 1 ∨ j = 2 ∨ j = 3 := by omega
  have e : hf n 4 = [hfb n 4 0, hfb n 4 1, hfb n 4 2, hfb n 4 3] := rfl
  rcases this with rfl | rfl | rfl | rfl
  · simp only [e]; subst ha; simp [hfb_val]
  · simp only [e]; subst hb; simp [hfb_val]
  · simp only [e]; subst hc; simp [hfb_val]
  · simp only [e]; subst hd; simp [hfb_val]
set_option maxHeartbeats 1000000 in
theorem four_any (n : Nat) (w : World) (hn : n < 4611686018427387904) :
    Calls Tryd.prog 32 #[.int .i64 n] w fun e w' => e = .returned (.string ⟨(hf n 4).toArray⟩) ∧ Below w.heap.size w w' := by
  have hconv := fun (c : Array Value) (hc : ∀ j (hj : j < (hf n 4).length), c[j]? = some (.int .u8 ((hf n 4)[j].toNat : Int))) => run_convert_bytes_back (P := Tryd.prog) (w.alloc (.cells c 5)) 24 9 5 ⟨w.heap.size, 0, none⟩ 4 (hf n 4) Tryd.underlying24 Tryd.underlying5 Tryd.underlying9 (fun j hj => by
    have ha : (⟨w.heap.size, 0, none⟩ : Addr).add j = ⟨w.heap.size, j, none⟩ := by unfold Addr.add; split <;> simp_all
    have hcw : (w.alloc (.cells c 5)).heap[w.heap.size]? = some (.cells c 5 (0, 0)) := heap_alloc_new _ _
    rw [ha]
    show (match (w.alloc (.cells c 5)).heap[w.heap.size]? with | some (.cells c _ _) => c[j]? | _ => none) = _
    rw [hcw]
    exact hc j hj)
  have h2 := hconv #[.int .u8 ((n : Int) / 16777216 % 256), .int .u8 ((n : Int) / 65536 % 256), .int .u8 ((n : Int) / 256 % 256), .int .u8 ((n : Int) % 256)] (fun j hj => hf_cells n _ _ _ _ rfl rfl rfl rfl j hj)
  rw [hf_len] at h2
  obtain ⟨sr, hsr⟩ : ∃ r : ByteArray, (⟨(hf n 4).toArray⟩ : ByteArray) = r := ⟨_, rfl⟩
  rw [hsr] at h2 ⊢
  clear hconv hsr hn
  go_enter Tryd.func32, Tryd.ntmps32
  go_wp2
  go_ret
  exact ⟨rfl, (Below.refl _ _).alloc (Nat.le_refl _) _⟩

theorem cat_toList (a b : ByteArray) : (a ++ b).data.toList = a.data.toList ++ b.data.toList := by
  rw [ByteArray.data_append]; simp
set_option maxRecDepth 100000 in
set_option maxHeartbeats 4000000 in
theorem refPair_any (a b : ByteArray) (w : World) (ha : a.size ≤ 10000000) (hb : b.size ≤ 10000000) :
    Calls Tryd.prog 13 #[.string a, .string b] w fun e w' => e = .returned (.string ⟨(Sha.sum (([1] ++ txt a.data.toList) ++ txt b.data.toList)).toArray⟩) ∧ Below w.heap.size w w' := by
  obtain ⟨na, hna⟩ : ∃ n, a.size = n := ⟨_, rfl⟩
  obtain ⟨nb, hnb⟩ : ∃ n, b.size = n := ⟨_, rfl⟩
  have hla : a.data.toList.length = na := by rw [← hna, ← Lib.size_eq]
  have hlb : b.data.toList.length = nb := by rw [← hnb, ← Lib.size_eq]
  rw [hna] at ha
  rw [hnb] at hb
  have HA := Lib.hid hla
  have HB := Lib.hid hlb
  have HNA := Lib.hid hna
  have HNB := Lib.hid hnb
  clear hla hlb
  go_enter Tryd.func13, Tryd.ntmps13
  go_wp2_with fail
  refine (four_any na w (by omega)).mono ?_
  rintro e w1 ⟨rfl, hb1⟩
  obtain ⟨fa, hfa⟩ : ∃ r : ByteArray, (⟨(hf na 4).toArray⟩ : ByteArray) = r := ⟨_, rfl⟩
  have hfl : fa.data.toList = hf na 4 := by rw [← hfa]
  have hfas : fa.size = 4 := by rw [Lib.size_eq, hfl, hf_len]
  rw [hfa]
  have HFA := Lib.hid hfl
  have HB1 := Lib.hid hb1
  have hs1 := hb1.size
  clear hfa hfl hb1
  go_wp2_with fail
  refine (four_any nb w1 (by omega)).mono ?_
  rintro e w2 ⟨rfl, hb2⟩
  obtain ⟨fb, hfb⟩ : ∃ r : ByteArray, (⟨(hf nb 4).toArray⟩ : ByteArray) = r := ⟨_, rfl⟩
  have hfl : fb.data.toList = hf nb 4 := by rw [← hfb]
  have hfbs : fb.size = 4 := by rw [Lib.size_eq, hfl, hf_len]
  rw [hfb]
  have HFB := Lib.hid hfl
  have HB2 := Lib.hid (HB1.out.trans (hb2.mono hs1))
  have hs2 : w.heap.size ≤ w2.heap.size := HB2.out.size
  clear hfb hfl hb2 HB1
  go_wp2_with fail
  have hXl : ((⟨#[1]⟩ : ByteArray) ++ fa ++ a ++ fb ++ b).data.toList = ([1] ++ txt a.data.toList) ++ txt b.data.toList := by
    rw [cat_toList, cat_toList, cat_toList, cat_toList, HFA.out, HFB.out]
    unfold txt
    rw [HA.out, HB.out]
    simp
  have hXs : ((⟨#[1]⟩ : ByteArray) ++ fa ++ a ++ fb ++ b).size ≤ 100000000 := by
    simp only [ByteArray.size_append, hfas, hfbs, HNA.out, HNB.out]
    have : (⟨#[1]⟩ : ByteArray).size = 1 := rfl
    omega
  have HR := Lib.hid (refSum_any _ w2 hXs)
  rw [hXl] at HR
  refine HR.out.mono ?_
  rintro e w3 ⟨rfl, hb3⟩
  have HB3 := Lib.hid (HB2.out.trans (hb3.mono hs2))
  obtain ⟨sr, hsr⟩ : ∃ r : ByteArray, (⟨(Sha.sum (([1] ++ txt a.data.toList) ++ txt b.data.toList)).toArray⟩ : ByteArray) = r := ⟨_, rfl⟩
  have HSR := Lib.hid hsr
  rw [hsr]
  clear hsr hb3 HR hXl hXs
  go_wp2
  go_ret
  refine ⟨?_, HB3.out⟩
  show Ending.returned (Value.string sr) = _
  rw [← HSR.out]
  simp

def GathR (w : World) (base : Nat) (v : Value) (l : List Int) : Prop := Gath w base v l
theorem GathR.belowD {w w' : World} {base : Nat} {v : Value} {l : List Int} (h : Gath w base v l) (b : Below w.heap.size w w') : Gath w' base v l :=
  World.ownsRow.kept (row := none) h ⟨b.os, b.tape, b.output, b.size, fun k hk _ => b.block k hk⟩ (by
    cases e : v.ownBlock with
    | none => exact .inl rfl
    | some g => exact .inr (by simp))

set_option maxRecDepth 100000 in
set_option maxHeartbeats 4000000 in
theorem refStream_any (p : Int) (s : ByteArray) (n : Nat) (w : World) (hp : 2 ≤ p) (hp2 : p ≤ 1073741824) (hn : n ≤ 2048) (hs : s.size ≤ 1000000) :
    Calls Tryd.prog 20 #[.int .i64 p, .string s, .int .i64 n] w fun e w' => ∃ v, e = .returned v ∧ Ints w' v ((List.range n).map (stm p s.data.toList)) ∧ Below w.heap.size w w' := by
  obtain ⟨L, hL⟩ : ∃ L, s.data.toList = L := ⟨_, rfl⟩
  obtain ⟨S, hS⟩ : ∃ S, stm p L = S := ⟨_, rfl⟩
  have HSD : Hid (∀ i, S i = sev (Sha.sum (([1] ++ txt L) ++ txt (hf i 4))) % p) := fun i => by rw [← hS]; rfl
  rw [hL, hS]
  have HL := Lib.hid hL
  have HSS := Lib.hid hs
  clear hL hS hs
  obtain ⟨g0, hg0⟩ : ∃ g, w.heap.size = g := ⟨_, rfl⟩
  have HG := Lib.hid hg0
  rw [hg0]
  go_enter Tryd.func20, Tryd.ntmps20
  go_wp2
  clear hg0
  go_loopw [7, 8, 10] (fun v _ i wr => ∃ (k : Nat) (o : Value), k ≤ n ∧ v = o ∧ i = .int .i64 k ∧ Hid (Gath wr g0 o ((List.range k).map S)) ∧ Hid (Below g0 w wr)) (fun _ _ i _ => n - (intOf i).toNat)
  case atStart => exact ⟨0, _, by omega, rfl, rfl, gath_nil w g0, Below.refl _ _⟩
  case round =>
    obtain ⟨k, o, hk, rfl, rfl, HO, HB⟩ := hrel
    have hBr : g0 ≤ wr.heap.size := by have := HB.out.size; have := HG.out; omega
    by_cases hlt : k < n
    · go_wp2_with fail
      refine (four_any k wr (by omega)).mono ?_
      rintro e w1 ⟨rfl, hb1⟩
      obtain ⟨sk, hsk⟩ : ∃ s : ByteArray, (⟨(hf k 4).toArray⟩ : ByteArray) = s := ⟨_, rfl⟩
      have hsl : sk.data.toList = hf k 4 := by rw [← hsk]
      have hss : sk.size = 4 := by rw [Lib.size_eq, hsl, hf_len]
      rw [hsk]
      have HPC := Lib.hid (refPair_any s sk w1 (by have := HSS.out; omega) (by omega))
      rw [HL.out, hsl] at HPC
      have HO1 := Lib.hid (GathR.belowD HO.out hb1)
      have HB1 := Lib.hid (HB.out.trans (hb1.mono hBr))
      have hB1 : g0 ≤ w1.heap.size := Nat.le_trans hBr hb1.size
      clear hsk hsl hb1 HO HB hss
      go_wp2_with fail
      refine HPC.out.mono ?_
      rintro e w2 ⟨rfl, hb2⟩
      obtain ⟨su, hsu⟩ : ∃ r : ByteArray, (⟨(Sha.sum (([1] ++ txt L) ++ txt (hf k 4))).toArray⟩ : ByteArray) = r := ⟨_, rfl⟩
      have hul : su.data.toList = Sha.sum (([1] ++ txt L) ++ txt (hf k 4)) := by rw [← hsu]
      have hus : su.size = 32 := by rw [Lib.size_eq, hul, sum_len]
      rw [hsu]
      have HSK : Hid (S k = sev su.data.toList % p) := by show _ = _; rw [hul]; exact HSD.out k
      have HNB := Lib.hid (seven_any su w2 (by omega))
      have HO2 := Lib.hid (GathR.belowD HO1.out hb2)
      have HB2 := Lib.hid (HB1.out.trans (hb2.mono hB1))
      have hB2 : g0 ≤ w2.heap.size := Nat.le_trans hB1 hb2.size
      clear hsu hul hb2 HO1 HB1 HPC hus
      go_wp2_with fail
      refine HNB.out.mono ?_
      rintro e w3 ⟨rfl, hw3⟩
      subst hw3
      have hsv := sev_in su.data.toList
      obtain ⟨v, hv⟩ : ∃ v, sev su.data.toList = v := ⟨_, rfl⟩
      rw [hv] at hsv HSK ⊢
      have hmod : v.tmod p = v % p := Int.tmod_eq_emod_of_nonneg hsv.1
      obtain ⟨r, hr⟩ : ∃ r, v % p = r := ⟨_, rfl⟩
      rw [hr] at hmod HSK
      have HLN : Hid (((List.range k).map S).length = k) := by show _ = _; simp
      clear hv HNB hr hsv
      go_wp2_with (at_builtin; refine append_one _ rfl _ _ rfl g0 _ ((List.range k).map S) r rfl (HO2.out.alloc _) ⟨w2.heap.size, 0, none⟩ rfl ?c1 ?c2 ?c3 ?_)
      case c1 => rw [cell_new]; rfl
      case c2 => rw [HLN.out]; omega
      case c3 => first | omega | (simp; omega)
      intro v' w5 hg5 hgr
      have hbel : Below g0 w2 w5 := ((Below.refl g0 w2).alloc hB2 _).grown hgr (by simp; omega) (fun g hg => HO2.out.block g hg)
      have HB5 := Lib.hid (HB2.out.trans hbel)
      have HO5 : Hid (Gath w5 g0 v' ((List.range (k + 1)).map S)) := by
        have h5 := hg5
        rw [← HSK.out] at h5
        rw [List.range_succ, List.map_append]
        exact h5
      clear hbel hg5 hgr HO2 HB2
      go_wp2
      exact ⟨⟨k + 1, _, by omega, rfl, by go_num, HO5, HB5⟩, by simp [intOf]; omega⟩
    · obtain rfl : k = n := by omega
      have HI := Lib.hid (HO.out.reads (by simp; omega))
      go_wp2
      go_ret
      exact ⟨_, rfl, HI.out, HB.out⟩
end Go.Proofs.YtidmcemcmalfnaaDoor
