
/- The walk of PackPads. -/
import Derived.Test.YtadhmmklhhaagaaDoorKLLaw
import Derived.Test.YtadhmmklhhaagaaDoorKStp
import Derived.Test.YtadhmmklhhaagaaDoorKSpo
import Derived.Deep.RegionHeld3
import Derived.Deep.RegionLaw
namespace Go.Proofs.YtadhmmklhhaagaaDoor
open Go.RowKit
set_option linter.unusedVariables false

theorem row_ints5 {w : World} {g n : Nat} {l : List Int} (hn : l.length = n) (hs : n ≤ 1000) (h : ∀ i, i < n → w.cell? ⟨g, i, none⟩ = some (.int .i64 (l.getD i 0))) : Ints w (.slice (some ⟨g, 0, none⟩) n n) l := by
  subst hn
  exact ⟨_, _, rfl, by omega, fun _ => ⟨g, 0, rfl, fun i hi => by rw [Nat.zero_add]; exact h i hi⟩⟩
theorem row_strs5 {w : World} {g n : Nat} {l : List ByteArray} (hn : l.length = n) (hs : n ≤ 1000) (hx : ∀ x ∈ l, x.size ≤ 100000) (h : ∀ i, i < n → w.cell? ⟨g, i, none⟩ = some (.string (l.getD i ByteArray.empty))) : Strs w (.slice (some ⟨g, 0, none⟩) n n) l := by
  subst hn
  exact ⟨_, _, rfl, by omega, fun x h => by have := hx x h; omega, fun _ => ⟨g, 0, rfl, fun i hi => by rw [Nat.zero_add]; exact h i hi⟩⟩
theorem both_pad (F : Pk) (s : ByteArray) (u : Int) (hs : s.size ≤ 1000) : ∃ (B : ByteArray) (e : Int), B.size ≤ 16384 ∧ (∀ w, Calls Tryd.prog 9 #[.string s, .int .i64 u] w fun r w' => r = .returned (.tuple #[.string B, .int .i64 e]) ∧ Below w.heap.size w w') ∧
    ∀ w, Calls Tryd.prog 10 #[.string s, .int .i64 u] w fun r w' => r = .returned (.tuple #[.string B, .int .i64 e]) ∧ Below w.heap.size w w' := by
  refine ⟨⟨(padR s.data.toList u).1.toArray⟩, (padR s.data.toList u).2, ?_, fun w => F.pad s u w (by omega), fun w => refPad_any s u w (by omega)⟩
  rw [Lib.size_eq]
  show (padR s.data.toList u).1.length ≤ 16384
  unfold padR
  split
  · simp
  · split
    · simp
    · rename_i h1 h2
      have := padN_gt (n := s.data.toList.length) (u := u.toNat) (by omega)
      simp only [List.length_append, List.length_cons, List.length_replicate]
      omega
theorem both_strip (F : Pk) (s : ByteArray) (hs : s.size ≤ 100000) : ∃ (c : ByteArray) (e : Int), (∀ w, Calls Tryd.prog 12 #[.string s] w fun r w' => r = .returned (.tuple #[.string c, .int .i64 e]) ∧ Below w.heap.size w w') ∧
    ∀ w, Calls Tryd.prog 13 #[.string s] w fun r w' => r = .returned (.tuple #[.string c, .int .i64 e]) ∧ Below w.heap.size w w' := by
  have hex : ∃ r : List UInt8 × Int, Strips s.data.toList r := by
    by_cases h : ∃ t u, PadOf s.data.toList t u
    · obtain ⟨t, u, h⟩ := h
      exact ⟨(t, 0), .inl ⟨t, u, h, rfl⟩⟩
    · exact ⟨([], 4), .inr ⟨fun t u h1 => h ⟨t, u, h1⟩, rfl⟩⟩
  obtain ⟨r, hr⟩ := hex
  refine ⟨⟨r.1.toArray⟩, r.2, fun w => (F.strip s w hs).mono ?_, fun w => (refStrip_any s w (by omega)).mono ?_⟩
  · rintro e w' ⟨r', rfl, hs', hb⟩
    rw [hs'.same hr]
    exact ⟨rfl, hb⟩
  · rintro e w' ⟨r', rfl, hs', hb⟩
    rw [hs'.same hr]
    exact ⟨rfl, hb⟩

theorem region_once2 {P : Program} {id : Nat} {ops : Array Oper} {d : Bool} {Q : Exit → Act → World → Prop} {a : Act} {w : World} (R : Value → Value → World → Prop) (A : Value → Value → Act) (hr : (Code.region id ops d).wp P (fun e a' W => e = .normal ∧ ∃ v u, a' = A v u ∧ R v u W) a w)
    (h : ∀ v u W, R v u W → Q .normal (A v u) W) : (Code.region id ops d).wp P Q a w :=
  Code.wp_mono (fun _ _ _ ⟨h1, v, u, h2, h3⟩ => by subst h1; subst h2; exact h v u _ h3) hr
theorem strs_five (X : World) {a b c d e : ByteArray} (h : ∀ x ∈ [a, b, c, d, e], x.size ≤ 100000) : Strs (X.alloc (.cells #[.string a, .string b, .string c, .string d, .string e] 9)) (.slice (some ⟨X.heap.size, 0, none⟩) 5 5) [a, b, c, d, e] := by
  have hca : (X.alloc (.cells #[.string a, .string b, .string c, .string d, .string e] 9)).heap[X.heap.size]? = some (.cells #[.string a, .string b, .string c, .string d, .string e] 9 (0, 0)) := heap_alloc_new _ _
  refine row_strs5 rfl (by omega) h (fun i hi => ?_)
  simp only [World.cell?, hca]
  match i, hi with
  | 0, _ => rfl
  | 1, _ => rfl
  | 2, _ => rfl
  | 3, _ => rfl
  | 4, _ => rfl
theorem string_zeros_below (W w' : World) (n : Nat) (hb : Below (W.alloc (.cells (madeCells #[.int .u8 0] n) 5)).heap.size (W.alloc (.cells (madeCells #[.int .u8 0] n) 5)) w') : (convert 28 9 (.slice (some ⟨W.heap.size, 0, none⟩) n n)).run Tryd.prog w' = .ok (.string ⟨(List.replicate n (0 : UInt8)).toArray⟩) w' := by
  have hrow := World.rowIs_made W (.int .u8 0) n 5
  have h := run_convert_bytes_back (P := Tryd.prog) w' 28 9 5 ⟨W.heap.size, 0, none⟩ n (List.replicate n (0 : UInt8)) Tryd.underlying28 Tryd.underlying5 Tryd.underlying9 (fun j hj => by
    have ha : (⟨W.heap.size, 0, none⟩ : Addr).add j = ⟨W.heap.size, j, none⟩ := by unfold Addr.add; split <;> simp_all
    rw [List.length_replicate] at hj
    have hc := World.rowIs.cell hrow hj
    rw [ha, hb.cell (p := ⟨W.heap.size, j, none⟩) (by simp), hc]
    simp)
  rw [List.length_replicate] at h
  exact h

set_option maxRecDepth 100000 in
set_option maxHeartbeats 16000000 in
theorem packPads_walkF (F : Pk) (s : ByteArray) (u : Int) (z : Nat) (at_ by_ : Int) (w : World) (hw : Tb w) (hs : s.size ≤ 140737488355328) (hz : z < 256) :
    Calls Tryd.prog 3 #[.string s, .int .i64 u, .int .u8 z, .int .i64 at_, .int .i64 by_] w fun e w' => e = .returned (.bool true) ∧ Below w.heap.size w w' := by
  have hw0 := hw.size
  obtain ⟨N, hN⟩ : ∃ N, s.size = N := ⟨_, rfl⟩
  rw [hN] at hs
  by_cases hl : N ≤ 300
  · have hl' : decide ((300 : Int) < (N : Int)) = false := decide_eq_false (by omega)
    obtain ⟨k1, hk1, hk1b⟩ : ∃ k : Nat, u % 40 = (k : Int) ∧ k < 40 := ⟨(u % 40).toNat, by omega, by omega⟩
    obtain ⟨k2, hk2, hk2b⟩ : ∃ k : Nat, u % 3 = (k : Int) ∧ k < 3 := ⟨(u % 3).toNat, by omega, by omega⟩
    have M1 := mod_any u 40 w (by omega) (by omega)
    have M2 := mod_any u 3 w (by omega) (by omega)
    rw [hk1] at M1
    rw [hk2] at M2
    have M1 := Lib.hid M1
    have M2 := Lib.hid M2
    have HW := Lib.hid hw
    have HBP := Lib.hid (fun u => both_pad F s u (by omega))
    obtain ⟨g0, hg0⟩ : ∃ g, w.heap.size = g := ⟨_, rfl⟩
    have HG0 := Lib.hid hg0
    rw [hg0] at hw0
    rw [hg0]
    have HN3 := Lib.hid hl
    clear hw hk1 hk2 hl
    go_enter Tryd.func3, Tryd.ntmps3
    go_wp2_with fail
    refine M1.out.mono ?_
    rintro e w' ⟨rfl, rfl⟩
    go_wp2_with fail
    refine M2.out.mono ?_
    rintro e w' ⟨rfl, rfl⟩
    go_wp2_with fail
    have hba : Below g0 w (w.alloc (.cells #[.int .i64 u, .int .i64 (1 + (k1 : Int)), .int .i64 (1023 + (k2 : Int))] 3)) := by
      rw [← HG0.out]; exact (Below.refl _ _).alloc (Nat.le_refl _) _
    have hca : (w.alloc (.cells #[.int .i64 u, .int .i64 (1 + (k1 : Int)), .int .i64 (1023 + (k2 : Int))] 3)).heap[g0]? = some (.cells #[.int .i64 u, .int .i64 (1 + (k1 : Int)), .int .i64 (1023 + (k2 : Int))] 3 (0, 0)) := by
      rw [← HG0.out]; exact heap_alloc_new _ _
    generalize w.alloc (.cells #[.int .i64 u, .int .i64 (1 + (k1 : Int)), .int .i64 (1023 + (k2 : Int))] 3) = wa at *
    have hsa : g0 < wa.heap.size := (Array.getElem?_eq_some_iff.1 hca).1
    have HR : Hid (Ints wa (.slice (some ⟨g0, 0, none⟩) 3 3) [u, 1 + (k1 : Int), 1023 + (k2 : Int)]) := row_ints5 rfl (by omega) (fun i hi => by
      simp only [World.cell?, hca]
      match i, hi with
      | 0, _ => rfl
      | 1, _ => rfl
      | 2, _ => rfl)
    have WA := Lib.hid hba
    have WA0 : Hid (Below wa.heap.size wa wa) := Below.refl _ _
    generalize [u, 1 + (k1 : Int), 1023 + (k2 : Int)] = P at *
    clear hba hca M1 M2
    go_loopw [36] (fun i wr => ∃ k : Nat, k ≤ 3 ∧ i = .int .i64 k ∧ Hid (Below wa.heap.size wa wr)) (fun i _ => 3 - (intOf i).toNat)
    case atStart => exact ⟨0, by omega, rfl, WA0⟩
    case round =>
      obtain ⟨k, hk, rfl, HB⟩ := hrel
      by_cases hlt : k < 3
      · obtain ⟨bk, off, hbk, hcl⟩ := Ints.at' (HR.out.below (Nat.le_refl _) HB.out) hlt
        simp only [Option.some.injEq, Addr.mk.injEq, and_true] at hbk
        obtain ⟨rfl, rfl⟩ := hbk
        rw [Nat.zero_add] at hcl
        generalize P.getD k 0 = x at *
        obtain ⟨B, e1, hBs, C1, C2⟩ := HBP.out x
        have C1 := Lib.hid C1
        have C2 := Lib.hid C2
        have hsr := HB.out.size
        go_wp2_with fail
        refine (C1.out wr).mono ?_
        rintro e w1 ⟨rfl, hb1⟩
        have HB1 := Lib.hid (HB.out.trans (hb1.mono hsr))
        have hs1 := HB1.out.size
        clear hb1 HB C1
        go_wp2_with fail
        refine (C2.out w1).mono ?_
        rintro e w2 ⟨rfl, hb2⟩
        have HB2 := Lib.hid (HB1.out.trans (hb2.mono hs1))
        have hs2 := HB2.out.size
        clear hb2 HB1 C2 hcl
        obtain ⟨r, hr, C3⟩ := spoil_val B at_ by_ (by omega)
        obtain ⟨Z, hZ⟩ : ∃ Z : ByteArray, (⟨(List.replicate z (0 : UInt8)).toArray⟩ : ByteArray) = Z := ⟨_, rfl⟩
        have hZs : Z.size = z := by rw [← hZ, Lib.size_eq]; simp
        have HMK : Hid (∀ W : World, ∃ wz, (Instr.makeSlice 28 (.int .u8 (z : Int)) (.int .u8 (z : Int))).run Tryd.prog W = .ok (.slice (some ⟨W.heap.size, 0, none⟩) z z) wz ∧ (∀ w', Below wz.heap.size wz w' → (convert 28 9 (.slice (some ⟨W.heap.size, 0, none⟩) z z)).run Tryd.prog w' = .ok (.string Z) w') ∧ Below W.heap.size W wz) := fun W =>
          ⟨_, run_make_row' (P := Tryd.prog) 28 5 (.int .u8 0) 1 Tryd.underlying28 infoU8 rfl .u8 .u8 z (by omega) (by omega) W, (fun w' hb => by rw [← hZ]; exact string_zeros_below W w' z hb), (Below.refl _ _).alloc (Nat.le_refl _) _⟩
        clear hZ
        obtain ⟨g2, hg2⟩ : ∃ g, w2.heap.size = g := ⟨_, rfl⟩
        obtain ⟨WA, hma, hca, hba⟩ := HMK.out w2.drew
        have hg3 : w2.drew.heap.size = g2 := hg2
        rw [hg3] at hma hca hba
        have hcv1 := hca WA (Below.refl _ _)
        have HCA := Lib.hid hca
        have HBA := Lib.hid hba
        have C3 := Lib.hid C3
        have HG2 := Lib.hid hg2
        have HB0 : Hid (Below g2 w2 w2.drew) := (Below.refl _ _).drew
        have HD2 : Hid (w2.drew.heap.size = g2) := hg3
        have HSZ : Hid (∀ x ∈ [B, s, s ++ ⟨#[128]⟩ ++ Z, r, B ++ ⟨#[0]⟩], x.size ≤ 100000) := fun x hx => by
          have q1 : (s ++ ⟨#[128]⟩ ++ Z).size = s.size + 1 + Z.size := by rw [ByteArray.size_append, ByteArray.size_append]; rfl
          have q2 : (B ++ ⟨#[0]⟩ : ByteArray).size = B.size + 1 := by rw [ByteArray.size_append]; rfl
          simp only [List.mem_cons, List.not_mem_nil, or_false] at hx
          have q3 := HN3.out
          rcases hx with rfl | rfl | rfl | rfl | rfl <;> omega
        have n1 : ¬ 9223372036854775807 < N + 1 := by omega
        have n2 : ¬ 9223372036854775807 < N + 1 + z := by omega
        have n3 : ¬ 9223372036854775807 < B.size + 1 := by omega
        have n4 : ¬ (9223372036854775807 : Int) < (N : Int) + 1 := by omega
        have n5 : ¬ (9223372036854775807 : Int) < (N : Int) + 1 + (z : Int) := by omega
        have n6 : ¬ (9223372036854775807 : Int) < (B.size : Int) + 1 := by omega
        clear hca hba hg3 hg2
        go_wp2
        apply region_once2 (fun _ u' W => ∃ g, u' = .slice (some ⟨g, 0, none⟩) 5 5 ∧ Strs W u' [B, s, s ++ ⟨#[128]⟩ ++ Z, r, B ++ ⟨#[0]⟩] ∧ Below g2 w2 W)
        case hr =>
          refine wp_region_noPanic ?_
          go_region_law (first
              | (go_simp; go_at_call 11; with_reducible refine (C3.out WA).mono ?_; rintro e w' ⟨rfl, hb⟩; have hcv' := HCA.out w' hb; have HBS := Lib.hid hb; clear hb)
              | (go_simp; go_at_call 11; with_reducible refine (C3.out w2.drew).mono ?_; rintro e w' ⟨rfl, hb⟩; obtain ⟨wz, hmk', hcz, hbz⟩ := HMK.out w'; have hcv' := hcz wz (Below.refl _ _); have HBS := Lib.hid hb; have HBZ := Lib.hid hbz; clear hcz hb hbz))
          all_goals
            refine NoPanic.normal ?_
            first
              | (have hX : Below g2 w2 w' := HB0.out.trans (HBA.out.trans (HBS.out.mono (by have := HBA.out.size; have := HG2.out; have := HD2.out; omega)))
                 have hXs : g2 ≤ w'.heap.size := by have := hX.size; have := HG2.out; omega
                 obtain ⟨v65, h65⟩ : ∃ v, Value.slice (some ⟨g2, 0, none⟩) z z = v := ⟨_, rfl⟩
                 obtain ⟨u74, h74⟩ : ∃ v, Value.slice (some ⟨w'.heap.size, 0, none⟩) 5 5 = v := ⟨_, rfl⟩
                 rw [h65, h74]
                 exact ⟨rfl, v65, u74, rfl, _, h74.symm, by rw [← h74]; exact strs_five w' HSZ.out, hX.alloc hXs _⟩)
              | (have hX : Below g2 w2 wz := HB0.out.trans ((HBS.out.mono (by have := HD2.out; omega)).trans (HBZ.out.mono (by have := HBS.out.size; have := HD2.out; omega)))
                 have hXs : g2 ≤ wz.heap.size := by have := hX.size; have := HG2.out; omega
                 obtain ⟨v65, h65⟩ : ∃ v, Value.slice (some ⟨w'.heap.size, 0, none⟩) z z = v := ⟨_, rfl⟩
                 obtain ⟨u74, h74⟩ : ∃ v, Value.slice (some ⟨wz.heap.size, 0, none⟩) 5 5 = v := ⟨_, rfl⟩
                 rw [h65, h74]
                 exact ⟨rfl, v65, u74, rfl, _, h74.symm, by rw [← h74]; exact strs_five wz HSZ.out, hX.alloc hXs _⟩)
        rintro v65 u74 W ⟨gf, rfl, hst, hbW⟩
        have HST := Lib.hid hst
        have hs2' := HG2.out
        have HBW := Lib.hid (HB2.out.trans (hbW.mono (by omega)))
        have HW0 : Hid (Below W.heap.size W W) := Below.refl _ _
        have HLL : Hid ([B, s, s ++ ⟨#[128]⟩ ++ Z, r, B ++ ⟨#[0]⟩].length = 5) := by show _ = _; rfl
        generalize [B, s, s ++ ⟨#[128]⟩ ++ Z, r, B ++ ⟨#[0]⟩] = L at *
        have sW := HBW.out.size
        clear hst hbW HB2 HBA C3 HMK HCA hma hcv1 hs2' n1 n2 n3 n4 n5 n6
        go_simp
        go_wp2_with fail
        go_loopw [76] (fun i wr => ∃ k : Nat, k ≤ 5 ∧ i = .int .i64 k ∧ Hid (Below W.heap.size W wr)) (fun i _ => 5 - (intOf i).toNat)
        case atStart => exact ⟨0, by omega, rfl, HW0⟩
        case round =>
          obtain ⟨j, hj, rfl, HB⟩ := hrel
          by_cases hjl : j < 5
          · obtain ⟨bk, off, hbk, hcj⟩ := (HST.out.below (Nat.le_refl _) HB.out).at hjl
            simp only [Option.some.injEq, Addr.mk.injEq, and_true] at hbk
            obtain ⟨rfl, rfl⟩ := hbk
            rw [Nat.zero_add] at hcj
            have hys := HSZ.out (L.getD j ByteArray.empty) (by
              have hk2 : j < L.length := by have := HLL.out; omega
              rw [List.getD_eq_getElem?_getD, List.getElem?_eq_getElem hk2]
              exact List.getElem_mem hk2)
            generalize L.getD j ByteArray.empty = y at *
            obtain ⟨c, e2, D1, D2⟩ := both_strip F y (by omega)
            have D1 := Lib.hid D1
            have D2 := Lib.hid D2
            have hsq := HB.out.size
            go_wp2_with fail
            refine (D1.out wr).mono ?_
            rintro e wx ⟨rfl, hb1⟩
            have HX1 := Lib.hid (HB.out.trans (hb1.mono hsq))
            have hx1 := HX1.out.size
            clear hb1 HB D1
            go_wp2_with fail
            refine (D2.out wx).mono ?_
            rintro e wy ⟨rfl, hb2⟩
            have HX2 := Lib.hid (HX1.out.trans (hb2.mono hx1))
            clear hb2 HX1 D2
            go_wp2
            go_roundw
            case rel => exact ⟨j + 1, by omega, by go_num, HX2⟩
            case measure => simp [intOf]; omega
          · have HB3 := Lib.hid (HBW.out.trans (HB.out.mono sW))
            clear HB HBW HST
            go_wp2
            go_roundw
            case rel => exact ⟨k + 1, by omega, by go_num, HB3⟩
            case measure => simp [intOf]; omega
      · have HB2 := Lib.hid (WA.out.trans (HB.out.mono (Nat.le_of_lt hsa)))
        have hs2 := HB2.out.size
        have hg0' := HG0.out
        have HA := Lib.hid (awake5_any F wr (HW.out.below (by omega) HB2.out))
        clear HB WA HR
        go_wp2_with fail
        refine HA.out.mono ?_
        rintro e w10 ⟨rfl, hb10⟩
        have HB3 := Lib.hid (HB2.out.trans (hb10.mono (by omega)))
        clear hb10 HB2
        go_wp2
        go_ret
        exact ⟨rfl, HB3.out⟩
  · have hl' : decide ((300 : Int) < (N : Int)) = true := decide_eq_true (by omega)
    have HA := Lib.hid (awake5_any F w hw)
    clear hl
    go_enter Tryd.func3, Tryd.ntmps3
    go_wp2_with fail
    refine HA.out.mono ?_
    rintro e w1 ⟨rfl, hb1⟩
    have HB1 := Lib.hid hb1
    clear hb1
    go_wp2
    go_ret
    exact ⟨rfl, HB1.out⟩
end Go.Proofs.YtadhmmklhhaagaaDoor
