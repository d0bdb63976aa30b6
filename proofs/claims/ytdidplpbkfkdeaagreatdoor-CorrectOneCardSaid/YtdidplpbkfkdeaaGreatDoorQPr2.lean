
/- The program's package correct: minus, likely, having. -/
import Derived.Test.YtdidplpbkfkdeaaGreatDoorQPr1
import Derived.Test.YtdidplpbkfkdeaaGreatDoorWts
import Derived.Test.YtdidplpbkfkdeaaGreatDoorDiv
namespace Go.Proofs.YtdidplpbkfkdeaaGreatDoor
open Go.RowKit
open Num
set_option linter.unusedVariables false

set_option maxRecDepth 100000 in
set_option maxHeartbeats 8000000 in
theorem minus_any (p : Int) (aa ab : Option Addr) (la lb ca cb : Nat) (a b : List Int) (w : World) (hp : 1 ≤ p) (hp2 : p ≤ 1073741824) (ha : Els p a) (hb : Els p b) (hsa : Ints w (.slice aa la ca) a) (hsb : Ints w (.slice ab lb cb) b) (hla : a.length = la) (hlb : b.length = lb) (hle : la ≤ lb) (hn : lb ≤ 100000) :
    Calls Tryz.prog 90 #[.int .i64 p, .slice aa la ca, .slice ab lb cb] w fun e w' => e = .returned (.slice (some ⟨w.heap.size, 0, none⟩) lb lb) ∧ Row w' w.heap.size (minL p a b) ∧ Below w.heap.size w w' := by
  obtain ⟨g, hg⟩ : ∃ g, w.heap.size = g := ⟨_, rfl⟩
  have HGG := Lib.hid hg
  have HSA := Lib.hid (fun W (hW : Below g w W) => hsa.below (Nat.le_of_eq hg) hW)
  have HSB := Lib.hid (fun W (hW : Below g w W) => hsb.below (Nat.le_of_eq hg) hW)
  have HLA := Lib.hid hla
  have HLB := Lib.hid hlb
  have HEA := Lib.hid ha
  have HEB := Lib.hid hb
  have hmk := run_make_row' (P := Tryz.prog) 22 3 (.int .i64 0) 8 Tryz.underlying22 infoInt rfl .i64 .i64 lb (by omega) (by omega)
  obtain ⟨w1, hw1⟩ : ∃ w1, w.alloc (.cells (madeCells #[.int .i64 0] lb) 3) = w1 := ⟨_, rfl⟩
  have HR1 : Hid (Row w1 g (List.replicate lb 0)) := by rw [← hw1, ← hg]; exact Row.made w lb
  have HB1 : Hid (Below g w w1) := by rw [← hw1, ← hg]; exact (Below.refl _ _).alloc (Nat.le_refl _) _
  have HD1 : Hid (∀ j, j < lb → (List.replicate lb (0 : Int)).getD j 0 = if j < 0 then (p - b.getD j 0) % p else 0) := fun j hj => by
    rw [if_neg (by omega)]; simp [List.getD, hj]
  rw [hg]
  clear hsa hsb hla hlb ha hb
  go_enter Tryz.func90, Tryz.ntmps90
  go_wp2_with fail
  clear hmk hw1 hg
  go_loopw [8, 9, 17] (fun _ _ i wr => ∃ (k : Nat) (l : List Int), k ≤ lb ∧ i = .int .i64 k ∧ Hid (Row wr g l) ∧ Hid (l.length = lb) ∧ Hid (∀ j, j < lb → l.getD j 0 = if j < k then (p - b.getD j 0) % p else 0) ∧ Hid (Below g w wr)) (fun _ _ i _ => lb - (intOf i).toNat)
  case atStart => exact ⟨0, _, Nat.zero_le _, rfl, HR1, (by show _ = _; simp), HD1, HB1⟩
  case round =>
    obtain ⟨k, l, hk, rfl, HR, HL, HD, HB⟩ := hrel
    by_cases hlt : k < lb
    · obtain ⟨bx, ox, rfl, cx0⟩ := (HSB.out _ HB.out).pos hlt
      have hxe : El p (b.getD k 0) := els_getD hp HEB.out k
      have hkl : k < l.length := by rw [HL.out]; exact hlt
      have hcl := HR.out.cell hkl
      have hfr := HR.out.frozen k
      obtain ⟨v, hv⟩ : ∃ v, l.getD k 0 = v := ⟨_, rfl⟩
      rw [hv] at hcl
      obtain ⟨x, hxv⟩ : ∃ x, b.getD k 0 = x := ⟨_, rfl⟩
      rw [hxv] at cx0 hxe
      have hx0 := hxe.1
      have hx1 := hxe.2
      obtain ⟨c, hc⟩ : ∃ c, (p - x) % p = c := ⟨_, rfl⟩
      have hxp : 1 ≤ p - x := by omega
      have hxq : p - x ≤ 1073741824 := by omega
      have HRN := Lib.hid (HR.out.set hkl c)
      have HLN : Hid ((l.set k c).length = lb) := by show _ = _; rw [List.length_set]; exact HL.out
      have HDN : Hid (∀ j, j < lb → (l.set k c).getD j 0 = if j < k + 1 then (p - b.getD j 0) % p else 0) := fun j hj => by
        rw [getD_set l k j c hkl]
        by_cases e : j = k
        · subst e; rw [if_pos rfl, if_pos (by omega), hxv, hc]
        · rw [if_neg e, HD.out j hj]
          by_cases e2 : j < k
          · rw [if_pos e2, if_pos (by omega)]
          · rw [if_neg e2, if_neg (by omega)]
      have HBN : Hid (Below g w (wr.setCell ⟨g, k, none⟩ (.int .i64 c))) := HB.out.setCell (p := ⟨g, k, none⟩) (Nat.le_refl _) _
      clear hxe hxv hx0 hx1 hkl hv
      go_wp2_with fail
      go_roundw
      case rel => exact ⟨k + 1, _, by omega, by go_num, HRN, HLN, HDN, HBN⟩
      case measure => simp [intOf]; omega
    · obtain rfl : k = lb := by omega
      have HD2 : Hid (∀ j, j < k → l.getD j 0 = if j < 0 then ((p - b.getD j 0) % p + a.getD j 0) % p else (p - b.getD j 0) % p) := fun j hj => by
        rw [HD.out j hj, if_pos hj, if_neg (by omega)]
      clear HD
      go_wp2_with fail
      go_loopw [10, 11, 33] (fun _ _ i wr => ∃ (m : Nat) (l : List Int), m ≤ la ∧ i = .int .i64 m ∧ Hid (Row wr g l) ∧ Hid (l.length = k) ∧ Hid (∀ j, j < k → l.getD j 0 = if j < m then ((p - b.getD j 0) % p + a.getD j 0) % p else (p - b.getD j 0) % p) ∧ Hid (Below g w wr)) (fun _ _ i _ => la - (intOf i).toNat)
      case atStart => exact ⟨0, l, Nat.zero_le _, rfl, HR, HL, HD2, HB⟩
      case round =>
        obtain ⟨wz, hwz⟩ : ∃ wz, wz = wr := ⟨_, rfl⟩
        subst hwz
        obtain ⟨m, l2, hm, rfl, HR2, HL2, HE2, HB2⟩ := hrel
        by_cases hlm : m < la
        · obtain ⟨bx, ox, rfl, cx0⟩ := (HSA.out _ HB2.out).pos hlm
          have hxe : El p (a.getD m 0) := els_getD hp HEA.out m
          have hmk : m < k := by omega
          have hkl : m < l2.length := by rw [HL2.out]; exact hmk
          have hcl := HR2.out.cell hkl
          have hfr := HR2.out.frozen m
          have hve := HE2.out m hmk
          rw [if_neg (by omega)] at hve
          obtain ⟨v, hv⟩ : ∃ v, l2.getD m 0 = v := ⟨_, rfl⟩
          rw [hv] at hcl hve
          have hvl : El p v := by rw [hve]; exact el_mod hp _
          obtain ⟨x, hxv⟩ : ∃ x, a.getD m 0 = x := ⟨_, rfl⟩
          rw [hxv] at cx0 hxe
          have hx0 := hxe.1
          have hx1 := hxe.2
          have hv0 := hvl.1
          have hv1 := hvl.2
          obtain ⟨c, hc⟩ : ∃ c, (v + x) % p = c := ⟨_, rfl⟩
          have hxp : 0 ≤ v + x := by omega
          have hxq : v + x ≤ 2147483648 := by omega
          have HRN := Lib.hid (HR2.out.set hkl c)
          have HLN : Hid ((l2.set m c).length = k) := by show _ = _; rw [List.length_set]; exact HL2.out
          have HDN : Hid (∀ j, j < k → (l2.set m c).getD j 0 = if j < m + 1 then ((p - b.getD j 0) % p + a.getD j 0) % p else (p - b.getD j 0) % p) := fun j hj => by
            rw [getD_set l2 m j c hkl]
            by_cases e : j = m
            · subst e; rw [if_pos rfl, if_pos (by omega), hxv, ← hve, hc]
            · rw [if_neg e, HE2.out j hj]
              by_cases e2 : j < m
              · rw [if_pos e2, if_pos (by omega)]
              · rw [if_neg e2, if_neg (by omega)]
          have HBN : Hid (Below g w (wz.setCell ⟨g, m, none⟩ (.int .i64 c))) := HB2.out.setCell (p := ⟨g, m, none⟩) (Nat.le_refl _) _
          clear hxe hxv hkl hv hve hvl
          go_wp2_with fail
          go_roundw
          case rel => exact ⟨m + 1, _, by omega, by go_num, HRN, HLN, HDN, HBN⟩
          case measure => simp [intOf]; omega
        · obtain rfl : m = la := by omega
          have HF : Hid (l2 = minL p a b) := ext_getD (by rw [minL_len, HL2.out, HLB.out]) fun j => by
            by_cases hj : j < k
            · rw [HE2.out j hj, minL_getD p a b (by rw [HLB.out]; exact hj)]
              by_cases e : j < m
              · rw [if_pos e]
              · rw [if_neg e, getD_ge (l := a) (by rw [HLA.out]; omega), Int.add_zero, Int.emod_emod_of_dvd _ (Int.dvd_refl p)]
            · rw [getD_ge (by rw [HL2.out]; omega), getD_ge (by rw [minL_len, HLB.out]; omega)]
          have HRF : Hid (Row wz g (minL p a b)) := by rw [← HF.out]; exact HR2.out
          go_wp2_with fail
          go_ret
          exact ⟨rfl, HRF.out, HB2.out⟩
end Go.Proofs.YtdidplpbkfkdeaaGreatDoor
