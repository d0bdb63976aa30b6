
/- The walk through WordsSpelled. -/
import Derived.Test.YtmegmgcfnihhiaaDoorOTwi
namespace Go.Proofs.YtmegmgcfnihhiaaDoor
open Go.RowKit Go.Shelf
set_option linter.unusedVariables false
set_option linter.unusedSimpArgs false

def pieA : Nat → ByteArray
  | 0 => ⟨#[97]⟩ | 1 => ⟨#[101]⟩ | 2 => ⟨#[90]⟩ | 3 => ⟨#[195, 164]⟩ | 4 => ⟨#[195, 137]⟩ | 5 => ⟨#[195, 167]⟩ | 6 => ⟨#[32]⟩ | _ => ⟨#[120]⟩
def pieB : Nat → ByteArray
  | 0 => ⟨#[65]⟩ | 1 => ⟨#[195, 169]⟩ | 2 => ⟨#[122]⟩ | 3 => ⟨#[97, 101]⟩ | 4 => ⟨#[101]⟩ | 5 => ⟨#[67]⟩ | 6 => ⟨#[32, 32]⟩ | _ => ⟨#[88]⟩
theorem pie_len (j : Nat) (hj : j < 8) : (pieA j).size ≤ 2 ∧ (pieB j).size ≤ 2 := by
  have : j = 0 ∨ j = 1 ∨ j = 2 ∨ j = 3 ∨ j = 4 ∨ j = 5 ∨ j = 6 ∨ j = 7 := by omega
  rcases this with rfl | rfl | rfl | rfl | rfl | rfl | rfl | rfl <;> decide
theorem pie_same {x y : List UInt8} {P Q : List Nat} (hx : Cl x P) (hy : Cl y Q) (e : P.flatMap spR = Q.flatMap spR) : ∃ P Q, Cl x P ∧ Cl y Q ∧ ∀ A B, Alike A B → Alike (A ++ P) (B ++ Q) :=
  ⟨P, Q, hx, hy, fun A B h => h.same e⟩
theorem pie_step (j : Nat) (hj : j < 8) : ∃ P Q, Cl (pieA j).data.toList P ∧ Cl (pieB j).data.toList Q ∧ ∀ A B, Alike A B → Alike (A ++ P) (B ++ Q) := by
  have : j = 0 ∨ j = 1 ∨ j = 2 ∨ j = 3 ∨ j = 4 ∨ j = 5 ∨ j = 6 ∨ j = 7 := by omega
  rcases this with rfl | rfl | rfl | rfl | rfl | rfl | rfl | rfl
  · exact pie_same (cl_ascii 97 (by decide)) (cl_ascii 65 (by decide)) (by decide)
  · exact pie_same (cl_ascii 101 (by decide)) (cl_two 195 169 (by decide) (by decide) (by decide)) (by decide)
  · exact pie_same (cl_ascii 90 (by decide)) (cl_ascii 122 (by decide)) (by decide)
  · exact pie_same (cl_two 195 164 (by decide) (by decide) (by decide)) (Cl.app (a := [97]) (b := [101]) (cl_ascii 97 (by decide)) (cl_ascii 101 (by decide))) (by decide)
  · exact pie_same (cl_two 195 137 (by decide) (by decide) (by decide)) (cl_ascii 101 (by decide)) (by decide)
  · exact pie_same (cl_two 195 167 (by decide) (by decide) (by decide)) (cl_ascii 67 (by decide)) (by decide)
  · exact ⟨[32], [32, 32], cl_ascii 32 (by decide), Cl.app (a := [32]) (b := [32]) (A := [32]) (B := [32]) (cl_ascii 32 (by decide)) (cl_ascii 32 (by decide)), fun A B h => h.space⟩
  · exact pie_same (cl_ascii 120 (by decide)) (cl_ascii 88 (by decide)) (by decide)

/-- Two texts that are spelled alike. -/
structure Two (x y : ByteArray) (k : Nat) : Prop where
  al : ∃ A B, Cl x.data.toList A ∧ Cl y.data.toList B ∧ Alike A B
  lx : x.size ≤ 2 * k
  ly : y.size ≤ 2 * k
theorem two_nil : Two ⟨#[]⟩ ⟨#[]⟩ 0 := ⟨⟨[], [], cl_nil, cl_nil, alike_nil⟩, by decide, by decide⟩
theorem Two.more {x y : ByteArray} {k j : Nat} (h : Two x y k) (hj : j < 8) : Two (x ++ pieA j) (y ++ pieB j) (k + 1) := by
  obtain ⟨A, B, h1, h2, h3⟩ := h.al
  obtain ⟨P, Q, k1, k2, k3⟩ := pie_step j hj
  obtain ⟨e1, e2⟩ := pie_len j hj
  exact ⟨⟨A ++ P, B ++ Q, by rw [app_data]; exact h1.app k1, by rw [app_data]; exact h2.app k2, k3 A B h3⟩, by rw [ByteArray.size_append]; have := h.lx; omega, by rw [ByteArray.size_append]; have := h.ly; omega⟩
theorem Two.fold {x y : ByteArray} {k : Nat} (h : Two x y k) : foldL x.data.toList = foldL y.data.toList := by
  obtain ⟨A, B, h1, h2, h3⟩ := h.al
  exact h3.fold h1 h2

set_option maxHeartbeats 4000000 in
theorem wordsSpelled_walk (s : Value) (l : List Int) (w : World) (T : Tbw w) (hs : Ints w s l) :
    Calls Tryd.prog 5 #[s] w fun e w' => e = .returned (.bool true) ∧ Below w.heap.size w w' := by
  have HL := Lib.hid (light_any s l w hs)
  have HRO := Lib.hid (roll_any s w (by obtain ⟨a, c, h, _⟩ := hs; exact ⟨a, _, c, h⟩))
  obtain ⟨bl, hbl⟩ : ∃ b, decide ((l.length : Int) ≤ 500) = b := ⟨_, rfl⟩
  rw [hbl] at HL
  have HT := Lib.hid T
  have HAW := Lib.hid (fun W (k : Below w.heap.size w W) => awake11_any W (HT.out.below k))
  have HFO := Lib.hid (fun W (k : Below w.heap.size w W) (x : ByteArray) (hx : x.size ≤ 1000000) => fold_any x W (HT.out.below k) hx)
  have HSS := Lib.hid hs
  cases bl with
  | false =>
    clear hs T hbl
    go_enter Tryd.func5, Tryd.ntmps5
    go_wp2_with fail
    refine HL.out.mono ?_
    rintro e w' ⟨rfl, rfl⟩
    go_wp2_with fail
    refine (HAW.out w (Below.refl _ _)).mono ?_
    rintro e w1 ⟨rfl, hb⟩
    have HB := Lib.hid hb
    clear hb
    go_wp2
    go_ret
    exact ⟨rfl, HB.out⟩
  | true =>
    obtain ⟨g, hg⟩ : ∃ g, w.heap.size = g := ⟨_, rfl⟩
    have hal : Below g w (w.alloc (.cells #[s, .int .i64 0] 49)) := by rw [← hg]; exact (Below.refl _ w).alloc (Nat.le_refl _) _
    have hd0 : DiceAt (w.alloc (.cells #[s, .int .i64 0] 49)) g s l := by
      rw [← hg]
      exact dice_new hs
    have HD0 := Lib.hid hd0
    have HB0 := Lib.hid hal
    have HGG := Lib.hid hg
    rw [hg] at HAW HFO ⊢
    clear hs T hbl hal hd0 hg
    go_enter Tryd.func5, Tryd.ntmps5
    go_wp2_with fail
    refine HL.out.mono ?_
    rintro e w' ⟨rfl, rfl⟩
    go_wp2_with fail
    refine HRO.out.mono ?_
    rintro e w2 ⟨rfl, rfl⟩
    rw [HGG.out]
    generalize w.alloc (.cells #[s, .int .i64 0] 49) = w2 at *
    clear HRO HL
    go_wp2_with fail
    refine (next_any g s l 10 w2 HD0.out (by omega) (by omega)).mono ?_
    rintro e w3 ⟨r, r0, r1, rfl, hd3, hb3⟩
    obtain ⟨n, rfl⟩ := Int.eq_ofNat_of_zero_le r0
    have HD3 := Lib.hid hd3
    have HB3 := Lib.hid (HB0.out.trans (hb3.below (Nat.le_refl _) (Nat.le_of_lt HD0.out.size)))
    have hn10 : n ≤ 10 := by omega
    have HTW0 := Lib.hid two_nil
    have HK0 : Hid (DiceAt w3 g s l ∧ Below g w w3) := ⟨HD3.out, HB3.out⟩
    clear hd3 hb3 r0 r1 HD3 HB3 HD0 HB0
    go_wp2_with fail
    go_loopw [4, 5, 6, 15] (fun x y _ i wr => ∃ (k : Nat) (xs ys : ByteArray), k ≤ n ∧ x = .string xs ∧ y = .string ys ∧ i = .int .i64 k ∧ Hid (Two xs ys k) ∧ Hid (DiceAt wr g s l ∧ Below g w wr)) (fun _ _ _ i _ => n - (intOf i).toNat)
    case atStart => exact ⟨0, _, _, Nat.zero_le _, rfl, rfl, rfl, HTW0, HK0⟩
    case round =>
      obtain ⟨k, xs, ys, hk, rfl, rfl, rfl, HTW, HK⟩ := hrel
      clear HTW0 HK0
      by_cases hlt : k < n
      · have hltI : (k : Int) < (n : Int) := by omega
        go_wp2_with fail
        refine (next_any g s l 8 wr HK.out.1 (by omega) (by omega)).mono ?_
        rintro e w4 ⟨r, r0, r1, rfl, hd4, hb4⟩
        obtain ⟨j, rfl⟩ := Int.eq_ofNat_of_zero_le r0
        have hj : j < 8 := by omega
        have hjI : (j : Int) < 8 := by omega
        have hbe4 := HK.out.2.trans (hb4.below (Nat.le_refl _) (Nat.le_of_lt HK.out.1.size))
        have HTN := Lib.hid (HTW.out.more hj)
        have hcA : (w4.alloc (.cells #[.string ⟨#[97]⟩, .string ⟨#[101]⟩, .string ⟨#[90]⟩, .string ⟨#[195, 164]⟩, .string ⟨#[195, 137]⟩, .string ⟨#[195, 167]⟩, .string ⟨#[32]⟩, .string ⟨#[120]⟩] 9)).cell? ⟨w4.heap.size, j, none⟩ = some (.string (pieA j)) := by
          rw [cell_new]
          have : j = 0 ∨ j = 1 ∨ j = 2 ∨ j = 3 ∨ j = 4 ∨ j = 5 ∨ j = 6 ∨ j = 7 := by omega
          rcases this with rfl | rfl | rfl | rfl | rfl | rfl | rfl | rfl <;> rfl
        have hal4 : Below w4.heap.size w4 (w4.alloc (.cells #[.string ⟨#[97]⟩, .string ⟨#[101]⟩, .string ⟨#[90]⟩, .string ⟨#[195, 164]⟩, .string ⟨#[195, 137]⟩, .string ⟨#[195, 167]⟩, .string ⟨#[32]⟩, .string ⟨#[120]⟩] 9)) := (Below.refl _ _).alloc (Nat.le_refl _) _
        have HD5 := Lib.hid (hd4.below hal4 hd4.size)
        have HB5 := Lib.hid (hbe4.trans (hal4.mono (Nat.le_of_lt hd4.size)))
        have z1 : xs.size ≤ 2 * k := HTW.out.lx
        have z2 : ys.size ≤ 2 * k := HTW.out.ly
        obtain ⟨z3, z4⟩ := pie_len j hj
        clear r0 r1 hd4 hb4 hbe4
        go_upto_region 9 with fail
        clear hcA hal4
        generalize w4.alloc (.cells #[.string ⟨#[97]⟩, .string ⟨#[101]⟩, .string ⟨#[90]⟩, .string ⟨#[195, 164]⟩, .string ⟨#[195, 137]⟩, .string ⟨#[195, 167]⟩, .string ⟨#[32]⟩, .string ⟨#[120]⟩] 9) = w5 at *
        have hcB : (w5.alloc (.cells #[.string ⟨#[65]⟩, .string ⟨#[195, 169]⟩, .string ⟨#[122]⟩, .string ⟨#[97, 101]⟩, .string ⟨#[101]⟩, .string ⟨#[67]⟩, .string ⟨#[32, 32]⟩, .string ⟨#[88]⟩] 9)).cell? ⟨w5.heap.size, j, none⟩ = some (.string (pieB j)) := by
          rw [cell_new]
          have : j = 0 ∨ j = 1 ∨ j = 2 ∨ j = 3 ∨ j = 4 ∨ j = 5 ∨ j = 6 ∨ j = 7 := by omega
          rcases this with rfl | rfl | rfl | rfl | rfl | rfl | rfl | rfl <;> rfl
        have hal5 : Below w5.heap.size w5 (w5.alloc (.cells #[.string ⟨#[65]⟩, .string ⟨#[195, 169]⟩, .string ⟨#[122]⟩, .string ⟨#[97, 101]⟩, .string ⟨#[101]⟩, .string ⟨#[67]⟩, .string ⟨#[32, 32]⟩, .string ⟨#[88]⟩] 9)) := (Below.refl _ _).alloc (Nat.le_refl _) _
        have HK6 : Hid (DiceAt (w5.alloc (.cells #[.string ⟨#[65]⟩, .string ⟨#[195, 169]⟩, .string ⟨#[122]⟩, .string ⟨#[97, 101]⟩, .string ⟨#[101]⟩, .string ⟨#[67]⟩, .string ⟨#[32, 32]⟩, .string ⟨#[88]⟩] 9)) g s l ∧ Below g w (w5.alloc (.cells #[.string ⟨#[65]⟩, .string ⟨#[195, 169]⟩, .string ⟨#[122]⟩, .string ⟨#[97, 101]⟩, .string ⟨#[101]⟩, .string ⟨#[67]⟩, .string ⟨#[32, 32]⟩, .string ⟨#[88]⟩] 9))) := ⟨HD5.out.below hal5 HD5.out.size, HB5.out.trans (hal5.mono (Nat.le_of_lt HD5.out.size))⟩
        clear hal5
        go_wp2_with fail
        go_roundw
        case rel => exact ⟨k + 1, xs ++ pieA j, ys ++ pieB j, by omega, rfl, rfl, by go_num, HTN, HK6⟩
        case measure => simp [intOf]; omega
      · obtain rfl : k = n := by omega
        have hlx := HTW.out.lx
        have hly := HTW.out.ly
        have HF1 := Lib.hid (HFO.out wr HK.out.2 xs (by omega))
        have HF2 := Lib.hid (fun W (q : Below g w W) => HFO.out W q ys (by omega))
        rw [HTW.out.fold] at HF1
        obtain ⟨X, hX⟩ : ∃ X : ByteArray, (⟨(foldL ys.data.toList).toArray⟩ : ByteArray) = X := ⟨_, rfl⟩
        rw [hX] at HF1 HF2
        clear hX hlx hly
        go_wp2_with fail
        refine HF1.out.mono ?_
        rintro e w4 ⟨rfl, hb4⟩
        have HB4 := Lib.hid (HK.out.2.trans (hb4.mono (Nat.le_of_lt HK.out.1.size)))
        clear hb4 HF1
        go_wp2_with fail
        refine (HF2.out w4 HB4.out).mono ?_
        rintro e w5 ⟨rfl, hb5⟩
        have HB5 := Lib.hid (HB4.out.trans (hb5.mono (by have := HB4.out.size; rw [HGG.out] at this; exact this)))
        clear hb5 HF2
        go_wp2_with fail
        refine (HAW.out w5 HB5.out).mono ?_
        rintro e w6 ⟨rfl, hb6⟩
        have HB6 := Lib.hid (HB5.out.trans (hb6.mono (by have := HB5.out.size; rw [HGG.out] at this; exact this)))
        clear hb6
        go_wp2
        go_ret
        exact ⟨rfl, HB6.out⟩
end Go.Proofs.YtmegmgcfnihhiaaDoor
