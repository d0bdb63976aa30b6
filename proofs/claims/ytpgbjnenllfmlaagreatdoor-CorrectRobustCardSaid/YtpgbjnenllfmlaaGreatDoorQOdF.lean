
/- Shares in which something is changed: kit's Odd, of shares whose numbers are ints. -/
import Derived.Test.YtpgbjnenllfmlaaGreatDoorHOdS
import Derived.Test.YtpgbjnenllfmlaaGreatDoorHAny
import Derived.Test.YtpgbjnenllfmlaaGreatDoorFrame
namespace Go.Proofs.YtpgbjnenllfmlaaGreatDoor
open Go.RowKit Go.Sort
open Num
set_option linter.unusedVariables false

/-- A share whose numbers are ints. -/
def Fin64 (x : Shr) : Prop := in64 x.1 ∧ ∀ y ∈ x.2, in64 y
/-- What Odd returns. -/
def OddF (Mx : Nat) (w w' : World) (b : Nat) (s : Value) (l : List Int) (n : Nat) (v : Value) : Prop := ∃ L' : List Shr, SharesO w' w.heap.size v L' ∧ L'.length ≤ n + 1 ∧ (∀ x ∈ L', x.2.length ≤ (Mx + 1) ∧ Fin64 x) ∧ DiceAt w' b s l ∧ But b w w'
theorem set_fin {L : List Shr} {i M : Nat} {x : Shr} (h : ∀ s ∈ L, s.2.length ≤ M ∧ Fin64 s) (hx : x.2.length ≤ M ∧ Fin64 x) : ∀ s ∈ L.set i x, s.2.length ≤ M ∧ Fin64 s := fun s hs => by
  rcases List.mem_or_eq_of_mem_set hs with h1 | h1
  · exact h s h1
  · rw [h1]; exact hx
theorem OddS.alloc {w : World} {base q n : Nat} {Z : Nat → Int × Value} {L : List Shr} (h : OddS w base q n Z L) (o : Obj) : OddS (w.alloc o) base q n Z L :=
  h.kept (World.grownBy_alloc w o none) (fun g e => by cases e)
theorem OddS.c0 {w : World} {base q n : Nat} {Z : Nat → Int × Value} {L : List Shr} (h : OddS w base q n Z L) {i : Nat} (hi : i < n) : w.cell? ⟨q, i * 2, none⟩ = some (.int .i64 (Z i).1) := (h.row i hi).1
theorem OddS.c1 {w : World} {base q n : Nat} {Z : Nat → Int × Value} {L : List Shr} (h : OddS w base q n Z L) {i : Nat} (hi : i < n) : w.cell? ⟨q, i * 2 + 1, none⟩ = some (Z i).2 := (h.row i hi).2.1
theorem OddS.f0 {w : World} {base q n : Nat} {Z : Nat → Int × Value} {L : List Shr} (h : OddS w base q n Z L) {i : Nat} (hi : i < n) : w.frozen? ⟨q, i * 2, none⟩ = false := (h.row i hi).2.2.1
theorem OddS.f1 {w : World} {base q n : Nat} {Z : Nat → Int × Value} {L : List Shr} (h : OddS w base q n Z L) {i : Nat} (hi : i < n) : w.frozen? ⟨q, i * 2 + 1, none⟩ = false := (h.row i hi).2.2.2
theorem OddS.z0 {w : World} {base q n : Nat} {Z : Nat → Int × Value} {L : List Shr} (h : OddS w base q n Z L) (hn : 0 < n) {x : Int} (hx : (Z 0).1 = x) : w.cell? ⟨q, 0, none⟩ = some (.int .i64 x) := by
  have := h.c0 hn
  rw [hx, Nat.zero_mul] at this
  exact this
theorem gath_zero {w : World} {base gv m cv : Nat} {l : List Int} (h : Gath w base (.slice (some ⟨gv, 0, none⟩) m cv) l) (hl : 0 < l.length) : w.cell? ⟨gv, 0, none⟩ = some (.int .i64 (l.getD 0 0)) ∧ w.frozen? ⟨gv, 0, none⟩ = false := by
  obtain ⟨g', c', e, _, _⟩ := h.head hl
  simp only [Value.slice.injEq] at e
  obtain ⟨_, rfl, _⟩ := e
  unfold Gath at h
  exact ⟨World.ownsRow.cells h (g := gv) rfl 0 (.int .i64 (l.getD 0 0)) (by cases l with | nil => simp at hl | cons a t => rfl), World.ownsRow.frozenAt h _⟩
theorem OddS.zv {w : World} {base q n gv m cv : Nat} {Z : Nat → Int × Value} {L : List Shr} (h : OddS w base q n Z L) {i : Nat} (hi : i < n) (hz : (Z i).2 = .slice (some ⟨gv, 0, none⟩) m cv) : w.cell? ⟨q, i * 2 + 1, none⟩ = some (.slice (some ⟨gv, 0, none⟩) m cv) := by rw [← hz]; exact h.c1 hi
theorem OddS.v0 {w : World} {base q n gv m cv : Nat} {Z : Nat → Int × Value} {L : List Shr} (h : OddS w base q n Z L) {i : Nat} (hi : i < n) (hz : (Z i).2 = .slice (some ⟨gv, 0, none⟩) m cv) {x : Int} (hx : 0 < (L.getD i (0, [])).2.length ∧ (L.getD i (0, [])).2.getD 0 0 = x) : w.cell? ⟨gv, 0, none⟩ = some (.int .i64 x) := by
  have h1 := h.val i hi
  rw [hz] at h1
  rw [← hx.2]
  exact (gath_zero h1 hx.1).1
theorem OddS.vf {w : World} {base q n gv m cv : Nat} {Z : Nat → Int × Value} {L : List Shr} (h : OddS w base q n Z L) {i : Nat} (hi : i < n) (hz : (Z i).2 = .slice (some ⟨gv, 0, none⟩) m cv) {x : Int} (hx : 0 < (L.getD i (0, [])).2.length ∧ (L.getD i (0, [])).2.getD 0 0 = x) : w.frozen? ⟨gv, 0, none⟩ = false := by
  have h1 := h.val i hi
  rw [hz] at h1
  exact (gath_zero h1 hx.1).2
/-- A region whose orders all end alike, but for a value and two numbers. -/
theorem region_oneK {P : Program} {id : Nat} {ops : Array Oper} {d : Bool} {Q : Exit → Act → World → Prop} {a : Act} {w : World} (R : World → Prop) (A : Value → Int → Nat → Act) (hr : (Code.region id ops d).wp P (fun e a' W => e = .normal ∧ ∃ x j m, a' = A x j m ∧ R W) a w)
    (h : ∀ x j m W, R W → Q .normal (A x j m) W) : (Code.region id ops d).wp P Q a w :=
  Code.wp_mono (fun _ _ _ ⟨h1, x, j, m, h2, h3⟩ => by subst h1; subst h2; exact h x j m _ h3) hr
def odd5 (h : Int) : Nat → Int
  | 0 => 0 | 1 => 1 | 2 => -1 | 3 => 17 | _ => h
def odd4b (y : Int) : Nat → Int
  | 0 => -1 | 1 => 1073741824 | 2 => y | _ => 0
theorem odd5_fin {h : Int} (hh : in64 h) (j : Nat) : in64 (odd5 h j) := by
  unfold odd5
  split
  · constructor <;> omega
  · constructor <;> omega
  · constructor <;> omega
  · constructor <;> omega
  · exact hh
theorem odd4b_fin {h : Int} (hh : in64 h) (j : Nat) : in64 (odd4b h j) := by
  unfold odd4b
  split
  · constructor <;> omega
  · constructor <;> omega
  · exact hh
  · constructor <;> omega
theorem in64_small {r : Int} (h0 : 0 ≤ r) (h1 : r < 1000) : in64 r := by constructor <;> omega
theorem app_fin {a : List Int} {r : Int} (h : ∀ y ∈ a, in64 y) (hr : in64 r) : ∀ y ∈ a ++ [r], in64 y := fun y hy => by
  rcases List.mem_append.1 hy with h1 | h1
  · exact h y h1
  · rw [List.mem_singleton.1 h1]; exact hr
theorem setz_fin {a : List Int} {r : Int} (h : ∀ y ∈ a, in64 y) (hr : in64 r) : ∀ y ∈ a.set 0 r, in64 y := fun y hy => by
  rcases List.mem_or_eq_of_mem_set hy with h1 | h1
  · exact h y h1
  · rw [h1]; exact hr
theorem getD_mem {L : List Shr} {i : Nat} (h : i < L.length) : L.getD i (0, []) ∈ L := by
  rw [List.getD_eq_getElem?_getD, List.getElem?_eq_getElem h]; exact List.getElem_mem _
set_option maxRecDepth 100000 in
set_option maxHeartbeats 8000000 in
theorem odd_anyF (Mx : Nat) (hMx : Mx ≤ 100000) (b : Nat) (s : Value) (l : List Int) (sv : Value) (L : List Shr) (w : World) (hd : DiceAt w b s l) (hs : Shares w sv L) (hb : ∀ x ∈ L, x.2.length ≤ Mx) (hF : ∀ x ∈ L, Fin64 x) (hL : L.length < 900) :
    Calls Tryz.prog 15 #[.pointer (some ⟨b, 0, none⟩), sv] w fun e w' => ∃ v, e = .returned v ∧ OddF Mx w w' b s l L.length v := by
  have hsz := hd.size
  obtain ⟨g, hg⟩ : ∃ g, w.heap.size = g := ⟨_, rfl⟩
  unfold OddF
  have HC := Lib.hid (copyT_any sv L w hs (fun x hx => Nat.le_trans (hb x hx) hMx) (by omega))
  have HBN := Lib.hid hb
  have HFN := Lib.hid hF
  have HLF : Hid (∀ x ∈ L, x.2.length ≤ (Mx + 1) ∧ Fin64 x) := fun x hx => ⟨by have := hb x hx; omega, hF x hx⟩
  have HD := Lib.hid hd
  obtain ⟨sa, sc, rfl, _⟩ := id hs
  obtain ⟨n, hn⟩ : ∃ n, L.length = n := ⟨_, rfl⟩
  rw [hn] at hL HC ⊢
  rw [hg] at hsz HC ⊢
  have HNN := Lib.hid hn
  have HGG := Lib.hid hg
  clear hs hb hd hn hg hF
  go_enter Tryz.func15, Tryz.ntmps15
  go_wp2_with fail
  refine HC.out.mono ?_
  rintro e w1 ⟨v, rfl, hT1, hB1⟩
  have HB1 := Lib.hid (But.of_below (b := b) hB1 (Nat.le_of_eq HGG.out))
  have HD1 := Lib.hid (HD.out.below hB1 hsz)
  have hshape : ∃ a c, v = .slice a n c ∧ n ≤ c ∧ c ≤ 9223372036854775807 := by
    have h := (hT1.toS (fun s hs => by have := HBN.out s hs; omega)).shape
    rw [HNN.out] at h
    exact h
  obtain ⟨va, vc, rfl, hvc, hvc2⟩ := hshape
  clear hB1 HC HD
  by_cases h0 : n = 0
  · have HF : Hid (SharesO w1 g (.slice va n vc) L) := by
      have hl : L = [] := List.eq_nil_of_length_eq_zero (by rw [HNN.out]; exact h0)
      subst hl
      subst h0
      exact hT1.roomO ⟨va, vc, rfl, by simp, by simp, hvc2, fun h => absurd rfl h⟩
    subst h0
    go_wp2
    go_ret
    exact ⟨_, rfl, L, HF.out, by rw [HNN.out]; omega, HLF.out, HD1.out, HB1.out⟩
  obtain ⟨q, Z, rfl, hO1⟩ := hT1.oddC (by omega)
  have n0 : ((n : Int) == 0) = false := by simp only [beq_eq_false_iff_ne]; omega
  have HO1 := Lib.hid hO1
  have HT1 := Lib.hid hT1
  have hqg : g ≤ q := hO1.lo
  clear hT1 hO1
  go_wp2_with fail
  refine (next_any b s l _ w1 HD1.out (by omega) (by omega)).mono ?_
  rintro e w2 ⟨ri, r0, r1, rfl, hd2, hb2⟩
  obtain ⟨i, rfl⟩ := Int.eq_ofNat_of_zero_le r0
  have hi : i < n := by omega
  have HD2 := Lib.hid hd2
  have HB2 := Lib.hid (HB1.out.trans hb2)
  have HO2 := Lib.hid (HO1.out.but hb2 hsz)
  have HT2 := Lib.hid (HT1.out.but hb2 hsz)
  clear hd2 hb2 HD1 HB1 HO1 HT1 n0 r0 r1
  go_wp2_with fail
  refine (next_any b s l 8 w2 HD2.out (by omega) (by omega)).mono ?_
  rintro e w3 ⟨r, r0, r1, rfl, hd3, hb3⟩
  have HD3 := Lib.hid hd3
  have HB3 := Lib.hid (HB2.out.trans hb3)
  have HO3 := Lib.hid (HO2.out.but hb3 hsz)
  have HT3 := Lib.hid (HT2.out.but hb3 hsz)
  have HFI : Hid (Fin64 (L.getD i (0, []))) := HFN.out _ (getD_mem (by rw [HNN.out]; exact hi))
  have HLB : Hid (∀ s ∈ L, s.2.length ≤ 140737488355328) := fun s hs => by have := HBN.out s hs; omega
  have HAB : Hid (∀ W1 W2, But b w W1 → Below g W1 W2 → But b w W2) := fun W1 W2 h1 h2 => h1.above h2 (Nat.le_of_eq HGG.out)
  obtain ⟨k0, k1, f0, f1⟩ := HO3.out.row i hi
  obtain ⟨hi0, hh0⟩ : ∃ h, (Z i).1 = h := ⟨_, rfl⟩
  rw [hh0] at k0
  obtain ⟨av, cv, hzv⟩ := (HO3.out.val i hi).shape
  have HZV := Lib.hid hzv
  rw [hzv] at k1
  obtain ⟨m, hm⟩ : ∃ m, (L.getD i (0, [])).2.length = m := ⟨_, rfl⟩
  rw [hm] at k1 HZV
  have HMM := Lib.hid hm
  have hm1 : m ≤ Mx := by rw [← hm]; exact HO3.out.bound HBN.out hi
  clear hd3 hb3 HD2 HB2 HO2 HT2 hh0 hzv hm
  by_cases h1 : r = 1
  · subst h1
    have hi0n : 0 < n := by omega
    obtain ⟨j0, _, _, _⟩ := HO3.out.row 0 hi0n
    rw [Nat.zero_mul] at j0
    obtain ⟨h00, hh00⟩ : ∃ h, (Z 0).1 = h := ⟨_, rfl⟩
    rw [hh00] at j0
    have HH0 := Lib.hid hh00
    have HHF : Hid (in64 h00) := by show in64 _; rw [← hh00, HO3.out.hold 0 hi0n]; exact (HFN.out _ (getD_mem (by rw [HNN.out]; exact hi0n))).1
    have HSD : Hid (DiceAt w3.drew b s l) := HD3.out
    have HAL : Hid (DiceAt (w3.alloc (.cells #[.int .i64 0, .int .i64 1, .int .i64 (-1), .int .i64 17, .int .i64 h00] 3)).drew b s l) := HD3.out.below (((Below.refl w3.heap.size w3).alloc (Nat.le_refl _) (.cells #[.int .i64 0, .int .i64 1, .int .i64 (-1), .int .i64 17, .int .i64 h00] 3)).drew) HD3.out.size
    have HBD : Hid (But b w3 w3.drew) := But.of_below ((Below.refl _ _).drew) (Nat.le_refl _)
    have HBA : Hid (But b w3 (w3.alloc (.cells #[.int .i64 0, .int .i64 1, .int .i64 (-1), .int .i64 17, .int .i64 h00] 3)).drew) := But.of_below (((Below.refl w3.heap.size w3).alloc (Nat.le_refl _) (.cells #[.int .i64 0, .int .i64 1, .int .i64 (-1), .int .i64 17, .int .i64 h00] 3)).drew) (Nat.le_refl _)
    have HCN : Hid (∀ (W : World) (j : Nat), j < 5 → (W.alloc (.cells #[.int .i64 0, .int .i64 1, .int .i64 (-1), .int .i64 17, .int .i64 h00] 3)).cell? ⟨W.heap.size, j, none⟩ = some (.int .i64 ((odd5 h00) j))) := fun W j hj => by
      rw [cell_new]
      have : j = 0 ∨ j = 1 ∨ j = 2 ∨ j = 3 ∨ j = 4 := by omega
      rcases this with rfl | rfl | rfl | rfl | rfl <;> rfl
    have HZ3 := Lib.hid HD3.out.size
    have HCNd : Hid (∀ j, j < 5 → (w3.alloc (.cells #[.int .i64 0, .int .i64 1, .int .i64 (-1), .int .i64 17, .int .i64 h00] 3)).drew.cell? ⟨w3.heap.size, j, none⟩ = some (.int .i64 ((odd5 h00) j))) := fun j hj => HCN.out w3 j hj
    have HFA : Hid (∀ W, But b w3 W → OddC W g q n vc Z L ∧ But b w W) := fun W hb => ⟨HO3.out.but hb hsz, HB3.out.trans hb⟩
    have HEND : Hid (∀ (W : World), OddC W g q n vc Z L → DiceAt W b s l → But b w W → ∀ x : Int, (SharesO (W.setCell ⟨q, i * 2, none⟩ (.int .i64 x)) g (.slice (some ⟨q, 0, none⟩) n vc) (L.set i (x, (L.getD i (0, [])).2)) ∧ DiceAt (W.setCell ⟨q, i * 2, none⟩ (.int .i64 x)) b s l ∧ But b w (W.setCell ⟨q, i * 2, none⟩ (.int .i64 x)))) := fun W h1 h2 h3 x => by
      have hb : Below g W (W.setCell ⟨q, i * 2, none⟩ (.int .i64 x)) := set1_below _ _ _ hqg
      exact ⟨h1.oneO (by omega) hvc hvc2 HLB.out hi x, h2.below hb hsz, HAB.out _ _ h3 hb⟩
    clear hh00 k1
    go_wp2_with fail
    apply region_oneJ (fun x W => Hid (SharesO W g (.slice (some ⟨q, 0, none⟩) n vc) (L.set i (x, (L.getD i (0, [])).2))) ∧ Hid (DiceAt W b s l) ∧ Hid (But b w W) ∧ Hid (in64 x))
    case hr =>
      refine wp_region_noPanic ?_
      go_region_law
        (first
          | (go_simp; go_at_call 13; with_reducible refine (next_any b s l 5 w3.drew HSD.out (by omega) (by omega)).mono ?_; rintro e w6 ⟨r2, s0, s1, rfl, hd6, hb6⟩; obtain ⟨j, rfl⟩ := Int.eq_ofNat_of_zero_le s0; have hj : j < 5 := (by omega); have hji : (j : Int) < 5 := (by omega); have HB6 := Lib.hid (HBD.out.trans hb6); have hA := HFA.out w6 HB6.out; have HSK := hA.1.z0 hi0n HH0.out; have HA6 := Lib.hid hA; have HD6 := Lib.hid hd6; have a0 := (hA.1.alloc (.cells #[.int .i64 0, .int .i64 1, .int .i64 (-1), .int .i64 17, .int .i64 h00] 3)).c0 hi; have a1 := (hA.1.alloc (.cells #[.int .i64 0, .int .i64 1, .int .i64 (-1), .int .i64 17, .int .i64 h00] 3)).f0 hi; have a2 := HCN.out w6 j hj; clear hd6 hb6 s1 hA)
          | (go_simp; go_at_call 13; with_reducible refine (next_any b s l 5 (w3.alloc (.cells #[.int .i64 0, .int .i64 1, .int .i64 (-1), .int .i64 17, .int .i64 h00] 3)).drew HAL.out (by omega) (by omega)).mono ?_; rintro e w6 ⟨r2, s0, s1, rfl, hd6, hb6⟩; obtain ⟨j, rfl⟩ := Int.eq_ofNat_of_zero_le s0; have hj : j < 5 := (by omega); have hji : (j : Int) < 5 := (by omega); have HB6 := Lib.hid (HBA.out.trans hb6); have hA := HFA.out w6 HB6.out; have HA6 := Lib.hid hA; have HD6 := Lib.hid hd6; have a0 := hA.1.c0 hi; have a1 := hA.1.f0 hi; have a2 : w6.cell? ⟨w3.heap.size, j, none⟩ = some (.int .i64 ((odd5 h00) j)) := (by rw [hb6.cell (p := ⟨w3.heap.size, j, none⟩) (by simp [World.drew]) (by show w3.heap.size ≠ b; have := HZ3.out; omega)]; exact HCNd.out j hj); clear hd6 hb6 s1 hA))
      all_goals
        refine NoPanic.normal ?_
        obtain ⟨q1, q3⟩ := HA6.out
        have q4 := HD6.out
        first
          | (have hq := HEND.out w6 q1 q4 q3 ((odd5 h00) j)
             obtain ⟨z1, z2, z3⟩ := hq
             obtain ⟨x, hx⟩ : ∃ x, (odd5 h00) j = x := ⟨_, rfl⟩
             have hxf : Hid (in64 x) := by show in64 x; rw [← hx]; exact odd5_fin HHF.out j
             rw [hx] at z1 z2 z3 ⊢
             obtain ⟨ad, had⟩ : ∃ ad, w3.heap.size = ad := ⟨_, rfl⟩
             rw [had]
             exact ⟨rfl, x, j, ad, rfl, z1, z2, z3, hxf⟩)
          | (have hq := HEND.out (w6.alloc (.cells #[.int .i64 0, .int .i64 1, .int .i64 (-1), .int .i64 17, .int .i64 h00] 3)) (q1.alloc _) (q4.below ((Below.refl w6.heap.size w6).alloc (Nat.le_refl _) (.cells #[.int .i64 0, .int .i64 1, .int .i64 (-1), .int .i64 17, .int .i64 h00] 3)) q4.size) (q3.trans (But.alloc _ _ _)) ((odd5 h00) j)
             obtain ⟨z1, z2, z3⟩ := hq
             obtain ⟨x, hx⟩ : ∃ x, (odd5 h00) j = x := ⟨_, rfl⟩
             have hxf : Hid (in64 x) := by show in64 x; rw [← hx]; exact odd5_fin HHF.out j
             rw [hx] at z1 z2 z3 ⊢
             obtain ⟨ad, had⟩ : ∃ ad, w6.heap.size = ad := ⟨_, rfl⟩
             rw [had]
             exact ⟨rfl, x, j, ad, rfl, z1, z2, z3, hxf⟩)
    rintro x jx mx W ⟨HF, HDF, HBF, HXF⟩
    have HLN : Hid (∀ s ∈ L.set i (x, (L.getD i (0, [])).2), s.2.length ≤ (Mx + 1) ∧ Fin64 s) := set_fin HLF.out ⟨Nat.le_trans (HO3.out.bound HBN.out hi) (by omega), HXF.out, HFI.out.2⟩
    go_wp2
    go_ret
    exact ⟨_, rfl, _, HF.out, by rw [List.length_set, HNN.out]; omega, HLN.out, HDF.out, HBF.out⟩
  have x1 : (r == 1) = false := by simp only [beq_eq_false_iff_ne]; exact h1
  by_cases h2 : r = 2
  · subst h2
    have HXX : Hid (∀ (W : World) (r : Int), in64 r → OddC W g q n vc Z L → DiceAt W b s l → But b w W → ∃ v' W', (Builtin.append_ #[22, 22] 22 #[.slice av m cv, .slice (some ⟨W.heap.size, 0, none⟩) 1 1]).run Tryz.prog (W.alloc (.cells #[.int .i64 r] 3)) = .ok v' W' ∧
        ((∃ a c, v' = .slice a (m + 1) c) ∧ W'.cell? ⟨q, i * 2 + 1, none⟩ = some (.slice av m cv) ∧ W'.frozen? ⟨q, i * 2 + 1, none⟩ = false ∧ (∃ L' : List Shr, SharesO (W'.setCell ⟨q, i * 2 + 1, none⟩ v') g (.slice (some ⟨q, 0, none⟩) n vc) L' ∧ L'.length ≤ n + 1 ∧ (∀ x ∈ L', x.2.length ≤ (Mx + 1) ∧ Fin64 x) ∧ DiceAt (W'.setCell ⟨q, i * 2 + 1, none⟩ v') b s l ∧ But b w (W'.setCell ⟨q, i * 2 + 1, none⟩ v')))) := fun W r hrf hO hd hbw => by
      have hOa := hO.alloc (.cells #[.int .i64 r] 3)
      have hv := hOa.val i hi
      have hgW : g ≤ W.heap.size := by have := hO.lo; have := hO.lt; omega
      obtain ⟨v', W', z1, z2, z3, z4⟩ := run_append_gathB hv W.heap.size r (cell_alloc_new _ _ _ _ rfl) (by rw [HMM.out]; omega) (by simp; omega) 22
      rw [HZV.out] at z1
      have hlen : ((L.getD i (0, [])).2 ++ [r]).length = m + 1 := by rw [List.length_append, HMM.out]; rfl
      have hsh := z2.shape
      rw [hlen] at hsh
      have hbl : Below g W W' := ((Below.refl _ _).alloc hgW _).grown z3 (by simp; omega) (fun q' hq' => (World.ownsRow.lt hv q' hq').1)
      have hrow : RowS W' q n Z := hOa.row.of_block (z3.block q hOa.lt (fun e => hOa.off i hi q e.symm rfl))
      obtain ⟨_, y1, _, y3⟩ := hrow i hi
      rw [HZV.out] at y1
      have hS := hOa.twoO (by omega) hvc hvc2 HLB.out hi z3 (z2.reads (by rw [hlen]; omega)) (fun g' hg' => by
        rcases z4 with h | h
        · rw [h] at hg'
          exact ⟨(World.ownsRow.lt hv g' hg').1, hOa.off i hi g' hg'⟩
        · rw [h] at hg'
          simp at hg'
          have := hO.lt
          exact ⟨by omega, by omega⟩)
      have hbs := hbl.trans (set1_below (B := g) W' (g := q) (i * 2 + 1) v' hqg)
      exact ⟨v', W', z1, hsh, y1, y3, _, hS, by rw [List.length_set, HNN.out]; omega, set_fin HLF.out ⟨by show ((L.getD i (0, [])).2 ++ [r]).length ≤ _; rw [hlen]; omega, HFI.out.1, app_fin HFI.out.2 hrf⟩, hd.below hbs hsz, HAB.out _ _ hbw hbs⟩
    obtain ⟨RX, HX1, HX2⟩ : ∃ RX : Value → World → Prop, Hid (∀ (W : World) (r : Int), in64 r → OddC W g q n vc Z L → DiceAt W b s l → But b w W → ∃ v' W', (Builtin.append_ #[22, 22] 22 #[.slice av m cv, .slice (some ⟨W.heap.size, 0, none⟩) 1 1]).run Tryz.prog (W.alloc (.cells #[.int .i64 r] 3)) = .ok v' W' ∧ RX v' W') ∧
        Hid (∀ v' W', RX v' W' → ((∃ a c, v' = .slice a (m + 1) c) ∧ W'.cell? ⟨q, i * 2 + 1, none⟩ = some (.slice av m cv) ∧ W'.frozen? ⟨q, i * 2 + 1, none⟩ = false ∧ (∃ L' : List Shr, SharesO (W'.setCell ⟨q, i * 2 + 1, none⟩ v') g (.slice (some ⟨q, 0, none⟩) n vc) L' ∧ L'.length ≤ n + 1 ∧ (∀ x ∈ L', x.2.length ≤ (Mx + 1) ∧ Fin64 x) ∧ DiceAt (W'.setCell ⟨q, i * 2 + 1, none⟩ v') b s l ∧ But b w (W'.setCell ⟨q, i * 2 + 1, none⟩ v')))) :=
      ⟨fun v' W' => ((∃ a c, v' = .slice a (m + 1) c) ∧ W'.cell? ⟨q, i * 2 + 1, none⟩ = some (.slice av m cv) ∧ W'.frozen? ⟨q, i * 2 + 1, none⟩ = false ∧ (∃ L' : List Shr, SharesO (W'.setCell ⟨q, i * 2 + 1, none⟩ v') g (.slice (some ⟨q, 0, none⟩) n vc) L' ∧ L'.length ≤ n + 1 ∧ (∀ x ∈ L', x.2.length ≤ (Mx + 1) ∧ Fin64 x) ∧ DiceAt (W'.setCell ⟨q, i * 2 + 1, none⟩ v') b s l ∧ But b w (W'.setCell ⟨q, i * 2 + 1, none⟩ v'))), fun W r z a b c => HXX.out W r z a b c, fun _ _ h => h⟩
    clear HXX
    have HSD : Hid (DiceAt w3.drew b s l) := HD3.out
    have HBD : Hid (But b w3 w3.drew) := But.of_below ((Below.refl _ _).drew) (Nat.le_refl _)
    have HFA : Hid (∀ W, But b w3 W → OddC W g q n vc Z L ∧ But b w W) := fun W hb => ⟨HO3.out.but hb hsz, HB3.out.trans hb⟩
    have HZV2 : Hid (∀ W, OddC W g q n vc Z L → W.cell? ⟨q, i * 2 + 1, none⟩ = some (.slice av m cv)) := fun W h => by have h2 := h.c1 hi; rw [HZV.out] at h2; exact h2
    clear k0
    go_wp2_with fail
    apply region_oneK (fun W => Hid (∃ L' : List Shr, SharesO W g (.slice (some ⟨q, 0, none⟩) n vc) L' ∧ L'.length ≤ n + 1 ∧ (∀ x ∈ L', x.2.length ≤ (Mx + 1) ∧ Fin64 x) ∧ DiceAt W b s l ∧ But b w W))
    case hr =>
      refine wp_region_noPanic ?_
      go_region_law
        (first
          | (go_simp; go_at_call 13; with_reducible refine (next_any b s l 3 w3.drew HSD.out (by omega) (by omega)).mono ?_; rintro e w6 ⟨r2, s0, s1, rfl, hd6, hb6⟩; have HB6 := Lib.hid (HBD.out.trans hb6); have hA := HFA.out w6 HB6.out; have b1 := HZV2.out w6 hA.1; have b2 := HZV2.out _ (hA.1.alloc (.cells #[.int .i64 r2] 3)); have HA6 := Lib.hid (HX1.out w6 r2 (in64_small s0 (by omega)) hA.1 hd6 hA.2); clear hd6 hb6 s0 s1 hA)
          | (refine step_appendV rfl _ _ _ _ rfl _ _ rfl rfl RX HA6.out ?_; rintro v' W' hr; obtain ⟨⟨a', c', rfl⟩, kc, kf, hz⟩ := HX2.out _ _ hr; have HZF := Lib.hid hz; clear hz hr))
      all_goals
        refine NoPanic.normal ?_
        obtain ⟨vq, hvq⟩ : ∃ vq, Value.slice a' (m + 1) c' = vq := ⟨_, rfl⟩
        obtain ⟨ad, had⟩ : ∃ ad, w6.heap.size = ad := ⟨_, rfl⟩
        have hz := HZF.out
        rw [hvq] at hz ⊢
        rw [had]
        exact ⟨rfl, vq, r2, ad, rfl, hz⟩
    rintro vq r2 ad W HF
    go_wp2
    go_ret
    obtain ⟨L', z1, z2, z3, z4, z5⟩ := HF.out
    exact ⟨_, rfl, _, z1, z2, z3, z4, z5⟩
  have x2 : (r == 2) = false := by simp only [beq_eq_false_iff_ne]; exact h2
  by_cases h3 : r = 3
  · subst h3
    by_cases hm0 : m = 0
    · subst hm0
      have HF := Lib.hid (HO3.out.plainO (by omega) hvc hvc2 HLB.out)
      go_wp2
      go_ret
      exact ⟨_, rfl, L, HF.out, by rw [HNN.out]; omega, HLF.out, HD3.out, HB3.out⟩
    · obtain ⟨gv, cv', hzz, _, _⟩ := (HO3.out.val i hi).head (by rw [HMM.out]; omega)
      have hcv : m ≤ cv := by
        obtain ⟨a, c, e1, e2, _⟩ := (HO3.out.val i hi).slc (by rw [HMM.out]; omega)
        rw [HZV.out] at e1
        simp only [Value.slice.injEq] at e1
        rw [HMM.out] at e2; omega
      rw [HZV.out] at hzz
      simp only [Value.slice.injEq] at hzz
      obtain ⟨rfl, hmm, rfl⟩ := hzz
      clear hmm
      have hI := (HO3.out.val i hi).reads (by rw [HMM.out]; omega)
      rw [HZV.out] at hI
      have hgv : g ≤ gv ∧ gv ≠ q := ⟨(World.ownsRow.lt (HO3.out.val i hi) gv (by rw [HZV.out]; rfl)).1, HO3.out.off i hi gv (by rw [HZV.out]; rfl)⟩
      have hrefl : w3.grownBy w3 (Z i).2.ownBlock := ⟨rfl, rfl, rfl, Nat.le_refl _, fun _ _ _ => rfl⟩
      have hll : ((L.getD i (0, [])).2.drop 1).length = m - 1 := by rw [List.length_drop, HMM.out]
      have HLN : Hid (∀ (x : List Int), x.length ≤ (Mx + 1) → (∀ y ∈ x, y ∈ (L.getD i (0, [])).2) → (∀ s ∈ L.set i ((L.getD i (0, [])).1, x), s.2.length ≤ (Mx + 1) ∧ Fin64 s)) := fun x hx hy => set_fin HLF.out ⟨hx, HFI.out.1, fun y h => HFI.out.2 y (hy y h)⟩
      have h0m : (0 : Int) < (m : Int) := by omega
      by_cases hc1 : cv = 1
      · obtain rfl : m = 1 := by omega
        subst hc1
        have hF := HO3.out.twoO (by omega) hvc hvc2 HLB.out hi hrefl (v := .slice (some ⟨gv, 0, none⟩) 0 0) (l := []) (ints_zero _ _ _) (fun g' hg' => by simp [Value.ownBlock] at hg'; subst hg'; exact hgv)
        have HF := Lib.hid hF
        have hbs := set1_below (B := g) w3 (g := q) (i * 2 + 1) (.slice (some ⟨gv, 0, none⟩) 0 0) hqg
        have HDF := Lib.hid (HD3.out.below hbs hsz)
        have HBF := Lib.hid (HAB.out _ _ HB3.out hbs)
        clear hI hgv hrefl hll hF hbs
        go_wp2
        go_ret
        exact ⟨_, rfl, _, HF.out, by rw [List.length_set, HNN.out]; omega, HLN.out _ (by simp) (by simp), HDF.out, HBF.out⟩
      · have hI2 := ints_mid hI HMM.out 1 (m - 1) (cv - 1) (by omega)
        rw [Nat.zero_add] at hI2
        have hF := HO3.out.twoO (by omega) hvc hvc2 HLB.out hi hrefl (v := .slice (some ⟨gv, 1, none⟩) (m - 1) (cv - 1)) hI2 (fun g' hg' => by simp [Value.ownBlock] at hg'; subst hg'; exact hgv)
        have HF := Lib.hid hF
        have hbs := set1_below (B := g) w3 (g := q) (i * 2 + 1) (.slice (some ⟨gv, 1, none⟩) (m - 1) (cv - 1)) hqg
        have HDF := Lib.hid (HD3.out.below hbs hsz)
        have HBF := Lib.hid (HAB.out _ _ HB3.out hbs)
        have hcm : (1 : Int) ≤ (m : Int) := by omega
        have HTL : Hid ((((L.getD i (0, [])).2.drop 1).take (m - 1)).length ≤ (Mx + 1)) := by show _ ≤ _; rw [List.length_take]; omega
        clear hI hgv hrefl hll hF hbs hI2
        go_wp2
        go_ret
        exact ⟨_, rfl, _, HF.out, by rw [List.length_set, HNN.out]; omega, HLN.out _ HTL.out (fun y hy => List.mem_of_mem_drop (List.mem_of_mem_take hy)), HDF.out, HBF.out⟩
  have x3 : (r == 3) = false := by simp only [beq_eq_false_iff_ne]; exact h3
  by_cases h4 : r = 4
  · subst h4
    by_cases hm0 : m = 0
    · subst hm0
      have HF := Lib.hid (HO3.out.plainO (by omega) hvc hvc2 HLB.out)
      go_wp2
      go_ret
      exact ⟨_, rfl, L, HF.out, by rw [HNN.out]; omega, HLF.out, HD3.out, HB3.out⟩
    · obtain ⟨gv, cv', hzz, hgl, _⟩ := (HO3.out.val i hi).head (by rw [HMM.out]; omega)
      rw [HZV.out] at hzz
      simp only [Value.slice.injEq] at hzz
      obtain ⟨rfl, hmm, rfl⟩ := hzz
      clear hmm
      obtain ⟨x0, hx0⟩ : ∃ x, (L.getD i (0, [])).2.getD 0 0 = x := ⟨_, rfl⟩
      have HX : Hid (0 < (L.getD i (0, [])).2.length ∧ (L.getD i (0, [])).2.getD 0 0 = x0) := ⟨by rw [HMM.out]; omega, hx0⟩
      clear hx0
      obtain ⟨y, hy⟩ : ∃ y, IntKind.i64.wrap (x0 + 1) = y := ⟨_, rfl⟩
      have HYF : Hid (in64 y) := by show in64 y; rw [← hy, IntKind.wrap_i64]; constructor <;> omega
      have h0m : (0 : Int) < (m : Int) := by omega
      have v0 := HO3.out.v0 hi HZV.out HX.out
      have kA := (HO3.out.alloc (.cells #[.int .i64 (-1), .int .i64 1073741824, .int .i64 y, .int .i64 0] 3)).zv hi HZV.out
      have vA := (HO3.out.alloc (.cells #[.int .i64 (-1), .int .i64 1073741824, .int .i64 y, .int .i64 0] 3)).v0 hi HZV.out HX.out
      have HSD : Hid (DiceAt w3.drew b s l) := HD3.out
      have HAL : Hid (DiceAt (w3.alloc (.cells #[.int .i64 (-1), .int .i64 1073741824, .int .i64 y, .int .i64 0] 3)).drew b s l) := HD3.out.below (((Below.refl w3.heap.size w3).alloc (Nat.le_refl _) (.cells #[.int .i64 (-1), .int .i64 1073741824, .int .i64 y, .int .i64 0] 3)).drew) HD3.out.size
      have HBD : Hid (But b w3 w3.drew) := But.of_below ((Below.refl _ _).drew) (Nat.le_refl _)
      have HBA : Hid (But b w3 (w3.alloc (.cells #[.int .i64 (-1), .int .i64 1073741824, .int .i64 y, .int .i64 0] 3)).drew) := But.of_below (((Below.refl w3.heap.size w3).alloc (Nat.le_refl _) (.cells #[.int .i64 (-1), .int .i64 1073741824, .int .i64 y, .int .i64 0] 3)).drew) (Nat.le_refl _)
      have HCN : Hid (∀ (W : World) (j : Nat), j < 4 → (W.alloc (.cells #[.int .i64 (-1), .int .i64 1073741824, .int .i64 y, .int .i64 0] 3)).cell? ⟨W.heap.size, j, none⟩ = some (.int .i64 ((odd4b y) j))) := fun W j hj => by
        rw [cell_new]
        have : j = 0 ∨ j = 1 ∨ j = 2 ∨ j = 3 := by omega
        rcases this with rfl | rfl | rfl | rfl <;> rfl
      have HZ3 := Lib.hid HD3.out.size
      have HCNd : Hid (∀ j, j < 4 → (w3.alloc (.cells #[.int .i64 (-1), .int .i64 1073741824, .int .i64 y, .int .i64 0] 3)).drew.cell? ⟨w3.heap.size, j, none⟩ = some (.int .i64 ((odd4b y) j))) := fun j hj => HCN.out w3 j hj
      have HFA : Hid (∀ W, But b w3 W → OddC W g q n vc Z L ∧ But b w W) := fun W hb => ⟨HO3.out.but hb hsz, HB3.out.trans hb⟩
      have HEND : Hid (∀ (W : World), OddC W g q n vc Z L → DiceAt W b s l → But b w W → ∀ x : Int, (SharesO (W.setCell ⟨gv, 0, none⟩ (.int .i64 x)) g (.slice (some ⟨q, 0, none⟩) n vc) (L.set i ((L.getD i (0, [])).1, (L.getD i (0, [])).2.set 0 x)) ∧ DiceAt (W.setCell ⟨gv, 0, none⟩ (.int .i64 x)) b s l ∧ But b w (W.setCell ⟨gv, 0, none⟩ (.int .i64 x)))) := fun W h1 h2 h3 x => by
        have hb : Below g W (W.setCell ⟨gv, 0, none⟩ (.int .i64 x)) := set1_below _ _ _ hgl
        exact ⟨h1.fourO (by omega) hvc hvc2 HLB.out hi HZV.out x, h2.below hb hsz, HAB.out _ _ h3 hb⟩
      clear hgl k0
      go_wp2_with fail
      apply region_oneJ (fun x W => Hid (SharesO W g (.slice (some ⟨q, 0, none⟩) n vc) (L.set i ((L.getD i (0, [])).1, (L.getD i (0, [])).2.set 0 x))) ∧ Hid (DiceAt W b s l) ∧ Hid (But b w W) ∧ Hid (in64 x))
      case hr =>
        refine wp_region_noPanic ?_
        go_region_law
          (first
            | (go_simp; go_at_call 13; with_reducible refine (next_any b s l 4 w3.drew HSD.out (by omega) (by omega)).mono ?_; rintro e w6 ⟨r2, s0, s1, rfl, hd6, hb6⟩; obtain ⟨j, rfl⟩ := Int.eq_ofNat_of_zero_le s0; have hj : j < 4 := (by omega); have hji : (j : Int) < 4 := (by omega); have HB6 := Lib.hid (HBD.out.trans hb6); have hA := HFA.out w6 HB6.out; have b1 := hA.1.zv hi HZV.out; have b2 := hA.1.v0 hi HZV.out HX.out; have b3 := (hA.1.alloc (.cells #[.int .i64 (-1), .int .i64 1073741824, .int .i64 y, .int .i64 0] 3)).zv hi HZV.out; have b4 := (hA.1.alloc (.cells #[.int .i64 (-1), .int .i64 1073741824, .int .i64 y, .int .i64 0] 3)).v0 hi HZV.out HX.out; have a1 := (hA.1.alloc (.cells #[.int .i64 (-1), .int .i64 1073741824, .int .i64 y, .int .i64 0] 3)).vf hi HZV.out HX.out; have a2 := HCN.out w6 j hj; have HA6 := Lib.hid hA; have HD6 := Lib.hid hd6; clear hd6 hb6 s1 hA)
            | (go_simp; go_at_call 13; with_reducible refine (next_any b s l 4 (w3.alloc (.cells #[.int .i64 (-1), .int .i64 1073741824, .int .i64 y, .int .i64 0] 3)).drew HAL.out (by omega) (by omega)).mono ?_; rintro e w6 ⟨r2, s0, s1, rfl, hd6, hb6⟩; obtain ⟨j, rfl⟩ := Int.eq_ofNat_of_zero_le s0; have hj : j < 4 := (by omega); have hji : (j : Int) < 4 := (by omega); have HB6 := Lib.hid (HBA.out.trans hb6); have hA := HFA.out w6 HB6.out; have b1 := hA.1.zv hi HZV.out; have b2 := hA.1.v0 hi HZV.out HX.out; have HA6 := Lib.hid hA; have HD6 := Lib.hid hd6; have a1 := hA.1.vf hi HZV.out HX.out; have a2 : w6.cell? ⟨w3.heap.size, j, none⟩ = some (.int .i64 ((odd4b y) j)) := (by rw [hb6.cell (p := ⟨w3.heap.size, j, none⟩) (by simp [World.drew]) (by show w3.heap.size ≠ b; have := HZ3.out; omega)]; exact HCNd.out j hj); clear hd6 hb6 s1 hA))
        all_goals
          refine NoPanic.normal ?_
          obtain ⟨q1, q3⟩ := HA6.out
          have q4 := HD6.out
          first
            | (have hq := HEND.out w6 q1 q4 q3 ((odd4b y) j)
               obtain ⟨z1, z2, z3⟩ := hq
               obtain ⟨x, hx⟩ : ∃ x, (odd4b y) j = x := ⟨_, rfl⟩
               have hxf : Hid (in64 x) := by show in64 x; rw [← hx]; exact odd4b_fin HYF.out j
               rw [hx] at z1 z2 z3 ⊢
               obtain ⟨ad, had⟩ : ∃ ad, w3.heap.size = ad := ⟨_, rfl⟩
               rw [had]
               exact ⟨rfl, x, j, ad, rfl, z1, z2, z3, hxf⟩)
            | (have hq := HEND.out (w6.alloc (.cells #[.int .i64 (-1), .int .i64 1073741824, .int .i64 y, .int .i64 0] 3)) (q1.alloc _) (q4.below ((Below.refl w6.heap.size w6).alloc (Nat.le_refl _) (.cells #[.int .i64 (-1), .int .i64 1073741824, .int .i64 y, .int .i64 0] 3)) q4.size) (q3.trans (But.alloc _ _ _)) ((odd4b y) j)
               obtain ⟨z1, z2, z3⟩ := hq
               obtain ⟨x, hx⟩ : ∃ x, (odd4b y) j = x := ⟨_, rfl⟩
               have hxf : Hid (in64 x) := by show in64 x; rw [← hx]; exact odd4b_fin HYF.out j
               rw [hx] at z1 z2 z3 ⊢
               obtain ⟨ad, had⟩ : ∃ ad, w6.heap.size = ad := ⟨_, rfl⟩
               rw [had]
               exact ⟨rfl, x, j, ad, rfl, z1, z2, z3, hxf⟩)
      rintro x jx mx W ⟨HF, HDF, HBF, HXF⟩
      have HLN : Hid (∀ s ∈ L.set i ((L.getD i (0, [])).1, (L.getD i (0, [])).2.set 0 x), s.2.length ≤ (Mx + 1) ∧ Fin64 s) := set_fin HLF.out ⟨by rw [List.length_set]; exact Nat.le_trans (HO3.out.bound HBN.out hi) (by omega), HFI.out.1, setz_fin HFI.out.2 HXF.out⟩
      go_wp2
      go_ret
      exact ⟨_, rfl, _, HF.out, by rw [List.length_set, HNN.out]; omega, HLN.out, HDF.out, HBF.out⟩
  have x4 : (r == 4) = false := by simp only [beq_eq_false_iff_ne]; exact h4
  by_cases h5 : r = 5
  · subst h5
    have h0n : 0 < n := by omega
    obtain ⟨j0, j1, _, _⟩ := HO3.out.row 0 h0n
    rw [Nat.zero_mul] at j0
    rw [Nat.zero_mul, Nat.zero_add] at j1
    obtain ⟨a0, c0, hz0⟩ := (HO3.out.val 0 h0n).shape
    have hbd0 := HO3.out.bound HBN.out h0n
    have hvl0 := HO3.out.val 0 h0n
    obtain ⟨l0, hl0⟩ : ∃ l0, (L.getD 0 (0, [])).2 = l0 := ⟨_, rfl⟩
    have HF0 := Lib.hid (HFN.out _ (getD_mem (L := L) (i := 0) (by rw [HNN.out]; exact h0n)))
    have HL0F : Hid (∀ y ∈ l0, in64 y) := by show ∀ y ∈ l0, in64 y; rw [← hl0]; exact HF0.out.2
    rw [hl0] at hz0 hbd0 hvl0
    obtain ⟨m0, hm0⟩ : ∃ m0, l0.length = m0 := ⟨_, rfl⟩
    clear hl0
    obtain ⟨h00, hh00⟩ : ∃ h, (Z 0).1 = h := ⟨_, rfl⟩
    have HH0F : Hid (in64 h00) := by show in64 h00; rw [← hh00, HO3.out.hold 0 h0n]; exact HF0.out.1
    rw [hh00] at j0
    rw [hm0] at hz0
    rw [hz0] at j1
    have hS0 := hvl0.slc (by omega)
    have hlt0 := fun q' hq' => World.ownsRow.lt hvl0 q' hq'
    have hof0 := HO3.out.off 0 h0n
    rw [hz0] at hS0 hlt0 hof0
    have HG3 : Hid (GathS w3 g (.slice (some ⟨q, 0, none⟩) n vc) L) := HT3.out.toS HLB.out
    have hal : w3.grownBy (w3.alloc (.cells #[.int .i64 h00, .slice a0 m0 c0] 42)) none := World.grownBy_alloc _ _ none
    have HSA := Lib.hid (hS0.grown hal (fun q' hq' e => by cases e))
    have HBK : Hid (∀ q', (Value.slice a0 m0 c0).ownBlock = some q' → g ≤ q' ∧ q' < (w3.alloc (.cells #[.int .i64 h00, .slice a0 m0 c0] 42)).heap.size ∧ (Value.slice (some ⟨q, 0, none⟩) n vc).ownBlock ≠ some q') := fun q' hq' => by
      have h1 := hlt0 q' hq'
      refine ⟨h1.1, by simp; omega, fun e => hof0 q' hq' ?_⟩
      simp [Value.ownBlock] at e
      exact e.symm
    have HCN := Lib.hid (cells_new2 w3 (.int .i64 h00) (.slice a0 m0 c0) 42 w3.heap.size rfl)
    have HGZ : Hid (g ≤ w3.heap.size) := by show _ ≤ _; have := HO3.out.lt; omega
    have HL0 : Hid (l0.length ≤ Mx) := hbd0
    clear hS0 hlt0 hof0 hal hz0 hm0 hh00 hbd0 hvl0
    go_wp2_with (at_builtin; refine appendS_one _ rfl _ _ rfl g (.slice (some ⟨q, 0, none⟩) n vc) L h00 (.slice a0 m0 c0) l0 rfl (HG3.out.alloc _) w3.heap.size rfl HCN.out.1 HCN.out.2 HSA.out HBK.out (by rw [HNN.out]; omega) (by have := HGZ.out; simp; omega) ?_)
    intro v8 w8 hown8 hgr8 _
    have hbw : Below g w3 w8 := ((Below.refl _ _).alloc HGZ.out _).grown hgr8 (by have := HGZ.out; simp; omega) (fun q' hq' => by simp [Value.ownBlock] at hq'; omega)
    obtain ⟨a8, c8, rfl, hc8, hc8b⟩ := hown8.shape
    have hsn := hown8.turnS.shares (L ++ [(h00, l0)]).length c8 (Nat.le_refl _) (by rw [List.length_append, HNN.out]; simp; omega) hc8 hc8b
    rw [List.take_length] at hsn
    have hso := hown8.roomO hsn
    have HDF := Lib.hid (HD3.out.below hbw hsz)
    have HBF := Lib.hid (HAB.out _ _ HB3.out hbw)
    have HLA : Hid (∀ s ∈ L ++ [(h00, l0)], s.2.length ≤ (Mx + 1) ∧ Fin64 s) := fun s hs => by
      rcases List.mem_append.1 hs with h | h
      · exact HLF.out s h
      · simp at h; subst h; exact ⟨by have := HL0.out; simp only; omega, HH0F.out, HL0F.out⟩
    have HLE : Hid ((L ++ [(h00, l0)]).length ≤ n + 1) := by show _ ≤ _; rw [List.length_append, HNN.out]; simp
    obtain ⟨nq, hnq⟩ : ∃ nq, (L ++ [(h00, l0)]).length = nq := ⟨_, rfl⟩
    rw [hnq] at hso hc8 ⊢
    have HSN := Lib.hid hso
    clear hown8 hgr8 hbw hsn hso hnq
    go_wp2
    go_ret
    exact ⟨_, rfl, _, HSN.out, HLE.out, HLA.out, HDF.out, HBF.out⟩
  have x5 : (r == 5) = false := by simp only [beq_eq_false_iff_ne]; exact h5
  have HF := Lib.hid (HO3.out.plainO (by omega) hvc hvc2 HLB.out)
  go_wp2
  go_ret
  exact ⟨_, rfl, L, HF.out, by rw [HNN.out]; omega, HLF.out, HD3.out, HB3.out⟩
end Go.Proofs.YtpgbjnenllfmlaaGreatDoor
