
/- The document's One: the rows of its equations, while they are written. -/
import Derived.Test.YtpgbjnenllfmlaaGreatDoorQSlv
import Derived.Test.YtpgbjnenllfmlaaGreatDoorHFit
import Derived.Maps.AppendAt
import Derived.Test.YtpgbjnenllfmlaaGreatDoorQPr5
import Derived.Test.YtpgbjnenllfmlaaGreatDoorRfI
import Derived.Deep.RegionLaw
import Derived.Deep.RegionHeld3
import Derived.Test.YtpgbjnenllfmlaaGreatDoorRfD
/-! The document's One: the rows of its equations, while they are written. -/
namespace Go.Proofs.YtpgbjnenllfmlaaGreatDoor
open Go.RowKit Go.Sort
open Num
set_option linter.unusedVariables false

theorem infoIntsR : (Tryz.prog.info? 22).map (fun i => (i.zero, i.size, i.bytes)) = some (some (.slice none 0 0), 1, 24) := by kernel_rfl
/-- A growing list of rows of wd numbers each; row j lies in block b j. -/
structure RowsG (W : World) (g : Nat) (v : Value) (wd : Nat) (RR : List (List Int)) (b cap : Nat → Nat) : Prop where
  own : W.ownsRow g 22 1 v RR.length ((List.range RR.length).map fun j => .slice (some ⟨b j, 0, none⟩) wd (cap j))
  lob : ∀ j, j < RR.length → g ≤ b j ∧ b j < W.heap.size
  ne : ∀ j, j < RR.length → v.ownBlock ≠ some (b j)
  val : ∀ j, j < RR.length → ∀ k, k < wd → W.cell? ⟨b j, k, none⟩ = some (.int .i64 ((RR.getD j []).getD k 0)) ∧ W.frozen? ⟨b j, k, none⟩ = false
  inj : ∀ i j, i < RR.length → j < RR.length → b i = b j → i = j
  sz : g ≤ W.heap.size
section
variable {W W' : World} {g wd : Nat} {v : Value} {RR : List (List Int)} {b cap : Nat → Nat}
theorem rowsG_nil (W : World) (wd : Nat) (b cap : Nat → Nat) (hg : g ≤ W.heap.size) : RowsG W g (.slice none 0 0) wd [] b cap :=
  ⟨World.ownsRow_nil _ _ _ _, fun j hj => by simp at hj, fun j hj => by simp at hj, fun j hj => by simp at hj, fun i _ hi => by simp at hi, hg⟩
theorem RowsG.below (h : RowsG W g v wd RR b cap) (k : Below W.heap.size W W') : RowsG W' g v wd RR b cap :=
  ⟨World.ownsRow.kept h.own (grownBy_of_below k (Nat.le_refl _)) (by
    cases e : v.ownBlock with
    | none => exact .inl rfl
    | some g => exact .inr (by simp)),
   fun j hj => ⟨(h.lob j hj).1, Nat.lt_of_lt_of_le (h.lob j hj).2 k.size⟩, h.ne,
   fun j hj l hl => by rw [cell_of_blk (k.block _ (h.lob j hj).2), frozen_of_blk (k.block _ (h.lob j hj).2)]; exact h.val j hj l hl, h.inj, Nat.le_trans h.sz k.size⟩
theorem RowsG.lt (h : RowsG W g v wd RR b cap) : ∀ q, v.ownBlock = some q → g ≤ q ∧ q < W.heap.size := World.ownsRow.lt h.own
theorem RowsG.shape (h : RowsG W g v wd RR b cap) : ∃ a c, v = .slice a RR.length c := by
  obtain ⟨_, ⟨rfl, h0⟩ | ⟨q, cap', cur, rfl, _⟩⟩ := h.own
  · exact ⟨none, 0, by rw [h0]⟩
  · exact ⟨_, cap', rfl⟩
theorem RowsG.mat (h : RowsG W g v wd RR b cap) (h0 : 0 < RR.length) : ∃ q cr, v = .slice (some ⟨q, 0, none⟩) RR.length cr ∧ RR.length ≤ cr ∧ cr ≤ 9223372036854775807 ∧ MatW W g W.heap.size q RR.length wd b cap (fun i k => (RR.getD i []).getD k 0) := by
  rcases id h.own.2 with ⟨hv, h1⟩ | ⟨q, cr, cur, hv, hb, hq, hr1, hr2, hr3⟩
  · omega
  · have hlt := h.lt q (by rw [hv]; rfl)
    have hne := h.ne
    have hown := h.own
    subst hv
    refine ⟨q, cr, rfl, hr1, by unfold maxLen at hr2; omega, fun i hi => ⟨?_, World.ownsRow.frozenAt hown i⟩, h.val, h.inj, fun i hi e => hne i hi (by rw [e]; rfl), hlt, h.lob, Nat.le_refl _⟩
    rw [World.ownsRow.cellAt hown i (by omega)]
    simp [hi]
end
section
variable {ops : Array Oper} {rest : List Oper} {o : Oper} {a : Act} {Q : Exit → Act → World → Prop}
set_option maxRecDepth 100000 in
/-- One more row. -/
theorem append_rows (w : World) (hgd : o.guard = none) (s x : Operand) (ho : o.op = .call { callee := .builtin .append, args := #[s, x], argTypes := #[100, 100] })
    (g : Nat) (v : Value) (wd : Nat) (RR : List (List Int)) (b cap : Nat → Nat) (bn cn : Nat) (R : List Int) (hs : a.eval s = v) (hown : RowsG w g v wd RR b cap) (ad : Nat) (hx : a.eval x = .slice (some ⟨ad, 0, none⟩) 1 1) (hcell : w.cell? ⟨ad, 0, none⟩ = some (.slice (some ⟨bn, 0, none⟩) wd cn))
    (hb1 : g ≤ bn ∧ bn < w.heap.size) (hb2 : v.ownBlock ≠ some bn) (hb3 : ∀ j, j < RR.length → b j ≠ bn) (hv : ∀ k, k < wd → w.cell? ⟨bn, k, none⟩ = some (.int .i64 (R.getD k 0)) ∧ w.frozen? ⟨bn, k, none⟩ = false) (hlen : RR.length ≤ 1000)
    (h : ∀ v' w', RowsG w' g v' wd (RR ++ [R]) (fun j => if j = RR.length then bn else b j) (fun j => if j = RR.length then cn else cap j) → Below g w w' → wpList Tryz.prog ops Q rest (a.put o.dst v') w') : wpList Tryz.prog ops Q (o :: rest) a w := by
  obtain ⟨i0, hi, hz0, hz1, hz2⟩ := info_parts infoIntsR
  refine wpList_append_own_at (w := w) hgd s x 100 ho g 22 i0 (.slice none 0 0) 1 24 Tryz.underlying100 hi hz0 hz1 hz2 rfl (by decide) v RR.length ((List.range RR.length).map fun j => .slice (some ⟨b j, 0, none⟩) wd (cap j)) hs hown.own ⟨ad, 0, none⟩ 1 1 [.slice (some ⟨bn, 0, none⟩) wd cn] hx rfl ?_ ?_ ?_ ?_ hown.sz ?_
  · intro j u hj
    match j, hj with
    | 0, hj =>
      simp at hj; subst hj
      have e : (⟨ad, 0, none⟩ : Addr).add 0 = ⟨ad, 0, none⟩ := by unfold Addr.add; simp
      rw [e]; exact hcell
  · intro u hu; simp at hu; subst hu; rfl
  · unfold maxLen; omega
  · omega
  · intro v' w' h1 h2 _ h5
    have hblk : ∀ k, k < w.heap.size → v.ownBlock ≠ some k → w'.heap[k]? = w.heap[k]? := fun k hk hne => h2.block k hk (fun e => hne e.symm)
    have hne' : ∀ q, v.ownBlock ≠ some q → q < w.heap.size → v'.ownBlock ≠ some q := fun q e1 e2 e3 => by
      rcases h5 with h5 | h5
      · rw [h5] at e3; exact e1 e3
      · rw [h5] at e3; simp at e3; omega
    have hl : (RR ++ [R]).length = RR.length + 1 := by simp
    have hG : ∀ j, j < RR.length → (RR ++ [R]).getD j [] = RR.getD j [] := fun j hj => by simp [List.getD, List.getElem?_append, hj]
    have hGe : (RR ++ [R]).getD RR.length [] = R := by simp [List.getD]
    refine h v' w' ⟨?_, fun j hj => ?_, fun j hj => ?_, fun j hj k hk => ?_, fun i j hi hj e => ?_, Nat.le_trans hown.sz h2.size⟩ ((Below.refl g w).grown h2 hown.sz fun q hq => (World.ownsRow.lt hown.own q hq).1)
    · rw [hl]
      have e : ((List.range (RR.length + 1)).map fun j => Value.slice (some ⟨if j = RR.length then bn else b j, 0, none⟩) wd (if j = RR.length then cn else cap j)) = ((List.range RR.length).map fun j => Value.slice (some ⟨b j, 0, none⟩) wd (cap j)) ++ [.slice (some ⟨bn, 0, none⟩) wd cn] := by
        rw [List.range_succ, List.map_append]
        congr 1
        · refine List.map_congr_left fun j hj => ?_
          have := List.mem_range.1 hj
          rw [if_neg (by omega), if_neg (by omega)]
        · simp
      rw [e]
      exact h1
    · rw [hl] at hj
      by_cases e : j = RR.length
      · simp only [if_pos e]; exact ⟨hb1.1, Nat.lt_of_lt_of_le hb1.2 h2.size⟩
      · simp only [if_neg e]; exact ⟨(hown.lob j (by omega)).1, Nat.lt_of_lt_of_le (hown.lob j (by omega)).2 h2.size⟩
    · rw [hl] at hj
      by_cases e : j = RR.length
      · simp only [if_pos e]; exact hne' bn hb2 hb1.2
      · simp only [if_neg e]; exact hne' _ (hown.ne j (by omega)) (hown.lob j (by omega)).2
    · rw [hl] at hj
      by_cases e : j = RR.length
      · simp only [if_pos e]
        rw [e, hGe, cell_of_blk (hblk bn hb1.2 hb2), frozen_of_blk (hblk bn hb1.2 hb2)]
        exact hv k hk
      · simp only [if_neg e]
        rw [hG j (by omega), cell_of_blk (hblk _ (hown.lob j (by omega)).2 (hown.ne j (by omega))), frozen_of_blk (hblk _ (hown.lob j (by omega)).2 (hown.ne j (by omega)))]
        exact hown.val j (by omega) k hk
    · rw [hl] at hi hj
      by_cases e1 : i = RR.length <;> by_cases e2 : j = RR.length
      · omega
      · simp only [if_pos e1, if_neg e2] at e; exact absurd e.symm (hb3 j (by omega))
      · simp only [if_neg e1, if_pos e2] at e; exact absurd e (hb3 i (by omega))
      · simp only [if_neg e1, if_neg e2] at e; exact hown.inj i j (by omega) (by omega) e
end
end Go.Proofs.YtpgbjnenllfmlaaGreatDoor
/-! The document's One: repeated places, points that a polynomial has. -/
namespace Go.Proofs.YtpgbjnenllfmlaaGreatDoor
open Go.RowKit Go.Sort
open Num
set_option linter.unusedVariables false

theorem dupB_take {xs : List Int} {k i : Nat} (hk : k < xs.length) (hi : i < k) (h : xs.getD i 0 = xs.getD k 0) : dupB xs = true :=
  dupB_true hk (by
    rw [List.contains_iff_mem, ← h, getD_lt (by omega)]
    exact List.mem_take_iff_getElem.2 ⟨i, by omega, rfl⟩)
theorem dupB_none {xs : List Int} (h : ∀ k, k < xs.length → ∀ i, i < k → xs.getD i 0 ≠ xs.getD k 0) : dupB xs = false := dupB_false fun k hk => by
  cases hc : (xs.take k).contains (xs.getD k 0) with
  | false => rfl
  | true =>
    exfalso
    rw [List.contains_iff_mem, getD_lt hk] at hc
    obtain ⟨i, hi, e⟩ := List.mem_take_iff_getElem.1 hc
    exact h k hk i (by omega) (by rw [getD_lt (by omega), getD_lt hk]; exact e)
set_option maxRecDepth 100000 in
set_option maxHeartbeats 4000000 in
theorem twice_any (ax : Option Addr) (n cx : Nat) (xs : List Int) (w : World) (hsx : Ints w (.slice ax n cx) xs) (hnx : xs.length = n) (hn : n ≤ 1000) (hc : n ≤ cx) (hc2 : cx ≤ 9223372036854775807) :
    Calls Tryz.prog 66 #[.slice ax n cx] w fun e w' => e = .returned (.bool (dupB xs)) ∧ w = w' := by
  have HSX := Lib.hid hsx
  have HNX := Lib.hid hnx
  have HD := Lib.hid (fun (h : ∀ k, k < xs.length → ∀ i, i < k → xs.getD i 0 ≠ xs.getD k 0) => dupB_none h)
  have HE := Lib.hid (fun (k i : Nat) (hk : k < xs.length) (hi : i < k) (h : xs.getD i 0 = xs.getD k 0) => dupB_take hk hi h)
  obtain ⟨B, hB⟩ : ∃ B, dupB xs = B := ⟨_, rfl⟩
  rw [hB] at HD HE ⊢
  have H0 : Hid (∀ k, k < 0 → ∀ i, i < k → xs.getD i 0 ≠ xs.getD k 0) := fun k h => by omega
  clear hsx hnx hB
  go_enter Tryz.func66, Tryz.ntmps66
  go_wp2_with fail
  go_loop [3, 4, 6, 9, 18] (fun _ _ _ i _ => ∃ k : Nat, k ≤ n ∧ i = .int .i64 k ∧ Hid (∀ k', k' < k → ∀ i, i < k' → xs.getD i 0 ≠ xs.getD k' 0)) (fun _ _ _ i _ => n - (intOf i).toNat)
  case atStart => exact ⟨0, Nat.zero_le _, rfl, H0⟩
  case round =>
    obtain ⟨k, hk, rfl, HK⟩ := hrel
    clear H0
    by_cases hlt : k < n
    · have i1 : (k : Int) < (n : Int) := by omega
      have hkc : k ≤ cx := by omega
      obtain ⟨bx, ox, rfl, cx0⟩ := HSX.out.pos hlt
      obtain ⟨x, hxv⟩ : ∃ x, xs.getD k 0 = x := ⟨_, rfl⟩
      rw [hxv] at cx0
      have HX := Lib.hid hxv
      have HJ0 : Hid (∀ i, i < 0 → xs.getD i 0 ≠ x) := fun i h => by omega
      clear hxv
      go_wp2_with fail
      go_loop [6, 18] (fun _ j => ∃ t : Nat, t ≤ k ∧ j = .int .i64 t ∧ Hid (∀ i, i < t → xs.getD i 0 ≠ x)) (fun _ j => k - (intOf j).toNat)
      case atStart => exact ⟨0, Nat.zero_le _, rfl, HJ0⟩
      case round =>
        obtain ⟨t, ht, rfl, HT⟩ := hrel
        clear HJ0
        by_cases hlt2 : t < k
        · have i2 : (t : Int) < (k : Int) := by omega
          obtain ⟨b2, o2, hb2, cx1⟩ := HSX.out.pos (k := t) (show t < n by omega)
          injection hb2 with hb2
          injection hb2 with e1 e2
          subst e1 e2
          obtain ⟨y, hyv⟩ : ∃ y, xs.getD t 0 = y := ⟨_, rfl⟩
          rw [hyv] at cx1
          by_cases hxy : x = y
          · have HB : Hid (B = true) := HE.out k t (by rw [HNX.out]; exact hlt) hlt2 (by rw [hyv, HX.out]; exact hxy.symm)
            have e3 : (x == y) = true := by simp [hxy]
            clear hxy hyv
            go_wp2_with fail
            go_ret
            exact ⟨by rw [HB.out]; rfl, rfl⟩
          · have e3 : (x == y) = false := by simp [hxy]
            have HTN : Hid (∀ i, i < t + 1 → xs.getD i 0 ≠ x) := fun i hi => by
              by_cases e : i = t
              · subst e; rw [hyv]; exact fun h => hxy h.symm
              · exact HT.out i (by omega)
            clear hxy hyv
            go_wp2_with fail
            go_round
            case rel => exact ⟨t + 1, by omega, by go_num, HTN⟩
            case measure => simp [intOf]; omega
        · obtain rfl : t = k := by omega
          have HKN : Hid (∀ k', k' < t + 1 → ∀ i, i < k' → xs.getD i 0 ≠ xs.getD k' 0) := fun k' hk' i hi => by
            by_cases e : k' = t
            · subst e; rw [HX.out]; exact HT.out i hi
            · exact HK.out k' (by omega) i hi
          go_wp2_with fail
          go_round
          case rel => exact ⟨t + 1, by omega, by go_num, HKN⟩
          case measure => simp [intOf]; omega
    · obtain rfl : k = n := by omega
      have HB : Hid (B = false) := HD.out fun k' h => HK.out k' (by rw [← HNX.out]; exact h)
      go_wp2_with fail
      go_ret
      exact ⟨by rw [HB.out]; rfl, rfl⟩
set_option maxRecDepth 100000 in
set_option maxHeartbeats 4000000 in
theorem agree_any (p : Int) (vf : Value) (ax ay : Option Addr) (n cx cy : Nat) (f xs ys : List Int) (w : World) (hp : 1 ≤ p) (hp2 : p ≤ 1073741824) (hf : Els p f) (hx : Els p xs) (hsf : Ints w vf f) (hfl : f.length ≤ 1000) (hsx : Ints w (.slice ax n cx) xs) (hsy : Ints w (.slice ay n cy) ys) (hnx : xs.length = n) (hny : ys.length = n) (hn : n ≤ 1000) :
    Calls Tryz.prog 71 #[.int .i64 p, vf, .slice ax n cx, .slice ay n cy] w fun e w' => ∃ c : Nat, e = .returned (.int .i64 (c : Int)) ∧ c + (mis p f xs ys).length = n ∧ Below w.heap.size w w' := by
  obtain ⟨g, hg⟩ : ∃ g, w.heap.size = g := ⟨_, rfl⟩
  have HGG := Lib.hid hg
  have HSX := Lib.hid hsx
  have HSY := Lib.hid hsy
  have HNX := Lib.hid hnx
  have HNY := Lib.hid hny
  have HEX := Lib.hid hx
  have HEV := Lib.hid (fun (x : Int) (hx : El p x) (W : World) (hW : Below g w W) => ref_eval_any p x vf f W hp hp2 hx hf (hsf.below (Nat.le_of_eq hg) hW) (by omega))
  have HW0 : Hid (Below g w w) := Below.refl _ _
  have HM0 : Hid (0 + (mis p f (xs.take 0) (ys.take 0)).length = 0) := rfl
  rw [hg]
  clear hsx hsy hnx hny hx hsf hf hg hfl
  go_enter Tryz.func71, Tryz.ntmps71
  go_wp2_with fail
  go_loopw [9, 10, 11, 14] (fun v _ _ i wr => ∃ c k : Nat, k ≤ n ∧ c ≤ k ∧ i = .int .i64 k ∧ v = .int .i64 c ∧ Hid (c + (mis p f (xs.take k) (ys.take k)).length = k) ∧ Hid (Below g w wr)) (fun _ _ _ i _ => n - (intOf i).toNat)
  case atStart => exact ⟨0, 0, Nat.zero_le _, Nat.zero_le _, rfl, rfl, HM0, HW0⟩
  case round =>
    obtain ⟨c, k, hk, hck, rfl, rfl, HC, HB⟩ := hrel
    clear HM0 HW0
    by_cases hlt : k < n
    · have i1 : (k : Int) < (n : Int) := by omega
      obtain ⟨bx, ox, rfl, cx0⟩ := (HSX.out.below (Nat.le_of_eq HGG.out) HB.out).pos hlt
      obtain ⟨by0, oy, rfl, cy0w⟩ := HSY.out.pos hlt
      have hby := cell_lt cy0w
      rw [HGG.out] at hby
      have cy0 := (HB.out.cell (p := ⟨by0, oy + k, none⟩) hby).trans cy0w
      have hxe : El p (xs.getD k 0) := els_getD hp HEX.out k
      have HMT := Lib.hid (mis_take (p := p) (f := f) (xs := xs) (ys := ys) (k := k) (by rw [HNX.out]; exact hlt) (by rw [HNX.out, HNY.out]))
      obtain ⟨x, hxv⟩ : ∃ x, xs.getD k 0 = x := ⟨_, rfl⟩
      obtain ⟨y, hyv⟩ : ∃ y, ys.getD k 0 = y := ⟨_, rfl⟩
      rw [hxv] at cx0 hxe HMT
      rw [hyv] at cy0 HMT
      have HBD : Hid (Below g w wr.drew) := HB.out.trans ((Below.refl _ _).drew)
      have HEW := Lib.hid (HEV.out x hxe wr.drew HBD.out)
      obtain ⟨z, hz⟩ : ∃ z, E f x % p = z := ⟨_, rfl⟩
      rw [hz] at HEW HMT
      clear hxv hyv hz hxe cy0w hby HEV
      go_wp2_with fail
      apply region_oneW (fun W => Hid (Below g w W))
      case hr =>
        refine wp_region_noPanic ?_
        go_region_held3 (fun W' => W'.cell? ⟨by0, oy + k, none⟩ = some (.int .i64 y)) (first | go_keep | exact HSK)
          ((go_at_call 43; refine HEW.out.mono ?_; rintro e w5 ⟨rfl, rfl⟩; have HSK := cy0))
        all_goals
          refine NoPanic.normal ?_
          exact ⟨rfl, rfl, HBD⟩
      rintro w6 HB6
      clear HBD HEW cy0 cx0 HB
      by_cases hzy : z = y
      · have hne : (z == y) = true := by simp [hzy]
        have HCN : Hid (c + 1 + (mis p f (xs.take (k + 1)) (ys.take (k + 1))).length = k + 1) := by
          show _ = _
          rw [HMT.out, if_pos hzy, List.append_nil]
          have := HC.out; omega
        clear hzy
        go_wp2_with fail
        go_roundw
        case rel => exact ⟨c + 1, k + 1, by omega, by omega, by go_num, by go_num, HCN, HB6⟩
        case measure => simp [intOf]; omega
      · have hne : (z == y) = false := by simp [hzy]
        have HCN : Hid (c + (mis p f (xs.take (k + 1)) (ys.take (k + 1))).length = k + 1) := by
          show _ = _
          rw [HMT.out, if_neg hzy, List.length_append]
          have := HC.out
          simp; omega
        clear hzy
        go_wp2_with fail
        go_roundw
        case rel => exact ⟨c, k + 1, by omega, by omega, by go_num, rfl, HCN, HB6⟩
        case measure => simp [intOf]; omega
    · obtain rfl : k = n := by omega
      have HF : Hid (c + (mis p f xs ys).length = k) := by
        have h := HC.out
        rw [List.take_of_length_le (Nat.le_of_eq HNX.out), List.take_of_length_le (Nat.le_of_eq HNY.out)] at h
        exact h
      go_wp2_with fail
      go_ret
      exact ⟨c, rfl, HF.out, HB.out⟩
end Go.Proofs.YtpgbjnenllfmlaaGreatDoor
/-! The document's One: the rows of its equations, what it returns. -/
namespace Go.Proofs.YtpgbjnenllfmlaaGreatDoor
open Go.RowKit Go.Sort
open Num
set_option linter.unusedVariables false

theorem els_snoc7 {p : Int} {R : List Int} {z : Int} (hR : Els p R) (hz : El p z) : Els p (R ++ [z]) := fun u hu => by
  rcases List.mem_append.1 hu with h | h
  · exact hR u h
  · rw [List.mem_singleton.1 h]; exact hz
theorem snoc_end (R : List Int) (z : Int) {n : Nat} (h : R.length = n) : (R ++ [z]).getD n 0 = z := by subst h; simp [List.getD]
theorem snoc_lt {R : List Int} (z : Int) {i : Nat} (h : i < R.length) : (R ++ [z]).getD i 0 = R.getD i 0 := append_getD_lt h
/-- The first part of a row: powers. -/
structure RowQ (p x : Int) (n : Nat) (R : List Int) (pw : Int) : Prop where
  len : R.length = n
  els : Els p R
  q : ∀ c, c < n → Cg p (R.getD c 0) (x ^ c)
  pe : El p pw
  pc : Cg p pw (x ^ n)
theorem rowQ_start {p : Int} (hp : 2 ≤ p) (x : Int) : RowQ p x 0 [] 1 :=
  ⟨rfl, fun u hu => by simp at hu, fun c h => by omega, ⟨by omega, by omega⟩, Cg.of_eq (by simp)⟩
theorem RowQ.step {p x : Int} (hp : 1 ≤ p) {n : Nat} {R : List Int} {pw : Int} (h : RowQ p x n R pw) : RowQ p x (n + 1) (R ++ [pw]) (pw * x % p) :=
  ⟨by simp [h.len], els_snoc7 h.els h.pe, fun c hc => by
    by_cases e : c = n
    · rw [e, snoc_end _ _ h.len]; exact h.pc
    · rw [snoc_lt _ (by rw [h.len]; omega)]; exact h.q c (by omega), el_mod hp _,
   (Cg.mod p _).trans (by rw [Int.pow_succ]; exact h.pc.mul (Cg.refl p x))⟩
/-- .. and the second part. -/
structure RowE (p x y : Int) (m n : Nat) (R : List Int) (pw : Int) : Prop where
  len : R.length = m + n
  els : Els p R
  q : ∀ c, c < m → Cg p (R.getD c 0) (x ^ c)
  e : ∀ c, c < n → Cg p (R.getD (m + c) 0) (-(x ^ c * y))
  pe : El p pw
  pc : Cg p pw (x ^ n)
theorem rowE_start {p x : Int} (y : Int) {m : Nat} {R : List Int} {pw : Int} (hp : 2 ≤ p) (h : RowQ p x m R pw) : RowE p x y m 0 R 1 :=
  ⟨h.len, h.els, h.q, fun c h => by omega, ⟨by omega, by omega⟩, Cg.of_eq (by simp)⟩
theorem RowE.step {p x y : Int} (hp : 1 ≤ p) {m n : Nat} {R : List Int} {pw : Int} (h : RowE p x y m n R pw) : RowE p x y m (n + 1) (R ++ [subF p 0 (pw * y % p)]) (pw * x % p) :=
  ⟨by simp [h.len]; omega, els_snoc7 h.els (el_sub hp _ _), fun c hc => by rw [snoc_lt _ (by rw [h.len]; omega)]; exact h.q c hc, fun c hc => by
    by_cases e : c = n
    · rw [e, snoc_end _ _ h.len]
      refine (Cg.subF p _ _).trans (((Cg.refl p 0).sub ((Cg.mod p _).trans (h.pc.mul (Cg.refl p y)))).trans (Cg.of_eq (by omega)))
    · rw [snoc_lt _ (by rw [h.len]; omega)]; exact h.e c (by omega), el_mod hp _,
   (Cg.mod p _).trans (by rw [Int.pow_succ]; exact h.pc.mul (Cg.refl p x))⟩
/-- A row. -/
structure RowOk (p x y : Int) (m t : Nat) (R : List Int) : Prop where
  len : R.length = m + t + 1
  els : Els p R
  q : ∀ c, c < m → Cg p (R.getD c 0) (x ^ c)
  e : ∀ c, c < t → Cg p (R.getD (m + c) 0) (-(x ^ c * y))
  v : Cg p (R.getD (m + t) 0) (x ^ t * y)
theorem RowE.done {p x y : Int} (hp : 1 ≤ p) {m n : Nat} {R : List Int} {pw : Int} (h : RowE p x y m n R pw) : RowOk p x y m n (R ++ [pw * y % p]) :=
  ⟨by simp [h.len], els_snoc7 h.els (el_mod hp _), fun c hc => by rw [snoc_lt _ (by rw [h.len]; omega)]; exact h.q c hc, fun c hc => by rw [snoc_lt _ (by rw [h.len]; omega)]; exact h.e c hc,
   by rw [snoc_end _ _ h.len]; exact (Cg.mod p _).trans (h.pc.mul (Cg.refl p y))⟩
/-- All rows so far. -/
structure RowsOk (p : Int) (k t i : Nat) (xs ys : List Int) (RR : List (List Int)) : Prop where
  len : RR.length = i
  row : ∀ j, j < i → RowOk p (xs.getD j 0) (ys.getD j 0) (k + t) t (RR.getD j [])
theorem rowsOk_nil (p : Int) (k t : Nat) (xs ys : List Int) : RowsOk p k t 0 xs ys [] := ⟨rfl, fun j h => by omega⟩
theorem RowsOk.step {p : Int} {k t i : Nat} {xs ys : List Int} {RR : List (List Int)} {R : List Int} (h : RowsOk p k t i xs ys RR) (hr : RowOk p (xs.getD i 0) (ys.getD i 0) (k + t) t R) : RowsOk p k t (i + 1) xs ys (RR ++ [R]) :=
  ⟨by simp [h.len], fun j hj => by
    by_cases e : j = i
    · have : (RR ++ [R]).getD i [] = R := by rw [← h.len]; simp [List.getD]
      rw [e, this]; exact hr
    · have h2 : j < RR.length := by rw [h.len]; omega
      have : (RR ++ [R]).getD j [] = RR.getD j [] := by simp [List.getD, List.getElem?_append, h2]
      rw [this]; exact h.row j (by omega)⟩
theorem RowsOk.bw {p : Int} {k t n : Nat} {xs ys : List Int} {RR : List (List Int)} (h : RowsOk p k t n xs ys RR) : BwM p k t n xs ys (fun i c => (RR.getD i []).getD c 0) :=
  ⟨fun i hi c hc => (h.row i hi).q c hc, fun i hi c hc => (h.row i hi).e c hc, fun i hi => (h.row i hi).v⟩
theorem RowsOk.elm {p : Int} (hp : 1 ≤ p) {k t n : Nat} {xs ys : List Int} {RR : List (List Int)} (h : RowsOk p k t n xs ys RR) : ElM p (k + t + t) n (fun i c => (RR.getD i []).getD c 0) := fun i hi c hc => els_getD hp (h.row i hi).els c
/-- What One returns, and where. -/
def OneW (p need lies : Int) (xs ys : List Int) (w : World) (e : Ending) (w' : World) : Prop := ∃ v f c, e = .returned (.tuple #[v, .int .i64 c]) ∧ OneA p need lies xs ys f c ∧ Gath w' w.heap.size v f ∧ f.length ≤ 1000 ∧ Below w.heap.size w w'
section
variable {p need lies : Int} {xs ys : List Int} {w w' : World}
theorem oneW_bad {c : Int} (h : oneC p need lies xs ys = c) (hc : c ≠ 0) (hb : Below w.heap.size w w') : OneW p need lies xs ys w (.returned (.tuple #[.slice none 0 0, .int .i64 c])) w' :=
  ⟨_, [], c, rfl, ⟨fun _ => ⟨rfl, h.symm⟩, fun h0 => absurd (h.symm.trans h0) hc⟩, gath_nil _ _, by simp, hb⟩
theorem oneW_lies (h : oneC p need lies xs ys = 0) (hno : ∀ g, ¬ OneB p need.toNat lies.toNat xs ys g) (hb : Below w.heap.size w w') : OneW p need lies xs ys w (.returned (.tuple #[.slice none 0 0, .int .i64 9])) w' :=
  ⟨_, [], 9, rfl, ⟨fun h0 => absurd h h0, fun _ => ⟨.inr rfl, ⟨fun h0 => by omega, fun _ => ⟨rfl, hno⟩⟩⟩⟩, gath_nil _ _, by simp, hb⟩
theorem oneW_ok {f : List Int} {v : Value} (h : oneC p need lies xs ys = 0) (hB : OneB p need.toNat lies.toNat xs ys f) (hI : Gath w' w.heap.size v f) (hfl : f.length ≤ 1000) (hb : Below w.heap.size w w') : OneW p need lies xs ys w (.returned (.tuple #[v, .int .i64 0])) w' :=
  ⟨_, f, 0, rfl, ⟨fun h0 => absurd h h0, fun _ => ⟨.inl rfl, ⟨fun _ => hB, fun h0 => absurd rfl h0⟩⟩⟩, hI, hfl, hb⟩
end
end Go.Proofs.YtpgbjnenllfmlaaGreatDoor
