
/- The program's package correct: Room, missed, zeros, minus. -/
import Derived.Test.YtdidplpbkfkdeaaGreatDoorHFit
import Derived.Test.YtdidplpbkfkdeaaGreatDoorHTur
import Derived.Test.YtdidplpbkfkdeaaGreatDoorQMth
import Derived.Test.YtdidplpbkfkdeaaGreatDoorThru
import Derived.Deep.RegionHeld3
import Derived.Deep.RegionLaw
namespace Go.Proofs.YtdidplpbkfkdeaaGreatDoor
open Go.RowKit
open Num
set_option linter.unusedVariables false

/-- How many of so many may be wrong. -/
def roomV (k s : Int) : Int := if s < k then -1 else (s - k) / 2
theorem wf_range {k : Int} (h : (Lit.int .i64 k).wf = true) : -9223372036854775808 ≤ k ∧ k ≤ 9223372036854775807 := by
  simp only [Lit.wf, Bool.and_eq_true, decide_eq_true_eq] at h
  exact h
set_option maxRecDepth 100000 in
set_option maxHeartbeats 4000000 in
theorem room_any (p k n s : Int) (w : World) (hk1 : 1 ≤ k) (hk : (Lit.int .i64 k).wf = true) (hs : (Lit.int .i64 s).wf = true) :
    Calls Tryz.prog 17 #[planV p k n, .int .i64 s] w fun e w' => e = .returned (.int .i64 (roomV k s)) ∧ Below w.heap.size w w' := by
  unfold planV
  have HB : Hid (Below w.heap.size w (w.alloc (Obj.cells #[Value.int IntKind.i64 p, Value.int IntKind.i64 k, Value.int IntKind.i64 n] 29))) := (Below.refl _ _).alloc (Nat.le_refl _) _
  have hk2 := wf_range hk
  have hs2 := wf_range hs
  by_cases hlt : s < k
  · have HR : Hid (roomV k s = -1) := by show _ = _; unfold roomV; rw [if_pos hlt]
    rw [HR.out]
    clear hk hs hk2 hs2
    go_enter Tryz.func17, Tryz.ntmps17
    go_wp2
    go_ret
    exact ⟨rfl, HB.out⟩
  · have HR : Hid (roomV k s = (s - k) / 2) := by show _ = _; unfold roomV; rw [if_neg hlt]
    rw [HR.out]
    have u1 : IntKind.u64.wrap s = s := by rw [IntKind.wrap_u64]; omega
    have u2 : IntKind.u64.wrap k = k := by rw [IntKind.wrap_u64]; omega
    have u3 : IntKind.u64.wrap (s - k) = s - k := by rw [IntKind.wrap_u64]; omega
    have u5 : 0 ≤ s - k := by omega
    obtain ⟨r, hr⟩ : ∃ r, (s - k) / 2 = r := ⟨_, rfl⟩
    have u4 : IntKind.i64.wrap r = r := by rw [IntKind.wrap_i64]; omega
    have u6 : 0 ≤ r := by omega
    have u7 : (s - k).tdiv 2 = r := by rw [Int.tdiv_eq_ediv_of_nonneg u5]; exact hr
    have u8 : IntKind.u64.wrap r = r := by rw [IntKind.wrap_u64]; omega
    clear hk hs hk2 hs2
    go_enter Tryz.func17, Tryz.ntmps17
    go_wp2
    go_ret
    exact ⟨by simp [*], HB.out⟩
/-- The places of the points that a polynomial lacks. -/
theorem mis_take {p : Int} {f xs ys : List Int} {k : Nat} (hk : k < xs.length) (hl : xs.length = ys.length) : mis p f (xs.take (k + 1)) (ys.take (k + 1)) = mis p f (xs.take k) (ys.take k) ++ (if E f (xs.getD k 0) % p = ys.getD k 0 then [] else [xs.getD k 0]) := by
  have h1 : (xs.take (k + 1)).zip (ys.take (k + 1)) = (xs.take k).zip (ys.take k) ++ [(xs.getD k 0, ys.getD k 0)] := by
    unfold List.zip
    rw [← List.take_zipWith, ← List.take_zipWith, List.take_add_one, List.getElem?_eq_getElem (by rw [List.length_zipWith]; omega), List.getElem_zipWith, getD_lt hk, getD_lt (by omega)]
    rfl
  unfold mis
  rw [h1, List.filter_append, List.map_append]
  congr 1
  by_cases e : E f (xs.getD k 0) % p = ys.getD k 0
  · have e2 : (!(E f (xs.getD k 0) % p == ys.getD k 0)) = false := by rw [e]; simp
    rw [if_pos e]; simp only [List.filter_cons, e2]; rfl
  · have e2 : (!(E f (xs.getD k 0) % p == ys.getD k 0)) = true := by simp only [Bool.not_eq_true', beq_eq_false_iff_ne]; exact e
    rw [if_neg e]; simp only [List.filter_cons, e2]; rfl
theorem mis_le (p : Int) (f xs ys : List Int) : (mis p f xs ys).length ≤ xs.length := by
  rw [mis_len]
  refine Nat.le_trans (List.length_filter_le _ _) ?_
  rw [List.length_zip]; omega
set_option maxRecDepth 100000 in
set_option maxHeartbeats 8000000 in
theorem missed_any (p : Int) (vf : Value) (ax ay : Option Addr) (n cx cy : Nat) (f xs ys : List Int) (w : World) (hp : 1 ≤ p) (hp2 : p ≤ 1073741824) (hf : Els p f) (hx : Els p xs) (hsf : Ints w vf f) (hsx : Ints w (.slice ax n cx) xs) (hsy : Ints w (.slice ay n cy) ys) (hnx : xs.length = n) (hny : ys.length = n) (hn : n ≤ 1000) :
    Calls Tryz.prog 48 #[.int .i64 p, vf, .slice ax n cx, .slice ay n cy] w fun e w' => ∃ v, e = .returned v ∧ Gath w' w.heap.size v (mis p f xs ys) ∧ Below w.heap.size w w' := by
  obtain ⟨g, hg⟩ : ∃ g, w.heap.size = g := ⟨_, rfl⟩
  have HGG := Lib.hid hg
  have HSX := Lib.hid hsx
  have HSY := Lib.hid hsy
  have HNX := Lib.hid hnx
  have HNY := Lib.hid hny
  have HEX := Lib.hid hx
  have HEV := Lib.hid (fun (x : Int) (hx : El p x) (W : World) (hW : Below g w W) => eval_any (x := x) W hp hp2 hx hf (hsf.below (Nat.le_of_eq hg) hW))
  have HW0 : Hid (Below g w w) := Below.refl _ _
  have HG0 : Hid (Gath w g (.slice none 0 0) (mis p f (xs.take 0) (ys.take 0))) := gath_nil _ _
  have HZ0 : Hid (g ≤ w.heap.size) := Nat.le_of_eq hg.symm
  rw [hg]
  clear hsx hsy hnx hny hx hsf hf hg
  go_enter Tryz.func48, Tryz.ntmps48
  go_wp2_with fail
  go_loopw [9, 10, 11, 14] (fun v _ _ i wr => ∃ k : Nat, k ≤ n ∧ i = .int .i64 k ∧ Hid (Gath wr g v (mis p f (xs.take k) (ys.take k))) ∧ Hid (Below g w wr) ∧ Hid (g ≤ wr.heap.size)) (fun _ _ _ i _ => n - (intOf i).toNat)
  case atStart => exact ⟨0, Nat.zero_le _, rfl, HG0, HW0, HZ0⟩
  case round =>
    obtain ⟨k, hk, rfl, HG, HB, HZ⟩ := hrel
    by_cases hlt : k < n
    · obtain ⟨bx, ox, rfl, cx0⟩ := (HSX.out.below (Nat.le_of_eq HGG.out) HB.out).pos hlt
      obtain ⟨by0, oy, rfl, cy0w⟩ := HSY.out.pos hlt
      have hby := cell_lt cy0w
      rw [HGG.out] at hby
      have HCY := Lib.hid (fun (W : World) (hW : Below g w W) => (hW.cell (p := ⟨by0, oy + k, none⟩) hby).trans cy0w)
      have cy0 := HCY.out wr HB.out
      have hxe : El p (xs.getD k 0) := els_getD hp HEX.out k
      have HMT := Lib.hid (mis_take (p := p) (f := f) (xs := xs) (ys := ys) (k := k) (by rw [HNX.out]; exact hlt) (by rw [HNX.out, HNY.out]))
      obtain ⟨x, hxv⟩ : ∃ x, xs.getD k 0 = x := ⟨_, rfl⟩
      obtain ⟨y, hyv⟩ : ∃ y, ys.getD k 0 = y := ⟨_, rfl⟩
      rw [hxv] at cx0 hxe HMT
      rw [hyv] at cy0 HMT HCY
      have HBD : Hid (Below g w wr.drew) := HB.out.trans ((Below.refl _ _).drew)
      have HEW := Lib.hid (HEV.out x hxe wr.drew HBD.out)
      obtain ⟨z, hz⟩ : ∃ z, E f x % p = z := ⟨_, rfl⟩
      rw [hz] at HEW HMT
      have HGD : Hid (Gath wr.drew g u9 (mis p f (xs.take k) (ys.take k))) := HG.out.kept ((Below.refl _ _).drew) (Nat.le_refl _)
      have HZD : Hid (g ≤ wr.drew.heap.size) := HZ.out
      clear hxv hyv hz hxe cy0w hby HG HEV
      go_wp2_with fail
      apply region_oneW (fun W => Hid (Gath W g u9 (mis p f (xs.take k) (ys.take k))) ∧ Hid (Below g w W) ∧ Hid (g ≤ W.heap.size))
      case hr =>
        refine wp_region_noPanic ?_
        go_region_held3 (fun W' => W'.cell? ⟨by0, oy + k, none⟩ = some (.int .i64 y)) (first | go_keep | exact HSK)
          ((go_at_call 47; refine HEW.out.mono ?_; rintro e w5 ⟨rfl, hb5⟩; have HB5 : Hid (Below g w w5) := HBD.out.trans (hb5.mono HZD.out); have HSK := HCY.out w5 HB5.out; have HG5 : Hid (Gath w5 g u9 (mis p f (xs.take k) (ys.take k))) := HGD.out.kept hb5 (Nat.le_refl _); have HZ5 : Hid (g ≤ w5.heap.size) := Nat.le_trans HZD.out hb5.size; clear hb5))
        all_goals
          refine NoPanic.normal ?_
          exact ⟨rfl, rfl, HG5, HB5, HZ5⟩
      rintro w6 ⟨HG6, HB6, HZ6⟩
      clear HGD HBD HZD HEW cy0 HCY cx0 HB HZ
      by_cases hzy : z = y
      · have hne : (z != y) = false := by simp [hzy]
        have HGN : Hid (Gath w6 g u9 (mis p f (xs.take (k + 1)) (ys.take (k + 1)))) := by
          have h := HMT.out
          rw [if_pos hzy, List.append_nil] at h
          rw [h]; exact HG6
        clear hzy
        go_wp2_with fail
        go_roundw
        case rel => exact ⟨k + 1, by omega, by go_num, HGN, HB6, HZ6⟩
        case measure => simp [intOf]; omega
      · have hne : (z != y) = true := by simp [hzy]
        have HMN : Hid (mis p f (xs.take (k + 1)) (ys.take (k + 1)) = mis p f (xs.take k) (ys.take k) ++ [x]) := by
          have h := HMT.out
          rw [if_neg hzy] at h
          exact h
        have HML : Hid ((mis p f (xs.take k) (ys.take k)).length < 17592186044416) := by
          show _ < _
          have := mis_le p f (xs.take k) (ys.take k)
          rw [List.length_take] at this
          omega
        clear hzy
        go_wp2_with (at_builtin; refine append_one _ rfl _ _ rfl g _ _ x rfl (HG6.out.alloc _) ⟨w6.heap.size, 0, none⟩ rfl (cell_alloc_new _ _ _ _ rfl) HML.out (by have := HZ6.out; simp; omega) ?_; intro v7 w7 hg7 hgr7)
        have HG7 : Hid (Gath w7 g v7 (mis p f (xs.take (k + 1)) (ys.take (k + 1)))) := by rw [HMN.out]; exact hg7
        have HB7 : Hid (Below g w w7) := (HB6.out.alloc HZ6.out _).grown hgr7 (by have := HZ6.out; simp; omega) (fun q hq => (World.ownsRow.lt HG6.out q hq).1)
        have HZ7 : Hid (g ≤ w7.heap.size) := by show _ ≤ _; have h1 := hgr7.size; have h2 := HZ6.out; simp at h1; omega
        clear hg7 hgr7
        go_roundw
        case rel => exact ⟨k + 1, by omega, by go_num, HG7, HB7, HZ7⟩
        case measure => simp [intOf]; omega
    · obtain rfl : k = n := by omega
      have HF : Hid (Gath wr g u9 (mis p f xs ys)) := by
        have h := HG.out
        rw [List.take_of_length_le (Nat.le_of_eq HNX.out), List.take_of_length_le (Nat.le_of_eq HNY.out)] at h
        exact h
      go_wp2_with fail
      go_ret
      exact ⟨_, rfl, HF.out, HB.out⟩

/-! ### zeros -/
structure ZerI (p : Int) (xs : List Int) (k : Nat) (Z : List Int) : Prop where
  els : Els p Z
  deg : dg Z = k + 1
  len : Z.length ≤ k + 1
  zer : ∀ j, j < k → Cg p (E Z (xs.getD j 0)) 0
theorem zer_step {p : Int} (hp : PrmI p) {xs Z Z' : List Int} {k : Nat} (h : ZerI p xs k Z) (hx : El p (xs.getD k 0)) (hz : Prod p Z [(p - xs.getD k 0) % p, 1] Z') : ZerI p xs (k + 1) Z' := by
  have hp2 := hp.1
  have hb : Els p [(p - xs.getD k 0) % p, 1] := fun y hy => by
    rcases List.mem_cons.1 hy with rfl | hy
    · exact el_mod (by omega) _
    · rw [List.mem_singleton.1 hy]; exact ⟨by omega, by omega⟩
  have hE : ∀ t, Cg p (E [(p - xs.getD k 0) % p, 1] t) (t - xs.getD k 0) := fun t => by
    have e1 : E [(p - xs.getD k 0) % p, 1] t = (p - xs.getD k 0) % p + t * (1 + t * 0) := rfl
    rw [e1]
    have h1 : Cg p (p - xs.getD k 0) (0 - xs.getD k 0) := ⟨1, by omega⟩
    exact (((Cg.mod p _).trans h1).add (Cg.refl p (t * (1 + t * 0)))).trans (Cg.of_eq (by grind))
  refine ⟨hz.els, ?_, ?_, fun j hj => ?_⟩
  · have := dg_of_pc (r := []) hp hz.els h.els hb (by rw [h.deg]) (show dg [(p - xs.getD k 0) % p, 1] = 1 + 1 by simp [dg]) (by simp [dg]) (hz.pc.trans (Pc.of_eq fun x => by simp [E]))
    omega
  · have h1 := hz.len
    have h2 := h.len
    simp only [List.length_cons, List.length_nil] at h1
    omega
  · refine (hz.pc.cg _).trans ?_
    by_cases e : j = k
    · subst e
      refine ((Cg.refl p _).mul (hE _)).trans (Cg.of_eq ?_)
      rw [Int.sub_self, Int.mul_zero]
    · refine ((h.zer j (by omega)).mul (Cg.refl p _)).trans (Cg.of_eq (by simp))
set_option maxRecDepth 100000 in
set_option maxHeartbeats 8000000 in
theorem zeros_any (p : Int) (ax : Option Addr) (n cx : Nat) (xs : List Int) (w : World) (hp : PrmI p) (hp2 : p ≤ 1073741824) (hx : Els p xs) (hsx : Ints w (.slice ax n cx) xs) (hnx : xs.length = n) (hn : n ≤ 1000) :
    Calls Tryz.prog 87 #[.int .i64 p, .slice ax n cx] w fun e w' => ∃ v Z, e = .returned v ∧ Ints w' v Z ∧ ZerI p xs n Z ∧ Below w.heap.size w w' := by
  have hp0 := hp.1
  have hp1 : 1 ≤ p := by omega
  obtain ⟨g, hg⟩ : ∃ g, w.heap.size = g := ⟨_, rfl⟩
  have HGG := Lib.hid hg
  have HSX := Lib.hid hsx
  have HNX := Lib.hid hnx
  have HEX := Lib.hid hx
  have HPR := Lib.hid hp
  obtain ⟨w1, hw1⟩ : ∃ w1, w.alloc (.cells #[.int .i64 1] 3) = w1 := ⟨_, rfl⟩
  have HI1 : Hid (Ints w1 (.slice (some ⟨g, 0, none⟩) 1 1) [1]) := by rw [← hw1, ← hg]; exact (ints_one w 1 3)
  have HB1 : Hid (Below g w w1) := by rw [← hw1, ← hg]; exact (Below.refl _ _).alloc (Nat.le_refl _) _
  have HZI : Hid (ZerI p xs 0 [1]) := ⟨fun x hx => by simp at hx; subst hx; exact ⟨by omega, by omega⟩, rfl, by simp, fun j hj => by omega⟩
  rw [hg]
  clear hsx hnx hx hp
  go_enter Tryz.func87, Tryz.ntmps87
  go_wp2_with fail
  clear hw1 hg
  go_loopw [5, 7, 11] (fun v _ i wr => ∃ (k : Nat) (Z : List Int), k ≤ n ∧ i = .int .i64 k ∧ Hid (Ints wr v Z) ∧ Hid (ZerI p xs k Z) ∧ Hid (Below g w wr)) (fun _ _ i _ => n - (intOf i).toNat)
  case atStart => exact ⟨0, [1], Nat.zero_le _, rfl, HI1, HZI, HB1⟩
  case round =>
    obtain ⟨k, Z, hk, rfl, HI, HZ, HB⟩ := hrel
    by_cases hlt : k < n
    · obtain ⟨bx, ox, rfl, cx0⟩ := (HSX.out.below (Nat.le_of_eq HGG.out) HB.out).pos hlt
      have hxe : El p (xs.getD k 0) := els_getD hp1 HEX.out k
      have HST := Lib.hid (fun Z' => zer_step (Z' := Z') HPR.out HZ.out hxe)
      obtain ⟨x, hxv⟩ : ∃ x, xs.getD k 0 = x := ⟨_, rfl⟩
      rw [hxv] at cx0 hxe HST
      have hx0 := hxe.1
      have hx1 := hxe.2
      have HGS : Hid (g ≤ wr.heap.size) := by show _ ≤ _; have := HB.out.size; have := HGG.out; omega
      obtain ⟨gr, hgr⟩ : ∃ gr, wr.heap.size = gr := ⟨_, rfl⟩
      obtain ⟨c, hc⟩ : ∃ c, (p - x) % p = c := ⟨_, rfl⟩
      have hce : El p c := by rw [← hc]; exact el_mod hp1 _
      have hal := (Below.refl wr.heap.size wr).alloc (Nat.le_refl _) (.cells #[.int .i64 c, .int .i64 1] 3)
      have HMU := Lib.hid (pmul_any (sa := u5) (sb := .slice (some ⟨gr, 0, none⟩) 2 2) (a := Z) (b := [c, 1]) (wr.alloc (.cells #[.int .i64 c, .int .i64 1] 3)) hp1 hp2 HZ.out.els (fun y hy => by
        rcases List.mem_cons.1 hy with rfl | hy
        · exact hce
        · rw [List.mem_singleton.1 hy]; exact ⟨by omega, by omega⟩) (HI.out.below (Nat.le_refl _) hal) (by rw [← hgr]; exact ints_two wr c 1 3) (by have := HZ.out.len; simp; omega))
      rw [hc] at HST
      have HCC := Lib.hid hc
      have HBA : Hid (Below g w (wr.alloc (.cells #[.int .i64 c, .int .i64 1] 3))) := HB.out.trans (hal.mono HGS.out)
      have hxp : 1 ≤ p - x := by omega
      have hxq : p - x ≤ 1073741824 := by omega
      have hw1 : IntKind.i64.wrap (p - x) = p - x := by rw [IntKind.wrap_i64]; omega
      clear hal hce hxe hxv hx0 hx1
      go_wp2_with (go_at_call 91; refine HMU.out.mono ?_; rintro e w5 ⟨v5, Z5, rfl, hi5, hz5, hb5⟩)
      have HI5 := Lib.hid hi5
      have HZ5 := Lib.hid (HST.out Z5 hz5)
      have HB5 : Hid (Below g w w5) := HBA.out.trans (hb5.mono (by have := HGS.out; simp; omega))
      clear hi5 hz5 hb5
      go_roundw
      case rel => exact ⟨k + 1, Z5, by omega, by go_num, HI5, HZ5, HB5⟩
      case measure => simp [intOf]; omega
    · obtain rfl : k = n := by omega
      go_wp2_with fail
      go_ret
      exact ⟨_, Z, rfl, HI.out, HZ.out, HB.out⟩
end Go.Proofs.YtdidplpbkfkdeaaGreatDoor
