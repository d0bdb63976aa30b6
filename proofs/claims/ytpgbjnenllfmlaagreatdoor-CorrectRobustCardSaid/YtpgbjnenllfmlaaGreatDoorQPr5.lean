
/- The program's package correct: Room, missed, zeros, minus. -/
import Derived.Test.YtpgbjnenllfmlaaGreatDoorHFit
import Derived.Test.YtpgbjnenllfmlaaGreatDoorHTur
import Derived.Test.YtpgbjnenllfmlaaGreatDoorQMth
import Derived.Test.YtpgbjnenllfmlaaGreatDoorThru
import Derived.Deep.RegionHeld3
import Derived.Deep.RegionLaw
import Derived.Test.YtpgbjnenllfmlaaGreatDoorWts
import Derived.Test.YtpgbjnenllfmlaaGreatDoorDiv
import Derived.Test.YtpgbjnenllfmlaaGreatDoorHPa
import Derived.Maps.OwnSet
import Derived.Maps.Views
/-! The program's package correct: Room, missed, zeros, minus. -/
namespace Go.Proofs.YtpgbjnenllfmlaaGreatDoor
open Go.RowKit
open Num
set_option linter.unusedVariables false

/-- How many of so many may be wrong. -/
def roomV (k s : Int) : Int := if s < k then -1 else (s - k) / 2
theorem wf_range {k : Int} (h : (Lit.int .i64 k).wf = true) : -9223372036854775808 ≤ k ∧ k ≤ 9223372036854775807 := by
  simp only [Lit.wf, Bool.and_eq_true, decide_eq_true_eq] at h
  exact h
set_option maxRecDepth 100000 in
set_option maxHeartbeats 4000000 in
theorem room_any (p k n s : Int) (w : World) (hk1 : 1 ≤ k) (hk : (Lit.int .i64 k).wf = true) (hs : (Lit.int .i64 s).wf = true) :
    Calls Tryz.prog 24 #[planV p k n, .int .i64 s] w fun e w' => e = .returned (.int .i64 (roomV k s)) ∧ Below w.heap.size w w' := by
  unfold planV
  have HB : Hid (Below w.heap.size w (w.alloc (Obj.cells #[Value.int IntKind.i64 p, Value.int IntKind.i64 k, Value.int IntKind.i64 n] 31))) := (Below.refl _ _).alloc (Nat.le_refl _) _
  have hk2 := wf_range hk
  have hs2 := wf_range hs
  by_cases hlt : s < k
  · have HR : Hid (roomV k s = -1) := by show _ = _; unfold roomV; rw [if_pos hlt]
    rw [HR.out]
    clear hk hs hk2 hs2
    go_enter Tryz.func24, Tryz.ntmps24
    go_wp2
    go_ret
    exact ⟨rfl, HB.out⟩
  · have HR : Hid (roomV k s = (s - k) / 2) := by show _ = _; unfold roomV; rw [if_neg hlt]
    rw [HR.out]
    have u1 : IntKind.u64.wrap s = s := by rw [IntKind.wrap_u64]; omega
    have u2 : IntKind.u64.wrap k = k := by rw [IntKind.wrap_u64]; omega
    have u3 : IntKind.u64.wrap (s - k) = s - k := by rw [IntKind.wrap_u64]; omega
    have u5 : 0 ≤ s - k := by omega
    obtain ⟨r, hr⟩ : ∃ r, (s - k) / 2 = r := ⟨_, rfl⟩
    have u4 : IntKind.i64.wrap r = r := by rw [IntKind.wrap_i64]; omega
    have u6 : 0 ≤ r := by omega
    have u7 : (s - k).tdiv 2 = r := by rw [Int.tdiv_eq_ediv_of_nonneg u5]; exact hr
    have u8 : IntKind.u64.wrap r = r := by rw [IntKind.wrap_u64]; omega
    clear hk hs hk2 hs2
    go_enter Tryz.func24, Tryz.ntmps24
    go_wp2
    go_ret
    exact ⟨by simp [*], HB.out⟩
/-- The places of the points that a polynomial lacks. -/
theorem mis_take {p : Int} {f xs ys : List Int} {k : Nat} (hk : k < xs.length) (hl : xs.length = ys.length) : mis p f (xs.take (k + 1)) (ys.take (k + 1)) = mis p f (xs.take k) (ys.take k) ++ (if E f (xs.getD k 0) % p = ys.getD k 0 then [] else [xs.getD k 0]) := by
  have h1 : (xs.take (k + 1)).zip (ys.take (k + 1)) = (xs.take k).zip (ys.take k) ++ [(xs.getD k 0, ys.getD k 0)] := by
    unfold List.zip
    rw [← List.take_zipWith, ← List.take_zipWith, List.take_add_one, List.getElem?_eq_getElem (by rw [List.length_zipWith]; omega), List.getElem_zipWith, getD_lt hk, getD_lt (by omega)]
    rfl
  unfold mis
  rw [h1, List.filter_append, List.map_append]
  congr 1
  by_cases e : E f (xs.getD k 0) % p = ys.getD k 0
  · have e2 : (!(E f (xs.getD k 0) % p == ys.getD k 0)) = false := by rw [e]; simp
    rw [if_pos e]; simp only [List.filter_cons, e2]; rfl
  · have e2 : (!(E f (xs.getD k 0) % p == ys.getD k 0)) = true := by simp only [Bool.not_eq_true', beq_eq_false_iff_ne]; exact e
    rw [if_neg e]; simp only [List.filter_cons, e2]; rfl
theorem mis_le (p : Int) (f xs ys : List Int) : (mis p f xs ys).length ≤ xs.length := by
  rw [mis_len]
  refine Nat.le_trans (List.length_filter_le _ _) ?_
  rw [List.length_zip]; omega
set_option maxRecDepth 100000 in
set_option maxHeartbeats 8000000 in
theorem missed_any (p : Int) (vf : Value) (ax ay : Option Addr) (n cx cy : Nat) (f xs ys : List Int) (w : World) (hp : 1 ≤ p) (hp2 : p ≤ 1073741824) (hf : Els p f) (hx : Els p xs) (hsf : Ints w vf f) (hsx : Ints w (.slice ax n cx) xs) (hsy : Ints w (.slice ay n cy) ys) (hnx : xs.length = n) (hny : ys.length = n) (hn : n ≤ 1000) :
    Calls Tryz.prog 35 #[.int .i64 p, vf, .slice ax n cx, .slice ay n cy] w fun e w' => ∃ v, e = .returned v ∧ Gath w' w.heap.size v (mis p f xs ys) ∧ Below w.heap.size w w' := by
  obtain ⟨g, hg⟩ : ∃ g, w.heap.size = g := ⟨_, rfl⟩
  have HGG := Lib.hid hg
  have HSX := Lib.hid hsx
  have HSY := Lib.hid hsy
  have HNX := Lib.hid hnx
  have HNY := Lib.hid hny
  have HEX := Lib.hid hx
  have HEV := Lib.hid (fun (x : Int) (hx : El p x) (W : World) (hW : Below g w W) => eval_any (x := x) W hp hp2 hx hf (hsf.below (Nat.le_of_eq hg) hW))
  have HW0 : Hid (Below g w w) := Below.refl _ _
  have HG0 : Hid (Gath w g (.slice none 0 0) (mis p f (xs.take 0) (ys.take 0))) := gath_nil _ _
  have HZ0 : Hid (g ≤ w.heap.size) := Nat.le_of_eq hg.symm
  rw [hg]
  clear hsx hsy hnx hny hx hsf hf hg
  go_enter Tryz.func35, Tryz.ntmps35
  go_wp2_with fail
  go_loopw [9, 10, 11, 14] (fun v _ _ i wr => ∃ k : Nat, k ≤ n ∧ i = .int .i64 k ∧ Hid (Gath wr g v (mis p f (xs.take k) (ys.take k))) ∧ Hid (Below g w wr) ∧ Hid (g ≤ wr.heap.size)) (fun _ _ _ i _ => n - (intOf i).toNat)
  case atStart => exact ⟨0, Nat.zero_le _, rfl, HG0, HW0, HZ0⟩
  case round =>
    obtain ⟨k, hk, rfl, HG, HB, HZ⟩ := hrel
    by_cases hlt : k < n
    · obtain ⟨bx, ox, rfl, cx0⟩ := (HSX.out.below (Nat.le_of_eq HGG.out) HB.out).pos hlt
      obtain ⟨by0, oy, rfl, cy0w⟩ := HSY.out.pos hlt
      have hby := cell_lt cy0w
      rw [HGG.out] at hby
      have HCY := Lib.hid (fun (W : World) (hW : Below g w W) => (hW.cell (p := ⟨by0, oy + k, none⟩) hby).trans cy0w)
      have cy0 := HCY.out wr HB.out
      have hxe : El p (xs.getD k 0) := els_getD hp HEX.out k
      have HMT := Lib.hid (mis_take (p := p) (f := f) (xs := xs) (ys := ys) (k := k) (by rw [HNX.out]; exact hlt) (by rw [HNX.out, HNY.out]))
      obtain ⟨x, hxv⟩ : ∃ x, xs.getD k 0 = x := ⟨_, rfl⟩
      obtain ⟨y, hyv⟩ : ∃ y, ys.getD k 0 = y := ⟨_, rfl⟩
      rw [hxv] at cx0 hxe HMT
      rw [hyv] at cy0 HMT HCY
      have HBD : Hid (Below g w wr.drew) := HB.out.trans ((Below.refl _ _).drew)
      have HEW := Lib.hid (HEV.out x hxe wr.drew HBD.out)
      obtain ⟨z, hz⟩ : ∃ z, E f x % p = z := ⟨_, rfl⟩
      rw [hz] at HEW HMT
      have HGD : Hid (Gath wr.drew g u9 (mis p f (xs.take k) (ys.take k))) := HG.out.kept ((Below.refl _ _).drew) (Nat.le_refl _)
      have HZD : Hid (g ≤ wr.drew.heap.size) := HZ.out
      clear hxv hyv hz hxe cy0w hby HG HEV
      go_wp2_with fail
      apply region_oneW (fun W => Hid (Gath W g u9 (mis p f (xs.take k) (ys.take k))) ∧ Hid (Below g w W) ∧ Hid (g ≤ W.heap.size))
      case hr =>
        refine wp_region_noPanic ?_
        go_region_held3 (fun W' => W'.cell? ⟨by0, oy + k, none⟩ = some (.int .i64 y)) (first | go_keep | exact HSK)
          ((go_at_call 34; refine HEW.out.mono ?_; rintro e w5 ⟨rfl, hb5⟩; have HB5 : Hid (Below g w w5) := HBD.out.trans (hb5.mono HZD.out); have HSK := HCY.out w5 HB5.out; have HG5 : Hid (Gath w5 g u9 (mis p f (xs.take k) (ys.take k))) := HGD.out.kept hb5 (Nat.le_refl _); have HZ5 : Hid (g ≤ w5.heap.size) := Nat.le_trans HZD.out hb5.size; clear hb5))
        all_goals
          refine NoPanic.normal ?_
          exact ⟨rfl, rfl, HG5, HB5, HZ5⟩
      rintro w6 ⟨HG6, HB6, HZ6⟩
      clear HGD HBD HZD HEW cy0 HCY cx0 HB HZ
      by_cases hzy : z = y
      · have hne : (z != y) = false := by simp [hzy]
        have HGN : Hid (Gath w6 g u9 (mis p f (xs.take (k + 1)) (ys.take (k + 1)))) := by
          have h := HMT.out
          rw [if_pos hzy, List.append_nil] at h
          rw [h]; exact HG6
        clear hzy
        go_wp2_with fail
        go_roundw
        case rel => exact ⟨k + 1, by omega, by go_num, HGN, HB6, HZ6⟩
        case measure => simp [intOf]; omega
      · have hne : (z != y) = true := by simp [hzy]
        have HMN : Hid (mis p f (xs.take (k + 1)) (ys.take (k + 1)) = mis p f (xs.take k) (ys.take k) ++ [x]) := by
          have h := HMT.out
          rw [if_neg hzy] at h
          exact h
        have HML : Hid ((mis p f (xs.take k) (ys.take k)).length < 17592186044416) := by
          show _ < _
          have := mis_le p f (xs.take k) (ys.take k)
          rw [List.length_take] at this
          omega
        clear hzy
        go_wp2_with (at_builtin; refine append_one _ rfl _ _ rfl g _ _ x rfl (HG6.out.alloc _) ⟨w6.heap.size, 0, none⟩ rfl (cell_alloc_new _ _ _ _ rfl) HML.out (by have := HZ6.out; simp; omega) ?_; intro v7 w7 hg7 hgr7)
        have HG7 : Hid (Gath w7 g v7 (mis p f (xs.take (k + 1)) (ys.take (k + 1)))) := by rw [HMN.out]; exact hg7
        have HB7 : Hid (Below g w w7) := (HB6.out.alloc HZ6.out _).grown hgr7 (by have := HZ6.out; simp; omega) (fun q hq => (World.ownsRow.lt HG6.out q hq).1)
        have HZ7 : Hid (g ≤ w7.heap.size) := by show _ ≤ _; have h1 := hgr7.size; have h2 := HZ6.out; simp at h1; omega
        clear hg7 hgr7
        go_roundw
        case rel => exact ⟨k + 1, by omega, by go_num, HG7, HB7, HZ7⟩
        case measure => simp [intOf]; omega
    · obtain rfl : k = n := by omega
      have HF : Hid (Gath wr g u9 (mis p f xs ys)) := by
        have h := HG.out
        rw [List.take_of_length_le (Nat.le_of_eq HNX.out), List.take_of_length_le (Nat.le_of_eq HNY.out)] at h
        exact h
      go_wp2_with fail
      go_ret
      exact ⟨_, rfl, HF.out, HB.out⟩

/-! ### zeros -/
structure ZerI (p : Int) (xs : List Int) (k : Nat) (Z : List Int) : Prop where
  els : Els p Z
  deg : dg Z = k + 1
  len : Z.length ≤ k + 1
  zer : ∀ j, j < k → Cg p (E Z (xs.getD j 0)) 0
theorem zer_step {p : Int} (hp : PrmI p) {xs Z Z' : List Int} {k : Nat} (h : ZerI p xs k Z) (hx : El p (xs.getD k 0)) (hz : Prod p Z [(p - xs.getD k 0) % p, 1] Z') : ZerI p xs (k + 1) Z' := by
  have hp2 := hp.1
  have hb : Els p [(p - xs.getD k 0) % p, 1] := fun y hy => by
    rcases List.mem_cons.1 hy with rfl | hy
    · exact el_mod (by omega) _
    · rw [List.mem_singleton.1 hy]; exact ⟨by omega, by omega⟩
  have hE : ∀ t, Cg p (E [(p - xs.getD k 0) % p, 1] t) (t - xs.getD k 0) := fun t => by
    have e1 : E [(p - xs.getD k 0) % p, 1] t = (p - xs.getD k 0) % p + t * (1 + t * 0) := rfl
    rw [e1]
    have h1 : Cg p (p - xs.getD k 0) (0 - xs.getD k 0) := ⟨1, by omega⟩
    exact (((Cg.mod p _).trans h1).add (Cg.refl p (t * (1 + t * 0)))).trans (Cg.of_eq (by grind))
  refine ⟨hz.els, ?_, ?_, fun j hj => ?_⟩
  · have := dg_of_pc (r := []) hp hz.els h.els hb (by rw [h.deg]) (show dg [(p - xs.getD k 0) % p, 1] = 1 + 1 by simp [dg]) (by simp [dg]) (hz.pc.trans (Pc.of_eq fun x => by simp [E]))
    omega
  · have h1 := hz.len
    have h2 := h.len
    simp only [List.length_cons, List.length_nil] at h1
    omega
  · refine (hz.pc.cg _).trans ?_
    by_cases e : j = k
    · subst e
      refine ((Cg.refl p _).mul (hE _)).trans (Cg.of_eq ?_)
      rw [Int.sub_self, Int.mul_zero]
    · refine ((h.zer j (by omega)).mul (Cg.refl p _)).trans (Cg.of_eq (by simp))
set_option maxRecDepth 100000 in
set_option maxHeartbeats 8000000 in
theorem zeros_any (p : Int) (ax : Option Addr) (n cx : Nat) (xs : List Int) (w : World) (hp : PrmI p) (hp2 : p ≤ 1073741824) (hx : Els p xs) (hsx : Ints w (.slice ax n cx) xs) (hnx : xs.length = n) (hn : n ≤ 1000) :
    Calls Tryz.prog 83 #[.int .i64 p, .slice ax n cx] w fun e w' => ∃ v Z, e = .returned v ∧ Ints w' v Z ∧ ZerI p xs n Z ∧ Below w.heap.size w w' := by
  have hp0 := hp.1
  have hp1 : 1 ≤ p := by omega
  obtain ⟨g, hg⟩ : ∃ g, w.heap.size = g := ⟨_, rfl⟩
  have HGG := Lib.hid hg
  have HSX := Lib.hid hsx
  have HNX := Lib.hid hnx
  have HEX := Lib.hid hx
  have HPR := Lib.hid hp
  obtain ⟨w1, hw1⟩ : ∃ w1, w.alloc (.cells #[.int .i64 1] 3) = w1 := ⟨_, rfl⟩
  have HI1 : Hid (Ints w1 (.slice (some ⟨g, 0, none⟩) 1 1) [1]) := by rw [← hw1, ← hg]; exact (ints_one w 1 3)
  have HB1 : Hid (Below g w w1) := by rw [← hw1, ← hg]; exact (Below.refl _ _).alloc (Nat.le_refl _) _
  have HZI : Hid (ZerI p xs 0 [1]) := ⟨fun x hx => by simp at hx; subst hx; exact ⟨by omega, by omega⟩, rfl, by simp, fun j hj => by omega⟩
  rw [hg]
  clear hsx hnx hx hp
  go_enter Tryz.func83, Tryz.ntmps83
  go_wp2_with fail
  clear hw1 hg
  go_loopw [5, 7, 11] (fun v _ i wr => ∃ (k : Nat) (Z : List Int), k ≤ n ∧ i = .int .i64 k ∧ Hid (Ints wr v Z) ∧ Hid (ZerI p xs k Z) ∧ Hid (Below g w wr)) (fun _ _ i _ => n - (intOf i).toNat)
  case atStart => exact ⟨0, [1], Nat.zero_le _, rfl, HI1, HZI, HB1⟩
  case round =>
    obtain ⟨k, Z, hk, rfl, HI, HZ, HB⟩ := hrel
    by_cases hlt : k < n
    · obtain ⟨bx, ox, rfl, cx0⟩ := (HSX.out.below (Nat.le_of_eq HGG.out) HB.out).pos hlt
      have hxe : El p (xs.getD k 0) := els_getD hp1 HEX.out k
      have HST := Lib.hid (fun Z' => zer_step (Z' := Z') HPR.out HZ.out hxe)
      obtain ⟨x, hxv⟩ : ∃ x, xs.getD k 0 = x := ⟨_, rfl⟩
      rw [hxv] at cx0 hxe HST
      have hx0 := hxe.1
      have hx1 := hxe.2
      have HGS : Hid (g ≤ wr.heap.size) := by show _ ≤ _; have := HB.out.size; have := HGG.out; omega
      obtain ⟨gr, hgr⟩ : ∃ gr, wr.heap.size = gr := ⟨_, rfl⟩
      obtain ⟨c, hc⟩ : ∃ c, (p - x) % p = c := ⟨_, rfl⟩
      have hce : El p c := by rw [← hc]; exact el_mod hp1 _
      have hal := (Below.refl wr.heap.size wr).alloc (Nat.le_refl _) (.cells #[.int .i64 c, .int .i64 1] 3)
      have HMU := Lib.hid (pmul_any (sa := u5) (sb := .slice (some ⟨gr, 0, none⟩) 2 2) (a := Z) (b := [c, 1]) (wr.alloc (.cells #[.int .i64 c, .int .i64 1] 3)) hp1 hp2 HZ.out.els (fun y hy => by
        rcases List.mem_cons.1 hy with rfl | hy
        · exact hce
        · rw [List.mem_singleton.1 hy]; exact ⟨by omega, by omega⟩) (HI.out.below (Nat.le_refl _) hal) (by rw [← hgr]; exact ints_two wr c 1 3) (by have := HZ.out.len; simp; omega))
      rw [hc] at HST
      have HCC := Lib.hid hc
      have HBA : Hid (Below g w (wr.alloc (.cells #[.int .i64 c, .int .i64 1] 3))) := HB.out.trans (hal.mono HGS.out)
      have hxp : 1 ≤ p - x := by omega
      have hxq : p - x ≤ 1073741824 := by omega
      have hw1 : IntKind.i64.wrap (p - x) = p - x := by rw [IntKind.wrap_i64]; omega
      clear hal hce hxe hxv hx0 hx1
      go_wp2_with (go_at_call 87; refine HMU.out.mono ?_; rintro e w5 ⟨v5, Z5, rfl, hi5, hz5, hb5⟩)
      have HI5 := Lib.hid hi5
      have HZ5 := Lib.hid (HST.out Z5 hz5)
      have HB5 : Hid (Below g w w5) := HBA.out.trans (hb5.mono (by have := HGS.out; simp; omega))
      clear hi5 hz5 hb5
      go_roundw
      case rel => exact ⟨k + 1, Z5, by omega, by go_num, HI5, HZ5, HB5⟩
      case measure => simp [intOf]; omega
    · obtain rfl : k = n := by omega
      go_wp2_with fail
      go_ret
      exact ⟨_, Z, rfl, HI.out, HZ.out, HB.out⟩
end Go.Proofs.YtpgbjnenllfmlaaGreatDoor
/-! The program's package correct: minus, likely, having. -/
namespace Go.Proofs.YtpgbjnenllfmlaaGreatDoor
open Go.RowKit
open Num
set_option linter.unusedVariables false

set_option maxRecDepth 100000 in
set_option maxHeartbeats 8000000 in
theorem minus_any (p : Int) (aa ab : Option Addr) (la lb ca cb : Nat) (a b : List Int) (w : World) (hp : 1 ≤ p) (hp2 : p ≤ 1073741824) (ha : Els p a) (hb : Els p b) (hsa : Ints w (.slice aa la ca) a) (hsb : Ints w (.slice ab lb cb) b) (hla : a.length = la) (hlb : b.length = lb) (hle : la ≤ lb) (hn : lb ≤ 100000) :
    Calls Tryz.prog 86 #[.int .i64 p, .slice aa la ca, .slice ab lb cb] w fun e w' => e = .returned (.slice (some ⟨w.heap.size, 0, none⟩) lb lb) ∧ Row w' w.heap.size (minL p a b) ∧ Below w.heap.size w w' := by
  obtain ⟨g, hg⟩ : ∃ g, w.heap.size = g := ⟨_, rfl⟩
  have HGG := Lib.hid hg
  have HSA := Lib.hid (fun W (hW : Below g w W) => hsa.below (Nat.le_of_eq hg) hW)
  have HSB := Lib.hid (fun W (hW : Below g w W) => hsb.below (Nat.le_of_eq hg) hW)
  have HLA := Lib.hid hla
  have HLB := Lib.hid hlb
  have HEA := Lib.hid ha
  have HEB := Lib.hid hb
  have hmk := run_make_row' (P := Tryz.prog) 22 3 (.int .i64 0) 8 Tryz.underlying22 infoInt rfl .i64 .i64 lb (by omega) (by omega)
  obtain ⟨w1, hw1⟩ : ∃ w1, w.alloc (.cells (madeCells #[.int .i64 0] lb) 3) = w1 := ⟨_, rfl⟩
  have HR1 : Hid (Row w1 g (List.replicate lb 0)) := by rw [← hw1, ← hg]; exact Row.made w lb
  have HB1 : Hid (Below g w w1) := by rw [← hw1, ← hg]; exact (Below.refl _ _).alloc (Nat.le_refl _) _
  have HD1 : Hid (∀ j, j < lb → (List.replicate lb (0 : Int)).getD j 0 = if j < 0 then (p - b.getD j 0) % p else 0) := fun j hj => by
    rw [if_neg (by omega)]; simp [List.getD, hj]
  rw [hg]
  clear hsa hsb hla hlb ha hb
  go_enter Tryz.func86, Tryz.ntmps86
  go_wp2_with fail
  clear hmk hw1 hg
  go_loopw [8, 9, 17] (fun _ _ i wr => ∃ (k : Nat) (l : List Int), k ≤ lb ∧ i = .int .i64 k ∧ Hid (Row wr g l) ∧ Hid (l.length = lb) ∧ Hid (∀ j, j < lb → l.getD j 0 = if j < k then (p - b.getD j 0) % p else 0) ∧ Hid (Below g w wr)) (fun _ _ i _ => lb - (intOf i).toNat)
  case atStart => exact ⟨0, _, Nat.zero_le _, rfl, HR1, (by show _ = _; simp), HD1, HB1⟩
  case round =>
    obtain ⟨k, l, hk, rfl, HR, HL, HD, HB⟩ := hrel
    by_cases hlt : k < lb
    · obtain ⟨bx, ox, rfl, cx0⟩ := (HSB.out _ HB.out).pos hlt
      have hxe : El p (b.getD k 0) := els_getD hp HEB.out k
      have hkl : k < l.length := by rw [HL.out]; exact hlt
      have hcl := HR.out.cell hkl
      have hfr := HR.out.frozen k
      obtain ⟨v, hv⟩ : ∃ v, l.getD k 0 = v := ⟨_, rfl⟩
      rw [hv] at hcl
      obtain ⟨x, hxv⟩ : ∃ x, b.getD k 0 = x := ⟨_, rfl⟩
      rw [hxv] at cx0 hxe
      have hx0 := hxe.1
      have hx1 := hxe.2
      obtain ⟨c, hc⟩ : ∃ c, (p - x) % p = c := ⟨_, rfl⟩
      have hxp : 1 ≤ p - x := by omega
      have hxq : p - x ≤ 1073741824 := by omega
      have HRN := Lib.hid (HR.out.set hkl c)
      have HLN : Hid ((l.set k c).length = lb) := by show _ = _; rw [List.length_set]; exact HL.out
      have HDN : Hid (∀ j, j < lb → (l.set k c).getD j 0 = if j < k + 1 then (p - b.getD j 0) % p else 0) := fun j hj => by
        rw [getD_set l k j c hkl]
        by_cases e : j = k
        · subst e; rw [if_pos rfl, if_pos (by omega), hxv, hc]
        · rw [if_neg e, HD.out j hj]
          by_cases e2 : j < k
          · rw [if_pos e2, if_pos (by omega)]
          · rw [if_neg e2, if_neg (by omega)]
      have HBN : Hid (Below g w (wr.setCell ⟨g, k, none⟩ (.int .i64 c))) := HB.out.setCell (p := ⟨g, k, none⟩) (Nat.le_refl _) _
      clear hxe hxv hx0 hx1 hkl hv
      go_wp2_with fail
      go_roundw
      case rel => exact ⟨k + 1, _, by omega, by go_num, HRN, HLN, HDN, HBN⟩
      case measure => simp [intOf]; omega
    · obtain rfl : k = lb := by omega
      have HD2 : Hid (∀ j, j < k → l.getD j 0 = if j < 0 then ((p - b.getD j 0) % p + a.getD j 0) % p else (p - b.getD j 0) % p) := fun j hj => by
        rw [HD.out j hj, if_pos hj, if_neg (by omega)]
      clear HD
      go_wp2_with fail
      go_loopw [10, 11, 33] (fun _ _ i wr => ∃ (m : Nat) (l : List Int), m ≤ la ∧ i = .int .i64 m ∧ Hid (Row wr g l) ∧ Hid (l.length = k) ∧ Hid (∀ j, j < k → l.getD j 0 = if j < m then ((p - b.getD j 0) % p + a.getD j 0) % p else (p - b.getD j 0) % p) ∧ Hid (Below g w wr)) (fun _ _ i _ => la - (intOf i).toNat)
      case atStart => exact ⟨0, l, Nat.zero_le _, rfl, HR, HL, HD2, HB⟩
      case round =>
        obtain ⟨wz, hwz⟩ : ∃ wz, wz = wr := ⟨_, rfl⟩
        subst hwz
        obtain ⟨m, l2, hm, rfl, HR2, HL2, HE2, HB2⟩ := hrel
        by_cases hlm : m < la
        · obtain ⟨bx, ox, rfl, cx0⟩ := (HSA.out _ HB2.out).pos hlm
          have hxe : El p (a.getD m 0) := els_getD hp HEA.out m
          have hmk : m < k := by omega
          have hkl : m < l2.length := by rw [HL2.out]; exact hmk
          have hcl := HR2.out.cell hkl
          have hfr := HR2.out.frozen m
          have hve := HE2.out m hmk
          rw [if_neg (by omega)] at hve
          obtain ⟨v, hv⟩ : ∃ v, l2.getD m 0 = v := ⟨_, rfl⟩
          rw [hv] at hcl hve
          have hvl : El p v := by rw [hve]; exact el_mod hp _
          obtain ⟨x, hxv⟩ : ∃ x, a.getD m 0 = x := ⟨_, rfl⟩
          rw [hxv] at cx0 hxe
          have hx0 := hxe.1
          have hx1 := hxe.2
          have hv0 := hvl.1
          have hv1 := hvl.2
          obtain ⟨c, hc⟩ : ∃ c, (v + x) % p = c := ⟨_, rfl⟩
          have hxp : 0 ≤ v + x := by omega
          have hxq : v + x ≤ 2147483648 := by omega
          have HRN := Lib.hid (HR2.out.set hkl c)
          have HLN : Hid ((l2.set m c).length = k) := by show _ = _; rw [List.length_set]; exact HL2.out
          have HDN : Hid (∀ j, j < k → (l2.set m c).getD j 0 = if j < m + 1 then ((p - b.getD j 0) % p + a.getD j 0) % p else (p - b.getD j 0) % p) := fun j hj => by
            rw [getD_set l2 m j c hkl]
            by_cases e : j = m
            · subst e; rw [if_pos rfl, if_pos (by omega), hxv, ← hve, hc]
            · rw [if_neg e, HE2.out j hj]
              by_cases e2 : j < m
              · rw [if_pos e2, if_pos (by omega)]
              · rw [if_neg e2, if_neg (by omega)]
          have HBN : Hid (Below g w (wz.setCell ⟨g, m, none⟩ (.int .i64 c))) := HB2.out.setCell (p := ⟨g, m, none⟩) (Nat.le_refl _) _
          clear hxe hxv hkl hv hve hvl
          go_wp2_with fail
          go_roundw
          case rel => exact ⟨m + 1, _, by omega, by go_num, HRN, HLN, HDN, HBN⟩
          case measure => simp [intOf]; omega
        · obtain rfl : m = la := by omega
          have HF : Hid (l2 = minL p a b) := ext_getD (by rw [minL_len, HL2.out, HLB.out]) fun j => by
            by_cases hj : j < k
            · rw [HE2.out j hj, minL_getD p a b (by rw [HLB.out]; exact hj)]
              by_cases e : j < m
              · rw [if_pos e]
              · rw [if_neg e, getD_ge (l := a) (by rw [HLA.out]; omega), Int.add_zero, Int.emod_emod_of_dvd _ (Int.dvd_refl p)]
            · rw [getD_ge (by rw [HL2.out]; omega), getD_ge (by rw [minL_len, HLB.out]; omega)]
          have HRF : Hid (Row wz g (minL p a b)) := by rw [← HF.out]; exact HR2.out
          go_wp2_with fail
          go_ret
          exact ⟨rfl, HRF.out, HB2.out⟩
end Go.Proofs.YtpgbjnenllfmlaaGreatDoor
/-! The program's package correct: likely, having. -/
namespace Go.Proofs.YtpgbjnenllfmlaaGreatDoor
open Go.RowKit
open Num
set_option linter.unusedVariables false

def lenV : Value → Nat
  | .slice _ n _ => n
  | _ => 0
/-- Where Euclid's way stands. -/
structure GaoW (w0 W : World) (g : Nat) (p : Int) (n k : Nat) (xs ys : List Int) (v9 v10 v11 v13 : Value) (B R U V : List Int) : Prop where
  gao : Gao p n k xs ys B R U V
  lb : B.length ≤ n + 1
  iB : Ints W v9 B
  iU : Ints W v10 U
  iR : Slc W v11 R
  iV : Slc W v13 V
  be : Below g w0 W
  sz : g ≤ W.heap.size
theorem GaoW.below {w0 W W' : World} {g : Nat} {p : Int} {n k : Nat} {xs ys : List Int} {v9 v10 v11 v13 : Value} {B R U V : List Int} (h : GaoW w0 W g p n k xs ys v9 v10 v11 v13 B R U V) (b : Below W.heap.size W W') : GaoW w0 W' g p n k xs ys v9 v10 v11 v13 B R U V :=
  ⟨h.gao, h.lb, h.iB.below (Nat.le_refl _) b, h.iU.below (Nat.le_refl _) b, h.iR.below (Nat.le_refl _) b, h.iV.below (Nat.le_refl _) b, h.be.trans (b.mono h.sz), Nat.le_trans h.sz b.size⟩
theorem Slc.shape {w : World} {v : Value} {l : List Int} (h : Slc w v l) : ∃ a c, v = .slice a l.length c ∧ l.length ≤ c ∧ c ≤ 9223372036854775807 := by
  obtain ⟨a, c, e, h1, h2, _⟩ := h
  exact ⟨a, c, e, h1, h2⟩
theorem gao_lenR {p : Int} {n k : Nat} {xs ys B R U V : List Int} (h : Gao p n k xs ys B R U V) : R.length = dg R := by
  have e := sh_len R
  rw [h.shR] at e
  exact e
theorem gao_bounds {p : Int} {n k : Nat} {xs ys B R U V : List Int} (h : Gao p n k xs ys B R U V) : dg B ≤ n + 1 ∧ R.length ≤ n ∧ V.length ≤ n + 2 ∧ U.length ≤ n + 2 := by
  have h1 := h.sum
  have h2 := h.rb
  have h3 := gao_lenR h
  have h4 := h.posV
  have h5 := h.uv
  omega
/-- What is likely: the polynomial that has all points but so few, if there is one. -/
def LikR (p : Int) (k : Nat) (xs ys f : List Int) : Prop := Els p f ∧ sh f = f ∧ f.length ≤ 1000 ∧ ∀ g t, k + 2 * t ≤ xs.length → OneB p k t xs ys g → f = g
set_option maxRecDepth 100000 in
set_option maxHeartbeats 16000000 in
theorem likely_any (p : Int) (k : Nat) (ax ay : Option Addr) (n cx cy : Nat) (xs ys : List Int) (w : World) (hp : PrmI p) (hp2 : p ≤ 1073741824) (hx : Els p xs) (hy : Els p ys) (hsx : Ints w (.slice ax n cx) xs) (hsy : Ints w (.slice ay n cy) ys) (hnx : xs.length = n) (hny : ys.length = n) (hn : n ≤ 100) (hk1 : 1 ≤ k) (hkn : k ≤ n) (hnd : xs.Nodup) :
    Calls Tryz.prog 56 #[.int .i64 p, .int .i64 (k : Int), .slice ax n cx, .slice ay n cy] w fun e w' => ∃ v f, e = .returned v ∧ Ints w' v f ∧ LikR p k xs ys f ∧ (∀ b, v.ownBlock = some b → w.heap.size ≤ b) ∧ Below w.heap.size w w' := by
  have hp0 := hp.1
  have hp1 : 1 ≤ p := by omega
  obtain ⟨g, hg⟩ : ∃ g, w.heap.size = g := ⟨_, rfl⟩
  have HGG := Lib.hid hg
  have HZE := Lib.hid (zeros_any p ax n cx xs w hp hp2 hx hsx hnx (by omega))
  have HTH := Lib.hid (fun W (hW : Below g w W) => through_slc p ax ay n cx cy xs ys W hp hp2 hx hy (hsx.below (Nat.le_of_eq hg) hW) (hsy.below (Nat.le_of_eq hg) hW) (Lib.hid hnx.symm) (Lib.hid hny.symm) (Lib.hid (plc_nodup (by omega) hnd)) (by omega) (by omega))
  have HPR := Lib.hid hp
  have HND := Lib.hid hnd
  have HNX := Lib.hid hnx
  have HNY := Lib.hid hny
  have HEX := Lib.hid hx
  rw [hg] at HZE ⊢
  clear hsx hsy hnx hny hnd hx hy hp
  go_enter Tryz.func56, Tryz.ntmps56
  go_wp2_with fail
  refine HZE.out.mono ?_
  rintro e w1 ⟨v1, Z, rfl, hi1, hz1, hb1⟩
  have HI1 := Lib.hid hi1
  have HZ1 := Lib.hid hz1
  have HB1 := Lib.hid hb1
  have HS1 : Hid (g ≤ w1.heap.size) := by show _ ≤ _; have := hb1.size; omega
  obtain ⟨q1, hq1⟩ : ∃ q, w1.heap.size = q := ⟨_, rfl⟩
  have hal : ∀ (W : World) (o : Obj), Below W.heap.size W (W.alloc o) := fun W o => (Below.refl _ _).alloc (Nat.le_refl _) o
  have HB2 : Hid (Below g w (w1.alloc (.cells #[] 3))) := hb1.trans ((hal w1 _).mono HS1.out)
  have HI2 : Hid (Ints (w1.alloc (.cells #[] 3)) v1 Z) := hi1.below (Nat.le_refl _) (hal w1 _)
  have HTW := Lib.hid (HTH.out _ HB2.out)
  clear hi1 hz1 hb1 HZE HTH hal
  go_wp2_with fail
  refine HTW.out.mono ?_
  rintro e w3 ⟨v3, R, rfl, hr3, ht3, _, hb3⟩
  have HB3 : Hid (Below g w w3) := HB2.out.trans (hb3.mono (by have := HS1.out; simp; omega))
  have HI3 := Lib.hid (HI2.out.below (Nat.le_refl _) hb3)
  have HR3 := Lib.hid hr3
  have HG0 : Hid (Gao p n k xs ys Z R [] [1]) := by
    have h := gao_start (k := k) HPR.out (by rw [HNX.out]; exact hkn) ht3 HZ1.out.els (by rw [HZ1.out.deg, HNX.out]) (fun j hj => HZ1.out.zer j (by rw [← HNX.out]; exact hj))
    rw [HNX.out] at h
    exact h
  have HS3 : Hid (g ≤ w3.heap.size) := by show _ ≤ _; have := HS1.out; have := hb3.size; simp at this; omega
  have hl1 : ∀ (W : World), Slc (W.alloc (.cells #[.int .i64 1] 3)) (.slice (some ⟨W.heap.size, 0, none⟩) 1 1) [1] := fun W => ⟨_, 1, rfl, by simp, by omega, ints_one W 1 3⟩
  have hal : ∀ (W : World) (o : Obj), Below W.heap.size W (W.alloc o) := fun W o => (Below.refl _ _).alloc (Nat.le_refl _) o
  obtain ⟨w4, hw4⟩ : ∃ w4, w3.alloc (.cells #[.int .i64 1] 3) = w4 := ⟨_, rfl⟩
  have HGW : Hid (∀ (a : Option Addr) (c : Nat), GaoW w w4 g p n k xs ys v1 (.slice a 0 c) v3 (.slice (some ⟨w3.heap.size, 0, none⟩) 1 1) Z R [] [1]) := by
    intro a c
    rw [← hw4]
    exact ⟨HG0.out, HZ1.out.len, HI3.out.below (Nat.le_refl _) (hal _ _), ints_zero _ _ _, HR3.out.below (Nat.le_refl _) (hal _ _), hl1 _, HB3.out.trans ((hal _ _).mono HS3.out), Nat.le_trans HS3.out (hal _ _).size⟩
  clear hr3 ht3 hb3 HTW HI2 hl1 hal HI3 HR3 HG0 HI1 HZ1
  go_wp2_with fail
  clear hw4
  go_loopw [9, 10, 11, 13, 14, 15, 16] (fun v9 v10 v11 v13 _ _ _ wr => ∃ B R U V, Hid (GaoW w wr g p n k xs ys v9 v10 v11 v13 B R U V)) (fun _ _ v11 _ _ _ _ _ => lenV v11)
  case atStart => exact ⟨Z, R, [], [1], HGW.out _ _⟩
  case round =>
    obtain ⟨B, R, U, V, HG⟩ := hrel
    have hbd := gao_bounds HG.out.gao
    have hlR := gao_lenR HG.out.gao
    have hBd := dg_le B
    obtain ⟨a9, c9, rfl⟩ := HG.out.iB.shape
    obtain ⟨a10, c10, rfl⟩ := HG.out.iU.shape
    obtain ⟨a11, c11, rfl, hc11, hc11b⟩ := HG.out.iR.shape
    obtain ⟨a13, c13, rfl, hc13, hc13b⟩ := HG.out.iV.shape
    have HDE := Lib.hid (degree_any _ R wr HG.out.iR.ints)
    obtain ⟨D, hD⟩ : ∃ D, dg R = D := ⟨_, rfl⟩
    obtain ⟨LB, hLB⟩ : ∃ n, B.length = n := ⟨_, rfl⟩
    obtain ⟨LU, hLU⟩ : ∃ n, U.length = n := ⟨_, rfl⟩
    obtain ⟨LV, hLV⟩ : ∃ n, V.length = n := ⟨_, rfl⟩
    have hLRD : R.length = D := by rw [hlR, hD]
    have hLB2 : LB ≤ n + 1 := by rw [← hLB]; exact HG.out.lb
    have hLU2 : LU ≤ n + 2 := by rw [← hLU]; exact hbd.2.2.2
    have hLV2 : LV ≤ n + 2 := by rw [← hLV]; exact hbd.2.2.1
    have hLV0 : 0 < LV := by rw [← hLV]; exact HG.out.gao.posV
    have hDn : D ≤ n := by rw [← hLRD]; exact hbd.2.1
    have HDD := Lib.hid hD
    have HLB := Lib.hid hLB
    have HLU := Lib.hid hLU
    have HLV := Lib.hid hLV
    have HLR := Lib.hid hLRD
    rw [hLRD] at hc11 HDE
    rw [hLV] at hc13
    rw [hD] at HDE
    rw [hLB, hLU, hLV, hLRD] at HG ⊢
    clear hbd hlR hBd hD hLB hLU hLV hLRD
    go_wp2_with fail
    refine HDE.out.mono ?_
    rintro e w5 ⟨rfl, hb5⟩
    have HG5 := Lib.hid (HG.out.below hb5)
    clear hb5 HDE HG
    by_cases hloop : n + k + 2 ≤ 2 * D
    · obtain ⟨t, ht⟩ : ∃ t, D = t + 1 := ⟨D - 1, by omega⟩
      have HLP : Hid (n + k + 2 ≤ 2 * dg R) := by show _ ≤ _; rw [HDD.out]; exact hloop
      have hcmp : (n : Int) + (k : Int) ≤ 2 * ((D : Int) - 1) := by omega
      have HDI := Lib.hid ((callsIn_wide (n := 6)).1 (divide_slc p a9 a11 LB D c9 c11 t B R w5 HPR.out hp2 HG5.out.gao.elB HG5.out.gao.elR HG5.out.iB HG5.out.iR.ints HLB.out.symm HLR.out.symm (by rw [HDD.out]; exact ht) (by omega) (by omega) hc11))
      have HTT := Lib.hid ht
      clear hloop ht
      go_wp2_with fail
      refine HDI.out.mono ?_
      rintro e w6 ⟨vq, vr, q, r, rfl, hiq, hir, hqb, hdv, hql, hb6⟩
      have HG6 := Lib.hid (HG5.out.below hb6)
      have HIQ := Lib.hid hiq
      have HIR := Lib.hid hir
      have HDV := Lib.hid hdv
      have HQL := Lib.hid hql
      clear hiq hir hqb hdv hql hb6 HDI HG5
      have HMU := Lib.hid (pmul_any w6 hp1 hp2 HDV.out.elQ HG6.out.gao.elV HIQ.out HG6.out.iV.ints (by have := HQL.out; have := HLV.out; omega))
      go_wp2_with fail
      refine HMU.out.mono ?_
      rintro e w7 ⟨vz, z, rfl, hiz, hpz, hb7⟩
      have HG7 := Lib.hid (HG6.out.below hb7)
      have HIR7 := Lib.hid (HIR.out.below (Nat.le_refl _) hb7)
      have hst := gao_step HPR.out HG7.out.gao HLP.out HDV.out hpz.els hpz.short hpz.pc
      obtain ⟨az, cz, rfl⟩ := hiz.shape
      obtain ⟨lz, hlz⟩ : ∃ n, z.length = n := ⟨_, rfl⟩
      have HMI := Lib.hid (minus_any p a10 az LU lz c10 cz U z w7 hp1 hp2 HG7.out.gao.elU hpz.els HG7.out.iU (by rw [← hlz]; exact hiz) HLU.out hlz (by rw [← HLU.out, ← hlz]; exact hst.2.1) (by have := hst.2.2; omega))
      have HST := Lib.hid hst.1
      have HZL := Lib.hid hlz
      have HZ2 : Hid (lz ≤ n + 2) := by show _ ≤ _; rw [← hlz]; exact hst.2.2
      rw [hlz]
      clear hiz hpz hb7 hst hlz HMU HG6 HIR HIQ
      go_wp2_with fail
      refine HMI.out.mono ?_
      rintro e w8 ⟨rfl, hr8, hb8⟩
      have HG8 := Lib.hid (HG7.out.below hb8)
      have hml : (minL p U z).length = lz := by rw [minL_len]; exact HZL.out
      have HI8 : Hid (Slc w8 (.slice (some ⟨w7.heap.size, 0, none⟩) lz lz) (minL p U z)) := ⟨_, lz, by rw [hml], by rw [hml]; exact Nat.le_refl _, by have := HZ2.out; omega, by have h := hr8.reads (cap := lz) (by rw [hml]; have := HZ2.out; omega); rw [hml] at h ⊢; exact h⟩
      have HIR8 := Lib.hid (HIR7.out.below (Nat.le_refl _) hb8)
      have HNEW : Hid (GaoW w w8 g p n k xs ys (.slice a11 D c11) (.slice a13 LV c13) vr (.slice (some ⟨w7.heap.size, 0, none⟩) lz lz) R r V (minL p U z)) :=
        ⟨HST.out, by rw [HLR.out]; omega, HG8.out.iR.ints, HG8.out.iV.ints, HIR8.out, HI8.out, HG8.out.be, HG8.out.sz⟩
      obtain ⟨ar, cr, hvr, _, _⟩ := HIR8.out.shape
      have HMS : Hid (lenV vr < D) := by
        show _ < _
        rw [hvr]
        show r.length < D
        rw [gao_lenR HST.out, ← HDD.out]
        exact HST.out.rb
      clear hr8 hb8 hml HG7 HG8 HIR7 HIR8 HI8 HMI HST hvr
      go_wp2_with fail
      go_roundw
      case rel => exact ⟨R, r, V, minL p U z, HNEW⟩
      case measure => exact HMS.out
    · obtain ⟨t, ht⟩ : ∃ t, LV = t + 1 := ⟨LV - 1, by omega⟩
      have HSP : Hid (2 * dg R < n + k + 2) := by show _ < _; rw [HDD.out]; omega
      have hcmp : ¬ (n : Int) + (k : Int) ≤ 2 * ((D : Int) - 1) := by omega
      have HDI := Lib.hid ((callsIn_wide (n := 6)).1 (divide_slc p a11 a13 D LV c11 c13 t R V w5 HPR.out hp2 HG5.out.gao.elR HG5.out.gao.elV HG5.out.iR.ints HG5.out.iV.ints HLR.out.symm HLV.out.symm (by rw [HG5.out.gao.lenV, HLV.out]; exact ht) (by omega) (by omega) hc13))
      clear hloop ht
      go_wp2_with fail
      refine HDI.out.mono ?_
      rintro e w6 ⟨vq, vr, q, r, rfl, hiq, hir, hqb, hdv, hql, hb6⟩
      have HIQ := Lib.hid hiq
      have HLK : Hid (LikR p k xs ys q) := by
        refine ⟨hdv.elQ, hdv.shQ, hql, fun f t2 ht2 hf => ?_⟩
        have hG := HG5.out.gao
        rw [← HNX.out] at hG
        exact gao_end HPR.out (by rw [HNX.out, HNY.out]) HND.out HEX.out hG (by rw [HNX.out]; exact HSP.out) hf ht2 hk1 hdv
      have HB6 : Hid (Below g w w6) := HG5.out.be.trans (hb6.mono HG5.out.sz)
      have HQB : Hid (∀ b, vq.ownBlock = some b → g ≤ b) := fun b hb => Nat.le_trans HG5.out.sz (hqb b hb)
      clear hiq hir hqb hdv hql hb6 HDI HG5
      go_wp2_with fail
      go_ret
      exact ⟨_, q, rfl, HIQ.out, HLK.out, HQB.out, HB6.out⟩
end Go.Proofs.YtpgbjnenllfmlaaGreatDoor
/-! The program's package correct: having; places that are different; elements; what is permitted. -/
namespace Go.Proofs.YtpgbjnenllfmlaaGreatDoor
open Go.RowKit
open Go.Maps (keyOf_int_mk)
open Num
set_option linter.unusedVariables false

theorem likR_short {p : Int} {k : Nat} {xs ys f : List Int} (h : LikR p k xs ys f) : f.length = dg f := by
  have e := sh_len f
  rw [h.2.1] at e
  exact e
set_option maxRecDepth 100000 in
set_option maxHeartbeats 16000000 in
theorem having_any (p : Int) (k t : Nat) (ax ay : Option Addr) (n cx cy : Nat) (xs ys : List Int) (w : World) (hp : PrmI p) (hp2 : p ≤ 1073741824) (hx : Els p xs) (hy : Els p ys) (hsx : Ints w (.slice ax n cx) xs) (hsy : Ints w (.slice ay n cy) ys) (hnx : xs.length = n) (hny : ys.length = n) (hn : n ≤ 100) (hk1 : 1 ≤ k) (hkn : k + 2 * t ≤ n) (hnd : xs.Nodup) :
    Calls Tryz.prog 33 #[.int .i64 p, .int .i64 (k : Int), .int .i64 (t : Int), .slice ax n cx, .slice ay n cy] w fun e w' => ∃ v f c, e = .returned (.tuple #[v, .int .i64 c]) ∧ (c = 0 ∨ c = 9) ∧ OneR p k t xs ys f c ∧ Ints w' v f ∧ (∀ b, v.ownBlock = some b → w.heap.size ≤ b) ∧ Below w.heap.size w w' := by
  have hp0 := hp.1
  have hp1 : 1 ≤ p := by omega
  obtain ⟨g, hg⟩ : ∃ g, w.heap.size = g := ⟨_, rfl⟩
  have HLI := Lib.hid (likely_any p k ax ay n cx cy xs ys w hp hp2 hx hy hsx hsy hnx hny hn hk1 (by omega) hnd)
  have HMI := Lib.hid (fun vf f W (hW : Below g w W) (hf : Els p f) (hi : Ints W vf f) => missed_any p vf ax ay n cx cy f xs ys W hp1 hp2 hf hx hi (hsx.below (Nat.le_of_eq hg) hW) (hsy.below (Nat.le_of_eq hg) hW) hnx hny (by omega))
  have HGG := Lib.hid hg
  have HKN : Hid (k + 2 * t ≤ xs.length) := by show _ ≤ _; rw [hnx]; exact hkn
  have HNX := Lib.hid hnx
  rw [hg] at HLI ⊢
  clear hsx hsy hnx hny hnd hx hy hp
  go_enter Tryz.func33, Tryz.ntmps33
  go_wp2_with fail
  refine HLI.out.mono ?_
  rintro e w1 ⟨v1, f, rfl, hi1, hl1, hq1, hb1⟩
  have HQ1 := Lib.hid hq1
  have HI1 := Lib.hid hi1
  have HL1 := Lib.hid hl1
  have HB1 := Lib.hid hb1
  have HS1 : Hid (g ≤ w1.heap.size) := by show _ ≤ _; have := hb1.size; omega
  obtain ⟨a1, c1, rfl⟩ := hi1.shape
  have HQ1 : Hid (∀ b, (Value.slice a1 0 c1).ownBlock = some b → g ≤ b) := fun b hb => HQ1.out b (by cases a1 <;> exact hb)
  obtain ⟨D, hD⟩ : ∃ D, dg f = D := ⟨_, rfl⟩
  have hlD : f.length = D := by rw [likR_short hl1, hD]
  have hD1 : D ≤ 1000 := by rw [← hlD]; exact hl1.2.2.1
  have HDE := Lib.hid (degree_any _ f w1 hi1)
  rw [hD] at HDE
  rw [hlD] at HI1 HDE ⊢
  have HLD := Lib.hid hlD
  clear hi1 hl1 hb1 hD hlD HLI hq1
  go_wp2_with fail
  refine HDE.out.mono ?_
  rintro e w2 ⟨rfl, hb2⟩
  have HI2 := Lib.hid (HI1.out.below (Nat.le_refl _) hb2)
  have HB2 := Lib.hid (HB1.out.trans (hb2.mono HS1.out))
  have HS2 : Hid (g ≤ w2.heap.size) := Nat.le_trans HS1.out hb2.size
  clear hb2 HI1 HB1 HDE
  by_cases hdk : D ≤ k
  · have hcmp : ¬ (k : Int) ≤ (D : Int) - 1 := by omega
    have HMM := Lib.hid (HMI.out _ f w2 HB2.out HL1.out.1 HI2.out)
    clear HMI
    go_wp2_with fail
    refine HMM.out.mono ?_
    rintro e w3 ⟨v3, rfl, hg3, hb3⟩
    obtain ⟨a3, c3, rfl⟩ := hg3.shape
    obtain ⟨m, hm⟩ : ∃ m, (mis p f xs ys).length = m := ⟨_, rfl⟩
    have hm100 : m ≤ 100 := by rw [← hm]; have := mis_le p f xs ys; rw [HNX.out] at this; omega
    have HI3 := Lib.hid (HI2.out.below (Nat.le_refl _) hb3)
    have HB3 := Lib.hid (HB2.out.trans (hb3.mono HS2.out))
    have HM := Lib.hid hm
    rw [hm]
    clear hg3 hb3 hm
    by_cases hmt : m ≤ t
    · have HR : Hid (OneR p k t xs ys f 0) := ⟨fun _ => ⟨HL1.out.1, HL1.out.2.1, by rw [HLD.out]; exact hdk, by rw [HM.out]; exact hmt⟩, fun h => absurd rfl h⟩
      go_wp2_with fail
      go_ret2
      exact ⟨.slice a1 D c1, f, 0, rfl, .inl rfl, HR.out, HI3.out, (fun b hb => HQ1.out b (by cases a1 <;> exact hb)), HB3.out⟩
    · have HR : Hid (OneR p k t xs ys [] 9) := ⟨(fun h => by cases h), fun _ => ⟨rfl, fun q hq => by
        have e := HL1.out.2.2.2 q t HKN.out hq
        subst e
        have := hq.few
        rw [HM.out] at this
        exact hmt this⟩⟩
      have hmt2 : t < m := by omega
      clear hmt
      go_wp2_with fail
      go_ret2
      exact ⟨_, [], 9, rfl, .inr rfl, HR.out, ints_zero _ _ _, (fun b hb => by cases hb), HB3.out⟩
  · have hcmp : (k : Int) ≤ (D : Int) - 1 := by omega
    have HR : Hid (OneR p k t xs ys [] 9) := ⟨(fun h => by cases h), fun _ => ⟨rfl, fun q hq => by
      have e := HL1.out.2.2.2 q t HKN.out hq
      subst e
      have := hq.len
      rw [HLD.out] at this
      exact hdk this⟩⟩
    clear hdk HMI
    go_wp2_with fail
    go_ret2
    exact ⟨_, [], 9, rfl, .inr rfl, HR.out, ints_zero _ _ _, (fun b hb => by cases hb), HB2.out⟩

/-! ### Different places -/
theorem seen_has (l : List Int) (x : Int) : Go.Maps.has (seenOf l : DataW Unit) (.int .i64 x) = l.contains x := by
  induction h : l.length generalizing l with
  | zero => obtain rfl := List.length_eq_zero_iff.1 h; rfl
  | succ n ih =>
    rcases List.eq_nil_or_concat l with rfl | ⟨l', y, rfl⟩
    · simp at h
    · rw [List.concat_eq_append] at h ⊢
      rw [seenOf_snoc]
      by_cases e : x = y
      · subst e
        rw [Go.Maps.has_put_same (seenOf_isMap l') (by simp [WideAt.IsKeyLit])]
        simp
      · rw [Go.Maps.has_put_other (fun e2 => e (by simpa using e2)), ih l' (by simpa using h)]
        simp [e]
theorem seen_tidy (l : List Int) : Go.Maps.Tidy (seenOf l : DataW Unit) := Go.Maps.tidy_setOf _ _ fun x hx => by
  obtain ⟨n, _, rfl⟩ := List.mem_map.1 hx
  simp [WideAt.IsKeyLit]
theorem seen_size (l : List Int) : Go.Maps.size (seenOf l : DataW Unit) ≤ l.length ∧ (Go.Maps.size (seenOf l : DataW Unit) = l.length ↔ l.Nodup) := by
  induction h : l.length generalizing l with
  | zero => obtain rfl := List.length_eq_zero_iff.1 h; exact ⟨Nat.le_refl _, ⟨fun _ => List.nodup_nil, fun _ => rfl⟩⟩
  | succ n ih =>
    rcases List.eq_nil_or_concat l with rfl | ⟨l', y, rfl⟩
    · simp at h
    · rw [List.concat_eq_append] at h ⊢
      have hl : l'.length = n := by simpa using h
      obtain ⟨i1, i2⟩ := ih l' hl
      rw [seenOf_snoc, Go.Maps.size_put (seen_tidy l'), seen_has]
      have hn : (l' ++ [y]).Nodup ↔ l'.Nodup ∧ y ∉ l' := by
        rw [List.nodup_append]
        constructor
        · rintro ⟨a, _, b⟩
          exact ⟨a, fun hy => b y hy y (by simp) rfl⟩
        · rintro ⟨a, b⟩
          exact ⟨a, by simp, fun x hx z hz e => by simp at hz; subst hz; subst e; exact b hx⟩
      rw [hn]
      by_cases e : y ∈ l'
      · rw [if_pos (by simpa using e)]
        exact ⟨by omega, ⟨fun h => by omega, fun h => absurd e h.2⟩⟩
      · rw [if_neg (by simpa using e)]
        exact ⟨by omega, ⟨fun h => ⟨i2.1 (by omega), e⟩, fun h => by have := i2.2 h.1; omega⟩⟩
end Go.Proofs.YtpgbjnenllfmlaaGreatDoor
/-! The program's package correct: checkOne, One. -/
namespace Go.Proofs.YtpgbjnenllfmlaaGreatDoor
open Go.RowKit
open Num
set_option linter.unusedVariables false

/-- Whether a number is outside. -/
def outB (p x : Int) : Bool := decide (x < 0) || decide (p ≤ x)
theorem elements_all {p : Int} {xs : List Int} : xs.any (outB p) = false ↔ Els p xs := by
  rw [List.any_eq_false]
  constructor
  · intro h x hx
    have := h x hx
    unfold outB at this
    simp at this
    exact this
  · intro h x hx
    have := h x hx
    unfold outB
    simp
    exact this
theorem oneC_bad {p need lies : Int} {xs ys : List Int} (h : ¬ (vB p = true ∧ 1 ≤ need ∧ 0 ≤ lies ∧ xs.length = ys.length ∧ xs.length ≤ 16 ∧ Els p xs ∧ Els p ys ∧ xs.Nodup)) : oneC p need lies xs ys = 1 := by
  unfold oneC; rw [if_neg h]
theorem oneC_few {p need lies : Int} {xs ys : List Int} (h : vB p = true ∧ 1 ≤ need ∧ 0 ≤ lies ∧ xs.length = ys.length ∧ xs.length ≤ 16 ∧ Els p xs ∧ Els p ys ∧ xs.Nodup) (h2 : (xs.length : Int) < need + 2 * lies) : oneC p need lies xs ys = 5 := by
  unfold oneC; rw [if_pos h, if_pos h2]
theorem oneC_ok {p need lies : Int} {xs ys : List Int} (h : vB p = true ∧ 1 ≤ need ∧ 0 ≤ lies ∧ xs.length = ys.length ∧ xs.length ≤ 16 ∧ Els p xs ∧ Els p ys ∧ xs.Nodup) (h2 : ¬ (xs.length : Int) < need + 2 * lies) : oneC p need lies xs ys = 0 := by
  unfold oneC; rw [if_pos h, if_neg h2]
theorem oneC_out {p need lies : Int} {xs ys : List Int} (h : oneC p need lies xs ys = 0) : (vB p = true ∧ 1 ≤ need ∧ 0 ≤ lies ∧ xs.length = ys.length ∧ xs.length ≤ 16 ∧ Els p xs ∧ Els p ys ∧ xs.Nodup) ∧ need + 2 * lies ≤ (xs.length : Int) := by
  unfold oneC at h
  by_cases h1 : vB p = true ∧ 1 ≤ need ∧ 0 ≤ lies ∧ xs.length = ys.length ∧ xs.length ≤ 16 ∧ Els p xs ∧ Els p ys ∧ xs.Nodup
  · rw [if_pos h1] at h
    by_cases h2 : (xs.length : Int) < need + 2 * lies
    · rw [if_pos h2] at h; cases h
    · exact ⟨h1, by omega⟩
  · rw [if_neg h1] at h; cases h
/-- What One returns. -/
def OneA (p need lies : Int) (xs ys f : List Int) (c : Int) : Prop := (oneC p need lies xs ys ≠ 0 → f = [] ∧ c = oneC p need lies xs ys) ∧ (oneC p need lies xs ys = 0 → (c = 0 ∨ c = 9) ∧ OneR p need.toNat lies.toNat xs ys f c)
end Go.Proofs.YtpgbjnenllfmlaaGreatDoor
