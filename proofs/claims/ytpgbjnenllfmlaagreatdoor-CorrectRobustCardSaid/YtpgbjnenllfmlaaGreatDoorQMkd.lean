
/- Marked of both sides: the shares that have the mark of their holder. -/
import Derived.Test.YtpgbjnenllfmlaaGreatDoorQMrk
import Derived.Test.YtpgbjnenllfmlaaGreatDoorHTur
namespace Go.Proofs.YtpgbjnenllfmlaaGreatDoor
open Go.RowKit Go.Sort
open Num
set_option linter.unusedVariables false

def mkB (marks : List ByteArray) (s : Shr) : Bool := decide (1 ≤ s.1) && decide (s.1 ≤ (marks.length : Int)) && ((markB s.1 s.2).toList == (marks.getD (s.1 - 1).toNat ByteArray.empty).toList)
def markedL (marks : List ByteArray) (L : List Shr) : List Shr := L.filter (mkB marks)
theorem markedL_len (marks : List ByteArray) (L : List Shr) : (markedL marks L).length ≤ L.length := List.length_filter_le _ _
theorem markedL_take {marks : List ByteArray} {L : List Shr} {k : Nat} (hk : k < L.length) : markedL marks (L.take (k + 1)) = markedL marks (L.take k) ++ if mkB marks (L.getD k (0, [])) = true then [L.getD k (0, [])] else [] := by
  have e : L.getD k (0, []) = L[k] := by simp [List.getD, hk]
  rw [e, List.take_succ_eq_append_getElem hk]
  unfold markedL
  rw [List.filter_append]
  congr 1
  split <;> rename_i h <;> simp [h]
/-- What is known of shares that are looked at. -/
def Fair (L : List Shr) : Prop := ∀ x ∈ L, in64 x.1 ∧ x.2.length ≤ 100000 ∧ ∀ y ∈ x.2, in64 y
/-- What the program's region tells of one share. -/
structure MkS (w0 W : World) (g gs N n : Nat) (h : Int) (va : Option Addr) (ll vc : Nat) (l : List Int) (v : Value) (L : List Shr) : Prop where
  sh : ShAt W gs h (.slice va ll vc)
  gt : GathS W g v L
  be : Below g w0 W
  it : Ints W (.slice va ll vc) l
  lo : g ≤ gs
  ub : ∀ q, v.ownBlock = some q → g ≤ q ∧ q < gs
  sz : gs < W.heap.size
  ta : Tabs W
theorem MkS.grow {w0 W W' : World} {g gs N n : Nat} {h : Int} {va : Option Addr} {ll vc : Nat} {l : List Int} {v : Value} {L : List Shr} (k : MkS w0 W g gs N n h va ll vc l v L) (b : Below W.heap.size W W') : MkS w0 W' g gs N n h va ll vc l v L :=
  ⟨k.sh.below b k.sz, k.gt.below b (Nat.le_refl _), k.be.trans (b.mono (by have := k.lo; have := k.sz; omega)), k.it.below (Nat.le_refl _) b, k.lo, k.ub, Nat.lt_of_lt_of_le k.sz b.size, k.ta.below b k.ta.size⟩

set_option maxRecDepth 100000 in
set_option maxHeartbeats 16000000 in
theorem marked_any (sv mv : Value) (L : List Shr) (marks : List ByteArray) (w : World) (ht : Tabs w) (hs : Shares w sv L) (hm : Strs w mv marks) (hf : Fair L) (hn : marks.length ≤ 1000) (hL : L.length < 1000) :
    Calls Tryz.prog 21 #[sv, mv] w fun e w' => ∃ v, e = .returned v ∧ GathS w' w.heap.size v (markedL marks L) ∧ Below w.heap.size w w' := by
  obtain ⟨a1, d1, rfl, _, hld1, hd1, _⟩ := id hs
  obtain ⟨am, dm, rfl, _⟩ := id hm
  obtain ⟨N, hN⟩ : ∃ N, L.length = N := ⟨_, rfl⟩
  obtain ⟨n, hnn⟩ : ∃ n, marks.length = n := ⟨_, rfl⟩
  rw [hN] at hs hld1 hL ⊢
  rw [hnn] at hm hn ⊢
  obtain ⟨g, hg⟩ : ∃ g, w.heap.size = g := ⟨_, rfl⟩
  have HGG := Lib.hid hg
  have HNN := Lib.hid hN
  have HMN := Lib.hid hnn
  have HS := Lib.hid hs
  have HM := Lib.hid hm
  have HT := Lib.hid ht
  have HF := Lib.hid hf
  have HNB : Hid (n ≤ 1000 ∧ N < 1000) := ⟨hn, hL⟩
  have HW0 : Hid (Below g w w) := Below.refl _ _
  have HG0 : Hid (GathS w g (.slice none 0 0) (markedL marks (L.take 0))) := by rw [List.take_zero]; exact gathS_nil _ _
  have HZ0 : Hid (g ≤ w.heap.size) := Nat.le_of_eq hg.symm
  rw [hg]
  clear hs hm ht hg hN hnn hf hn hL
  go_enter Tryz.func21, Tryz.ntmps21
  go_wp2_with fail
  go_loopw [5, 7, 10] (fun v _ i wr => ∃ k : Nat, k ≤ N ∧ i = .int .i64 k ∧ Hid (GathS wr g v (markedL marks (L.take k))) ∧ Hid (Below g w wr) ∧ Hid (g ≤ wr.heap.size)) (fun _ _ i _ => N - (intOf i).toNat)
  case atStart => exact ⟨0, Nat.zero_le _, rfl, HG0, HW0, HZ0⟩
  case round =>
    obtain ⟨k, hk, rfl, HG, HW, HZ⟩ := hrel
    by_cases hlt : k < N
    · obtain ⟨b1, o1, v1, rfl, c0, c1, hi1⟩ := (HS.out.below (Nat.le_of_eq HGG.out) HW.out).at hlt
      have HTK := Lib.hid (markedL_take (marks := marks) (L := L) (k := k) (by have := HNN.out; omega))
      have hfk := HF.out (L.getD k (0, [])) (by rw [List.getD_eq_getElem?_getD, List.getElem?_eq_getElem (by have := HNN.out; omega)]; exact List.getElem_mem _)
      obtain ⟨⟨h, l⟩, hsh⟩ : ∃ z, L.getD k (0, []) = z := ⟨_, rfl⟩
      rw [hsh] at c0 hi1 HTK hfk
      simp only at c0 hi1 hfk
      obtain ⟨va1, vc1, rfl⟩ := hi1.shape
      obtain ⟨ll, hll⟩ : ∃ ll, l.length = ll := ⟨_, rfl⟩
      rw [hll] at c1 hi1 hfk
      obtain ⟨gs, hgs⟩ : ∃ gs, wr.heap.size = gs := ⟨_, rfl⟩
      have hgg : g ≤ gs := by rw [← hgs]; exact HZ.out
      have hba : Below gs wr (wr.alloc (.cells #[.int .i64 h, .slice va1 ll vc1] 42)) := by rw [← hgs]; exact (Below.refl _ _).alloc (Nat.le_refl _) _
      have hsa := shAt_new wr h (.slice va1 ll vc1) 42
      rw [hgs] at hsa
      have HMS : Hid (MkS w (wr.alloc (.cells #[.int .i64 h, .slice va1 ll vc1] 42)) g gs N n h va1 ll vc1 l u5 (markedL marks (L.take k))) :=
        ⟨hsa, HG.out.alloc _, HW.out.trans (hba.mono hgg), hi1.below (Nat.le_of_eq hgs) hba, hgg, by rw [← hgs]; exact HG.out.block, by rw [← hgs]; simp, (HT.out.below HW.out (by rw [← HGG.out]; exact HT.out.size)).below hba (by have h1 := HT.out.size; rw [HGG.out] at h1; omega)⟩
      have HFK : Hid (in64 h ∧ ll ≤ 100000 ∧ ∀ y ∈ l, in64 y) := hfk
      have HLL := Lib.hid hll
      have HKL : Hid ((markedL marks (L.take k)).length ≤ k) := by show _ ≤ _; have := markedL_len marks (L.take k); rw [List.length_take] at this; omega
      clear hi1 hba hsh hsa HW hll HG hgg hfk
      go_wp2_with fail
      generalize wr.alloc (.cells #[.int .i64 h, .slice va1 ll vc1] 42) = w5 at *
      have p0 := cell_regrown HMS.out.sh.c0
      have p1 := cell_regrown HMS.out.sh.c1
      have cM : ∀ d os, Calls Tryz.prog 19 #[.agg #[.int .i64 h, .slice va1 ll vc1]] (grow (redrawn w5 d) os) fun e w'' => e = .returned (.string (markB h l)) ∧ ∃ p : Regrown, w'' = grow (redrawn w5 p.d) p.os := fun d os => Calls.regrown_of (mark_any h va1 ll vc1 l _ (HMS.out.ta.below (below_regrown w5 d os) HMS.out.ta.size) (HMS.out.it.below (Nat.le_refl _) (below_regrown w5 d os)) HLL.out.symm HFK.out.2.1 HFK.out.1 HFK.out.2.2)
      obtain ⟨mb, hmb⟩ : ∃ mb, markB h l = mb := ⟨_, rfl⟩
      rw [hmb] at cM
      have HMB := Lib.hid hmb
      clear hgs hmb c0 c1
      by_cases h1 : h < 1
      · have q1 : decide ((1 : Int) ≤ h) = false := decide_eq_false (by omega)
        have q2 : ¬ (1 : Int) ≤ h := by omega
        have HB : Hid (mkB marks (h, l) = false) := by show _ = _; unfold mkB; rw [q1]; rfl
        refine wp_region_quiet_below (by kernel_rfl) (by kernel_rfl) ?_
        repeat (go_big_quiet_step (with_reducible exact cM _ _))
        refine wpQuiet_nil ?_
        intro _ hw'
        obtain ⟨⟨dq, osq⟩, hw''⟩ := hw'
        subst hw''
        have HM6 := Lib.hid (HMS.out.grow (below_regrown w5 dq osq))
        clear cM p0 p1 HMS
        generalize grow (redrawn w5 dq) osq = w6 at *
        have HG2 : Hid (GathS w6 g u5 (markedL marks (L.take (k + 1)))) := by
          show GathS _ _ _ _
          rw [HTK.out, if_neg (by rw [HB.out]; simp), List.append_nil]
          exact HM6.out.gt
        have HBE : Hid (Below g w w6) := HM6.out.be
        have HZE : Hid (g ≤ w6.heap.size) := by have h1 := HM6.out.lo; have h2 := HM6.out.sz; show _ ≤ _; omega
        clear HM6
        go_wp2
        go_roundw
        case rel => exact ⟨k + 1, by omega, by go_num, HG2, HBE, HZE⟩
        case measure => simp [intOf]; omega
      · have q1 : decide ((1 : Int) ≤ h) = true := decide_eq_true (by omega)
        have q2 : (1 : Int) ≤ h := by omega
        by_cases h2 : (n : Int) < h
        · have q3 : decide (h ≤ (n : Int)) = false := decide_eq_false (by omega)
          have q4 : ¬ h ≤ (n : Int) := by omega
          have HB : Hid (mkB marks (h, l) = false) := by show _ = _; unfold mkB; rw [HMN.out, q3, Bool.and_false]; rfl
          refine wp_region_quiet_below (by kernel_rfl) (by kernel_rfl) ?_
          repeat (go_big_quiet_step (with_reducible exact cM _ _))
          refine wpQuiet_nil ?_
          intro _ hw'
          obtain ⟨⟨dq, osq⟩, hw''⟩ := hw'
          subst hw''
          have HM6 := Lib.hid (HMS.out.grow (below_regrown w5 dq osq))
          clear cM p0 p1 HMS
          generalize grow (redrawn w5 dq) osq = w6 at *
          have HG2 : Hid (GathS w6 g u5 (markedL marks (L.take (k + 1)))) := by
            show GathS _ _ _ _
            rw [HTK.out, if_neg (by rw [HB.out]; simp), List.append_nil]
            exact HM6.out.gt
          have HBE : Hid (Below g w w6) := HM6.out.be
          have HZE : Hid (g ≤ w6.heap.size) := by have h1 := HM6.out.lo; have h2 := HM6.out.sz; show _ ≤ _; omega
          clear HM6
          go_wp2
          go_roundw
          case rel => exact ⟨k + 1, by omega, by go_num, HG2, HBE, HZE⟩
          case measure => simp [intOf]; omega
        · have q3 : decide (h ≤ (n : Int)) = true := decide_eq_true (by omega)
          have q4 : h ≤ (n : Int) := by omega
          obtain ⟨H, hH⟩ := Int.eq_ofNat_of_zero_le (show 0 ≤ h - 1 by omega)
          have hHn : H < n := by omega
          have hn9 := HNB.out.1
          have w1 : wrap64 (h - 1) = (H : Int) := by rw [hH]; unfold wrap64; omega
          have w2 : IntKind.i64.wrap (h - 1) = (H : Int) := by rw [hH, IntKind.wrap_i64]; omega
          obtain ⟨bm, om, rfl, cm⟩ := (HM.out.below (Nat.le_of_eq HGG.out) HMS.out.be).at hHn
          obtain ⟨mk, hmk⟩ : ∃ mk, marks.getD H ByteArray.empty = mk := ⟨_, rfl⟩
          rw [hmk] at cm
          have pm := cell_regrown cm
          obtain ⟨e, he⟩ : ∃ e, (mb.toList == mk.toList) = e := ⟨_, rfl⟩
          have HB : Hid (mkB marks (h, l) = e) := by show _ = _; unfold mkB; simp only; rw [HMN.out, q1, q3, HMB.out, hH, Int.toNat_natCast, hmk, he]; rfl
          have hHI : (H : Int) < (n : Int) := by omega
          clear hH hmk h1 h2 cm
          cases e with
          | false =>
            refine wp_region_quiet_below (by kernel_rfl) (by kernel_rfl) ?_
            repeat (go_big_quiet_step (with_reducible exact cM _ _))
            refine wpQuiet_nil ?_
            intro _ hw'
            obtain ⟨⟨dq, osq⟩, hw''⟩ := hw'
            subst hw''
            have HM6 := Lib.hid (HMS.out.grow (below_regrown w5 dq osq))
            clear cM p0 p1 HMS
            generalize grow (redrawn w5 dq) osq = w6 at *
            have HG2 : Hid (GathS w6 g u5 (markedL marks (L.take (k + 1)))) := by
              show GathS _ _ _ _
              rw [HTK.out, if_neg (by rw [HB.out]; simp), List.append_nil]
              exact HM6.out.gt
            have HBE : Hid (Below g w w6) := HM6.out.be
            have HZE : Hid (g ≤ w6.heap.size) := by have h1 := HM6.out.lo; have h2 := HM6.out.sz; show _ ≤ _; omega
            clear HM6
            go_wp2
            go_roundw
            case rel => exact ⟨k + 1, by omega, by go_num, HG2, HBE, HZE⟩
            case measure => simp [intOf]; omega
          | true =>
            refine wp_region_quiet_below (by kernel_rfl) (by kernel_rfl) ?_
            repeat (go_big_quiet_step (with_reducible exact cM _ _))
            refine wpQuiet_nil ?_
            intro _ hw'
            obtain ⟨⟨dq, osq⟩, hw''⟩ := hw'
            subst hw''
            have HM6 := Lib.hid (HMS.out.grow (below_regrown w5 dq osq))
            clear cM p0 p1 HMS
            generalize grow (redrawn w5 dq) osq = w6 at *
            clear q1 q2 q3 q4 w1 w2 pm he hHI hn9
            have s0 := HM6.out.sh.c0
            have s1 := HM6.out.sh.c1
            have HCL := Lib.hid (clone_any (.slice va1 ll vc1) l w6.drew HM6.out.it (by rw [HLL.out]; have := HFK.out.2.1; omega))
            have HTT : Hid (markedL marks (L.take (k + 1)) = markedL marks (L.take k) ++ [(h, l)]) := by show _ = _; rw [HTK.out, if_pos HB.out]
            go_upto_region 6 with fail
            have HAP2 : Hid (∀ v' W', Gath W' w6.heap.size v' l → Below w6.heap.size w6 W' → ∃ v'' W'', (Builtin.append_ #[23, 23] 23 #[u5, .slice (some ⟨W'.heap.size, 0, none⟩) 1 1]).run Tryz.prog (W'.alloc (.cells #[.int .i64 h, v'] 42)) = .ok v'' W'' ∧ Hid (GathS W'' g v'' (markedL marks (L.take (k + 1)))) ∧ Hid (Below g w W'') ∧ Hid (g ≤ W''.heap.size)) := by
              intro v' W' r1 r2
              have hlo := HM6.out.lo
              have hsz := HM6.out.sz
              have hzw : w6.heap.size ≤ W'.heap.size := r2.size
              have hga : GathS (W'.alloc (.cells #[.int .i64 h, v'] 42)) g u5 (markedL marks (L.take k)) := (HM6.out.gt.below r2 (Nat.le_refl _)).alloc _
              have hal : World.grownBy W' (W'.alloc (.cells #[.int .i64 h, v'] 42)) none := World.grownBy_alloc _ _ none
              obtain ⟨v'', W'', e1, e2, e3, _⟩ := run_appendS hga W'.heap.size h v' l (shAt_new W' h v' 42).c0 (shAt_new W' h v' 42).c1 ((r1.slc (by have := HLL.out; have := HFK.out.2.1; omega)).grown hal (fun q _ e => by cases e)) (fun q hq => by
                have h1 := World.ownsRow.lt r1 q hq
                refine ⟨by omega, by simp; omega, fun e => ?_⟩
                have h2 := HM6.out.ub q e
                omega) (by have := HKL.out; have := HNB.out.2; omega) (by simp; omega) 23
              rw [← HTT.out] at e2
              refine ⟨v'', W'', e1, e2, ((HM6.out.be.trans (r2.mono (by omega))).alloc (by omega) _).grown e3 (by simp; omega) (fun q hq => (HM6.out.ub q hq).1), ?_⟩
              have := e3.size; simp at this; show g ≤ W''.heap.size; omega
            have HKD : Hid (∀ W, Below w6.drew.heap.size w6.drew W → ShAt W gs h (.slice va1 ll vc1)) := fun W hb => HM6.out.sh.below (((Below.refl _ _).drew).trans hb) HM6.out.sz
            clear HM6 HKL HTT HTK HMB HB
            apply region_oneV3 (fun vn W => Hid (GathS W g vn (markedL marks (L.take (k + 1)))) ∧ Hid (Below g w W) ∧ Hid (g ≤ W.heap.size))
            case hr =>
              refine wp_region_noPanic ?_
              go_region_law (first
                | (go_simp; go_at_call 47; with_reducible refine HCL.out.mono ?_; rintro e W7 ⟨v7, rfl, hg7, hb7⟩; obtain ⟨av, cv, rfl⟩ := hg7.shape; have h7 := HKD.out W7 hb7; have k0 := h7.c0; have k1 := h7.c1; have HG7 := Lib.hid hg7; have HB7 := Lib.hid (((Below.refl _ w6).drew).trans hb7); clear hg7 hb7 h7)
                | (refine step_appendV rfl _ _ _ _ rfl _ _ rfl rfl _ (HAP2.out _ _ HG7.out HB7.out) ?_; rintro v'' W'' ⟨H1, H2, H3⟩))
              all_goals
                refine NoPanic.normal ?_
                obtain ⟨vq, hvq⟩ : ∃ vq, Value.slice av l.length cv = vq := ⟨_, rfl⟩
                obtain ⟨nq, hnq⟩ : ∃ nq, W7.heap.size = nq := ⟨_, rfl⟩
                rw [hvq, hnq]
                exact ⟨rfl, v'', vq, nq, rfl, H1, H2, H3⟩
            rintro vn vx nx W ⟨H1, H2, H3⟩
            clear HAP2 s0 s1
            go_wp2
            go_roundw
            case rel => exact ⟨k + 1, by omega, by go_num, H1, H2, H3⟩
            case measure => simp [intOf]; omega
    · obtain rfl : k = N := by omega
      have HGF : Hid (GathS wr g u5 (markedL marks L)) := by have h := HG.out; rw [List.take_of_length_le (by have := HNN.out; omega)] at h; exact h
      go_wp2
      go_ret
      exact ⟨_, rfl, HGF.out, HW.out⟩
/-- A growing list of shares whose values lie where they lay ahead of the call. -/
def GathO (w0 w : World) (base : Nat) (v : Value) (L : List Shr) : Prop := ∃ Z : List (Int × Value), Z.length = L.length ∧ w.ownsRow base 42 2 v L.length (flatZ Z) ∧ ∀ i, i < L.length → (Z.getD i (0, undef)).1 = (L.getD i (0, [])).1 ∧ Ints w0 (Z.getD i (0, undef)).2 (L.getD i (0, [])).2
theorem gathO_nil (w0 w : World) (base : Nat) : GathO w0 w base (.slice none 0 0) [] := ⟨[], rfl, World.ownsRow_nil _ _ _ _, fun i hi => by simp at hi⟩
theorem GathO.alloc {w0 w : World} {base : Nat} {v : Value} {L : List Shr} (h : GathO w0 w base v L) (o : Obj) : GathO w0 (w.alloc o) base v L := by
  obtain ⟨Z, h1, h2, h3⟩ := h
  exact ⟨Z, h1, World.ownsRow.alloc h2 o, h3⟩
theorem GathO.below {w0 w w' : World} {base : Nat} {v : Value} {L : List Shr} (h : GathO w0 w base v L) (b : Below w.heap.size w w') : GathO w0 w' base v L := by
  obtain ⟨Z, h1, h2, h3⟩ := h
  refine ⟨Z, h1, World.ownsRow.kept h2 (grownBy_of_below b (Nat.le_refl _)) ?_, h3⟩
  cases hb : v.ownBlock with
  | none => exact .inl rfl
  | some g => exact .inr (by simp)
theorem GathO.ub {w0 w : World} {base : Nat} {v : Value} {L : List Shr} (h : GathO w0 w base v L) : ∀ q, v.ownBlock = some q → base ≤ q ∧ q < w.heap.size := by
  obtain ⟨Z, h1, h2, h3⟩ := h
  exact World.ownsRow.lt h2
theorem GathO.shares {w0 w : World} {base : Nat} {v : Value} {L : List Shr} (h : GathO w0 w base v L) (hb : Below w0.heap.size w0 w) (hl : L.length ≤ 1000) : Shares w v L := by
  obtain ⟨Z, h1, h2, h3⟩ := h
  rcases id h2.2 with ⟨hv, h0⟩ | ⟨g, cap, cur, hv, hg1, hg2, hg3, hg4, _⟩
  · obtain rfl : L = [] := List.eq_nil_of_length_eq_zero h0
    exact ⟨none, 0, hv, by simp, Nat.le_refl _, by simp, fun h => absurd rfl h⟩
  · refine ⟨_, cap, hv, hl, hg3, by unfold maxLen at hg4; omega, fun hne => ⟨g, 0, rfl, fun i hi => ?_⟩⟩
    have hcell := World.ownsRow.cells h2 (g := g) (by rw [hv]; rfl)
    have had : ∀ j, (⟨g, 0, none⟩ : Addr).add j = ⟨g, j, none⟩ := fun j => by unfold Addr.add; split <;> simp_all
    obtain ⟨f1, f2⟩ := flatZ_get Z i (by omega)
    have c1 := hcell _ _ f1
    have c2 := hcell _ _ f2
    rw [had] at c1 c2
    obtain ⟨e1, e2⟩ := h3 i hi
    rw [Nat.zero_add]
    exact ⟨_, by rw [← e1]; exact c1, c2, e2.below (Nat.le_refl _) hb⟩
section
variable {ops : Array Oper} {rest : List Oper} {o : Oper} {a : Act} {Q : Exit → Act → World → Prop}
theorem appendO_one (w0 w : World) (hgd : o.guard = none) (s x : Operand) (ho : o.op = .call { callee := .builtin .append, args := #[s, x], argTypes := #[23, 23] })
    (base : Nat) (v : Value) (L : List Shr) (hd : Int) (gv : Value) (l : List Int) (hs : a.eval s = v) (hown : GathO w0 w base v L) (ad : Nat) (hx : a.eval x = .slice (some ⟨ad, 0, none⟩) 1 1) (hc0 : w.cell? ⟨ad, 0, none⟩ = some (.int .i64 hd)) (hc1 : w.cell? ⟨ad, 1, none⟩ = some gv)
    (hS : Ints w0 gv l) (hlen : L.length < 1000) (hbase : base ≤ w.heap.size)
    (h : ∀ v' w', GathO w0 w' base v' (L ++ [(hd, l)]) → Below base w w' → wpList Tryz.prog ops Q rest (a.put o.dst v') w') : wpList Tryz.prog ops Q (o :: rest) a w := by
  obtain ⟨i0, hi, hz0, hz1, hz2⟩ := info_parts infoShare
  obtain ⟨Z, z1, z2, z3⟩ := hown
  refine wpList_append_own_at (w := w) hgd s x 23 ho base 42 i0 (.agg #[.int .i64 0, .slice none 0 0]) 2 32 Tryz.underlying23 hi hz0 hz1 hz2 rfl (by decide) v L.length (flatZ Z) hs z2 ⟨ad, 0, none⟩ 1 1 [.int .i64 hd, gv] hx rfl ?_ ?_ ?_ ?_ hbase ?_
  · have had : ∀ j, (⟨ad, 0, none⟩ : Addr).add j = ⟨ad, j, none⟩ := fun j => by unfold Addr.add; split <;> simp_all
    intro j u hj
    rw [had]
    match j, hj with
    | 0, hj => simp at hj; subst hj; exact hc0
    | 1, hj => simp at hj; subst hj; exact hc1
  · obtain ⟨_, _, rfl, _⟩ := hS
    intro u hu
    simp only [List.mem_cons, List.not_mem_nil, or_false] at hu
    rcases hu with rfl | rfl <;> rfl
  · unfold maxLen; omega
  · omega
  · intro v' w' h1 h2 _ _
    refine h v' w' ⟨Z ++ [(hd, gv)], by simp [z1], by rw [flatZ_snoc, List.length_append]; exact h1, fun i hi => ?_⟩ ((Below.refl base w).grown h2 hbase fun g hg => (World.ownsRow.lt z2 g hg).1)
    rw [List.length_append, List.length_singleton] at hi
    by_cases hlt : i < L.length
    · have e1 : (Z ++ [(hd, gv)]).getD i (0, undef) = Z.getD i (0, undef) := by simp [List.getD, List.getElem?_append, z1, hlt]
      have e2 : (L ++ [(hd, l)]).getD i (0, []) = L.getD i (0, []) := by simp [List.getD, List.getElem?_append, hlt]
      rw [e1, e2]
      exact z3 i hlt
    · obtain rfl : i = L.length := by omega
      have e1 : (Z ++ [(hd, gv)]).getD L.length (0, undef) = (hd, gv) := by simp [List.getD, ← z1]
      have e2 : (L ++ [(hd, l)]).getD L.length (0, []) = (hd, l) := by simp [List.getD]
      rw [e1, e2]
      exact ⟨rfl, hS⟩
end
structure MkT (w0 W : World) (g gs : Nat) (h : Int) (va : Option Addr) (ll vc : Nat) (l : List Int) (v : Value) (L : List Shr) : Prop where
  sh : ShAt W gs h (.slice va ll vc)
  gt : GathO w0 W g v L
  be : Below g w0 W
  it : Ints w0 (.slice va ll vc) l
  eg : g = w0.heap.size
  lo : g ≤ gs
  sz : gs < W.heap.size
theorem MkT.grow {w0 W W' : World} {g gs : Nat} {h : Int} {va : Option Addr} {ll vc : Nat} {l : List Int} {v : Value} {L : List Shr} (k : MkT w0 W g gs h va ll vc l v L) (b : Below W.heap.size W W') : MkT w0 W' g gs h va ll vc l v L :=
  ⟨k.sh.below b k.sz, k.gt.below b, k.be.trans (b.mono (by have := k.lo; have := k.sz; omega)), k.it, k.eg, k.lo, Nat.lt_of_lt_of_le k.sz b.size⟩
theorem MkT.here {w0 W : World} {g gs : Nat} {h : Int} {va : Option Addr} {ll vc : Nat} {l : List Int} {v : Value} {L : List Shr} (k : MkT w0 W g gs h va ll vc l v L) : Ints W (.slice va ll vc) l := k.it.below (Nat.le_of_eq k.eg.symm) k.be

set_option maxRecDepth 100000 in
set_option maxHeartbeats 16000000 in
theorem ref7_marked_any (sv mv : Value) (L : List Shr) (marks : List ByteArray) (w : World) (hs : Shares w sv L) (hm : Strs w mv marks) (hf : Fair L) (hn : marks.length ≤ 1000) (hL : L.length < 1000) :
    Calls Tryz.prog 22 #[sv, mv] w fun e w' => ∃ v, e = .returned v ∧ GathS w' w.heap.size v (markedL marks L) ∧ Below w.heap.size w w' := by
  obtain ⟨a1, d1, rfl, _, hld1, hd1, _⟩ := id hs
  obtain ⟨am, dm, rfl, _⟩ := id hm
  obtain ⟨N, hN⟩ : ∃ N, L.length = N := ⟨_, rfl⟩
  obtain ⟨n, hnn⟩ : ∃ n, marks.length = n := ⟨_, rfl⟩
  rw [hN] at hs hld1 hL ⊢
  rw [hnn] at hm hn ⊢
  obtain ⟨g, hg⟩ : ∃ g, w.heap.size = g := ⟨_, rfl⟩
  have HGG := Lib.hid hg
  have HNN := Lib.hid hN
  have HMN := Lib.hid hnn
  have HS := Lib.hid hs
  have HM := Lib.hid hm
  have HF := Lib.hid hf
  have HNB : Hid (n ≤ 1000 ∧ N < 1000) := ⟨hn, hL⟩
  have HW0 : Hid (Below g w w) := Below.refl _ _
  have HG0 : Hid (GathO w w g (.slice none 0 0) (markedL marks (L.take 0))) := by rw [List.take_zero]; exact gathO_nil _ _ _
  have HZ0 : Hid (g ≤ w.heap.size) := Nat.le_of_eq hg.symm
  rw [hg]
  clear hs hm hg hN hnn hf hn hL
  go_enter Tryz.func22, Tryz.ntmps22
  go_wp2_with fail
  go_loopw [5, 7, 10] (fun v _ i wr => ∃ k : Nat, k ≤ N ∧ i = .int .i64 k ∧ Hid (GathO w wr g v (markedL marks (L.take k))) ∧ Hid (Below g w wr) ∧ Hid (g ≤ wr.heap.size)) (fun _ _ i _ => N - (intOf i).toNat)
  case atStart => exact ⟨0, Nat.zero_le _, rfl, HG0, HW0, HZ0⟩
  case round =>
    obtain ⟨k, hk, rfl, HG, HW, HZ⟩ := hrel
    by_cases hlt : k < N
    · obtain ⟨b1, o1, v1, rfl, cw0, cw1, hi1⟩ := HS.out.at hlt
      have c0 : wr.cell? ⟨b1, o1 + k * 2, none⟩ = some (.int .i64 (L.getD k (0, [])).1) := by rw [HW.out.cell (p := ⟨b1, o1 + k * 2, none⟩) (by rw [← HGG.out]; exact cell_lt cw0)]; exact cw0
      have c1 : wr.cell? ⟨b1, o1 + k * 2 + 1, none⟩ = some v1 := by rw [HW.out.cell (p := ⟨b1, o1 + k * 2 + 1, none⟩) (by rw [← HGG.out]; exact cell_lt cw1)]; exact cw1
      have HTK := Lib.hid (markedL_take (marks := marks) (L := L) (k := k) (by have := HNN.out; omega))
      have hfk := HF.out (L.getD k (0, [])) (by rw [List.getD_eq_getElem?_getD, List.getElem?_eq_getElem (by have := HNN.out; omega)]; exact List.getElem_mem _)
      obtain ⟨⟨h, l⟩, hsh⟩ : ∃ z, L.getD k (0, []) = z := ⟨_, rfl⟩
      rw [hsh] at c0 hi1 HTK hfk
      simp only at c0 hi1 hfk
      obtain ⟨va1, vc1, rfl⟩ := hi1.shape
      obtain ⟨ll, hll⟩ : ∃ ll, l.length = ll := ⟨_, rfl⟩
      rw [hll] at c1 hi1 hfk
      obtain ⟨gs, hgs⟩ : ∃ gs, wr.heap.size = gs := ⟨_, rfl⟩
      have hgg : g ≤ gs := by rw [← hgs]; exact HZ.out
      have hba : Below gs wr (wr.alloc (.cells #[.int .i64 h, .slice va1 ll vc1] 42)) := by rw [← hgs]; exact (Below.refl _ _).alloc (Nat.le_refl _) _
      have hsa := shAt_new wr h (.slice va1 ll vc1) 42
      rw [hgs] at hsa
      have HMS : Hid (MkT w (wr.alloc (.cells #[.int .i64 h, .slice va1 ll vc1] 42)) g gs h va1 ll vc1 l u5 (markedL marks (L.take k))) :=
        ⟨hsa, HG.out.alloc _, HW.out.trans (hba.mono hgg), hi1, HGG.out.symm, hgg, by rw [← hgs]; simp⟩
      have HFK : Hid (in64 h ∧ ll ≤ 100000 ∧ ∀ y ∈ l, in64 y) := hfk
      have HLL := Lib.hid hll
      have HKL : Hid ((markedL marks (L.take k)).length ≤ k) := by show _ ≤ _; have := markedL_len marks (L.take k); rw [List.length_take] at this; omega
      clear hi1 hba hsh hsa HW hll HG hgg hfk cw0 cw1
      go_wp2_with fail
      generalize wr.alloc (.cells #[.int .i64 h, .slice va1 ll vc1] 42) = w5 at *
      have p0 := cell_regrown HMS.out.sh.c0
      have p1 := cell_regrown HMS.out.sh.c1
      have cM : ∀ d os, Calls Tryz.prog 14 #[.agg #[.int .i64 h, .slice va1 ll vc1]] (grow (redrawn w5 d) os) fun e w'' => e = .returned (.string (markB h l)) ∧ ∃ p : Regrown, w'' = grow (redrawn w5 p.d) p.os := fun d os => Calls.regrown_of (ref7_mark_any h va1 ll vc1 l _ (HMS.out.here.below (Nat.le_refl _) (below_regrown w5 d os)) HLL.out.symm HFK.out.2.1 HFK.out.1 HFK.out.2.2)
      obtain ⟨mb, hmb⟩ : ∃ mb, markB h l = mb := ⟨_, rfl⟩
      rw [hmb] at cM
      have HMB := Lib.hid hmb
      clear hgs hmb c0 c1
      by_cases h1 : h < 1
      · have q1 : decide ((1 : Int) ≤ h) = false := decide_eq_false (by omega)
        have q2 : ¬ (1 : Int) ≤ h := by omega
        have HB : Hid (mkB marks (h, l) = false) := by show _ = _; unfold mkB; rw [q1]; rfl
        refine wp_region_quiet_below (by kernel_rfl) (by kernel_rfl) ?_
        repeat (go_big_quiet_step (with_reducible exact cM _ _))
        refine wpQuiet_nil ?_
        intro _ hw'
        obtain ⟨⟨dq, osq⟩, hw''⟩ := hw'
        subst hw''
        have HM6 := Lib.hid (HMS.out.grow (below_regrown w5 dq osq))
        clear cM p0 p1 HMS
        generalize grow (redrawn w5 dq) osq = w6 at *
        have HG2 : Hid (GathO w w6 g u5 (markedL marks (L.take (k + 1)))) := by
          show GathO _ _ _ _ _
          rw [HTK.out, if_neg (by rw [HB.out]; simp), List.append_nil]
          exact HM6.out.gt
        have HBE : Hid (Below g w w6) := HM6.out.be
        have HZE : Hid (g ≤ w6.heap.size) := by have h1 := HM6.out.lo; have h2 := HM6.out.sz; show _ ≤ _; omega
        clear HM6
        go_wp2
        go_roundw
        case rel => exact ⟨k + 1, by omega, by go_num, HG2, HBE, HZE⟩
        case measure => simp [intOf]; omega
      · have q1 : decide ((1 : Int) ≤ h) = true := decide_eq_true (by omega)
        have q2 : (1 : Int) ≤ h := by omega
        by_cases h2 : (n : Int) < h
        · have q3 : decide (h ≤ (n : Int)) = false := decide_eq_false (by omega)
          have q4 : ¬ h ≤ (n : Int) := by omega
          have HB : Hid (mkB marks (h, l) = false) := by show _ = _; unfold mkB; rw [HMN.out, q3, Bool.and_false]; rfl
          refine wp_region_quiet_below (by kernel_rfl) (by kernel_rfl) ?_
          repeat (go_big_quiet_step (with_reducible exact cM _ _))
          refine wpQuiet_nil ?_
          intro _ hw'
          obtain ⟨⟨dq, osq⟩, hw''⟩ := hw'
          subst hw''
          have HM6 := Lib.hid (HMS.out.grow (below_regrown w5 dq osq))
          clear cM p0 p1 HMS
          generalize grow (redrawn w5 dq) osq = w6 at *
          have HG2 : Hid (GathO w w6 g u5 (markedL marks (L.take (k + 1)))) := by
            show GathO _ _ _ _ _
            rw [HTK.out, if_neg (by rw [HB.out]; simp), List.append_nil]
            exact HM6.out.gt
          have HBE : Hid (Below g w w6) := HM6.out.be
          have HZE : Hid (g ≤ w6.heap.size) := by have h1 := HM6.out.lo; have h2 := HM6.out.sz; show _ ≤ _; omega
          clear HM6
          go_wp2
          go_roundw
          case rel => exact ⟨k + 1, by omega, by go_num, HG2, HBE, HZE⟩
          case measure => simp [intOf]; omega
        · have q3 : decide (h ≤ (n : Int)) = true := decide_eq_true (by omega)
          have q4 : h ≤ (n : Int) := by omega
          obtain ⟨H, hH⟩ := Int.eq_ofNat_of_zero_le (show 0 ≤ h - 1 by omega)
          have hHn : H < n := by omega
          have hn9 := HNB.out.1
          have w1 : wrap64 (h - 1) = (H : Int) := by rw [hH]; unfold wrap64; omega
          have w2 : IntKind.i64.wrap (h - 1) = (H : Int) := by rw [hH, IntKind.wrap_i64]; omega
          obtain ⟨bm, om, rfl, cm⟩ := (HM.out.below (Nat.le_of_eq HGG.out) HMS.out.be).at hHn
          obtain ⟨mk, hmk⟩ : ∃ mk, marks.getD H ByteArray.empty = mk := ⟨_, rfl⟩
          rw [hmk] at cm
          have pm := cell_regrown cm
          obtain ⟨e, he⟩ : ∃ e, (mb.toList == mk.toList) = e := ⟨_, rfl⟩
          have HB : Hid (mkB marks (h, l) = e) := by show _ = _; unfold mkB; simp only; rw [HMN.out, q1, q3, HMB.out, hH, Int.toNat_natCast, hmk, he]; rfl
          have hHI : (H : Int) < (n : Int) := by omega
          clear hH hmk h1 h2 cm
          cases e with
          | false =>
            refine wp_region_quiet_below (by kernel_rfl) (by kernel_rfl) ?_
            repeat (go_big_quiet_step (with_reducible exact cM _ _))
            refine wpQuiet_nil ?_
            intro _ hw'
            obtain ⟨⟨dq, osq⟩, hw''⟩ := hw'
            subst hw''
            have HM6 := Lib.hid (HMS.out.grow (below_regrown w5 dq osq))
            clear cM p0 p1 HMS
            generalize grow (redrawn w5 dq) osq = w6 at *
            have HG2 : Hid (GathO w w6 g u5 (markedL marks (L.take (k + 1)))) := by
              show GathO _ _ _ _ _
              rw [HTK.out, if_neg (by rw [HB.out]; simp), List.append_nil]
              exact HM6.out.gt
            have HBE : Hid (Below g w w6) := HM6.out.be
            have HZE : Hid (g ≤ w6.heap.size) := by have h1 := HM6.out.lo; have h2 := HM6.out.sz; show _ ≤ _; omega
            clear HM6
            go_wp2
            go_roundw
            case rel => exact ⟨k + 1, by omega, by go_num, HG2, HBE, HZE⟩
            case measure => simp [intOf]; omega
          | true =>
            refine wp_region_quiet_below (by kernel_rfl) (by kernel_rfl) ?_
            repeat (go_big_quiet_step (with_reducible exact cM _ _))
            refine wpQuiet_nil ?_
            intro _ hw'
            obtain ⟨⟨dq, osq⟩, hw''⟩ := hw'
            subst hw''
            have HM6 := Lib.hid (HMS.out.grow (below_regrown w5 dq osq))
            clear cM p0 p1 HMS
            generalize grow (redrawn w5 dq) osq = w6 at *
            clear q1 q2 q3 q4 w1 w2 pm he hHI hn9
            have s0 := HM6.out.sh.c0
            have s1 := HM6.out.sh.c1
            have HTT : Hid (markedL marks (L.take (k + 1)) = markedL marks (L.take k) ++ [(h, l)]) := by show _ = _; rw [HTK.out, if_pos HB.out]
            have hlo := HM6.out.lo
            have hsz := HM6.out.sz
            have hsn := shAt_new w6 h (.slice va1 ll vc1) 42
            have HSN := Lib.hid hsn
            have hz7 : g ≤ (w6.alloc (.cells #[.int .i64 h, .slice va1 ll vc1] 42)).heap.size := by simp; omega
            have HB7 := Lib.hid (HM6.out.be.alloc (by omega) (.cells #[.int .i64 h, .slice va1 ll vc1] 42))
            clear hsn hlo hsz
            go_wp2_with (at_builtin; refine appendO_one w _ rfl _ _ rfl g _ (markedL marks (L.take k)) h (.slice va1 ll vc1) l rfl (HM6.out.gt.alloc _) w6.heap.size rfl HSN.out.c0 HSN.out.c1 HM6.out.it (by have := HKL.out; have := HNB.out.2; omega) hz7 ?_)
            intro v7 w7 hg7 hb7
            have HG2 : Hid (GathO w w7 g v7 (markedL marks (L.take (k + 1)))) := by show GathO _ _ _ _ _; rw [HTT.out]; exact hg7
            have HBE := Lib.hid (HB7.out.trans hb7)
            have HZE : Hid (g ≤ w7.heap.size) := Nat.le_trans hz7 hb7.size
            clear hg7 hb7 hz7 HM6 HSN HB7 s0 s1
            go_wp2
            go_roundw
            case rel => exact ⟨k + 1, by omega, by go_num, HG2, HBE, HZE⟩
            case measure => simp [intOf]; omega
    · obtain rfl : k = N := by omega
      have hgf : GathO w wr g u5 (markedL marks L) := by have h := HG.out; rw [List.take_of_length_le (by have := HNN.out; omega)] at h; exact h
      have hml := markedL_len marks L
      have hcp := copyS_any u5 (markedL marks L) wr (hgf.shares (by rw [HGG.out]; exact HW.out) (by have := HNN.out; have := HNB.out.2; omega)) (fun x hx => (HF.out x ((List.mem_filter.1 hx).1)).2.1) (by have := HNN.out; have := HNB.out.2; omega)
      have HCP := Lib.hid hcp
      clear hgf hml hcp
      go_wp2_with fail
      refine HCP.out.mono ?_
      rintro e w8 ⟨v8, rfl, hg8, hb8⟩
      have HG8 := Lib.hid (hg8.mono HZ.out)
      have HB8 := Lib.hid (HW.out.trans (hb8.mono HZ.out))
      obtain ⟨av, cv, rfl, _, _⟩ := hg8.shape
      clear hg8 hb8
      go_wp2
      go_ret
      exact ⟨_, rfl, HG8.out, HB8.out⟩
end Go.Proofs.YtpgbjnenllfmlaaGreatDoor
