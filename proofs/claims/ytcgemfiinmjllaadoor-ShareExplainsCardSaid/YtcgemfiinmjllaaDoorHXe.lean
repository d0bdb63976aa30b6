
/- The points of Explain: the program's explaining. -/
import Derived.Test.YtcgemfiinmjllaaDoorHXc
namespace Go.Proofs.YtcgemfiinmjllaaDoor
open Go.RowKit Go.Sort
open Num
set_option linter.unusedVariables false

theorem contains_any (L : List Shr) (x : Int) : (L.map fun s : Shr => s.1).contains x = L.any fun s => s.1 == x := by
  rw [Bool.eq_iff_iff]
  simp only [List.contains_iff_mem, List.any_eq_true, List.mem_map, beq_iff_eq]
theorem seenB_all (L : List Shr) (i : Nat) : seenB L L.length i = (L.map fun s : Shr => s.1).contains (i : Int) := by
  unfold seenB
  rw [List.take_length, contains_any]
/-- What has been put together behind the known shares. -/
def expQ (L : List Shr) (S : List Int) (h : Nat) : List Shr := (0, S) :: (L ++ (freeU (L.map fun s : Shr => s.1) h).map fun x => (x, []))
theorem expQ_len (L : List Shr) (S : List Int) (h : Nat) : (expQ L S h).length = 1 + L.length + (freeU (L.map fun s : Shr => s.1) h).length := by
  unfold expQ
  rw [List.length_cons, List.length_append, List.length_map]; omega
theorem expQ_skip {L : List Shr} {S : List Int} {h : Nat} (e : (L.map fun s : Shr => s.1).contains ((h + 1 : Nat) : Int) = true) : expQ L S (h + 1) = expQ L S h := by
  unfold expQ
  rw [freeU_succ, if_pos e, List.append_nil]
theorem expQ_add {L : List Shr} {S : List Int} {h : Nat} (e : (L.map fun s : Shr => s.1).contains ((h + 1 : Nat) : Int) = false) : expQ L S (h + 1) = expQ L S h ++ [(((h + 1 : Nat) : Int), [])] := by
  unfold expQ
  rw [freeU_succ, if_neg (by rw [e]; simp)]
  simp
theorem expQ_end {L : List Shr} {S : List Int} {h K : Nat} (hl : L.length < K) (hh : h ≤ 32) (e : (expQ L S h).length = K) : expQ L S h = expP K L S := by
  rw [expQ_len] at e
  unfold expQ expP
  rw [freeT_eq hh (c := K - 1 - L.length) (by omega)]
theorem expQ_zero (L : List Shr) (S : List Int) : expQ L S 0 = (0, S) :: L := by simp [expQ, freeU]

/-- A share of a list that came in, in a later world; its values lie below the call's own memory. -/
theorem Shares.at2 {w W : World} {a : Option Addr} {n c : Nat} {L : List Shr} (h : Shares w (.slice a n c) L) (hb : Below w.heap.size w W) {i : Nat} (hi : i < n) :
    ∃ b off v, a = some ⟨b, off, none⟩ ∧ W.cell? ⟨b, off + i * 2, none⟩ = some (.int .i64 (L.getD i (0, [])).1) ∧ W.cell? ⟨b, off + i * 2 + 1, none⟩ = some v ∧ Ints W v (L.getD i (0, [])).2 ∧ ∀ q, v.ownBlock = some q → (L.getD i (0, [])).2 ≠ [] → q < w.heap.size := by
  obtain ⟨b, off, v, e, c0, c1, hI⟩ := h.at hi
  have hlt := cell_lt c0
  exact ⟨b, off, v, e, by rw [hb.cell (p := ⟨b, off + i * 2, none⟩) hlt]; exact c0, by rw [hb.cell (p := ⟨b, off + i * 2 + 1, none⟩) hlt]; exact c1, hI.below (Nat.le_refl _) hb, hI.blk⟩
theorem cells_new2 (w : World) (x y : Value) (t : TypeId) (k : Nat) (hk : w.heap.size = k) : (w.alloc (.cells #[x, y] t)).cell? ⟨k, 0, none⟩ = some x ∧ (w.alloc (.cells #[x, y] t)).cell? ⟨k, 1, none⟩ = some y := by
  subst hk
  exact ⟨by rw [cell_new]; rfl, by rw [cell_new]; rfl⟩

set_option maxRecDepth 100000 in
set_option maxHeartbeats 8000000 in
theorem explaining_any (p n : Int) (K : Nat) (vk vs : Value) (L : List Shr) (S : List Int) (w : World) (hk : Shares w vk L) (hs : Ints w vs S) (hh : ∀ s ∈ L, 1 ≤ s.1 ∧ s.1 ≤ 16) (hlk : L.length < K) (hK : K ≤ 16) :
    Calls Tryd.prog 24 #[planV p (K : Int) n, vk, vs] w fun e w' => ∃ v, e = .returned v ∧ Shares w' v (expP K L S) ∧ Below w.heap.size w w' := by
  unfold planV
  obtain ⟨a1, d1, rfl, hl, hld1, hd1, _⟩ := id hk
  obtain ⟨sa, sc, rfl⟩ := hs.shape
  obtain ⟨SL, hSL⟩ : ∃ SL, S.length = SL := ⟨_, rfl⟩
  obtain ⟨N, hN⟩ : ∃ N, L.length = N := ⟨_, rfl⟩
  rw [hN] at hk hl hld1 hlk ⊢
  rw [hSL] at hs ⊢
  obtain ⟨g, hg⟩ : ∃ g, w.heap.size = g := ⟨_, rfl⟩
  obtain ⟨w1, hw1⟩ : ∃ w1, (w.alloc (Obj.cells #[Value.int IntKind.i64 p, Value.int IntKind.i64 (K : Int), Value.int IntKind.i64 n] 30)).alloc (Obj.cells zeros17 71) = w1 := ⟨_, rfl⟩
  have hal : ∀ (W : World) (o : Obj), Below W.heap.size W (W.alloc o) := fun W o => (Below.refl _ _).alloc (Nat.le_refl _) o
  have hb1 : Below g w w1 := by rw [← hw1, ← hg]; exact (hal _ _).trans ((hal _ _).mono (by simp))
  have hp1 : PlanAt w1 g p (K : Int) n := by rw [← hw1, ← hg]; exact (planAt_new _ _ _ _ _).below (by simp) (hal _ _)
  have hs1 : w1.heap.size = g + 1 + 1 := by rw [← hw1, ← hg]; simp
  have hr1 : w1.rowIs (g + 1) 71 17 (seenRow L 0) := by
    have h := rowIs_zeros17 (w.alloc (Obj.cells #[Value.int IntKind.i64 p, Value.int IntKind.i64 (K : Int), Value.int IntKind.i64 n] 30)) _ 71 L rfl
    rw [← hw1, ← hg]
    simpa using h
  obtain ⟨i0, hi, hz0, hz1, hz2⟩ := info_parts infoShare
  obtain ⟨wm, hmk, hmo, hmg⟩ := run_make_own (P := Tryd.prog) w1 (g + 1 + 1) 23 38 i0 (.agg #[.int .i64 0, .slice none 0 0]) 2 Tryd.underlying23 hi hz0 hz1 .i64 .i64 K (by rw [hz2]; omega) (by unfold maxLen; omega) (by omega)
  rw [hs1] at hmk hmo
  have hbm : Below (g + 1 + 1) w1 wm := (Below.refl _ _).grown hmg (by omega) (fun k e => by cases e)
  have hgm : GathR wm g (g + 1 + 1) (.slice (some ⟨g + 1 + 1, 0, none⟩) 0 K) [] := ⟨[], rfl, hmo, fun i hi => by simp at hi⟩
  have hszm : g + 1 + 1 < wm.heap.size := by have := World.ownsRow.lt hmo (g + 1 + 1) rfl; omega
  have HKI := Lib.hid (fun W (hb : Below g w W) => hk.below (Nat.le_of_eq hg) hb)
  have HK2 := Lib.hid (fun W (hb : Below g w W) (i : Nat) (hi : i < N) => hk.at2 (by rw [hg]; exact hb) hi)
  rw [hg] at HK2
  have HSI := Lib.hid (fun W (hb : Below g w W) => hs.below (Nat.le_of_eq hg) hb)
  have HSB : Hid (∀ q, (Value.slice sa SL sc).ownBlock = some q → S ≠ [] → q < g) := fun q hq hl => by rw [← hg]; exact hs.blk q hq hl
  have HBM : Hid (Below g w wm) := hb1.trans (hbm.mono (by omega))
  have HPM := Lib.hid (hp1.below (show g < g + 1 + 1 by omega) hbm)
  have HRM : Hid (wm.rowIs (g + 1) 71 17 (seenRow L 0)) := hr1.of_block (hbm.block _ (by omega))
  have HGM := Lib.hid hgm
  have HSZ := Lib.hid hszm
  have HNN := Lib.hid hN
  have HGG := Lib.hid hg
  have HHH := Lib.hid hh
  have c1 := hp1.c1
  rw [hg]
  clear hk hs hb1 hp1 hr1 hmo hmg hbm hgm hszm hN hh hal hSL hz0 hz1 hz2 hi
  go_enter Tryd.func24, Tryd.ntmps24
  unfold zeros17 at hw1
  go_wp2_with (at_builtin; refine appendR_one _ rfl _ _ rfl g (g + 1 + 1) (.slice (some ⟨g + 1 + 1, 0, none⟩) 0 K) [] 0 (.slice sa SL sc) S rfl (HGM.out.alloc _) wm.heap.size rfl ?c0 ?c1 ?hS HSB.out (by omega) (by simp) ?hbase ?_)
  case c0 => rw [cell_new]; rfl
  case c1 => rw [cell_new]; rfl
  case hS => exact HSI.out _ (HBM.out.alloc (by have := HSZ.out; omega) _)
  case hbase => have := HSZ.out; simp; omega
  intro v2 w2 hg2 hgr2 _
  have hb2 : Below (g + 1 + 1) wm w2 := ((Below.refl _ _).alloc (Nat.le_of_lt HSZ.out) _).grown hgr2 (by have := HSZ.out; simp; omega) (fun k e => by simp [Value.ownBlock] at e; omega)
  have HG2 : Hid (GathR w2 g (g + 1 + 1) v2 ((0, S) :: L.take 0)) := hg2
  have HP2 := Lib.hid (HPM.out.below (show g < g + 1 + 1 by omega) hb2)
  have HR2 : Hid (w2.rowIs (g + 1) 71 17 (seenRow L 0)) := HRM.out.of_block (hb2.block _ (by omega))
  have HB2 : Hid (Below g w w2) := HBM.out.trans (hb2.mono (by omega))
  have HZ2 : Hid (g + 1 + 1 < w2.heap.size) := Nat.lt_of_lt_of_le HSZ.out hb2.size
  clear hmk hg2 hgr2 hb2 c1 HGM HPM HRM HBM
  go_wp2_with fail
  clear hw1
  go_loopw [8, 10, 21] (fun v _ i wr => ∃ j : Nat, j ≤ N ∧ i = .int .i64 j ∧ Hid (GathR wr g (g + 1 + 1) v ((0, S) :: L.take j)) ∧ Hid (wr.rowIs (g + 1) 71 17 (seenRow L j)) ∧ Hid (PlanAt wr g p (K : Int) n) ∧ Hid (Below g w wr) ∧ Hid (g + 1 + 1 < wr.heap.size)) (fun _ _ i _ => N - (intOf i).toNat)
  case atStart => exact ⟨0, Nat.zero_le _, rfl, HG2, HR2, HP2, HB2, HZ2⟩
  case round =>
    obtain ⟨j, hj, rfl, HG, HR, HP, HB, HZ⟩ := hrel
    by_cases hlt : j < N
    · obtain ⟨b1, o1, v1, rfl, k0, k1, hi1, hv1⟩ := HK2.out wr HB.out j hlt
      have hmem : L.getD j (0, []) ∈ L := by rw [List.getD_eq_getElem?_getD, List.getElem?_eq_getElem (by rw [HNN.out]; exact hlt)]; exact List.getElem_mem _
      have hho := HHH.out _ hmem
      have hts : L.take j ++ [L.getD j (0, [])] = L.take (j + 1) := take_snocS (by rw [HNN.out]; exact hlt)
      obtain ⟨⟨h, l⟩, hsh⟩ : ∃ z, L.getD j (0, []) = z := ⟨_, rfl⟩
      have HSJ := Lib.hid hsh
      rw [hsh] at k0 hi1 hv1 hho hts
      simp only at k0 hi1 hv1 hho
      obtain ⟨H, rfl⟩ := Int.eq_ofNat_of_zero_le (show 0 ≤ h by omega)
      obtain ⟨va1, vc1, rfl⟩ := hi1.shape
      have hH17 : H < 17 := by omega
      obtain ⟨gs, hgs⟩ : ∃ gs, wr.heap.size = gs := ⟨_, rfl⟩
      have hgg : g + 1 + 1 < gs := by rw [← hgs]; exact HZ.out
      have hal : Below gs wr (wr.alloc (.cells #[.int .i64 (H : Int), .slice va1 l.length vc1] 38)) := by rw [← hgs]; exact (Below.refl _ _).alloc (Nat.le_refl _) _
      have hra := HR.out.alloc (.cells #[.int .i64 (H : Int), .slice va1 l.length vc1] 38)
      have e0 := hra.cell hH17
      have f0 := hra.frozen H
      unfold seenRow at e0
      have hrs : ((wr.alloc (.cells #[.int .i64 (H : Int), .slice va1 l.length vc1] 38)).setCell ⟨g + 1, H, none⟩ (.bool true)).rowIs (g + 1) 71 17 (seenRow L (j + 1)) := (hra.set H _).congr fun i hi => by
        unfold seenRow
        rw [seenB_succ (by rw [HNN.out]; exact hlt) (by rw [HSJ.out])]
        by_cases e : i = H
        · subst e; simp
        · rw [if_neg e]
          have : (((H : Nat) : Int) == (i : Int)) = false := by simp only [beq_eq_false_iff_ne]; omega
          rw [this, Bool.or_false]
      have hsb := set1_below (B := g + 1) (wr.alloc (.cells #[.int .i64 (H : Int), .slice va1 l.length vc1] 38)) (g := g + 1) H (.bool true) (Nat.le_refl _)
      have hcn := cells_new2 wr (.int .i64 (H : Int)) (.slice va1 l.length vc1) 38 gs hgs
      have t0 : ((wr.alloc (.cells #[.int .i64 (H : Int), .slice va1 l.length vc1] 38)).setCell ⟨g + 1, H, none⟩ (.bool true)).cell? ⟨gs, 0, none⟩ = some (.int .i64 (H : Int)) := by
        rw [World.cell?_setCell_other _ _ _ _ (by intro e; simp only [Addr.mk.injEq] at e; omega)]; exact hcn.1
      have t1 : ((wr.alloc (.cells #[.int .i64 (H : Int), .slice va1 l.length vc1] 38)).setCell ⟨g + 1, H, none⟩ (.bool true)).cell? ⟨gs, 1, none⟩ = some (.slice va1 l.length vc1) := by
        rw [World.cell?_setCell_other _ _ _ _ (by intro e; simp only [Addr.mk.injEq] at e; omega)]; exact hcn.2
      have hz5 : ((wr.alloc (.cells #[.int .i64 (H : Int), .slice va1 l.length vc1] 38)).setCell ⟨g + 1, H, none⟩ (.bool true)).heap.size = gs + 1 := by simp [hgs]
      have HG5 := Lib.hid ((HG.out.alloc (.cells #[.int .i64 (H : Int), .slice va1 l.length vc1] 38)).set (q := g + 1) (by omega) (by omega) H (.bool true))
      have HP5 := Lib.hid ((HP.out.below (show g < gs by omega) hal).below (Nat.lt_succ_self g) hsb)
      have HB5 := Lib.hid ((HB.out.trans (hal.mono (show g ≤ gs by omega))).trans (hsb.mono (Nat.le_succ g)))
      have HRS := Lib.hid hrs
      have HT0 := Lib.hid t0
      have HT1 := Lib.hid t1
      have HI5 : Hid (∀ W, Below g w W → Ints W (.slice va1 l.length vc1) l) := fun W hb => by
        obtain ⟨b2, o2, v2, e2, _, c2, hi2, _⟩ := HK2.out W hb j hlt
        rw [HSJ.out] at hi2
        simp only [Option.some.injEq, Addr.mk.injEq, and_true] at e2
        obtain ⟨rfl, rfl⟩ := e2
        obtain ⟨b3, o3, v3, e3, _, c3, _, _⟩ := HK2.out w (Below.refl _ _) j hlt
        obtain ⟨b4, o4, v4, e4, _, c4, _, _⟩ := HK2.out wr HB.out j hlt
        simp only [Option.some.injEq, Addr.mk.injEq, and_true] at e3 e4
        obtain ⟨rfl, rfl⟩ := e3
        obtain ⟨rfl, rfl⟩ := e4
        have hlt3 := cell_lt c3
        rw [HGG.out] at hlt3
        rw [hb.cell (p := ⟨b1, o1 + j * 2 + 1, none⟩) hlt3, ← HB.out.cell (p := ⟨b1, o1 + j * 2 + 1, none⟩) hlt3, k1] at c2
        rw [Option.some.inj c2]
        exact hi2
      have HV5 := Lib.hid hv1
      have HTS := Lib.hid hts
      have HSZ5 := Lib.hid hz5
      have HGS := Lib.hid hgg
      clear hi1 hv1 hmem hho hts hsh hra hrs hsb hcn hz5 hal
      go_wp2_with (at_builtin; refine appendR_one _ rfl _ _ rfl g (g + 1 + 1) u8 ((0, S) :: L.take j) (H : Int) (.slice va1 l.length vc1) l rfl (HG5.out.alloc _) (gs + 1) rfl ?c0 ?c1 ?hS HV5.out (by omega) ?hlen ?hbase ?_)
      case c0 => exact (cells_new2 _ _ _ _ _ HSZ5.out).1
      case c1 => exact (cells_new2 _ _ _ _ _ HSZ5.out).2
      case hS => exact HI5.out _ (HB5.out.alloc (by have := HSZ5.out; have := HGS.out; omega) _)
      case hlen => rw [List.length_cons, List.length_take]; omega
      case hbase => have := HSZ5.out; have := HGS.out; simp; omega
      intro v8 w8 hg8 hgr8 _
      rw [HTS.out] at hg8
      have hb8 : Below (g + 1 + 1) ((wr.alloc (.cells #[.int .i64 (H : Int), .slice va1 l.length vc1] 38)).setCell ⟨g + 1, H, none⟩ (.bool true)) w8 := ((Below.refl _ _).alloc (by have := HSZ5.out; have := HGS.out; omega) _).grown hgr8 (by have := HSZ5.out; have := HGS.out; simp; omega) (fun k e => (HG5.out.block k e).1)
      have HG8 := Lib.hid hg8
      have HP8 := Lib.hid (HP5.out.below (show g < g + 1 + 1 by omega) hb8)
      have HR8 : Hid (w8.rowIs (g + 1) 71 17 (seenRow L (j + 1))) := HRS.out.of_block (hb8.block _ (by omega))
      have HB8 : Hid (Below g w w8) := HB5.out.trans (hb8.mono (by omega))
      have HZ8 : Hid (g + 1 + 1 < w8.heap.size) := by show _ < _; have := HSZ5.out; have := HGS.out; have := hb8.size; omega
      clear hg8 hgr8 hb8 HG5 HP5 HB5 HRS hgs t0 t1 e0 f0
      go_wp2_with fail
      go_roundw
      case rel => exact ⟨j + 1, by omega, by go_num, HG8, HR8, HP8, HB8, HZ8⟩
      case measure => simp [intOf]; omega
    · obtain rfl : j = N := by omega
      have HQ0 : Hid (GathR wr g (g + 1 + 1) u8 (expQ L S 0)) := by
        have h := HG.out
        rw [← HNN.out, List.take_length, ← expQ_zero] at h
        exact h
      have HL0 : Hid ((expQ L S 0).length ≤ K) := by show _ ≤ _; rw [expQ_zero, List.length_cons, HNN.out]; omega
      clear HG
      go_wp2_with fail
      go_loopw [8, 11] (fun v h wr => ∃ t : Nat, t ≤ 32 ∧ h = .int .i64 ((t + 1 : Nat) : Int) ∧ Hid (GathR wr g (g + 1 + 1) v (expQ L S t)) ∧ Hid ((expQ L S t).length ≤ K) ∧ Hid (wr.rowIs (g + 1) 71 17 (seenRow L j)) ∧ Hid (PlanAt wr g p (K : Int) n) ∧ Hid (Below g w wr) ∧ Hid (g + 1 + 1 < wr.heap.size)) (fun _ h _ => 40 - (intOf h).toNat)
      case atStart => exact ⟨0, Nat.zero_le _, rfl, HQ0, HL0, HR, HP, HB, HZ⟩
      case round =>
        obtain ⟨t, ht, rfl, HG, HL, HRt, HPt, HBt, HZt⟩ := hrel
        obtain ⟨M, hM⟩ : ∃ M, (expQ L S t).length = M := ⟨_, rfl⟩
        obtain ⟨av, cv, hv, hc1, hc2⟩ := HG.out.shape
        rw [hM] at hv hc1
        subst hv
        have k1 := HPt.out.c1
        obtain ⟨T, hT⟩ : ∃ T, t + 1 = T := ⟨_, rfl⟩
        rw [hT]
        have HTT := Lib.hid hT
        have HMM := Lib.hid hM
        by_cases hlt2 : M < K
        · have htb : T < 17 := by
            have h1 := freeU_count t (L.map fun s : Shr => s.1)
            rw [List.length_map] at h1
            have h2 := HMM.out
            rw [expQ_len] at h2
            omega
          have e0 := HRt.out.cell htb
          unfold seenRow at e0
          obtain ⟨bs, hbs⟩ : ∃ b, seenB L j T = b := ⟨_, rfl⟩
          rw [hbs] at e0
          have HCT : Hid ((L.map fun s : Shr => s.1).contains ((t + 1 : Nat) : Int) = bs) := by
            show _ = _
            rw [← seenB_all, HNN.out, HTT.out]; exact hbs
          clear hT hM hbs
          cases bs with
          | true =>
            have HGN : Hid (GathR wr g (g + 1 + 1) (.slice av M cv) (expQ L S T)) := by rw [← HTT.out, expQ_skip HCT.out]; exact HG.out
            have HLN : Hid ((expQ L S T).length ≤ K) := by rw [← HTT.out, expQ_skip HCT.out]; exact HL.out
            go_wp2_with fail
            go_roundw
            case rel => exact ⟨T, by omega, by go_num, HGN, HLN, HRt, HPt, HBt, HZt⟩
            case measure => simp [intOf]; omega
          | false =>
            have HLN : Hid ((expQ L S T).length ≤ K) := by show _ ≤ _; rw [← HTT.out, expQ_add HCT.out, List.length_append, HMM.out]; simp; omega
            go_wp2_with (at_builtin; refine appendR_one _ rfl _ _ rfl g (g + 1 + 1) (.slice av M cv) (expQ L S t) (T : Int) (.slice none 0 0) [] rfl (HG.out.alloc _) wr.heap.size rfl ?c0 ?c1 (ints_nil _) ?hb (by omega) ?hlen ?hbase ?_)
            case c0 => exact (cells_new2 _ _ _ _ _ rfl).1
            case c1 => exact (cells_new2 _ _ _ _ _ rfl).2
            case hb => intro q hq; simp [Value.ownBlock] at hq
            case hlen => rw [HMM.out]; omega
            case hbase => have := HZt.out; simp; omega
            intro v8 w8 hg8 hgr8 _
            have hb8 : Below (g + 1 + 1) wr w8 := ((Below.refl _ _).alloc (Nat.le_of_lt HZt.out) _).grown hgr8 (by have := HZt.out; simp; omega) (fun k e => (HG.out.block k e).1)
            have HG8 : Hid (GathR w8 g (g + 1 + 1) v8 (expQ L S T)) := by rw [← HTT.out, expQ_add HCT.out, HTT.out]; exact hg8
            have HP8 := Lib.hid (HPt.out.below (show g < g + 1 + 1 by omega) hb8)
            have HR8 : Hid (w8.rowIs (g + 1) 71 17 (seenRow L j)) := HRt.out.of_block (hb8.block _ (by omega))
            have HB8 : Hid (Below g w w8) := HBt.out.trans (hb8.mono (by omega))
            have HZ8 : Hid (g + 1 + 1 < w8.heap.size) := Nat.lt_of_lt_of_le HZt.out hb8.size
            clear hg8 hgr8 hb8 e0 k1
            go_wp2_with fail
            go_roundw
            case rel => exact ⟨T, by omega, by go_num, HG8, HLN, HR8, HP8, HB8, HZ8⟩
            case measure => simp [intOf]; omega
        · have HF : Hid (Shares wr (.slice av M cv) (expP K L S)) := by
            have h1 : (expQ L S t).length = K := by have := HL.out; have := HMM.out; omega
            have h2 := HG.out.shares (by omega)
            rw [expQ_end (by rw [HNN.out]; exact hlk) ht h1] at h2
            exact h2
          clear hT hM
          go_wp2
          go_ret
          exact ⟨_, rfl, HF.out, HBt.out⟩
end Go.Proofs.YtcgemfiinmjllaaDoor
