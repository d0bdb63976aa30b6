
/- The walk through WordsParts. -/
import Derived.Test.YtmegmgcfnihhiaaDoorOTwi
import Derived.Maps.AppendAt
namespace Go.Proofs.YtmegmgcfnihhiaaDoor
open Go.RowKit Go.Shelf
set_option linter.unusedVariables false
set_option linter.unusedSimpArgs false

def strV (x : List UInt8) : Value := .string ⟨x.toArray⟩
theorem infoStr : (Tryd.prog.info? 9).map (fun i => (i.zero, i.size, i.bytes)) = some (some (.string ByteArray.empty), 1, 16) := by kernel_rfl
theorem run_app_words (w : World) (B : Nat) (v : Value) (us ws : List (List UInt8)) (hown : w.ownsRow B 9 1 v us.length (us.map strV)) (q : Nat) (hW : ∀ (j : Nat) x, ws[j]? = some x → w.cell? ⟨q, j, none⟩ = some (.string ⟨x.toArray⟩))
    (hB : B ≤ w.heap.size) (hlen : us.length + ws.length ≤ 1000000) (ty : TypeId) :
    ∃ v' w', (Builtin.append_ #[27, 27] ty #[v, .slice (some ⟨q, 0, none⟩) ws.length ws.length]).run Tryd.prog w = .ok v' w' ∧ (w'.ownsRow B 9 1 v' (us ++ ws).length ((us ++ ws).map strV) ∧ Below B w w') := by
  obtain ⟨i0, hi, hz0, hz1, hz2⟩ := info_parts infoStr
  obtain ⟨v', w', h0, h1, h2, _, _⟩ := run_append_own_at (P := Tryd.prog) w B 27 ty 9 i0 (.string ByteArray.empty) 1 16 Tryd.underlying27 hi hz0 hz1 hz2 rfl (by decide) v us.length (us.map strV) hown ⟨q, 0, none⟩ ws.length ws.length (ws.map strV) (by simp) (by
    intro j u hj
    rw [List.getElem?_map] at hj
    obtain ⟨x, hx, rfl⟩ := Option.map_eq_some_iff.1 hj
    have e : (⟨q, 0, none⟩ : Addr).add j = ⟨q, j, none⟩ := by unfold Addr.add; split <;> simp_all
    rw [e]
    exact hW j x hx) (by
    intro u hu
    obtain ⟨x, _, rfl⟩ := List.mem_map.1 hu
    rfl) (by unfold maxLen; omega) (by omega) hB
  refine ⟨v', w', h0, ?_, (Below.refl B w).grown h2 hB fun g hg => (World.ownsRow.lt hown g hg).1⟩
  rw [List.length_append, List.map_append]
  exact h1
theorem tot_mem : ∀ (ws : List (List UInt8)) (z : List UInt8), z ∈ ws → z.length + 1 ≤ totL ws
  | [], z, h => by simp at h
  | x :: ws, z, h => by
    simp only [totL, List.map_cons, List.sum_cons]
    rcases List.mem_cons.1 h with rfl | h
    · omega
    · have := tot_mem ws z h
      unfold totL at this
      omega
theorem own_words {w : World} {B : Nat} {v : Value} {zs : List (List UInt8)} (h : w.ownsRow B 9 1 v zs.length (zs.map strV)) : (∃ a c, v = .slice a zs.length c) ∧ ∀ j, j < zs.length → ∃ g c, v = .slice (some ⟨g, 0, none⟩) zs.length c ∧ ∀ x, zs[j]? = some x → w.cell? ⟨g, j, none⟩ = some (.string ⟨x.toArray⟩) := by
  rcases id h.2 with ⟨hv, h0⟩ | ⟨g, cap, cur, hv, hb, hg, h1, h2, h3, h4⟩
  · exact ⟨⟨none, 0, by rw [hv, h0]⟩, fun j hj => by omega⟩
  · refine ⟨⟨_, _, hv⟩, fun j hj => ⟨g, cap, hv, fun x hx => ?_⟩⟩
    have hcell := World.ownsRow.cells h (g := g) (by rw [hv]; rfl) j (strV x) (by rw [List.getElem?_map, hx]; rfl)
    have e : (⟨g, 0, none⟩ : Addr).add j = ⟨g, j, none⟩ := by unfold Addr.add; split <;> simp_all
    rw [e] at hcell
    exact hcell
section
variable {ops : Array Oper} {rest : List Oper} {o : Oper} {a : Act} {Q : Exit → Act → World → Prop}
theorem wp_listS (w : World) (hgd : o.guard = none) (s x : Operand) (t1 t2 : TypeId) (ho : o.op = .call { callee := .builtin .append, args := #[s, x], argTypes := #[t1, t2] }) (v sv : Value) (hs : a.eval s = v) (hx : a.eval x = sv) (R : Value → World → Prop)
    (hrun : ∃ v' W', (Builtin.append_ #[t1, t2] o.type #[v, sv]).run Tryd.prog w = .ok v' W' ∧ R v' W') (h : ∀ v' W', R v' W' → wpList Tryd.prog ops Q rest (a.put o.dst v') W') : wpList Tryd.prog ops Q (o :: rest) a w := by
  refine wpList_plain hgd fun K hK => ?_
  obtain ⟨v', W', hr, hR⟩ := hrun
  unfold Oper.wp execOp
  simp only [ho, resolve, invoke, builtin, Sem.run_bind, Sem.run_pure, Result.andThen_ok, List.map_toArray, List.map_cons, List.map_nil, hs, hx, hr]
  exact hK _ _ (h v' W' hR)
end

set_option maxHeartbeats 4000000 in
theorem wordsParts_walk (a b : ByteArray) (w : World) (T : Tbw w) (ha : a.size ≤ 140737488355328) (hb : b.size ≤ 140737488355328) :
    Calls Tryd.prog 4 #[.string a, .string b] w fun e w' => e = .returned (.bool true) ∧ Below w.heap.size w w' := by
  have HT := Lib.hid T
  have HAW := Lib.hid (fun W (k : Below w.heap.size w W) => awake11_any W (HT.out.below k))
  clear T
  by_cases hbig : 400 < a.size + b.size
  · have hbI : (400 : Int) < (a.size : Int) + (b.size : Int) := by omega
    go_enter Tryd.func4, Tryd.ntmps4
    go_wp2_with fail
    refine (HAW.out w (Below.refl _ _)).mono ?_
    rintro e w1 ⟨rfl, hb1⟩
    have HB1 := Lib.hid hb1
    clear hb1
    go_wp2
    go_ret
    exact ⟨rfl, HB1.out⟩
  · have hbI : ¬ (400 : Int) < (a.size : Int) + (b.size : Int) := by omega
    obtain ⟨y, hy⟩ : ∃ y : ByteArray, a ++ ⟨#[32]⟩ ++ b = y := ⟨_, rfl⟩
    have hyl : y.size ≤ 401 := by rw [← hy, ByteArray.size_append, ByteArray.size_append]; show _ + 1 + _ ≤ _; omega
    obtain ⟨us, hus⟩ : ∃ us, wordsL a.data.toList = us := ⟨_, rfl⟩
    obtain ⟨vs, hvs⟩ : ∃ vs, wordsL b.data.toList = vs := ⟨_, rfl⟩
    have hyw : wordsL y.data.toList = us ++ vs := by
      rw [← hy, app_data, app_data, ← hus, ← hvs, ← words_space, List.append_assoc]
      rfl
    have HSX := Lib.hid (fun W (k : Below w.heap.size w W) => split_any a W (HT.out.below k) (by omega))
    have HSY := Lib.hid (fun W (k : Below w.heap.size w W) => split_any b W (HT.out.below k) (by omega))
    have HSL := Lib.hid (fun W (k : Below w.heap.size w W) => split_any y W (HT.out.below k) (by omega))
    have HTL : Hid (us.length + vs.length ≤ 1000) := by
      show _ ≤ _
      have h1 := words_tot y.data.toList
      have h2 := tot_len (wordsL y.data.toList)
      rw [hyw, List.length_append] at h2
      rw [hyw, ← Lib.size_eq] at h1
      omega
    have HMM : Hid (∀ z ∈ us ++ vs, z ≠ [] ∧ (∀ c ∈ z, letB c = true) ∧ z.length ≤ 1000) := fun z hz => by
      rw [← hyw] at hz
      have h1 := words_mem hz
      have h2 := words_tot y.data.toList
      have h3 := tot_mem _ _ hz
      rw [← Lib.size_eq] at h2
      exact ⟨h1.1, h1.2, by omega⟩
    rw [hus] at HSX
    rw [hvs] at HSY
    rw [hyw] at HSL
    clear hus hvs hyw
    go_enter Tryd.func4, Tryd.ntmps4
    go_wp2_with fail
    refine (HSX.out w (Below.refl _ _)).mono ?_
    rintro e w1 ⟨q1, rfl, hw1, hb1⟩
    have HB1 := Lib.hid hb1
    have HW1 := Lib.hid hw1
    clear hb1 hw1 HSX
    go_wp2_with fail
    refine (HSY.out w1 HB1.out).mono ?_
    rintro e w2 ⟨q2, rfl, hw2, hb2⟩
    have HB2 := Lib.hid (HB1.out.trans (hb2.mono HB1.out.size))
    have HW1 := Lib.hid (HW1.out.below hb2)
    have HW2 := Lib.hid hw2
    clear hb2 hw2 HSY
    go_wp2_with fail
    refine (HSL.out w2 HB2.out).mono ?_
    rintro e w3 ⟨q3, rfl, hw3, hb3⟩
    have HB3 := Lib.hid (HB2.out.trans (hb3.mono HB2.out.size))
    have HW1 := Lib.hid (HW1.out.below hb3)
    have HW2 := Lib.hid (HW2.out.below hb3)
    have HW3 := Lib.hid hw3
    clear hb3 hw3 HSL
    obtain ⟨n1, hn1⟩ : ∃ n, us.length = n := ⟨_, rfl⟩
    obtain ⟨n2, hn2⟩ : ∃ n, vs.length = n := ⟨_, rfl⟩
    have HA1 : Hid (∃ v' W', (Builtin.append_ #[27, 27] 27 #[.slice none 0 0, .slice (some ⟨q1, 0, none⟩) n1 n1]).run Tryd.prog w3 = .ok v' W' ∧ Hid (W'.ownsRow w3.heap.size 9 1 v' us.length (us.map strV) ∧ Below w3.heap.size w3 W')) := by
      rw [← hn1]
      obtain ⟨v', W', h0, h1, h2⟩ := run_app_words w3 w3.heap.size (.slice none 0 0) [] us (World.ownsRow_nil _ _ _ _) q1 HW1.out.at' (Nat.le_refl _) (by have := HTL.out; simp; omega) 27
      exact ⟨v', W', h0, h1, h2⟩
    have HNN : Hid (us.length = n1 ∧ vs.length = n2) := ⟨hn1, hn2⟩
    rw [List.length_append, hn1, hn2]
    have hns : n1 + n2 ≤ 1000 := by have := HTL.out; omega
    clear hn1 hn2
    obtain ⟨zs, hzs⟩ : ∃ zs, us ++ vs = zs := ⟨_, rfl⟩
    have HZL : Hid (zs.length = n1 + n2) := by show _ = _; rw [← hzs, List.length_append, HNN.out.1, HNN.out.2]
    rw [hzs] at HMM HW3
    have HZS := Lib.hid hzs
    have hnc : (((n1 + n2 : Nat) : Int) != (n1 : Int) + (n2 : Int)) = false := by push_cast; simp
    push_cast at hnc
    clear hzs
    go_wp2_with (at_builtin; refine wp_listS _ rfl _ _ _ _ rfl _ _ rfl rfl _ HA1.out ?_)
    intro v4 w4 H4
    have HA2 : Hid (∃ v' W', (Builtin.append_ #[27, 27] 27 #[v4, .slice (some ⟨q2, 0, none⟩) n2 n2]).run Tryd.prog w4 = .ok v' W' ∧ Hid (W'.ownsRow w3.heap.size 9 1 v' zs.length (zs.map strV) ∧ Below w3.heap.size w4 W')) := by
      rw [← HNN.out.2, ← HZS.out]
      obtain ⟨v', W', h0, h1, h2⟩ := run_app_words w4 w3.heap.size v4 us vs H4.out.1 q2 (HW2.out.below H4.out.2).at' H4.out.2.size (by have := HTL.out; omega) 27
      exact ⟨v', W', h0, h1, h2⟩
    have HB4 := Lib.hid (HB3.out.trans (H4.out.2.mono HB3.out.size))
    go_wp2_with (at_builtin; refine wp_listS _ rfl _ _ _ _ rfl _ _ rfl rfl _ HA2.out ?_)
    intro v5 w5 H5
    have HB5 : Hid (Below w.heap.size w w5) := HB4.out.trans (H5.out.2.mono HB3.out.size)
    have HW5 : Hid (Wds w5 w2.heap.size q3 zs) := HW3.out.below (H4.out.2.trans H5.out.2)
    have HOW := Lib.hid H5.out.1
    obtain ⟨⟨a5, c5, rfl⟩, hcl⟩ := own_words H5.out.1
    have HCL := Lib.hid hcl
    rw [HZL.out] at HCL HOW ⊢
    clear HA1 HA2 H4 H5 hcl HW1 HW2 HW3
    go_wp2_with fail
    have HW0 : Hid (Below w5.heap.size w5 w5) := Below.refl _ _
    go_loopw [8, 9, 39] (fun _ _ i wr => ∃ k : Nat, k ≤ n1 + n2 ∧ i = .int .i64 k ∧ Hid (Below w5.heap.size w5 wr)) (fun _ _ i _ => n1 + n2 - (intOf i).toNat)
    case atStart => exact ⟨0, Nat.zero_le _, rfl, HW0⟩
    case round =>
      obtain ⟨k, hk, rfl, HB⟩ := hrel
      clear HW0
      have HBr := Lib.hid (HB5.out.trans (HB.out.mono HB5.out.size))
      by_cases hlt : k < n1 + n2
      · have hltI : (k : Int) < (n1 : Int) + (n2 : Int) := by omega
        obtain ⟨g, c, hv, hcx⟩ := HCL.out k hlt
        simp only [Value.slice.injEq, true_and] at hv
        obtain ⟨rfl, rfl⟩ := hv
        obtain ⟨z, hz⟩ : ∃ z, zs[k]? = some z := ⟨_, List.getElem?_eq_getElem (by rw [HZL.out]; exact hlt)⟩
        obtain ⟨hz1, hz2, hz3⟩ := HMM.out z (List.mem_of_getElem? hz)
        obtain ⟨Z, hZ⟩ : ∃ Z : ByteArray, (⟨z.toArray⟩ : ByteArray) = Z := ⟨_, rfl⟩
        have hzd : Z.data.toList = z := by rw [← hZ]
        have c1 := hcx z hz
        have c2 := HW5.out.at' k z hz
        rw [hZ] at c1 c2
        have t1 : wr.cell? ⟨g, k, none⟩ = some (.string Z) := by rw [HB.out.cell (p := ⟨g, k, none⟩) (cell_lt c1)]; exact c1
        have t2 : wr.cell? ⟨q3, k, none⟩ = some (.string Z) := by rw [HB.out.cell (p := ⟨q3, k, none⟩) (cell_lt c2)]; exact c2
        have hF := fold_any Z wr (HT.out.below HBr.out) (by rw [Lib.size_eq, hzd]; omega)
        rw [hzd, fold_word hz2 hz1, hZ] at hF
        have HF := Lib.hid hF
        have hne : Z.toList.isEmpty = false := by rw [ByteArray.toList_eq, hzd]; cases z with | nil => exact absurd rfl hz1 | cons _ _ => rfl
        clear c1 c2 hF hcx hz hz1 hz2 hz3 hZ hzd
        go_wp2_with fail
        refine HF.out.mono ?_
        rintro e w6 ⟨rfl, hb6⟩
        have HB6 := Lib.hid (HB.out.trans (hb6.mono HB.out.size))
        clear hb6 t1 t2 HF
        go_wp2_with fail
        exact ⟨⟨k + 1, by omega, by congr 1, HB6⟩, by simp [intOf]; omega⟩
      · obtain rfl : k = n1 + n2 := by omega
        go_wp2_with fail
        refine (HAW.out wr HBr.out).mono ?_
        rintro e w6 ⟨rfl, hb6⟩
        have HB6 := Lib.hid (HBr.out.trans (hb6.mono HBr.out.size))
        clear hb6
        go_wp2
        go_ret
        exact ⟨rfl, HB6.out⟩
end Go.Proofs.YtmegmgcfnihhiaaDoor
