
/- What the frames of layer 6's statements share: plans and slices that come in. -/
import Derived.Test.YtpgbjnenllfmlaaGreatDoorFrame
import Derived.Test.YtpgbjnenllfmlaaGreatDoorHShr
import Derived.Lib.SmallJoins
import Derived.Deep.SlicePairs
namespace Go.Proofs.YtpgbjnenllfmlaaGreatDoor
open Go.ChangeShapes Go.WideShapes Go.ChangeAt Go.RowKit Go.Joins
set_option linter.unusedVariables false

theorem cellsPlan : Tryz.prog.cellsOf 31 = 3 := by kernel_rfl
theorem shape_lt {W : World} {b : Nat} {x : TypeId × Nat} (h : W.shape? b = some x) : b < W.heap.size := by
  unfold World.shape? at h
  by_cases hb : b < W.heap.size
  · exact hb
  · rw [Array.getElem?_eq_none (by omega)] at h; simp at h
set_option maxRecDepth 100000 in
/-- What is known of the room of a slice that came in. -/
theorem okWide_room {P : Program} {W : World} {base : Nat} {t e : TypeId} {a : Option Addr} {len cap : Nat} (ht : P.underlying t = some (.slice e)) (h : Value.okWide P W .any base t (.slice a len cap)) :
    len ≤ cap ∧ cap ≤ 9223372036854775807 ∧ ∀ q, (Value.slice a len cap).ownBlock = some q → q < W.heap.size := by
  simp only [Value.okWide, ht, Cell.okWide, Cell.ok] at h
  cases a with
  | none =>
    split at h <;> simp_all [Value.ownBlock]
  | some ad =>
    split at h <;> simp_all [Value.ownBlock]
    all_goals
      obtain ⟨h1, h2, _, _, row, cells, hs, _⟩ := h
      exact ⟨by omega, shape_lt hs⟩
set_option maxRecDepth 100000 in
theorem slc_open {W : World} {base : Nat} {t e : TypeId} {a : Option Addr} {len cap : Nat} {l : List Int} (ht : Tryz.prog.underlying t = some (.slice e)) (h : Value.okWide Tryz.prog W .any base t (.slice a len cap)) (hI : Ints W (.slice a len cap) l) :
    Slc W (.slice a len cap) l ∧ ∀ q, (Value.slice a len cap).ownBlock = some q → q < W.heap.size := by
  obtain ⟨h1, h2, h3⟩ := okWide_room ht h
  refine ⟨?_, h3⟩
  obtain ⟨a', c', e1⟩ := hI.shape
  simp only [Value.slice.injEq] at e1
  obtain ⟨rfl, rfl, rfl⟩ := e1
  exact ⟨a, cap, rfl, h1, h2, hI⟩
set_option maxRecDepth 100000 in
theorem plan_open {H : Type} {enc : TypeId × Value → H} {W : World} {base : Nat} {v : Value} {d : DataW H} {p : List MemPlace} (hv : Value.okWide Tryz.prog W .any base 31 v) (h : DataW.Trod enc Tryz.prog W 0 (fun _ => true) true 31 v d p) :
    ∃ x y z : Int, v = planV x y z ∧ d = .agg [.lit (.int .i64 x), .lit (.int .i64 y), .lit (.int .i64 z)] ∧ p = [] ∧ (Lit.int .i64 x).wf = true ∧ (Lit.int .i64 y).wf = true ∧ (Lit.int .i64 z).wf = true := by
  obtain ⟨c0, c1, c2, y0, y1, y2, m, rfl, rfl, rfl, hy0, hy1, hy2⟩ := open_agg3 Tryz.underlying31 (by kernel_rfl) cellsPlan hv h
  obtain ⟨a, e0, rfl, wa⟩ := DataW.trod_int Tryz.underlying3 hy0
  obtain ⟨b, e1, rfl, wb⟩ := DataW.trod_int Tryz.underlying3 hy1
  obtain ⟨c, e2, rfl, wc⟩ := DataW.trod_int Tryz.underlying3 hy2
  simp at e0 e1 e2
  subst e0 e1 e2
  exact ⟨a, b, c, rfl, rfl, rfl, wa, wb, wc⟩
set_option maxRecDepth 100000 in
theorem plan_shut {H : Type} {enc : TypeId × Value → H} {W : World} {sp : Nat → Bool} {x y z : Int} (wx : (Lit.int .i64 x).wf = true) (wy : (Lit.int .i64 y).wf = true) (wz : (Lit.int .i64 z).wf = true) :
    DataW.Trod enc Tryz.prog W 0 sp true 31 (planV x y z) (.agg [.lit (.int .i64 x), .lit (.int .i64 y), .lit (.int .i64 z)]) [] :=
  shut_agg3 (y0 := (.lit (.int .i64 x), [])) (y1 := (.lit (.int .i64 y), [])) (y2 := (.lit (.int .i64 z), [])) Tryz.underlying31 (by kernel_rfl) cellsPlan ⟨1, by simp [DataW.trod, Tryz.underlying3, wx]⟩ ⟨1, by simp [DataW.trod, Tryz.underlying3, wy]⟩ ⟨1, by simp [DataW.trod, Tryz.underlying3, wz]⟩
/-- A list of shares that came in: of any length. -/
def SharesU (w : World) (s : Value) (L : List Num.Shr) : Prop := ∃ a c, s = .slice a L.length c ∧ L.length ≤ 140737488355328 ∧ L.length ≤ c ∧ c ≤ 9223372036854775807 ∧ (L ≠ [] → ∃ b off, a = some ⟨b, off, none⟩ ∧
  ∀ i, i < L.length → ∃ v, w.cell? ⟨b, off + i * 2, none⟩ = some (.int .i64 (L.getD i (0, [])).1) ∧ w.cell? ⟨b, off + i * 2 + 1, none⟩ = some v ∧ Ints w v (L.getD i (0, [])).2)
theorem SharesU.few {w : World} {s : Value} {L : List Num.Shr} (h : SharesU w s L) (hl : L.length ≤ 1000) : Shares w s L := by
  obtain ⟨a, c, h1, _, h3⟩ := h
  exact ⟨a, c, h1, hl, h3⟩
theorem SharesU.below {w w' : World} {s : Value} {L : List Num.Shr} (h : SharesU w s L) {B : Nat} (hB : w.heap.size ≤ B) (b : Below B w w') : SharesU w' s L := by
  obtain ⟨a, c, rfl, h1, h2, h3, h4⟩ := h
  refine ⟨a, c, rfl, h1, h2, h3, fun hl => ?_⟩
  obtain ⟨b', off, rfl, hc⟩ := h4 hl
  refine ⟨b', off, rfl, fun i hi => ?_⟩
  obtain ⟨v, c1, c2, hI⟩ := hc i hi
  have hlt := cell_lt c1
  refine ⟨v, ?_, ?_, hI.below hB b⟩
  · rw [b.cell (p := ⟨b', off + i * 2, none⟩) (by show b' < B; exact Nat.lt_of_lt_of_le hlt hB)]; exact c1
  · rw [b.cell (p := ⟨b', off + i * 2 + 1, none⟩) (by show b' < B; exact Nat.lt_of_lt_of_le hlt hB)]; exact c2
theorem SharesU.at {w : World} {a : Option Addr} {n c : Nat} {L : List Num.Shr} (h : SharesU w (.slice a n c) L) {i : Nat} (hi : i < n) : ∃ b off v, a = some ⟨b, off, none⟩ ∧ w.cell? ⟨b, off + i * 2, none⟩ = some (.int .i64 (L.getD i (0, [])).1) ∧ w.cell? ⟨b, off + i * 2 + 1, none⟩ = some v ∧ Ints w v (L.getD i (0, [])).2 := by
  obtain ⟨a', c', hv, _, _, _, hx⟩ := h
  simp only [Value.slice.injEq] at hv
  obtain ⟨rfl, rfl, rfl⟩ := hv
  obtain ⟨b, off, rfl, hc⟩ := hx (fun e => by subst e; simp at hi)
  obtain ⟨v, h1, h2, h3⟩ := hc i hi
  exact ⟨b, off, v, rfl, h1, h2, h3⟩
theorem cellsShare : Tryz.prog.cellsOf 42 = 2 := by kernel_rfl
theorem cellsInts : Tryz.prog.cellsOf 22 = 1 := by kernel_rfl
theorem bytesShare : Tryz.prog.bytesOf 42 = 32 := by kernel_rfl
theorem weights_all {H : Type} {P : Program} {e : TypeId} {d : DataW H} : ∀ {l : List (DataW H)}, d ∈ l → ∀ n ∈ d.weights P e, n ∈ DataW.weightsAll P e l
  | x :: r, hd, n, hn => by
    rw [DataW.weightsAll, List.mem_append]
    rcases List.mem_cons.1 hd with rfl | h
    · exact .inl hn
    · exact .inr (weights_all h n hn)
theorem ints_of_cells {W : World} {x : Addr} {len cap : Nat} {zs : List Int} (hl : len ≤ zs.length) (hb : len ≤ 140737488355328) (hcell : ∀ i, i < zs.length → W.cell? (x.add i) = some (.int .i64 (zs.getD i 0))) : Ints W (.slice (some x) len cap) (zs.take len) := by
  have hlen : (zs.take len).length = len := by rw [List.length_take]; omega
  refine ⟨some x, cap, by rw [hlen], by omega, fun hne => ?_⟩
  have h0 : 0 < len := by
    by_cases h : 0 < len
    · exact h
    · obtain rfl : len = 0 := by omega
      simp at hne
  obtain ⟨b, off, spot⟩ := x
  have hc0 := hcell 0 (by omega)
  have hspot : spot = none := by simpa [Addr.add] using World.cell?_spot hc0
  subst hspot
  refine ⟨b, off, rfl, fun i hi => ?_⟩
  have hci := hcell i (by omega)
  have e : (zs.take len).getD i 0 = zs.getD i 0 := by
    simp only [List.getD]
    rw [List.getElem?_take_of_lt (by omega)]
  rw [e]
  have ea : (⟨b, off, none⟩ : Addr).add i = ⟨b, off + i, none⟩ := by unfold Addr.add; split <;> simp_all
  rwa [ea] at hci
set_option maxRecDepth 100000 in
theorem shares_open {H : Type} {enc : TypeId × Value → H} {W : World} {base : Nat} {a : Option Addr} {len cap : Nat} {d : DataW H} {m : List MemPlace} {ts : List TypeId} {ds : List (DataW H)} (ht : Tryz.prog.underlying 23 = some (.slice 42))
    (hval : Value.okWide Tryz.prog W .any base 23 (.slice a len cap)) (h : DataW.Trod enc Tryz.prog W 0 (fun _ => true) true 23 (.slice a len cap) d m)
    (hsz : (DataW.weightsEach Tryz.prog ts ds).all (· ≤ reachBytes) = true) (j : Nat) (htj : ts[j]? = some 23) (hdj : ds[j]? = some d) : ∃ L, SharesU W (.slice a len cap) L := by
  obtain ⟨hlc, hcm, _⟩ := okWide_room ht hval
  obtain ⟨fuel, hf⟩ := h
  rcases Go.Deep.open_slice_pairs ht Tryz.underlying42 cellsShare rfl rfl cellsInt cellsInts hf with ⟨hcs, _⟩ | ⟨x, n, c, m', fl, V0, V1, D0, D1, P0, P1, hcs, _, hl, hm, hmm, hx, hcell⟩
  · simp [Value.cells] at hcs
    obtain ⟨rfl, rfl, rfl⟩ := hcs
    exact ⟨[], none, 0, rfl, by simp, by simp, by omega, fun h => absurd rfl h⟩
  · simp [Value.cells] at hcs
    obtain ⟨rfl, rfl, rfl⟩ := hcs
    simp only [if_true] at hmm
    simp only [Prod.mk.injEq] at hx
    obtain ⟨rfl, _⟩ := hx
    have hr := sized_slice hsz htj hdj ht
    rw [bytesShare] at hr
    have hb : len ≤ 140737488355328 := by
      simp only [List.length_map, List.length_range] at hr
      have := reachBytes_lt
      omega
    have each : ∀ i, i < len → ∃ y : Int × List Int, V0 i = .int .i64 y.1 ∧ Ints W (V1 i) y.2 := fun i hi => by
      obtain ⟨_, _, t0, t1⟩ := hcell i (by omega)
      obtain ⟨h, e0, _, _⟩ := DataW.trod_int Tryz.underlying3 t0
      simp at e0
      rcases open_ints Tryz.underlying22 Tryz.underlying3 cellsInt t1 with ⟨hcs, _⟩ | ⟨x', n', c', zs, hcs, _, hl', hm', hz', hx', hcell', _⟩
      · simp at hcs
        exact ⟨(h, []), e0, by rw [hcs]; exact ints_nil W⟩
      · simp at hcs
        simp only [if_true] at hz'
        simp only [Prod.mk.injEq] at hx'
        have hw := List.all_eq_true.1 hsz _ (DataW.weights_mem_each htj hdj ((lits (H := H) .i64 (zs.take n')).length * 8 + (lits (H := H) .i64 (zs.drop n')).length * 8) (by
          rw [DataW.weights, ht]
          refine List.mem_cons_of_mem _ (List.mem_append_left _ (weights_all (List.mem_map.2 ⟨i, List.mem_range.2 hi, rfl⟩) _ ?_))
          rw [DataW.weights, Tryz.underlying42, hx'.1]
          simp [DataW.weightsEach, DataW.weights, Tryz.underlying22, bytesInt, Nat.add_mul]))
        have hw2 : (lits (H := H) .i64 (zs.take n')).length * 8 + (lits (H := H) .i64 (zs.drop n')).length * 8 ≤ reachBytes := by simpa using hw
        simp only [lits, List.length_map, List.length_take, List.length_drop] at hw2
        have := reachBytes_lt
        exact ⟨(h, zs.take n'), e0, by rw [hcs]; exact ints_of_cells (by omega) (by omega) hcell'⟩
    obtain ⟨y, hy⟩ := Go.Deep.choose_lt each
    have hlen : ((List.range len).map y).length = len := by simp
    refine ⟨(List.range len).map y, some x, cap, by rw [hlen], by omega, by omega, hcm, fun hne => ?_⟩
    have h0 : 0 < len := by
      by_cases h : 0 < len
      · exact h
      · obtain rfl : len = 0 := by omega
        simp at hne
    obtain ⟨b, off, spot⟩ := x
    have hc0 := (hcell 0 (by omega)).1
    have hspot : spot = none := by simpa [Addr.add] using World.cell?_spot hc0
    subst hspot
    refine ⟨b, off, rfl, fun i hi => ?_⟩
    rw [hlen] at hi
    obtain ⟨k0, k1, _, _⟩ := hcell i (by omega)
    obtain ⟨z0, z1⟩ := hy i hi
    have ea : ∀ i, (⟨b, off, none⟩ : Addr).add i = ⟨b, off + i, none⟩ := fun i => by unfold Addr.add; split <;> simp_all
    have eg : ((List.range len).map y).getD i (0, []) = y i := by simp [List.getD, hi]
    rw [ea] at k0 k1
    rw [eg]
    exact ⟨V1 i, by rw [← z0]; exact k0, k1, z1⟩
end Go.Proofs.YtpgbjnenllfmlaaGreatDoor
