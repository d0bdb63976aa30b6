
/- SHA-256 of a string: the document's Sum. -/
import Derived.Test.YtidmcemcmalfnaaDoorRPad
import Derived.Test.YtidmcemcmalfnaaDoorRBlk
namespace Go.Proofs.YtidmcemcmalfnaaDoor
open Go.RowKit
set_option linter.unusedVariables false

theorem wpStill_load_row {P : Program} {ops : Array Oper} {w : World} {Q : Act → Prop} {a : Act} {o : Oper} {rest : List Oper} (hgd : o.guard = none) (ty : TypeId) (x : Operand) (ho : o.op = .load ty x)
    (g : Nat) (hx : a.eval x = .pointer (some ⟨g, 0, none⟩)) (t : TypeId) (cs : Array Value) (fr : Nat × Nat) (d : TypeDesc) (hg : w.heap[g]? = some (.cells cs t fr))
    (hu : P.underlying ty = some d) (hd : (match d with | .struct _ | .array _ _ => true | _ => false) = true) (hi : (P.info? ty).map (·.size) = some cs.size)
    (h : wpStill P ops w Q rest (a.put o.dst (.agg cs))) : wpStill P ops w Q (o :: rest) a := by
  refine wpStill_step fun K hK => ?_
  have hw : Region.wanted o (yielded ops a.tmps) = true := by simp [Region.wanted, hgd]
  rw [if_pos hw]
  unfold Oper.still execOp
  simp only [ho, hx, Instr.loadAt, Instr.sureAddr, Sem.run_bind, Sem.run_pure, Result.andThen_ok, run_loadVar_row w g t ty cs fr d hg hu hd hi]
  rw [Oper.stillUpon_value]
  exact hK _ h
/-- Bytes more, by a slice literal. -/
theorem push_many {W : World} {B : Nat} {v : Value} {l : List UInt8} (h : OwnB W B v l) (hB : B ≤ W.heap.size) (bs : List UInt8) (cs : Array Value) (k : Nat) (hk : bs.length = k) (hcs : ∀ j, j < k → cs[j]? = some (.int .u8 (Sha.bt bs j))) (hl : l.length + k ≤ 1000000000000) (ty : TypeId) :
    ∃ v' W', (Builtin.append_ #[24, 24] ty #[v, .slice (some ⟨W.heap.size, 0, none⟩) k k]).run Tryd.prog (W.alloc (.cells cs 5)) = .ok v' W' ∧ Pushed B W (l ++ bs) v' W' := by
  have hba : Below W.heap.size W (W.alloc (.cells cs 5)) := (Below.refl _ _).alloc (Nat.le_refl _) _
  have hc : (W.alloc (.cells cs 5)).heap[W.heap.size]? = some (.cells cs 5 (0, 0)) := heap_alloc_new _ _
  obtain ⟨v', W', h1, h2, h3⟩ := append_own (h.below (Nat.le_refl _) hba) (Nat.le_trans hB hba.size) (.slice (some ⟨W.heap.size, 0, none⟩) k k) 24 bs k hk (src_slice hk (fun j hj => by
    show (match (W.alloc (.cells cs 5)).heap[W.heap.size]? with | some (.cells c _ _) => c[j]? | _ => none) = _
    rw [hc]
    exact hcs j hj)) hl ty
  exact ⟨v', W', h1, h2, (hba.mono hB).trans h3⟩
theorem four_cells (x a b c d : Int) (hx : Sha.In x) (ha : a = x / 16777216 % 256) (hb : b = x / 65536 % 256) (hc : c = x / 256 % 256) (hd : d = x % 256) (j : Nat) (hj : j < 4) : (#[Value.int .u8 a, .int .u8 b, .int .u8 c, .int .u8 d] : Array Value)[j]? = some (.int .u8 (Sha.bt (Sha.four x) j)) := by
  obtain ⟨n, rfl⟩ := Int.eq_ofNat_of_zero_le hx.1
  have e1 : ((n : Int) / 16777216).toNat = n / 16777216 := by omega
  have e2 : ((n : Int) / 65536).toNat = n / 65536 := by omega
  have e3 : ((n : Int) / 256).toNat = n / 256 := by omega
  have : j = 0 ∨ j = 1 ∨ j = 2 ∨ j = 3 := by omega
  rcases this with rfl | rfl | rfl | rfl
  · simp [Sha.bt, Sha.four, e1, ha]
  · simp [Sha.bt, Sha.four, e2, hb]
  · simp [Sha.bt, Sha.four, e3, hc]
  · simp [Sha.bt, Sha.four, hd]
theorem hsCells_eight : Eight HsCells Sha.H0 := ⟨hsCells_size, hsCells_all, fun j hj => by
  have : j = 0 ∨ j = 1 ∨ j = 2 ∨ j = 3 ∨ j = 4 ∨ j = 5 ∨ j = 6 ∨ j = 7 := by omega
  rcases this with rfl | rfl | rfl | rfl | rfl | rfl | rfl | rfl <;> rfl⟩
theorem pad_mod (m : List UInt8) : (Sha.pad m).length % 64 = 0 := by
  have h := Sha.zs_eq m.length
  rw [Sha.pad_len]
  omega

theorem two_new (w : World) (c d : Array Value) (t1 t2 : TypeId) : ((w.alloc (.cells c t1)).alloc (.cells d t2)).heap[w.heap.size]? = some (.cells c t1 (0, 0)) ∧ ((w.alloc (.cells c t1)).alloc (.cells d t2)).heap[w.heap.size + 1]? = some (.cells d t2 (0, 0)) := by
  obtain ⟨w1, h1⟩ : ∃ w1, w.alloc (.cells c t1) = w1 := ⟨_, rfl⟩
  have s1 : w1.heap.size = w.heap.size + 1 := by rw [← h1]; simp
  have f1 : w1.heap[w.heap.size]? = some (.cells c t1 (0, 0)) := by rw [← h1]; exact heap_alloc_new _ _
  have b2 : Below w1.heap.size w1 (w1.alloc (.cells d t2)) := (Below.refl _ _).alloc (Nat.le_refl _) _
  rw [h1]
  refine ⟨by rw [b2.block _ (by omega)]; exact f1, ?_⟩
  rw [← s1]
  exact heap_alloc_new _ _
theorem setRow_ne (w : World) (g k : Nat) (c : Array Value) (h : k ≠ g) : (w.setRow g c).heap[k]? = w.heap[k]? := by
  simp only [World.setRow, Array.getElem?_modify]
  rw [if_neg (fun e => h e.symm)]
theorem sum_start (w : World) (T kc c d : Array Value) (h8 : c = zeros8) (h64 : d = zeros64) :
    ((((w.alloc (.cells c 41)).alloc (.cells d 49)).setRow w.heap.size T).setRow (w.heap.size + 1) kc).heap[w.heap.size]? = some (.cells T 41 (0, 0)) ∧
    ((((w.alloc (.cells c 41)).alloc (.cells d 49)).setRow w.heap.size T).setRow (w.heap.size + 1) kc).heap[w.heap.size + 1]? = some (.cells kc 49 (0, 0)) ∧
    Below w.heap.size w ((((w.alloc (.cells c 41)).alloc (.cells d 49)).setRow w.heap.size T).setRow (w.heap.size + 1) kc) := by
  obtain ⟨f1, f2⟩ := two_new w c d 41 49
  have g1 := setRow_heap _ w.heap.size c T 41 (0, 0) f1
  have g2 : (((w.alloc (.cells c 41)).alloc (.cells d 49)).setRow w.heap.size T).heap[w.heap.size + 1]? = some (.cells d 49 (0, 0)) := by rw [setRow_ne _ _ _ _ (by omega)]; exact f2
  refine ⟨?_, setRow_heap _ (w.heap.size + 1) d kc 49 (0, 0) g2, ?_⟩
  · rw [setRow_ne _ _ _ _ (by omega)]; exact g1
  · exact below_setRow (below_setRow (((Below.refl _ _).alloc (Nat.le_refl _) _).alloc (by simp) _) (Nat.le_refl _) _) (by omega) _

set_option maxRecDepth 100000 in
set_option maxHeartbeats 8000000 in
theorem refSum_any (s : ByteArray) (w : World) (hs : s.size ≤ 100000000) :
    Calls Tryd.prog 9 #[.string s] w fun e w' => e = .returned (.string ⟨(Sha.sum s.data.toList).toArray⟩) ∧ Below w.heap.size w w' := by
  have hmx : Tryd.prog.follows .mixedOrders = true := by kernel_rfl
  obtain ⟨m, hm⟩ : ∃ m, s.data.toList = m := ⟨_, rfl⟩
  have hml : m.length ≤ 100000000 := by rw [← hm, ← Lib.size_eq]; exact hs
  have HPA := Lib.hid (fun w => pad_any s w (by omega))
  rw [hm] at HPA ⊢
  obtain ⟨T, hT⟩ : ∃ T, HsCells = T := ⟨_, rfl⟩
  obtain ⟨kc, hkc⟩ : ∃ T, KsCells = T := ⟨_, rfl⟩
  have HFI := Lib.hid (fun w => first_any w)
  have HCO := Lib.hid (fun w => constants_any w)
  have hTs : T.size = 8 := by rw [← hT]; exact hsCells_size
  have hTa : T.all (·.oneCell') = true := by rw [← hT]; exact hsCells_all
  have hks : kc.size = 64 := by rw [← hkc]; exact ksCells_size
  have hka : kc.all (·.oneCell') = true := by rw [← hkc]; exact ksCells_all
  have HE0 : Hid (Eight T Sha.H0) := by rw [← hT]; exact hsCells_eight
  have HKE : Hid (kc = KsCells) := hkc.symm
  rw [hT] at HFI
  rw [hkc] at HCO
  clear hT hkc hm hs
  obtain ⟨n0, hn0⟩ : ∃ n, w.heap.size = n := ⟨_, rfl⟩
  rw [hn0]
  go_enter Tryd.func9, Tryd.ntmps9
  go_wp2_with fail
  refine (HFI.out w).mono ?_
  rintro e w1 ⟨rfl, hb1⟩
  rw [hn0] at hb1
  have HB1 := Lib.hid hb1
  have HN0 := Lib.hid hn0
  have hs1 : n0 ≤ w1.heap.size := by have := hb1.size; omega
  clear hb1 hn0
  go_wp2_with fail
  refine (HCO.out w1).mono ?_
  rintro e w2 ⟨rfl, hb2⟩
  have HB2 := Lib.hid (HB1.out.trans (hb2.mono hs1))
  have hs2 : n0 ≤ w2.heap.size := Nat.le_trans hs1 hb2.size
  clear hb2 HB1
  go_wp2_with fail
  refine (HPA.out w2).mono ?_
  rintro e w3 ⟨rfl, hb3⟩
  have HB3 := Lib.hid (HB2.out.trans (hb3.mono hs2))
  have hs3 : n0 ≤ w3.heap.size := Nat.le_trans hs2 hb3.size
  obtain ⟨P, hP⟩ : ∃ P, Sha.pad m = P := ⟨_, rfl⟩
  have hPm : P.length % 64 = 0 := by rw [← hP]; exact pad_mod m
  have hPl : P.length ≤ 200000000 := by rw [← hP, Sha.pad_len]; unfold Sha.zs; omega
  have HSU : Hid (Sha.sum m = Sha.bytes (Sha.hs P (P.length / 64))) := by show _ = _; rw [← hP]; rfl
  rw [hP]
  obtain ⟨p, hp⟩ : ∃ r : ByteArray, (⟨P.toArray⟩ : ByteArray) = r := ⟨_, rfl⟩
  have hpl : p.data.toList = P := by rw [← hp]
  have hps : p.size = P.length := by rw [Lib.size_eq, hpl]
  rw [hp]
  have HPD := Lib.hid hpl
  clear hP hp hpl hb3 HB2
  go_wp2_with (first
    | (refine wpList_store_row rfl 41 (.tmp 3) (.tmp 10) rfl w3.heap.size T rfl rfl 41 zeros8 ?h1 (by rw [hTs]; exact info8) (by rw [hTs]; rfl) hTa ?_)
    | (refine wpList_store_row rfl 49 (.tmp 4) (.tmp 11) rfl (w3.heap.size + 1) kc rfl rfl 49 zeros64 ?h2 (by rw [hks]; exact info64) (by rw [hks]; rfl) hka ?_))
  case h1 => exact (two_new w3 zeros8 zeros64 _ _).1
  case h2 =>
    have h := (two_new w3 zeros8 zeros64 41 49).2
    rw [← setRow_ne _ w3.heap.size _ T (by omega)] at h
    exact h
  obtain ⟨g, hg⟩ : ∃ g, w3.heap.size = g := ⟨_, rfl⟩
  have hst := fun c d h8 h64 => sum_start w3 T kc c d h8 h64
  rw [hg] at hst hs3 ⊢
  clear hg
  go_loopw [6] (fun i wr => ∃ (k : Nat) (cs : Array Value), 64 * k ≤ P.length ∧ i = .int .i64 ((64 * k : Nat) : Int) ∧ Hid (wr.heap[g]? = some (.cells cs 41 (0, 0))) ∧ Hid (Eight cs (Sha.hs P k)) ∧ Hid (wr.heap[g + 1]? = some (.cells kc 49 (0, 0))) ∧ Hid (Below n0 w wr)) (fun i _ => P.length + 1 - (intOf i).toNat)
  case atStart =>
    obtain ⟨h1, h2, h3⟩ := hst _ _ rfl rfl
    exact ⟨0, T, by omega, rfl, h1, HE0, h2, HB3.out.trans (h3.mono hs3)⟩
  case round =>
    obtain ⟨k, cs, hk, rfl, HC, HE, HK, HB⟩ := hrel
    clear hst
    obtain ⟨i, hi⟩ : ∃ i, 64 * k = i := ⟨_, rfl⟩
    rw [hi] at hk ⊢
    have hcz := HE.out.size
    have hgk : g + 1 < wr.heap.size := (Array.getElem?_eq_some_iff.1 HK.out).1
    by_cases hlt : i < P.length
    · have hi64 : i + 64 ≤ P.length := by omega
      have HI := Lib.hid hi
      obtain ⟨e, he⟩ : ∃ e, e = i + 64 := ⟨_, rfl⟩
      have hwe : IntKind.i64.wrap ((i : Int) + 64) = (e : Int) := by rw [IntKind.wrap_i64]; omega
      have hie : (i : Int) ≤ (e : Int) := by omega
      have hep : (e : Int) ≤ (P.length : Int) := by omega
      have hie2 : i ≤ e := by omega
      have hep2 : e ≤ P.length := by omega
      have HEI := Lib.hid he
      clear he hi64
      clear hi
      go_wp2_with fail
      refine wp_region_still_tail 7 hmx (by kernel_rfl) ?_
      simp only [List.take_succ_cons, List.take_zero, List.drop_succ_cons, List.drop_zero, drew_def]
      refine wpStill_load_row rfl 41 (.tmp 3) rfl g rfl 41 cs (0, 0) _ HC.out Tryd.underlying41 rfl (by rw [hcz]; exact info8) ?_
      refine wpStill_load_row rfl 49 (.tmp 4) rfl (g + 1) rfl 49 kc (0, 0) _ HK.out Tryd.underlying49 rfl (by rw [hks]; exact info64) ?_
      repeat still_step
      refine wpStill_nil ?_
      go_wp2_with fail
      have hxs : (p.extract i e).size = 64 := by rw [ByteArray.size_extract, hps]; have := HEI.out; omega
      have hxl : (p.extract i e).data.toList = (P.drop (64 * k)).take 64 := by
        rw [ByteArray.data_extract, Array.toList_extract, HPD.out]
        simp only [List.extract]
        rw [HI.out, show e - i = 64 by have := HEI.out; omega]
      refine (block_any cs kc (Sha.hs P k) (p.extract i e) wr.drew HE.out HKE.out hxs).mono ?_
      rintro e' w5 ⟨rc, rfl, hrc, hb5⟩
      rw [hxl] at hrc
      have HRC : Hid (Eight rc (Sha.hs P (k + 1))) := hrc
      have hrz := hrc.size
      have hb6 : Below wr.heap.size wr w5 := ⟨hb5.os, hb5.tape, hb5.output, hb5.size, hb5.block⟩
      have HC5 : Hid (w5.heap[g]? = some (.cells cs 41 (0, 0))) := by show _ = _; rw [hb6.block g (by omega)]; exact HC.out
      have HK5 : Hid (w5.heap[g + 1]? = some (.cells kc 49 (0, 0))) := by show _ = _; rw [hb6.block (g + 1) hgk]; exact HK.out
      have HB5 := Lib.hid (HB.out.trans (hb6.mono (by omega)))
      clear hrc hb5 hb6 hxs hxl HC HK HB
      go_wp2_with (refine wpList_store_row rfl 41 (.tmp 3) (.tmp 27) rfl g rc rfl rfl 41 cs HC5.out (by rw [hrz]; exact info8) (by rw [hrz]; exact hcz) HRC.out.all ?_)
      have hC6 := setRow_heap w5 g cs rc 41 (0, 0) HC5.out
      have hK6 : (w5.setRow g rc).heap[g + 1]? = some (.cells kc 49 (0, 0)) := by rw [setRow_ne _ _ _ _ (by omega)]; exact HK5.out
      have hei := HEI.out
      have hii := HI.out
      exact ⟨⟨k + 1, rc, by omega, by congr 1; omega, hC6, HRC, hK6, below_setRow HB5.out hs3 _⟩, by simp [intOf]; omega⟩
    · have hik : Hid (P.length / 64 = k) := by show _ = _; omega
      have HHE : Hid (Eight cs (Sha.hs P (P.length / 64))) := by show Eight _ _; rw [hik.out]; exact HE.out
      obtain ⟨LL, hLL⟩ : ∃ L, (Sha.hs P (P.length / 64)).list = L := ⟨_, rfl⟩
      have HLE : Hid (LL.length = 8) := by rw [← hLL]; rfl
      have HSB : Hid (Sha.sum m = LL.flatMap Sha.four) := by show _ = _; rw [HSU.out, ← hLL]; rfl
      have HIN : Hid (∀ k, k < 8 → Sha.In (LL.getD k 0)) := by rw [← hLL]; exact fun k hk => hs_in _ _ k hk
      have HIX : Hid (∀ k : Nat, k < 8 → ∀ w, (Instr.index 41 (.agg cs) (.int .i64 k)).run Tryd.prog w = .ok (.int .u32 (LL.getD k 0)) w) := by
        rw [← hLL]
        exact fun k hk w => index_arr Tryd.underlying41 hk (HHE.out.cell k hk) w
      have HO0 : Hid (OwnB wr n0 (.slice none 0 0) ((LL.take 0).flatMap Sha.four)) := .inl ⟨rfl, rfl⟩
      clear hi hLL HE HK HHE HSU
      go_wp2_with (refine wpList_load_row rfl 41 (.tmp 3) rfl g rfl 41 cs (0, 0) _ HC.out Tryd.underlying41 rfl (by rw [hcz]; exact info8) ?_)
      go_loopw [7, 9, 29] (fun v _ i wr => ∃ (k : Nat) (o : Value), k ≤ 8 ∧ v = o ∧ i = .int .i64 k ∧ Hid (OwnB wr n0 o ((LL.take k).flatMap Sha.four)) ∧ Hid (Below n0 w wr)) (fun _ _ i _ => 8 - (intOf i).toNat)
      case atStart => exact ⟨0, _, by omega, rfl, rfl, HO0, HB⟩
      case round =>
        obtain ⟨k, o, hk, rfl, rfl, HO, HB⟩ := hrel
        have hfl := flat_len (LL.take k)
        rw [List.length_take, HLE.out, Nat.min_eq_left hk] at hfl
        have HFL := Lib.hid hfl
        have hBr : n0 ≤ wr.heap.size := by have := HB.out.size; have := HN0.out; omega
        clear hfl
        by_cases hlt : k < 8
        · have hix := HIX.out k hlt wr
          have hin := HIN.out k hlt
          have HFN := Lib.hid (flat_next LL k (by rw [HLE.out]; exact hlt))
          obtain ⟨x, hx⟩ : ∃ x, LL.getD k 0 = x := ⟨_, rfl⟩
          rw [hx] at hix hin HFN
          have HXI := Lib.hid hin
          clear hx hin
          go_wp2_with (at_builtin; refine wpList_append_ex _ rfl _ _ _ _ rfl _ _ rfl rfl _ (push_many HO.out hBr (Sha.four x) _ 4 rfl (fun j hj => four_cells x _ _ _ _ HXI.out rfl rfl rfl rfl j hj) (by rw [HFL.out]; omega) _) ?_)
          intro v2 w2 hp2
          have hO2 := hp2.own
          have hb2 := hp2.bel
          rw [HFN.out] at hO2
          have HO2 := Lib.hid hO2
          have HB2 := Lib.hid (HB.out.trans hb2)
          clear hp2 hO2 hb2 HO HB hix
          go_wp2
          exact ⟨⟨k + 1, _, by omega, rfl, by go_num, HO2, HB2⟩, by simp [intOf]; omega⟩
        · have HEQ : Hid ((LL.take k).flatMap Sha.four = Sha.sum m) := by
            show _ = _
            rw [HSB.out, List.take_of_length_le (by rw [HLE.out]; omega)]
          have hconv := string_own HO.out
          obtain ⟨sr, hsr⟩ : ∃ r : ByteArray, (⟨((LL.take k).flatMap Sha.four).toArray⟩ : ByteArray) = r := ⟨_, rfl⟩
          have HSR := Lib.hid hsr
          rw [hsr] at hconv
          clear hsr HO
          go_wp2
          go_ret
          exact ⟨by rw [← HEQ.out, HSR.out]; rfl, HB.out⟩
end Go.Proofs.YtidmcemcmalfnaaDoor
