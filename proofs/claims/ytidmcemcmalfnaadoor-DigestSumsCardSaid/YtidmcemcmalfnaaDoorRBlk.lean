
/- The document's block. -/
import Derived.Test.YtidmcemcmalfnaaDoorRF1
import Derived.Test.YtidmcemcmalfnaaDoorSMix
import Derived.Lib.BufferWrite
namespace Go.Proofs.YtidmcemcmalfnaaDoor
open Go.RowKit
set_option linter.unusedVariables false

theorem still_ofD {P : Program} {f : FuncId} {args : Array Value} {w : World} {v : Value} (h : Calls P f args w fun e w' => e = .returned v ∧ w = w') : Calls P f args w fun e w' => e = .returned v ∧ w' = w :=
  h.mono fun _ _ ⟨a, b⟩ => ⟨a, b.symm⟩
def zeros8 : Array Value := Array.replicate 8 (.int .u32 0)
def rowA (l : List UInt8) (k j : Nat) : Value := .int .u32 (if j < k then Sha.wd l j else 0)
theorem rowA_step (l : List UInt8) (k : Nat) (x : Int) (h : Sha.wd l k = x) (j : Nat) : (if j = k then Value.int .u32 x else rowA l k j) = rowA l (k + 1) j := by
  subst h
  unfold rowA
  by_cases e : j = k
  · subst e; simp
  · rw [if_neg e]
    by_cases h1 : j < k
    · rw [if_pos h1, if_pos (by omega)]
    · rw [if_neg h1, if_neg (by omega)]
theorem rowA_end (l : List UInt8) (j : Nat) : rowA l 16 j = row2 (Sha.W l) 0 j := by
  unfold rowA row2
  by_cases h : j < 16
  · rw [if_pos h, if_pos (by omega), Sha.W_first l j h]
  · rw [if_neg h, if_neg (by omega)]
theorem wd_drop (l : List UInt8) (k : Nat) : Sha.wd (l.drop (4 * k)) 0 = Sha.wd l k := by
  unfold Sha.wd Sha.bt
  simp only [List.getD, List.getElem?_drop]
  simp
/-- Eight words as cells. -/
structure Eight (cs : Array Value) (H : Sha.St) : Prop where
  size : cs.size = 8
  all : cs.all (·.oneCell') = true
  cell : ∀ j, j < 8 → cs[j]? = some (.int .u32 (H.list.getD j 0))
theorem ex_toList (s : ByteArray) (k n : Nat) (h : n = s.size) : (s.extract k n).data.toList = s.data.toList.drop k := by
  subst h
  rw [ByteArray.data_extract, Array.toList_extract]
  simp only [List.extract]
  rw [List.take_of_length_le]
  rw [List.length_drop, ← Lib.size_eq]
  omega

/-- The four blocks that the function lays first. -/
structure Lay4 (w wr : World) (n0 : Nat) (hc kc : Array Value) : Prop where
  h : wr.heap[n0]? = some (.cells hc 41 (0, 0))
  k : wr.heap[n0 + 1]? = some (.cells kc 49 (0, 0))
  r : wr.heap[n0 + 1 + 1]? = some (.cells zeros8 41 (0, 0))
  bel : Below n0 w wr
  sz : n0 + 1 + 1 + 1 < wr.heap.size
theorem Lay4.next {w wr wr' : World} {n0 : Nat} {hc kc : Array Value} (h : Lay4 w wr n0 hc kc) (b : Below (n0 + 1 + 1 + 1) wr wr') : Lay4 w wr' n0 hc kc :=
  ⟨by rw [b.block _ (by omega)]; exact h.h, by rw [b.block _ (by omega)]; exact h.k, by rw [b.block _ (by omega)]; exact h.r, h.bel.trans (b.mono (by omega)), Nat.lt_of_lt_of_le h.sz b.size⟩
theorem t1_eq2 (a b c d e f g h kk x : Int) : IntKind.u32.wrap (IntKind.u32.wrap (IntKind.u32.wrap (IntKind.u32.wrap (h + bits BinOp.xor IntKind.u32 (bits BinOp.xor IntKind.u32 (Sha.rr e 6) (Sha.rr e 11)) (Sha.rr e 25)) +
    bits BinOp.xor IntKind.u32 (bits BinOp.and IntKind.u32 e f) (bits BinOp.and IntKind.u32 (bits BinOp.xor IntKind.u32 IntKind.u32.max e) g)) + kk) + x) = Sha.t1 ⟨a, b, c, d, e, f, g, h⟩ kk x := t1_eq a b c d e f g h kk x
theorem t2_eq2 (a b c d e f g h : Int) : IntKind.u32.wrap (bits BinOp.xor IntKind.u32 (bits BinOp.xor IntKind.u32 (Sha.rr a 2) (Sha.rr a 13)) (Sha.rr a 22) +
    bits BinOp.xor IntKind.u32 (bits BinOp.xor IntKind.u32 (bits BinOp.and IntKind.u32 a b) (bits BinOp.and IntKind.u32 a c)) (bits BinOp.and IntKind.u32 b c)) = Sha.t2 ⟨a, b, c, d, e, f, g, h⟩ := by
  simp only [IntKind.wrap_u32']
  rfl
def p8row (U Y : Nat → Int) (k j : Nat) : Value := .int .u32 (part8 U Y k j)
theorem p8row_step (U Y : Nat → Int) (k : Nat) (v y : Int) (hv : U k = v) (hy : Y k = y) (j : Nat) : (if j = k then Value.int .u32 (Sha.ad v y) else p8row U Y k j) = p8row U Y (k + 1) j := by
  subst hv hy
  unfold p8row part8
  by_cases e : j = k
  · subst e; simp
  · rw [if_neg e]
    by_cases h1 : j < k
    · rw [if_pos h1, if_pos (by omega)]
    · rw [if_neg h1, if_neg (by omega)]
theorem eight_all (a b c d e f g h : Int) : (#[Value.int .u32 a, .int .u32 b, .int .u32 c, .int .u32 d, .int .u32 e, .int .u32 f, .int .u32 g, .int .u32 h] : Array Value).all (·.oneCell') = true := by
  simp [Value.oneCell']
theorem eight_lit (a b c d e f g h : Int) : Eight #[.int .u32 a, .int .u32 b, .int .u32 c, .int .u32 d, .int .u32 e, .int .u32 f, .int .u32 g, .int .u32 h] ⟨a, b, c, d, e, f, g, h⟩ :=
  ⟨rfl, eight_all a b c d e f g h, fun j hj => list8 a b c d e f g h j hj⟩
/-- All that a step of the rounds reads. -/
structure Seen (w wr : World) (n0 gv : Nat) (hc kc cs : Array Value) (V : Nat → Int) : Prop where
  v : wr.heap[gv]? = some (.cells cs 41 (0, 0))
  r : wr.rowIs (n0 + 1 + 1 + 1) 49 64 (fun j => .int .u32 (V j))
  y : Lay4 w wr n0 hc kc
theorem Seen.next {w wr wr' : World} {n0 gv : Nat} {hc kc cs : Array Value} {V : Nat → Int} (h : Seen w wr n0 gv hc kc cs V) (b : Below wr.heap.size wr wr') : Seen w wr' n0 gv hc kc cs V :=
  ⟨by rw [b.block _ (Array.getElem?_eq_some_iff.1 h.v).1]; exact h.v, World.rowIs.of_block h.r (b.block _ h.r.lt), h.y.next (b.mono (Nat.le_of_lt h.y.sz))⟩
theorem Seen.cv {w wr : World} {n0 gv : Nat} {hc kc cs : Array Value} {V : Nat → Int} {H : Sha.St} (h : Seen w wr n0 gv hc kc cs V) (he : Eight cs H) {j : Nat} (hj : j < 8) : wr.cell? ⟨gv, j, none⟩ = some (.int .u32 (H.list.getD j 0)) := by
  simp [World.cell?, h.v, he.cell j hj]
theorem Seen.ck {w wr : World} {n0 gv : Nat} {hc kc cs : Array Value} {V : Nat → Int} (h : Seen w wr n0 gv hc kc cs V) {t : Nat} {x : Int} (hk : kc[t]? = some (.int .u32 x)) : wr.cell? ⟨n0 + 1, t, none⟩ = some (.int .u32 x) := by
  simp [World.cell?, h.y.k, hk]
theorem lay4_start (w : World) (n0 : Nat) (hc kc c d : Array Value) (hn : w.heap.size = n0) (h8 : c = zeros8) (h64 : d = zeros64) :
    Lay4 w ((((w.alloc (.cells hc 41)).alloc (.cells kc 49)).alloc (.cells c 41)).alloc (.cells d 49)) n0 hc kc ∧
      ((((w.alloc (.cells hc 41)).alloc (.cells kc 49)).alloc (.cells c 41)).alloc (.cells d 49)).rowIs (n0 + 1 + 1 + 1) 49 64 (fun _ => .int .u32 0) := by
  subst h8 h64 hn
  obtain ⟨w1, h1⟩ : ∃ w1, w.alloc (.cells hc 41) = w1 := ⟨_, rfl⟩
  have s1 : w1.heap.size = w.heap.size + 1 := by rw [← h1]; simp
  have f1 : w1.heap[w.heap.size]? = some (.cells hc 41 (0, 0)) := by rw [← h1]; exact heap_alloc_new _ _
  have b1 : Below w.heap.size w w1 := by rw [← h1]; exact (Below.refl _ _).alloc (Nat.le_refl _) _
  rw [h1]
  obtain ⟨w2, h2⟩ : ∃ w2, w1.alloc (.cells kc 49) = w2 := ⟨_, rfl⟩
  have s2 : w2.heap.size = w.heap.size + 1 + 1 := by rw [← h2]; simp [s1]
  have f2 : w2.heap[w.heap.size + 1]? = some (.cells kc 49 (0, 0)) := by rw [← h2, ← s1]; exact heap_alloc_new _ _
  have b2 : Below w1.heap.size w1 w2 := by rw [← h2]; exact (Below.refl _ _).alloc (Nat.le_refl _) _
  rw [h2]
  obtain ⟨w3, h3⟩ : ∃ w3, w2.alloc (.cells zeros8 41) = w3 := ⟨_, rfl⟩
  have s3 : w3.heap.size = w.heap.size + 1 + 1 + 1 := by rw [← h3]; simp [s2]
  have f3 : w3.heap[w.heap.size + 1 + 1]? = some (.cells zeros8 41 (0, 0)) := by rw [← h3, ← s2]; exact heap_alloc_new _ _
  have b3 : Below w2.heap.size w2 w3 := by rw [← h3]; exact (Below.refl _ _).alloc (Nat.le_refl _) _
  rw [h3]
  obtain ⟨w4, h4⟩ : ∃ w4, w3.alloc (.cells zeros64 49) = w4 := ⟨_, rfl⟩
  have b4 : Below w3.heap.size w3 w4 := by rw [← h4]; exact (Below.refl _ _).alloc (Nat.le_refl _) _
  have r4 : w4.rowIs (w.heap.size + 1 + 1 + 1) 49 64 (fun _ => .int .u32 0) := by rw [← h4, ← s3]; exact rowIs_zeros w3 _ _ rfl
  rw [h4]
  refine ⟨⟨?_, ?_, ?_, ?_, r4.lt⟩, r4⟩
  · rw [b4.block _ (by omega), b3.block _ (by omega), b2.block _ (by omega)]; exact f1
  · rw [b4.block _ (by omega), b3.block _ (by omega)]; exact f2
  · rw [b4.block _ (by omega)]; exact f3
  · exact ((b1.trans (b2.mono (by omega))).trans (b3.mono (by omega))).trans (b4.mono (by omega))

set_option maxRecDepth 100000 in
set_option maxHeartbeats 8000000 in
theorem block_any (hc kc : Array Value) (H : Sha.St) (s : ByteArray) (w : World) (hH : Eight hc H) (hkc : kc = KsCells) (hs : s.size = 64) :
    Calls Tryd.prog 29 #[.agg hc, .agg kc, .string s] w fun e w' => ∃ rc, e = .returned (.agg rc) ∧ Eight rc (Sha.comp H s.data.toList) ∧ Below w.heap.size w w' := by
  have hmx : Tryd.prog.follows .mixedOrders = true := by kernel_rfl
  obtain ⟨l, hl⟩ : ∃ l, s.data.toList = l := ⟨_, rfl⟩
  have HL := Lib.hid hl
  obtain ⟨K, hK⟩ : ∃ K : Nat → Int, (fun t => Sha.Ks.getD t 0) = K := ⟨_, rfl⟩
  have hkz : kc.size = 64 := by rw [hkc]; rfl
  have HKC : Hid (∀ k, k < 64 → kc[k]? = some (.int .u32 (K k))) := fun k hk => by
    have hl : Sha.Ks.length = 64 := by decide
    rw [hkc, ← hK]
    simp [KsCells, List.getD, hl, hk]
  obtain ⟨S, hS⟩ : ∃ S, Sha.vs H l = S := ⟨_, rfl⟩
  obtain ⟨V, hV⟩ : ∃ V, Sha.W l = V := ⟨_, rfl⟩
  have HST : Hid (Steps H V K S) := by rw [← hS, ← hV, ← hK]; exact steps_vs H l
  have HV : Hid (Rec V) := by rw [← hV]; exact W_rec l
  have HVE := Lib.hid hV
  have HSE : Hid (Sha.comp H l = Sha.plus H (S 64)) := by show _ = _; rw [← hS]; rfl
  have HHH := Lib.hid hH
  have hhz := hH.size
  have HSS := Lib.hid hs
  have hkall : kc.all (·.oneCell') = true := by rw [hkc]; exact ksCells_all
  have hhall := hH.all
  rw [hl]
  clear hl hK hS hV hH hkc
  obtain ⟨n0, hn0⟩ : ∃ n, w.heap.size = n := ⟨_, rfl⟩
  rw [hn0]
  go_enter Tryd.func29, Tryd.ntmps29
  go_wp2_with fail
  go_loopw [8, 21] (fun _ i wr => ∃ k : Nat, k ≤ 16 ∧ i = .int .i64 k ∧ Hid (wr.rowIs (n0 + 1 + 1 + 1) 49 64 (rowA l k)) ∧ Hid (Lay4 w wr n0 hc kc)) (fun _ i _ => 16 - (intOf i).toNat)
  case atStart =>
    obtain ⟨h1, h2⟩ := lay4_start w n0 hc kc _ _ hn0 rfl rfl
    exact ⟨0, by omega, rfl, h2.congr (fun j _ => by simp [rowA]), h1⟩
  case round =>
    obtain ⟨k, hk, rfl, HR, HY⟩ := hrel
    by_cases hlt : k < 16
    · have h4k : IntKind.i64.wrap (4 * (k : Int)) = ((4 * k : Nat) : Int) := by rw [IntKind.wrap_i64]; omega
      have h4b : 4 * k ≤ s.size := by rw [HSS.out]; omega
      have hcl := HR.out.cell (i := k) (by omega)
      have hfr := HR.out.frozen k
      obtain ⟨q4, hq4⟩ : ∃ q : Nat, q = 4 * k := ⟨_, rfl⟩
      rw [← hq4] at h4k h4b
      have hsz := HSS.out
      have hq64 : q4 ≤ 60 := by omega
      have HQ4 := Lib.hid hq4
      clear hq4
      have hxl : (s.extract q4 64).data.toList = l.drop (4 * k) := by rw [ex_toList s q4 64 hsz.symm, HL.out, HQ4.out]
      have HWC := Lib.hid (word_any (s.extract q4 64) wr (by rw [ByteArray.size_extract]; omega))
      have HWD : Hid (Sha.wd l k = Sha.wd (s.extract q4 64).data.toList 0) := by show _ = _; rw [hxl, wd_drop]
      clear hxl
      go_wp2_with fail
      refine HWC.out.mono ?_
      rintro e w2 ⟨rfl, qd, hw2⟩
      obtain ⟨x, hx⟩ : ∃ x, Sha.wd (s.extract q4 64).data.toList 0 = x := ⟨_, rfl⟩
      rw [hx] at HWD ⊢
      have HR2 : Hid (w2.rowIs (n0 + 1 + 1 + 1) 49 64 (rowA l k)) := by rw [hw2]; exact HR.out
      have HY2 : Hid (Lay4 w w2 n0 hc kc) := by rw [hw2]; exact HY.out.next ⟨rfl, rfl, rfl, Nat.le_refl _, fun _ _ => rfl⟩
      have hcl2 := HR2.out.cell (i := k) (by omega)
      have hfr2 := HR2.out.frozen k
      have HRS : Hid ((w2.setCell ⟨n0 + 1 + 1 + 1, k, none⟩ (.int .u32 x)).rowIs (n0 + 1 + 1 + 1) 49 64 (rowA l (k + 1))) := (HR2.out.set k _).congr fun j _ => rowA_step l k x HWD.out j
      have HYS := Lib.hid (HY2.out.next ((Below.refl (n0 + 1 + 1 + 1) w2).setCell (p := ⟨n0 + 1 + 1 + 1, k, none⟩) (Nat.le_refl _) (.int .u32 x)))
      clear hx hw2 HR HY hcl hfr HWC
      go_wp2
      exact ⟨⟨k + 1, by omega, by go_num, HRS, HYS⟩, by simp [intOf]; omega⟩
    · have HQ : Hid (wr.rowIs (n0 + 1 + 1 + 1) 49 64 (row2 V 0)) := by
        obtain rfl : k = 16 := by omega
        rw [← HVE.out]
        exact HR.out.congr fun j hj => rowA_end l j
      clear HR
      go_wp2
      go_loopw [9, 10, 11, 12, 13] (fun i _ _ _ _ wr => ∃ t : Nat, 16 ≤ t ∧ t ≤ 64 ∧ i = .int .i64 t ∧ Hid (wr.rowIs (n0 + 1 + 1 + 1) 49 64 (row2 V (t - 16))) ∧ Hid (Lay4 w wr n0 hc kc)) (fun i _ _ _ _ _ => 64 - (intOf i).toNat)
      case atStart => exact ⟨16, by omega, by omega, rfl, HQ, HY⟩
      case round =>
        obtain ⟨t, ht, ht2, rfl, HR, HY⟩ := hrel
        by_cases hlt : t < 64
        · obtain ⟨j15, e15⟩ : ∃ j : Nat, t = j + 15 := ⟨t - 15, by omega⟩
          obtain ⟨j2, e2⟩ : ∃ j : Nat, t = j + 2 := ⟨t - 2, by omega⟩
          obtain ⟨j7, e7⟩ : ∃ j : Nat, t = j + 7 := ⟨t - 7, by omega⟩
          obtain ⟨j16, e16⟩ : ∃ j : Nat, t = j + 16 := ⟨t - 16, by omega⟩
          have H15 : Hid (IntKind.i64.wrap ((t : Int) - 15) = (j15 : Int)) := Lib.hid <| by rw [IntKind.wrap_i64]; omega
          have H2 : Hid (IntKind.i64.wrap ((t : Int) - 2) = (j2 : Int)) := Lib.hid <| by rw [IntKind.wrap_i64]; omega
          have H7 : Hid (IntKind.i64.wrap ((t : Int) - 7) = (j7 : Int)) := Lib.hid <| by rw [IntKind.wrap_i64]; omega
          have H16 : Hid (IntKind.i64.wrap ((t : Int) - 16) = (j16 : Int)) := Lib.hid <| by rw [IntKind.wrap_i64]; omega
          have c15 := HR.out.cell (i := j15) (by omega)
          have c2 := HR.out.cell (i := j2) (by omega)
          rw [row2_old V _ _ (by omega)] at c15 c2
          have hj15 : j15 < 64 := by omega
          have hj2 : j2 < 64 := by omega
          have hj7 : j7 < 64 := by omega
          have hj16 : j16 < 64 := by omega
          have E2 := Lib.hid e2
          have E7 := Lib.hid e7
          have E15 := Lib.hid e15
          have E16 := Lib.hid e16
          clear e15 e2 e7 e16
          obtain ⟨x, hx⟩ : ∃ x, V j15 = x := ⟨_, rfl⟩
          obtain ⟨y, hy⟩ : ∃ y, V j2 = y := ⟨_, rfl⟩
          rw [hx] at c15
          rw [hy] at c2
          have HX := Lib.hid hx
          have HYV := Lib.hid hy
          clear hx hy
          go_wp2_with fail
          have h15 := H15.out
          have h2 := H2.out
          go_quiet (fail)
          clear h15 h2
          have HR3 : Hid ((wr.drewN nq).rowIs (n0 + 1 + 1 + 1) 49 64 (row2 V (t - 16))) := HR.out
          have HY3 : Hid (Lay4 w (wr.drewN nq) n0 hc kc) := HY.out.next ⟨rfl, rfl, rfl, Nat.le_refl _, fun _ _ => rfl⟩
          clear HR HY c15 c2
          generalize wr.drewN nq = w3 at *
          have c7 := HR3.out.cell (i := j7) hj7
          have c16 := HR3.out.cell (i := j16) hj16
          rw [row2_old V _ _ (by have := E7.out; omega)] at c7
          rw [row2_old V _ _ (by have := E16.out; omega)] at c16
          have hcl := HR3.out.cell (i := t) hlt
          have hfr := HR3.out.frozen t
          have HN := Lib.hid (HV.out t j2 j7 j15 j16 ht hlt E2.out E7.out E15.out E16.out)
          obtain ⟨x7, hx7⟩ : ∃ x, V j7 = x := ⟨_, rfl⟩
          obtain ⟨x16, hx16⟩ : ∃ x, V j16 = x := ⟨_, rfl⟩
          rw [hx7] at c7 HN
          rw [hx16] at c16 HN
          rw [HX.out, HYV.out] at HN
          clear hx7 hx16
          go_wp2_with (go_at_call 40; refine (right_any _ _ _ (by omega) (by omega)).mono ?_; rintro e w' ⟨rfl, rfl⟩)
          have h7 := H7.out
          have h16 := H16.out
          have b7 : (j7 : Int) < 64 := by omega
          have b16 : (j16 : Int) < 64 := by omega
          have bt : (t : Int) < 64 := by omega
          refine wp_region_still_tail 15 hmx (by kernel_rfl) ?_
          simp only [List.take_succ_cons, List.take_zero, List.drop_succ_cons, List.drop_zero, drew_def]
          repeat still_step
          refine wpStill_nil ?_
          clear h7 h16 b7 b16
          go_wp2
          have HS : Hid ((w3.setCell ⟨n0 + 1 + 1 + 1, t, none⟩ (.int .u32 (V t))).rowIs (n0 + 1 + 1 + 1) 49 64 (row2 V (t - 16 + 1))) :=
            (HR3.out.set t _).congr fun j hj => row2_step V (t - 16) t (V t) (by omega) rfl j
          rw [HN.out, Sha.ad4] at HS
          refine ⟨⟨t + 1, by omega, by omega, by go_num, ?_, ?_⟩, by simp [intOf]; omega⟩
          · rw [show t + 1 - 16 = t - 16 + 1 by omega]
            exact HS
          · exact Lib.hid (HY3.out.next (((Below.refl (n0 + 1 + 1 + 1) w3).setCell (p := ⟨n0 + 1 + 1 + 1, t, none⟩) (Nat.le_refl _) _).drew))
        · have HRV : Hid (wr.rowIs (n0 + 1 + 1 + 1) 49 64 (fun j => .int .u32 (V j))) := HR.out.congr fun j hj => row2_old V _ _ (by omega)
          clear HR
          have hgv : n0 + 1 + 1 + 1 < wr.heap.size := HY.out.sz
          have hz8 : (wr.alloc (.cells zeros8 41)).heap[wr.heap.size]? = some (.cells zeros8 41 (0, 0)) := heap_alloc_new _ _
          go_wp2_with (first
            | (refine wpList_load_row rfl 41 (.tmp 3) rfl n0 rfl 41 hc (0, 0) _ HY.out.h Tryd.underlying41 rfl (by rw [hhz]; exact info8) ?_)
            | (refine wpList_store_row rfl 41 (.tmp 14) (.tmp 75) rfl wr.heap.size hc rfl rfl 41 zeros8 hz8 (by rw [hhz]; exact info8) (by rw [hhz]; rfl) hhall ?_))
          have hba : Below wr.heap.size wr ((wr.alloc (.cells zeros8 41)).setRow wr.heap.size hc) := by
            rw [World.setRow_alloc_new]; exact (Below.refl _ _).alloc (Nat.le_refl _) _
          have hcv : ((wr.alloc (.cells zeros8 41)).setRow wr.heap.size hc).heap[wr.heap.size]? = some (.cells hc 41 (0, 0)) := by
            rw [World.setRow_alloc_new]; exact heap_alloc_new _ _
          have HY4 : Hid (Lay4 w ((wr.alloc (.cells zeros8 41)).setRow wr.heap.size hc) n0 hc kc) := HY.out.next (hba.mono (by omega))
          have HR4 : Hid (((wr.alloc (.cells zeros8 41)).setRow wr.heap.size hc).rowIs (n0 + 1 + 1 + 1) 49 64 (fun j => .int .u32 (V j))) := World.rowIs.of_block HRV.out (hba.block _ hgv)
          obtain ⟨gv, hgvv⟩ : ∃ g, wr.heap.size = g := ⟨_, rfl⟩
          have HCV : Hid (((wr.alloc (.cells zeros8 41)).setRow wr.heap.size hc).heap[gv]? = some (.cells hc 41 (0, 0))) := by show _ = _; rw [← hgvv]; exact hcv
          have HE0 : Hid (Eight hc (S 0)) := by show Eight _ _; rw [HST.out.start]; exact HHH.out
          rw [hgvv] at hgv HY4 HR4 HCV ⊢
          clear hba hcv hz8 hgvv HY HRV
          go_loopw [15, 16, 17, 18, 19, 76] (fun _ _ _ _ _ i wr => ∃ (t : Nat) (cs : Array Value), t ≤ 64 ∧ i = .int .i64 t ∧ Hid (wr.heap[gv]? = some (.cells cs 41 (0, 0))) ∧ Hid (Eight cs (S t)) ∧ Hid (wr.rowIs (n0 + 1 + 1 + 1) 49 64 (fun j => .int .u32 (V j))) ∧ Hid (Lay4 w wr n0 hc kc)) (fun _ _ _ _ _ i _ => 64 - (intOf i).toNat)
          case atStart => exact ⟨0, hc, by omega, rfl, HCV, HE0, HR4, HY4⟩
          case round =>
            obtain ⟨t, cs, ht, rfl, HCV, HE, HR, HY⟩ := hrel
            by_cases hlt : t < 64
            · obtain ⟨s0, hs0⟩ : ∃ s, S t = s := ⟨_, rfl⟩
              have HN := Lib.hid (HST.out.step t hlt)
              obtain ⟨x, hx⟩ : ∃ x, V t = x := ⟨_, rfl⟩
              obtain ⟨kk, hkk⟩ : ∃ x, K t = x := ⟨_, rfl⟩
              have hkc := HKC.out t hlt
              have hcw := HR.out.cell (i := t) hlt
              rw [hs0, hx, hkk] at HN
              rw [hs0] at HE
              rw [hx] at hcw
              rw [hkk] at hkc
              have HKK := Lib.hid hkc
              have HXX := Lib.hid hx
              have HSN : Hid (Seen w wr n0 gv hc kc cs V) := ⟨HCV.out, HR.out, HY.out⟩
              clear hs0 hx hkk hkc hcw HCV HR HY
              obtain ⟨a, b, c, d, e, f, gg, hh⟩ := s0
              have hsc := HE.out.size
              have hsg : IntKind.u32.signed = false := rfl
              have c0 := HSN.out.cv HE.out (j := 0) (by omega)
              have c4 := HSN.out.cv HE.out (j := 4) (by omega)
              simp only [Sha.St.list, List.getD_cons_zero, List.getD_cons_succ] at c0 c4
              have hti : (t : Int) < 64 := by omega
              go_wp2_with fail
              go_quiet (fail)
              have HS5 : Hid (Seen w (wr.drewN nq) n0 gv hc kc cs V) := HSN.out.next ⟨rfl, rfl, rfl, Nat.le_refl _, fun _ _ => rfl⟩
              clear HSN c0 c4
              generalize wr.drewN nq = w5 at *
              have c5 := HS5.out.cv HE.out (j := 5) (by omega)
              have c6 := HS5.out.cv HE.out (j := 6) (by omega)
              have c7 := HS5.out.cv HE.out (j := 7) (by omega)
              have hck := HS5.out.ck HKK.out
              have hcw := HS5.out.r.cell (i := t) hlt
              rw [HXX.out] at hcw
              simp only [Sha.St.list, List.getD_cons_zero, List.getD_cons_succ] at c5 c6 c7
              go_wp2_with fail
              refine wp_region_still_tail 30 hmx (by kernel_rfl) ?_
              simp only [List.take_succ_cons, List.take_zero, List.drop_succ_cons, List.drop_zero, drew_def]
              repeat (first | still_step | still_call (still_of (right_any _ _ _ (by omega) (by omega))))
              refine wpStill_nil ?_
              have HS6 : Hid (Seen w w5.drew n0 gv hc kc cs V) := HS5.out.next ⟨rfl, rfl, rfl, Nat.le_refl _, fun _ _ => rfl⟩
              clear HS5 c5 c6 c7 hck hcw
              generalize w5.drew = w6 at *
              rw [t1_eq2 a b c d e f gg hh kk x]
              obtain ⟨T1, hT1⟩ : ∃ T, Sha.t1 ⟨a, b, c, d, e, f, gg, hh⟩ kk x = T := ⟨_, rfl⟩
              rw [hT1]
              have HT1 := Lib.hid hT1
              clear hT1
              have c1 := HS6.out.cv HE.out (j := 1) (by omega)
              have c2 := HS6.out.cv HE.out (j := 2) (by omega)
              simp only [Sha.St.list, List.getD_cons_zero, List.getD_cons_succ] at c1 c2
              go_wp2_with fail
              refine wp_region_still_tail 24 hmx (by kernel_rfl) ?_
              simp only [List.take_succ_cons, List.take_zero, List.drop_succ_cons, List.drop_zero, drew_def]
              repeat (first | still_step | still_call (still_of (right_any _ _ _ (by omega) (by omega))))
              refine wpStill_nil ?_
              have HS7 : Hid (Seen w w6.drew n0 gv hc kc cs V) := HS6.out.next ⟨rfl, rfl, rfl, Nat.le_refl _, fun _ _ => rfl⟩
              clear HS6 c1 c2
              generalize w6.drew = w7 at *
              rw [t2_eq2 a b c d e f gg hh]
              obtain ⟨T2, hT2⟩ : ∃ T, Sha.t2 ⟨a, b, c, d, e, f, gg, hh⟩ = T := ⟨_, rfl⟩
              rw [hT2]
              have HT2 := Lib.hid hT2
              clear hT2
              have c1 := HS7.out.cv HE.out (j := 1) (by omega)
              have c2 := HS7.out.cv HE.out (j := 2) (by omega)
              have c3 := HS7.out.cv HE.out (j := 3) (by omega)
              have c5 := HS7.out.cv HE.out (j := 5) (by omega)
              have c6 := HS7.out.cv HE.out (j := 6) (by omega)
              simp only [Sha.St.list, List.getD_cons_zero, List.getD_cons_succ] at c1 c2 c3 c5 c6
              go_wp2_with (refine wpList_store_row rfl 41 (.tmp 14) (.tmp 154) rfl gv _ rfl rfl 41 cs HS7.out.v info8 (by rw [hsc]; rfl) (eight_all _ _ _ _ _ _ _ _) ?_)
              have hbg := below_setRow (Below.refl gv w7) (Nat.le_refl gv) #[.int .u32 ((T1 + T2) % 4294967296), .int .u32 a, .int .u32 b, .int .u32 c, .int .u32 ((d + T1) % 4294967296), .int .u32 e, .int .u32 f, .int .u32 gg]
              have hvn := setRow_heap w7 gv cs #[.int .u32 ((T1 + T2) % 4294967296), .int .u32 a, .int .u32 b, .int .u32 c, .int .u32 ((d + T1) % 4294967296), .int .u32 e, .int .u32 f, .int .u32 gg] 41 (0, 0) HS7.out.v
              have HEN : Hid (Eight #[.int .u32 ((T1 + T2) % 4294967296), .int .u32 a, .int .u32 b, .int .u32 c, .int .u32 ((d + T1) % 4294967296), .int .u32 e, .int .u32 f, .int .u32 gg] (S (t + 1))) := by
                show Eight _ _
                rw [HN.out]
                unfold Sha.rnd
                rw [HT1.out, HT2.out]
                exact eight_lit _ _ _ _ _ _ _ _
              exact ⟨⟨t + 1, _, by omega, by go_num, hvn, HEN, World.rowIs.of_block HS7.out.r (hbg.block _ hgv), HS7.out.y.next (hbg.mono (Nat.le_of_lt hgv))⟩, by simp [intOf]; omega⟩
            · have ht64 : t = 64 := by omega
              have HSC : Hid (Sha.comp H l = Sha.plus H (S t)) := by show _ = _; rw [ht64]; exact HSE.out
              obtain ⟨U, hU⟩ : ∃ U : Nat → Int, (fun j => (S t).list.getD j 0) = U := ⟨_, rfl⟩
              obtain ⟨Y, hY⟩ : ∃ Y : Nat → Int, (fun j => H.list.getD j 0) = Y := ⟨_, rfl⟩
              have HUU := Lib.hid (congrFun hU)
              have HYY := Lib.hid (congrFun hY)
              have HP0 : Hid (wr.rowIs gv 41 8 (p8row U Y 0)) := ⟨cs, HCV.out, HE.out.size, fun j hj => by
                rw [HE.out.cell j hj]
                unfold p8row part8
                rw [if_neg (by omega), ← HUU.out j]⟩
              clear ht64 hU hY HCV HE HR
              go_wp2
              go_loopw [20, 156] (fun _ i wr => ∃ k : Nat, k ≤ 8 ∧ i = .int .i64 k ∧ Hid (wr.rowIs gv 41 8 (p8row U Y k)) ∧ Hid (Lay4 w wr n0 hc kc)) (fun _ i _ => 8 - (intOf i).toNat)
              case atStart => exact ⟨0, by omega, rfl, HP0, HY⟩
              case round =>
                obtain ⟨k, hk, rfl, HP, HY⟩ := hrel
                by_cases hlt : k < 8
                · have hcu := HP.out.cell hlt
                  have hfr := HP.out.frozen k
                  have hcy : wr.cell? ⟨n0, k, none⟩ = some (.int .u32 (H.list.getD k 0)) := by simp [World.cell?, HY.out.h, HHH.out.cell k hlt]
                  rw [HYY.out k] at hcy
                  have e1 : p8row U Y k k = .int .u32 (U k) := by unfold p8row part8; rw [if_neg (by omega)]
                  rw [e1] at hcu
                  obtain ⟨u, hu⟩ : ∃ v, U k = v := ⟨_, rfl⟩
                  obtain ⟨y, hy⟩ : ∃ y, Y k = y := ⟨_, rfl⟩
                  have HPS := Lib.hid (fun j => p8row_step U Y k u y hu hy j)
                  rw [hu] at hcu
                  rw [hy] at hcy
                  have hk8 : (k : Int) < 8 := by omega
                  clear hu hy e1
                  go_wp2_with fail
                  refine wp_region_still_tail 8 hmx (by kernel_rfl) ?_
                  simp only [List.take_succ_cons, List.take_zero, List.drop_succ_cons, List.drop_zero, drew_def]
                  repeat still_step
                  refine wpStill_nil ?_
                  go_wp2
                  have HRS : Hid ((wr.setCell ⟨gv, k, none⟩ (.int .u32 (Sha.ad u y))).rowIs gv 41 8 (p8row U Y (k + 1))) := (HP.out.set k _).congr fun j _ => HPS.out j
                  exact ⟨⟨k + 1, by omega, by go_num, HRS, Lib.hid (HY.out.next (((Below.refl (n0 + 1 + 1 + 1) wr).setCell (p := ⟨gv, k, none⟩) (Nat.le_of_lt hgv) _).drew))⟩, by simp [intOf]; omega⟩
                · obtain ⟨rc, hrc, hrz, hrv⟩ := HP.out
                  have HRC : Hid (Eight rc (Sha.comp H l)) := by
                    obtain rfl : k = 8 := by omega
                    refine ⟨hrz, ?_, fun j hj => ?_⟩
                    · rw [Array.all_eq_true]
                      intro i hi
                      have := hrv i (by omega)
                      rw [Array.getElem?_eq_getElem hi] at this
                      rw [Option.some.inj this]; rfl
                    · rw [hrv j hj, HSC.out, plus_list _ _ j hj]
                      unfold p8row part8
                      rw [if_pos hj, ← HUU.out j, ← HYY.out j, Sha.ad_comm]
                  have HRR := Lib.hid hrc
                  clear hrv hrc
                  go_wp2_with (first
                    | (refine wpList_load_row rfl 41 (.tmp 14) rfl gv rfl 41 rc (0, 0) _ HRR.out Tryd.underlying41 rfl (by rw [hrz]; exact info8) ?_)
                    | (refine wpList_store_row rfl 41 (.tmp 6) (.tmp 168) rfl (n0 + 1 + 1) rc rfl rfl 41 zeros8 HY.out.r (by rw [hrz]; exact info8) (by rw [hrz]; rfl) HRC.out.all ?_))
                  have hnew := setRow_heap wr (n0 + 1 + 1) zeros8 rc 41 (0, 0) HY.out.r
                  have hld := run_loadVar_row (P := Tryd.prog) (wr.setRow (n0 + 1 + 1) rc) (n0 + 1 + 1) 41 41 rc (0, 0) _ hnew Tryd.underlying41 rfl (by rw [hrz]; exact info8)
                  exact bodyPost_ret (results_cell_at rfl _ _ _ rfl _ hld) rfl ⟨rc, rfl, HRC.out, below_setRow HY.out.bel (by omega) _⟩
end Go.Proofs.YtidmcemcmalfnaaDoor
