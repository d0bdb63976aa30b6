
/- Contract of poly.Mul. -/
import Derived.Test.YtpohhgbmdgjipaaPlaces
import Derived.Test.YtpohhgbmdgjipaaRound
namespace Go.Proofs.Ytpohhgbmdgjipaa
open Go.RowKit
open Num
set_option linter.unusedVariables false

/-- Block g is a row of the numbers l. -/
def Row (w : World) (g : Nat) (l : List Int) : Prop := w.rowIs g 3 l.length (fun j => .int .i64 (l.getD j 0))
theorem Row.cell {w : World} {g : Nat} {l : List Int} (h : Row w g l) {i : Nat} (hi : i < l.length) : w.cell? ⟨g, i, none⟩ = some (.int .i64 (l.getD i 0)) := World.rowIs.cell h hi
theorem Row.frozen {w : World} {g : Nat} {l : List Int} (h : Row w g l) (i : Nat) : w.frozen? ⟨g, i, none⟩ = false := World.rowIs.frozen h i
theorem Row.lt {w : World} {g : Nat} {l : List Int} (h : Row w g l) : g < w.heap.size := World.rowIs.lt h
theorem getD_set (l : List Int) (i j : Nat) (v : Int) (hi : i < l.length) : (l.set i v).getD j 0 = if j = i then v else l.getD j 0 := by
  by_cases e : j = i
  · subst e; simp [List.getD, hi]
  · simp [List.getD, e, List.getElem?_set_ne (Ne.symm e)]
theorem Row.set {w : World} {g : Nat} {l : List Int} (h : Row w g l) {i : Nat} (hi : i < l.length) (v : Int) : Row (w.setCell ⟨g, i, none⟩ (.int .i64 v)) g (l.set i v) := by
  unfold Row
  rw [List.length_set]
  exact (World.rowIs.set h i (.int .i64 v)).congr fun j _ => by rw [getD_set _ _ _ _ hi]; split <;> rfl
theorem Row.drew {w : World} {g : Nat} {l : List Int} (h : Row w g l) : Row w.drew g l := h
theorem Row.alloc {w : World} {g : Nat} {l : List Int} (h : Row w g l) (o : Obj) : Row (w.alloc o) g l := World.rowIs.alloc h o
theorem Row.below {w w' : World} {g : Nat} {l : List Int} (h : Row w g l) {B : Nat} (b : Below B w w') (hg : g < B) : Row w' g l := World.rowIs.of_block h (b.block g hg)
theorem Row.made (w : World) (n : Nat) : Row (w.alloc (.cells (madeCells #[.int .i64 0] n) 3)) w.heap.size (List.replicate n 0) := by
  unfold Row
  rw [List.length_replicate]
  exact (World.rowIs_made w (.int .i64 0) n 3).congr fun j hj => by simp [List.getD, hj]
theorem Row.reads {w : World} {g cap : Nat} {l : List Int} (h : Row w g l) (hl : l.length ≤ 140737488355328) : Ints w (.slice (some ⟨g, 0, none⟩) l.length cap) l :=
  ⟨_, cap, rfl, hl, fun _ => ⟨g, 0, rfl, fun i hi => by rw [Nat.zero_add]; exact h.cell hi⟩⟩
theorem els_set {p v : Int} {l : List Int} (h : Els p l) (hv : El p v) (i : Nat) : Els p (l.set i v) := fun x hx => by
  rcases List.mem_or_eq_of_mem_set hx with h1 | h1
  · exact h x h1
  · subst h1; exact hv
theorem els_zeros {p : Int} (hp : 1 ≤ p) (n : Nat) : Els p (List.replicate n 0) := fun x hx => by
  rw [(List.mem_replicate.1 hx).2]; exact el_zero hp

/-- One more product of two coefficients. -/
theorem mul_step {p c d : Int} {l b : List Int} {i k : Nat} {A : Int → Int} (hj : i + k < l.length) (hd : b.getD k 0 = d) (h : Pc p (E l) (fun x => A x + x ^ i * c * E (b.take k) x)) :
    Pc p (E (l.set (i + k) (addF p (l.getD (i + k) 0) (mulF p c d)))) (fun x => A x + x ^ i * c * E (b.take (k + 1)) x) := by
  subst hd
  have h1 : Cg p (addF p (l.getD (i + k) 0) (mulF p c (b.getD k 0))) (l.getD (i + k) 0 + c * b.getD k 0) := (Cg.addF p _ _).trans ((Cg.refl p _).add (Cg.mulF p _ _))
  have h2 := Pc.set l (i + k) _ _ hj h1
  refine h2.trans ((h.add (Pc.refl p (fun x => x ^ (i + k) * (l.getD (i + k) 0 + c * b.getD k 0 - l.getD (i + k) 0)))).trans (Pc.of_eq fun x => ?_))
  rw [E_take_succ, Int.pow_add]
  grind
theorem mul_row {p c : Int} {l a b : List Int} {i : Nat} (hc : a.getD i 0 = c) (h : Pc p (E l) (fun x => E (a.take i) x * E b x + x ^ i * c * E b x)) : Pc p (E l) (fun x => E (a.take (i + 1)) x * E b x) := by
  subst hc
  exact h.trans (Pc.of_eq fun x => by rw [E_take_succ]; grind)
theorem mul_start {p c : Int} {l a b : List Int} {i : Nat} (h : Pc p (E l) (fun x => E (a.take i) x * E b x)) : Pc p (E l) (fun x => E (a.take i) x * E b x + x ^ i * c * E (b.take 0) x) :=
  h.trans (Pc.of_eq fun x => by simp [E])

set_option maxRecDepth 100000 in
set_option maxHeartbeats 2000000 in
theorem mul_core (p : Int) (aa ab : Option Addr) (la lb ca cb : Nat) (a b : List Int) (w : World) (hp : 1 ≤ p) (hp2 : p ≤ 1073741824) (ha : Els p a) (hb : Els p b)
    (hsa : Ints w (.slice aa la ca) a) (hsb : Ints w (.slice ab lb cb) b) (hla : Hid (la = a.length)) (hlb : Hid (lb = b.length)) (hn : la + lb ≤ 1000000) :
    Calls Try.prog 21 #[.int .i64 p, .slice aa la ca, .slice ab lb cb] w fun e w' =>
      ∃ l : List Int, ∃ cap, e = .returned (.slice (some ⟨w.heap.size, 0, none⟩) (dg l) cap) ∧ Row w' w.heap.size l ∧ l.length = la + lb ∧ Els p l ∧ Pc p (E l) (fun x => E a x * E b x) ∧ Below w.heap.size w w' := by
  have hmk := run_make_row' (P := Try.prog) 22 3 (.int .i64 0) 8 Try.underlying22 infoInt rfl .i64 .i64 (la + lb) (by omega) (by omega)
  have e1 : ((la + lb : Nat) : Int) = (la : Int) + (lb : Int) := by omega
  rw [e1] at hmk
  have bla : la ≤ 1000000 := by omega
  have blb : lb ≤ 1000000 := by omega
  have hmx : Try.prog.follows .mixedOrders = true := by kernel_rfl
  obtain ⟨n, hnn⟩ : ∃ n, la + lb = n := ⟨_, rfl⟩
  rw [hnn] at hmk hn
  have HN := Lib.hid hnn
  clear e1 hnn
  go_enter Try.func21, Try.ntmps21
  go_wp2
  go_loopw [8, 9, 10, 11, 20] (fun _ _ _ _ i wr => ∃ k : Nat, ∃ l : List Int, k ≤ la ∧ i = .int .i64 k ∧ Row wr w.heap.size l ∧ Hid (l.length = n) ∧ Hid (Els p l) ∧ Hid (Pc p (E l) (fun x => E (a.take k) x * E b x)) ∧ Below w.heap.size w wr) (fun _ _ _ _ i _ => la - (intOf i).toNat)
  case atStart => exact ⟨0, List.replicate n 0, Nat.zero_le _, rfl, Row.made w n, Lib.hid (by simp), Lib.hid (els_zeros hp n), Lib.hid (Pc.of_eq fun x => by rw [E_zeros]; simp [E]), (Below.refl _ _).alloc (Nat.le_refl _) _⟩
  case round =>
    obtain ⟨i, l, hi, rfl, hrow, hlen, hel, hpc, hbel⟩ := hrel
    have HR := Lib.hid hrow
    have HB := Lib.hid hbel
    clear hrow hbel
    by_cases hlt : i < la
    · obtain ⟨x0, off, rfl, hcx⟩ := ints_at (hsa.below (Nat.le_refl _) HB.out) hla.out (k := i) hlt
      have hc := els_at hp ha i
      obtain ⟨c, hcv⟩ : ∃ c, a.getD i 0 = c := ⟨_, rfl⟩
      rw [hcv] at hcx hc
      have HCV := Lib.hid hcv
      clear hcv
      go_wp2
      go_loopw [10, 11, 27] (fun _ _ j wr => ∃ k : Nat, ∃ l : List Int, k ≤ lb ∧ j = .int .i64 k ∧ Row wr w.heap.size l ∧ Hid (l.length = n) ∧ Hid (Els p l) ∧ Hid (Pc p (E l) (fun x => E (a.take i) x * E b x + x ^ i * c * E (b.take k) x)) ∧ Below w.heap.size w wr) (fun _ _ j _ => lb - (intOf j).toNat)
      case atStart => exact ⟨0, l, Nat.zero_le _, rfl, HR.out, hlen, hel, Lib.hid (mul_start hpc.out), HB.out⟩
      case round =>
        obtain ⟨k, l2, hk, rfl, hrow2, hlen2, hel2, hpc2, hbel2⟩ := hrel
        have HR2 := Lib.hid hrow2
        have HB2 := Lib.hid hbel2
        clear hrow2 hbel2
        by_cases hlt2 : k < lb
        · obtain ⟨y0, offb, rfl, hcy⟩ := ints_at (hsb.below (Nat.le_refl _) HB2.out) hlb.out (k := k) hlt2
          have hd := els_at hp hb k
          obtain ⟨d, hdv⟩ : ∃ d, b.getD k 0 = d := ⟨_, rfl⟩
          rw [hdv] at hcy hd
          have hj : i + k < l2.length := by rw [hlen2.out, ← HN.out]; omega
          have hcl := HR2.out.cell hj
          have hfr := HR2.out.frozen (i + k)
          have hv := els_at hp hel2.out (i + k)
          have HS := Lib.hid (mul_step hj hdv hpc2.out)
          have HRS := Lib.hid (HR2.out.set hj (addF p (l2.getD (i + k) 0) (mulF p c d)))
          have HES : Hid (Els p (l2.set (i + k) (addF p (l2.getD (i + k) 0) (mulF p c d)))) := els_set hel2.out (el_add hp _ _) _
          have HLS : Hid ((l2.set (i + k) (addF p (l2.getD (i + k) 0) (mulF p c d))).length = n) := by show _ = n; rw [List.length_set]; exact hlen2.out
          have hin : i + k < n := by rw [← hlen2.out]; exact hj
          clear hdv hj hpc2
          generalize l2.getD (i + k) 0 = v at *
          have s1 : IntKind.i64.wrap ((i : Int) + (k : Int)) = (i : Int) + (k : Int) := IntWalk.i64_in _ (by omega)
          have s2 : ((i : Int) + (k : Int)).toNat = i + k := by omega
          have s3 : 0 ≤ (i : Int) + (k : Int) := by omega
          have s4 : (i : Int) + (k : Int) < (n : Int) := by omega
          go_wp2
          refine wp_region_still_tail 17 hmx (by kernel_rfl) ?_
          simp only [List.take_succ_cons, List.take_zero, List.drop_succ_cons, List.drop_zero, drew_def]
          repeat still_step
          still_call (still_of (mul_el _ hp hp2 hc hd))
          still_call (still_of (add_el _ hp hp2 hv (el_mul hp _ _)))
          repeat still_step
          refine wpStill_nil ?_
          go_wp2
          go_roundw
          case rel => exact ⟨k + 1, _, by omega, by go_num, HRS.out, HLS, HES, HS, (HB2.out.setCell (p := ⟨w.heap.size, i + k, none⟩) (Nat.le_refl _) _).drew⟩
          case measure => simp [intOf]; omega
        · obtain rfl : k = lb := by omega
          have HP : Hid (Pc p (E l2) (fun x => E (a.take (i + 1)) x * E b x)) := mul_row HCV.out (by have h := hpc2.out; rw [hlb.out, List.take_length] at h; exact h)
          clear hpc2
          go_wp2
          go_roundw
          case rel => exact ⟨i + 1, l2, by omega, by go_num, HR2.out, hlen2, hel2, HP, HB2.out⟩
          case measure => simp [intOf]; omega
    · obtain rfl : i = la := by omega
      have HP : Hid (Pc p (E l) (fun x => E a x * E b x)) := by have h := hpc.out; rw [hla.out, List.take_length] at h; exact h
      have HI := Lib.hid (Row.reads (cap := n) HR.out (by rw [hlen.out]; omega))
      have hdl := Lib.hid (dg_le l)
      clear hpc
      have HS := Lib.hid (short_any _ n l wr HI.out (by rw [← hlen.out]; exact hdl.out) (by omega))
      rw [hlen.out] at HS
      go_wp2_with (go_at_call 37; refine HS.out.mono ?_; rintro e w1 ⟨rfl, hb1⟩)
      have HR1 := Lib.hid (HR.out.below hb1 HR.out.lt)
      have HB1 := Lib.hid (HB.out.trans (hb1.mono HB.out.size))
      clear hb1
      go_ret
      exact ⟨l, n, rfl, HR1.out, by rw [hlen.out, HN.out], hel.out, HP.out, HB1.out⟩

/-- A list has no more coefficients than where it is 0 from. -/
theorem dg_upto {l : List Int} {k : Nat} (h : ∀ i, k ≤ i → l.getD i 0 = 0) : dg l ≤ k := by
  by_cases e : dg l ≤ k
  · exact e
  · exact absurd (h (dg l - 1) (by omega)) (dg_top l (dg l - 1) (by omega))
theorem mulL_len : ∀ (a b : List Int), 0 < b.length → (mulL a b).length ≤ a.length + b.length - 1
  | [], b, _ => by simp [mulL]
  | c :: a, b, h => by
    have ih := mulL_len a b h
    simp only [mulL, addL_len, smulL_len, List.length_cons]; omega
theorem pc_zero {p : Int} (hp : 1 ≤ p) {l : List Int} (hl : Els p l) (h : Pc p (E l) (fun _ => 0)) (i : Nat) : l.getD i 0 = 0 := by
  have h2 := Pc.coef (a := l) (b := []) (h.trans (Pc.of_eq fun x => rfl)) i
  exact h2.el (els_getD hp hl i) (els_getD hp (fun x hx => by cases hx) i)
theorem mul_dg {p : Int} (hp : 1 ≤ p) {l a b : List Int} (hl : Els p l) (h : Pc p (E l) (fun x => E a x * E b x)) : dg l ≤ a.length + b.length - 1 := by
  refine dg_upto fun i hi => ?_
  by_cases hb : 0 < b.length
  · have h2 := Pc.coef (a := l) (b := mulL a b) (h.trans (Pc.of_eq fun x => (E_mulL a b x).symm)) i
    rw [getD_ge (l := mulL a b) (by have := mulL_len a b hb; omega)] at h2
    exact h2.el (els_getD hp hl i) (el_zero hp)
  · obtain rfl : b = [] := List.length_eq_zero_iff.1 (by omega)
    exact pc_zero hp hl (h.trans (Pc.of_eq fun x => by simp [E])) i
theorem pc_sh {p : Int} {l : List Int} {f : Int → Int} (h : Pc p (E l) f) : Pc p (E (sh l)) f := (Pc.of_eq fun x => E_sh l x).trans h

/-- A short product. -/
structure Prod (p : Int) (a b z : List Int) : Prop where
  els : Els p z
  short : sh z = z
  len : z.length ≤ a.length + b.length - 1
  pc : Pc p (E z) (fun x => E a x * E b x)
theorem prod_of {p : Int} (hp : 1 ≤ p) {l a b : List Int} (hl : Els p l) (h : Pc p (E l) (fun x => E a x * E b x)) : Prod p a b (sh l) :=
  ⟨sh_els hl, sh_sh l, by rw [sh_len]; exact mul_dg hp hl h, pc_sh h⟩
theorem Prod.unique {p : Int} (hp : 1 ≤ p) {a b z z' : List Int} (h : Prod p a b z) (h' : Prod p a b z') : z = z' := by
  rw [← h.short, ← h'.short]
  exact sh_cg hp h.els h'.els fun i => (h.pc.trans h'.pc.symm).coef i
theorem pmul_any {p : Int} {sa sb : Value} {a b : List Int} (w : World) (hp : 1 ≤ p) (hp2 : p ≤ 1073741824) (ha : Els p a) (hb : Els p b) (hsa : Ints w sa a) (hsb : Ints w sb b) (hn : a.length + b.length ≤ 1000000) :
    Calls Try.prog 21 #[.int .i64 p, sa, sb] w fun e w' => ∃ v z, e = .returned v ∧ Ints w' v z ∧ Prod p a b z ∧ Below w.heap.size w w' := by
  obtain ⟨aa, ca, rfl, _, _⟩ := id hsa
  obtain ⟨ab, cb, rfl, _, _⟩ := id hsb
  refine (mul_core p aa ab a.length b.length ca cb a b w hp hp2 ha hb hsa hsb (Lib.hid rfl) (Lib.hid rfl) hn).mono ?_
  rintro e w' ⟨l, cap, rfl, hrow, hlen, hel, hpc, hbel⟩
  exact ⟨_, sh l, rfl, ints_sh (hrow.reads (by omega)), prod_of hp hel hpc, hbel⟩
end Go.Proofs.Ytpohhgbmdgjipaa
