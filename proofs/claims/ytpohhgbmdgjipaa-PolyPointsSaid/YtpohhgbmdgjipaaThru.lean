
/- Contract of poly.Through. -/
import Derived.Test.YtpohhgbmdgjipaaMul
import Derived.Test.YtpohhgbmdgjipaaEval
import Derived.Test.YtpohhgbmdgjipaaPi
import Derived.Lib.QuietBelow
namespace Go.Proofs.Ytpohhgbmdgjipaa
open Go.RowKit Go.Sort
open Num
set_option linter.unusedVariables false

/-- A slice that reads as a list and has room for it. -/
def Slc (w : World) (v : Value) (l : List Int) : Prop := ∃ a c, v = .slice a l.length c ∧ l.length ≤ c ∧ c ≤ 9223372036854775807 ∧ Ints w (.slice a l.length c) l
theorem Slc.ints {w : World} {v : Value} {l : List Int} (h : Slc w v l) : Ints w v l := by obtain ⟨a, c, rfl, _, _, h⟩ := h; exact h
theorem Slc.below {w w' : World} {v : Value} {l : List Int} (h : Slc w v l) {B : Nat} (hB : w.heap.size ≤ B) (b : Below B w w') : Slc w' v l := by
  obtain ⟨a, c, e, h1, h2, h3⟩ := h; exact ⟨a, c, e, h1, h2, h3.below hB b⟩
theorem Gath.slc {w : World} {base : Nat} {v : Value} {zs : List Int} (h : Gath w base v zs) (hl : zs.length ≤ 140737488355328) : Slc w v zs := by
  have hI := h.reads hl
  obtain ⟨_, hn | ⟨g, cap, cur, rfl, hb, hg, h1, h2, h3, h4⟩⟩ := h
  · obtain ⟨rfl, h0⟩ := hn
    obtain rfl : zs = [] := List.length_eq_zero_iff.1 h0
    exact ⟨none, 0, rfl, by simp, by omega, hI⟩
  · exact ⟨_, cap, rfl, h1, by unfold maxLen at h2; omega, hI⟩
theorem Gath.kept {w w' : World} {base B : Nat} {v : Value} {zs : List Int} (h : Gath w base v zs) (b : Below B w w') (hB : w.heap.size ≤ B) : Gath w' base v zs :=
  World.ownsRow.kept h (row := none) ⟨b.os, b.tape, b.output, b.size, fun k hk _ => b.block k (by omega)⟩ (by
    cases e : v.ownBlock with
    | none => exact .inl rfl
    | some g => exact .inr (by simp))
/-- A literal. -/
theorem ints_lit (w : World) (vals : List Int) (t : TypeId) (hl : vals.length ≤ 1000) : Ints (w.alloc (.cells (vals.map (Value.int .i64)).toArray t)) (.slice (some ⟨w.heap.size, 0, none⟩) vals.length vals.length) vals := by
  refine ⟨_, _, rfl, by omega, fun _ => ⟨w.heap.size, 0, rfl, fun i hi => ?_⟩⟩
  rw [Nat.zero_add, cell_new]
  simp [List.getD, hi]
theorem ints_two (w : World) (a b : Int) (t : TypeId) : Ints (w.alloc (.cells #[.int .i64 a, .int .i64 b] t)) (.slice (some ⟨w.heap.size, 0, none⟩) 2 2) [a, b] := ints_lit w [a, b] t (by simp)
theorem ints_one (w : World) (a : Int) (t : TypeId) : Ints (w.alloc (.cells #[.int .i64 a] t)) (.slice (some ⟨w.heap.size, 0, none⟩) 1 1) [a] := ints_lit w [a] t (by simp)
theorem pure_below {P : Program} {f : FuncId} {args : Array Value} {W : World} {v : Value} (h : Calls P f args W fun e w' => e = .returned v ∧ W = w') : Calls P f args W fun e w' => e = .returned v ∧ Below W.heap.size W w' :=
  h.mono fun _ _ ⟨he, hw⟩ => ⟨he, hw ▸ Below.refl _ _⟩

theorem linF_els' {p : Int} (hp : 1 ≤ p) (a b : List Int) (c : Int) : Els p (linF p a b c) := by
  intro x hx
  simp only [linF, List.mem_map] at hx
  obtain ⟨i, _, rfl⟩ := hx
  exact el_add hp _ _
theorem linF_len' (p : Int) (a b : List Int) (c : Int) : (linF p a b c).length = max a.length b.length := by simp [linF]
theorem linF_getD (p : Int) (a b : List Int) (c : Int) (i : Nat) : Cg p ((linF p a b c).getD i 0) (a.getD i 0 + c * b.getD i 0) := by
  by_cases h : i < max a.length b.length
  · have : (linF p a b c).getD i 0 = linAt p a b c i := by simp [linF, List.getD, h]
    rw [this]
    exact (Cg.addF p _ _).trans ((Cg.refl p _).add (Cg.mulF p _ _))
  · rw [getD_ge (by rw [linF_len']; omega), getD_ge (l := a) (by omega), getD_ge (l := b) (by omega)]
    exact Cg.of_eq (by omega)
theorem cg_of_coef {p : Int} {a b : List Int} (h : ∀ i, Cg p (a.getD i 0) (b.getD i 0)) (x : Int) : Cg p (E a x) (E b x) := by
  have h1 : ∀ c ∈ subL a b, Cg p c 0 := fun c hc => by
    obtain ⟨i, hi, rfl⟩ := List.mem_iff_getElem.1 hc
    have := (h i).sub (Cg.refl p (b.getD i 0))
    rw [← subL_getD, getD_lt hi] at this
    simpa using this
  have h2 := (E_zero_of h1 x).add (Cg.refl p (E b x))
  rw [E_subL] at h2
  have e : E a x - E b x + E b x = E a x := by omega
  rw [e, Int.zero_add] at h2; exact h2
theorem linF_linE (p : Int) (a b : List Int) (c : Int) : linE p (linF p a b c) a b c := fun x => by
  have h := cg_of_coef (a := linF p a b c) (b := addL a (smulL c b)) (fun i => by rw [addL_getD (a := a), smulL_getD]; exact linF_getD p a b c i) x
  rwa [E_addL, E_smulL] at h

def ThI (p : Int) (xs ys : List Int) (B k : Nat) (wr : World) (vT vZ : Value) : Prop := ∃ T Z, Slc wr vT T ∧ Ints wr vZ Z ∧ ThS p xs ys T Z k ∧ ∀ g, vT.ownBlock = some g → B ≤ g

theorem els_wf {p : Int} {l : List Int} (hp : p ≤ 1073741824) (h : Els p l) : ∀ x ∈ l, (Lit.int .i64 x).wf = true := fun x hx => by
  have := h x hx; exact wf64 (by have := this.1; omega) (by have := this.2; omega)

set_option maxRecDepth 100000 in
set_option maxHeartbeats 4000000 in
theorem through_core (p : Int) (ax ay : Option Addr) (n cx cy : Nat) (xs ys : List Int) (w : World) (hp : PrmI p) (hp2 : p ≤ 1073741824) (hx : Els p xs) (hy : Els p ys)
    (hsx : Ints w (.slice ax n cx) xs) (hsy : Ints w (.slice ay n cy) ys) (hnx : Hid (n = xs.length)) (hny : Hid (n = ys.length)) (hok : Hid (plc xs = 0)) (hn : n ≤ 1000) (h0 : 0 < n) :
    Calls Try.prog 28 #[.int .i64 p, .slice ax n cx, .slice ay n cy] w fun e w' => ∃ v z, e = .returned (.tuple #[v, .int .i64 0]) ∧ Ints w' v z ∧ Thru p xs ys z ∧ (∀ g, v.ownBlock = some g → w.heap.size ≤ g) ∧ Below w.heap.size w w' := by
  have hp0 := hp.1
  have hp1 : 1 ≤ p := by omega
  have HND : Hid xs.Nodup := nodup_of (by
    have h := hok.out
    unfold plc at h
    split at h
    · omega
    · split at h
      · omega
      · simpa using ‹¬ dupB xs = true›)
  have hcp := Lib.hid (checkPlaces_any _ xs w hsx (els_wf hp2 hx))
  rw [hok.out] at hcp
  go_enter Try.func28, Try.ntmps28
  go_wp2_with (go_at_call 42; refine hcp.out.mono ?_; rintro e w1 ⟨rfl, hb1⟩)
  have hsx1 := hsx.below (Nat.le_refl _) hb1
  have hsy1 := hsy.below (Nat.le_refl _) hb1
  have HB1 := Lib.hid hb1
  clear hb1 hsx hsy hcp hok
  have hst : ThI p xs ys w.heap.size 0 ((w1.alloc (.cells #[] 3)).alloc (.cells #[.int .i64 1] 3)) (.slice (some ⟨w1.heap.size, 0, none⟩) 0 0) (.slice (some ⟨w1.heap.size + 1, 0, none⟩) 1 1) :=
    ⟨[], [1], ⟨_, 0, rfl, by simp, by omega, ⟨_, _, rfl, by simp, fun h => absurd rfl h⟩⟩, by have h := ints_one (w1.alloc (.cells #[] 3)) 1 3; rw [World.size_alloc] at h; exact h, thS_start hp0 xs ys, fun g hg => by simp [Value.ownBlock] at hg; have := HB1.out.size; omega⟩
  have HST := Lib.hid hst
  have hb2 : Below w1.heap.size w1 ((w1.alloc (.cells #[] 3)).alloc (.cells #[.int .i64 1] 3)) := ((Below.refl _ _).alloc (Nat.le_refl _) _).alloc (by simp) _
  have HB2 := Lib.hid (HB1.out.trans (hb2.mono HB1.out.size))
  have hsx2 := Lib.hid (hsx1.below (Nat.le_refl _) hb2)
  have hsy2 := Lib.hid (hsy1.below (Nat.le_refl _) hb2)
  clear hst hb2 hsx1 hsy1 HB1
  generalize Value.slice (some ⟨w1.heap.size, 0, none⟩) 0 0 = v0 at *
  generalize Value.slice (some ⟨w1.heap.size + 1, 0, none⟩) 1 1 = v1 at *
  generalize (w1.alloc (.cells #[] 3)).alloc (.cells #[.int .i64 1] 3) = w2 at *
  go_loopw [9, 10, 11, 12, 13, 14, 29] (fun t9 t10 _ _ _ _ i wr => ∃ k : Nat, k ≤ n ∧ i = .int .i64 k ∧ Hid (ThI p xs ys w.heap.size k wr t9 t10) ∧ Below w2.heap.size w2 wr) (fun _ _ _ _ _ _ i _ => n - (intOf i).toNat)
  case atStart => exact ⟨0, Nat.zero_le _, rfl, HST, Below.refl _ _⟩
  case round =>
    obtain ⟨k, hk, rfl, hI, hbel⟩ := hrel
    have HB := Lib.hid hbel
    have hsxr := hsx2.out.below (Nat.le_refl _) hbel
    have hsyr := hsy2.out.below (Nat.le_refl _) hbel
    clear hbel
    obtain ⟨T, Z, hT, hZ, hS, hF⟩ := hI.out
    have HF := Lib.hid hF
    clear hF
    have HS := Lib.hid hS
    have HT := Lib.hid hT
    have HZ := Lib.hid hZ
    have elT := hS.elT
    have elZ := hS.elZ
    clear hS hT hZ hI
    by_cases hlt : k < n
    · obtain ⟨x0, off, rfl, hcx⟩ := ints_at hsxr hnx.out (k := k) hlt
      obtain ⟨y0, offy, rfl, hcy⟩ := ints_at hsyr hny.out (k := k) hlt
      have ex := els_at hp1 hx k
      have ey := els_at hp1 hy k
      obtain ⟨x, hxv⟩ : ∃ x, xs.getD k 0 = x := ⟨_, rfl⟩
      obtain ⟨y, hyv⟩ : ∃ y, ys.getD k 0 = y := ⟨_, rfl⟩
      rw [hxv] at hcx ex
      rw [hyv] at hcy ey
      have HXV := Lib.hid hxv
      have HYV := Lib.hid hyv
      clear hxv hyv hsxr hsyr
      have cC := cell_regrown hcy
      have cE : ∀ d os, Calls Try.prog 16 #[.int .i64 p, u9, .int .i64 x] (grow (redrawn wr d) os) fun e w'' => e = .returned (.int .i64 (E T x % p)) ∧ ∃ q : Regrown, w'' = grow (redrawn wr q.d) q.os :=
        fun d os => Calls.regrown_of (eval_any _ hp1 hp2 ex elT (HT.out.ints.below (Nat.le_refl _) (below_regrown wr d os)))
      have eT := el_mod hp1 (E T x)
      have cS : ∀ d os, Calls Try.prog 36 #[.int .i64 p, .int .i64 y, .int .i64 (E T x % p)] (grow (redrawn wr d) os) fun e w'' => e = .returned (.int .i64 (subF p y (E T x % p))) ∧ ∃ q : Regrown, w'' = grow (redrawn wr q.d) q.os :=
        fun d os => Calls.regrown_of (pure_below (sub_el _ hp1 hp2 ey eT))
      go_wp2
      refine wp_region_quiet_below (by kernel_rfl) (by kernel_rfl) ?_
      repeat (quiet_step (first | exact cE _ _ | exact cS _ _))
      refine wpQuiet_nil ?_
      intro _ hw'
      obtain ⟨⟨dq, osq⟩, hw''⟩ := hw'
      subst hw''
      have hbq := below_regrown wr dq osq
      clear cC cE cS hcx hcy
      generalize grow (redrawn wr dq) osq = w3 at *
      have HT3 := Lib.hid (HT.out.below (Nat.le_refl _) hbq)
      have HZ3 := Lib.hid (HZ.out.below (Nat.le_refl _) hbq)
      have HB3 := Lib.hid (HB.out.trans (hbq.mono HB.out.size))
      clear hbq HT HZ HB
      have eZ := el_mod hp1 (E Z x)
      go_wp2_with fail
      refine (eval_any _ hp1 hp2 ex elZ HZ3.out).mono ?_; rintro e w4 ⟨rfl, hb4⟩
      have HT4 := Lib.hid (HT3.out.below (Nat.le_refl _) hb4)
      have HZ4 := Lib.hid (HZ3.out.below (Nat.le_refl _) hb4)
      have HB4 := Lib.hid (HB3.out.trans (hb4.mono HB3.out.size))
      clear hb4 HT3 HZ3 HB3
      go_wp2_with fail
      refine (inverseOf_any _ hp0 hp2 eZ).mono ?_; rintro e w' ⟨rfl, rfl⟩
      go_wp2_with fail
      refine (mul_el _ hp1 hp2 (el_sub hp1 y (E T x % p)) (iv0_el hp1 (E Z x % p))).mono ?_; rintro e w' ⟨rfl, rfl⟩
      have et := el_mul hp1 (subF p y (E T x % p)) (iv0 p (E Z x % p))
      have HTv : Hid (mulF p (subF p y (E T x % p)) (iv0 p (E Z x % p)) = mulF p (subF p y (E T x % p)) (iv0 p (E Z x % p))) := rfl
      obtain ⟨t, ht⟩ : ∃ t, mulF p (subF p y (E T x % p)) (iv0 p (E Z x % p)) = t := ⟨_, rfl⟩
      rw [ht] at et ⊢
      have HTV := Lib.hid ht
      clear ht HTv eT eZ
      go_wp2_with fail
      refine (linear_any p t _ _ T Z _ hp1 hp2 et elT elZ HT4.out.ints HZ4.out (by have := HS.out.lenT; omega) (by have := HS.out.lenZ; omega)).mono ?_
      rintro e w5 ⟨vT', rfl, hg5, hb5⟩
      have hl5 := linF_len' p T Z t
      have HT5 := Lib.hid (hg5.slc (by rw [hl5]; have := HS.out.lenT; have := HS.out.lenZ; omega))
      have HZ5 := Lib.hid (HZ4.out.below (Nat.le_refl _) hb5)
      have HB5 := Lib.hid (HB4.out.trans (hb5.mono HB4.out.size))
      have HF5 : Hid (∀ g, vT'.ownBlock = some g → w.heap.size ≤ g) := fun g hg => by have := hg5.block g hg; have := HB4.out.size; have := HB2.out.size; omega
      clear hg5 hb5 HT4 HZ4 HB4 hl5
      go_wp2_with fail
      refine (sub_el _ hp1 hp2 (el_zero hp1) ex).mono ?_; rintro e w' ⟨rfl, rfl⟩
      have es := el_sub hp1 0 x
      have hi6 := Lib.hid (ints_two w5 (subF p 0 x) 1 3)
      have hb6 : Below w5.heap.size w5 (w5.alloc (.cells #[.int .i64 (subF p 0 x), .int .i64 1] 3)) := (Below.refl _ _).alloc (Nat.le_refl _) _
      have HT6 := Lib.hid (HT5.out.below (Nat.le_refl _) hb6)
      have HZ6 := Lib.hid (HZ5.out.below (Nat.le_refl _) hb6)
      have HB6 := Lib.hid (HB5.out.trans (hb6.mono HB5.out.size))
      have el2 : Hid (Els p [subF p 0 x, 1]) := fun z hz => by
        rcases List.mem_cons.1 hz with rfl | hz
        · exact es
        · rw [List.mem_singleton.1 hz]; exact ⟨by omega, by omega⟩
      clear hb6 HT5 HZ5 HB5
      go_wp2_with fail
      refine (pmul_any _ hp1 hp2 elZ el2.out HZ6.out hi6.out (by have := HS.out.lenZ; simp; omega)).mono ?_
      rintro e w7 ⟨vZ', Z', rfl, hz7, hprod, hb7⟩
      have HT7 := Lib.hid (HT6.out.below (Nat.le_refl _) hb7)
      have HB7 := Lib.hid (HB6.out.trans (hb7.mono HB6.out.size))
      have hS' := thS_step hp (by rw [← hnx.out]; exact hlt) HND.out hx HXV.out HYV.out HS.out (linF_els' hp1 T Z t) hprod.els (linF_len' p T Z t) (by rw [HTV.out]; exact linF_linE p T Z t) (by have := hprod.len; simpa using this) hprod.pc
      have HI : Hid (ThI p xs ys w.heap.size (k + 1) w7 vT' vZ') := ⟨_, Z', HT7.out, hz7, hS', HF5.out⟩
      clear hS' hz7 hprod hb7 HT7 HT6 HZ6 HB6 hi6 el2 HS
      go_wp2
      go_roundw
      case rel => exact ⟨k + 1, by omega, by go_num, HI, HB7.out⟩
      case measure => simp [intOf]; omega
    · obtain rfl : k = n := by omega
      obtain ⟨aT, cT, rfl, hT1, hT2, hT3⟩ := HT.out
      have hd := dg_le T
      have HSH := Lib.hid (short_any aT cT T _ hT3 (by omega) hT2)
      have HI3 := Lib.hid (ints_sh hT3)
      have HTH : Hid (Thru p xs ys (sh T)) := thru_of (by have h := HS.out; rw [hnx.out] at h; exact h)
      have HBB := Lib.hid (HB2.out.trans (HB.out.mono HB2.out.size))
      clear hT3 hd hT1 hT2
      go_wp2_with (go_at_call 37; refine HSH.out.mono ?_; rintro e w9 ⟨rfl, hb9⟩)
      have HB9 := Lib.hid (HBB.out.trans (hb9.mono HBB.out.size))
      have HI9 := Lib.hid (HI3.out.below (Nat.le_refl _) hb9)
      clear hb9
      go_ret2
      exact ⟨_, sh T, rfl, HI9.out, HTH.out, (fun g hg => HF.out g (by cases aT <;> exact hg)), HB9.out⟩
theorem through_ok {p : Int} {sx sy : Value} {xs ys : List Int} (w : World) (hp : PrmI p) (hp2 : p ≤ 1073741824) (hx : Els p xs) (hy : Els p ys) (hsx : Ints w sx xs) (hsy : Ints w sy ys) (hl : xs.length = ys.length) (hok : plc xs = 0) (hn : xs.length ≤ 1000) :
    Calls Try.prog 28 #[.int .i64 p, sx, sy] w fun e w' => ∃ v z, e = .returned (.tuple #[v, .int .i64 0]) ∧ Ints w' v z ∧ Thru p xs ys z ∧ (∀ g, v.ownBlock = some g → w.heap.size ≤ g) ∧ Below w.heap.size w w' := by
  obtain ⟨ax, cx, rfl, _, _⟩ := id hsx
  obtain ⟨ay, cy, rfl, _, _⟩ := id hsy
  rw [← hl] at hsy ⊢
  refine through_core p ax ay xs.length cx cy xs ys w hp hp2 hx hy hsx hsy (Lib.hid rfl) (Lib.hid hl) (Lib.hid hok) hn ?_
  by_cases h0 : 0 < xs.length
  · exact h0
  · obtain rfl : xs = [] := List.length_eq_zero_iff.1 (by omega)
    rw [plc_nil] at hok; omega
end Go.Proofs.Ytpohhgbmdgjipaa
