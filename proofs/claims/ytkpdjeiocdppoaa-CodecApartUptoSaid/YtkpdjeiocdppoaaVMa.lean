
/- What was written is read, what is cut off is not, and what is read was written so: mathematics alone. -/
import Derived.Test.YtkpdjeiocdppoaaVRts
import Derived.Test.YtkpdjeiocdppoaaVPtx
namespace Go.Proofs.Ytkpdjeiocdppoaa
open Go.RowKit
set_option linter.unusedVariables false
set_option linter.unusedSimpArgs false

theorem drop_len (pre post : List UInt8) : (pre ++ post).drop ((pre.length : Int)).toNat = post := by
  rw [Int.toNat_natCast]
  exact List.drop_left ..
theorem intR_back (pre post : List UInt8) (n : Int) (h : in64 n) : intR (pre ++ (Vi.grp (Vi.zz n) ++ post)) (pre.length : Int) = (n, ((pre.length + (Vi.grp (Vi.zz n)).length : Nat) : Int), 0) := by
  unfold intR
  rw [if_neg (by rw [List.length_append]; omega), drop_len, Vi.rd_zz n h post]
  show (Vi.uz (Vi.zz n), (pre.length : Int) + (((Vi.grp (Vi.zz n)).length : Nat) : Int), (0 : Int)) = _
  rw [Vi.uz_zz]
  congr 2
theorem cntR_back (pre post : List UInt8) (n : Nat) (most : Int) (h : (n : Int) ≤ most) (hm : most ≤ 1000000000) : cntR (pre ++ (Vi.grp (Vi.zz (n : Int)) ++ post)) (pre.length : Int) most = ((n : Int), ((pre.length + (Vi.grp (Vi.zz (n : Int))).length : Nat) : Int), 0) := by
  unfold cntR
  rw [intR_back pre post n ⟨by omega, by omega⟩]
  simp only
  rw [if_pos trivial, if_neg (by omega), if_neg (by omega)]
theorem txtR_back (pre post s : List UInt8) (h : s.length ≤ 1000000000) : txtR (pre ++ (gtxt s ++ post)) (pre.length : Int) = (s, ((pre.length + (gtxt s).length : Nat) : Int), 0) := by
  unfold txtR gtxt
  rw [List.append_assoc, intR_back pre (s ++ post) (s.length : Int) ⟨by omega, by omega⟩]
  simp only
  rw [if_pos trivial, if_neg (by omega), if_neg (by simp only [List.length_append]; omega)]
  have e : ((((pre.length + (Vi.grp (Vi.zz (s.length : Int))).length : Nat) : Int)).toNat) = (pre ++ Vi.grp (Vi.zz (s.length : Int))).length := by
    rw [List.length_append]; omega
  rw [e, ← List.append_assoc, List.drop_left, Int.toNat_natCast, List.take_left]
  congr 2
  simp only [List.length_append]
  omega
theorem gnums_cons (x : Int) (r : List Int) : gnums (x :: r) = Vi.grp (Vi.zz x) ++ gnums r := by
  unfold gnums; rw [List.flatMap_cons]
theorem gtxts_cons (x : ByteArray) (r : List ByteArray) : gtxts (x :: r) = gtxt x.data.toList ++ gtxts r := by
  unfold gtxts; rw [List.flatMap_cons]
theorem ns_back (post : List UInt8) (a : Int) : ∀ (l : List Int) (pre : List UInt8) (acc : List Int), (∀ x ∈ l, in64 x) →
    ns (pre ++ (gnums l ++ post)) a l.length (pre.length : Int) acc = (acc ++ l, ((pre.length + (gnums l).length : Nat) : Int), 0)
  | [], pre, acc, _ => by
    show (acc, (pre.length : Int), (0 : Int)) = _
    rw [List.append_nil]
    congr 2
  | x :: r, pre, acc, h => by
    have h1 := intR_back pre (gnums r ++ post) x (h x (List.mem_cons_self ..))
    have h2 := ns_back post a r (pre ++ Vi.grp (Vi.zz x)) (acc ++ [x]) (fun y hy => h y (List.mem_cons_of_mem _ hy))
    rw [List.length_cons, gnums_cons, List.append_assoc, ns, h1]
    simp only
    rw [if_pos trivial, ← List.length_append, ← List.append_assoc pre, h2]
    simp only [List.length_append, List.append_assoc, List.singleton_append, Nat.add_assoc]
theorem intsR_back (pre post : List UInt8) (l : List Int) (h : ∀ x ∈ l, in64 x) (hl : l.length ≤ 2048) :
    intsR (pre ++ (Vi.grp (Vi.zz (l.length : Int)) ++ gnums l ++ post)) (pre.length : Int) 2048 = (l, ((pre.length + (Vi.grp (Vi.zz (l.length : Int)) ++ gnums l).length : Nat) : Int), 0) := by
  unfold intsR
  rw [List.append_assoc, cntR_back pre (gnums l ++ post) l.length 2048 (by omega) (by omega)]
  simp only
  rw [if_pos trivial, Int.toNat_natCast, ← List.length_append, ← List.append_assoc pre, ns_back post _ l (pre ++ Vi.grp (Vi.zz (l.length : Int))) [] h]
  simp only [List.length_append, List.nil_append, Nat.add_assoc]
theorem tsR_back (post : List UInt8) (a : Int) : ∀ (l : List ByteArray) (pre : List UInt8) (acc : List ByteArray), (∀ x ∈ l, x.size ≤ 1000000000) →
    tsR (pre ++ (gtxts l ++ post)) a l.length (pre.length : Int) acc = (acc ++ l, ((pre.length + (gtxts l).length : Nat) : Int), 0)
  | [], pre, acc, _ => by
    show (acc, (pre.length : Int), (0 : Int)) = _
    rw [List.append_nil]
    congr 2
  | x :: r, pre, acc, h => by
    have h1 := txtR_back pre (gtxts r ++ post) x.data.toList (by rw [← Lib.size_eq]; exact h x (List.mem_cons_self ..))
    have h2 := tsR_back post a r (pre ++ gtxt x.data.toList) (acc ++ [x]) (fun y hy => h y (List.mem_cons_of_mem _ hy))
    rw [List.length_cons, gtxts_cons, List.append_assoc, tsR, h1]
    simp only
    have e : (⟨x.data.toList.toArray⟩ : ByteArray) = x := by simp
    rw [if_pos trivial, e, ← List.length_append, ← List.append_assoc pre, h2]
    simp only [List.length_append, List.append_assoc, List.singleton_append, Nat.add_assoc]
theorem textsR_back (pre post : List UInt8) (l : List ByteArray) (h : ∀ x ∈ l, x.size ≤ 1000000000) (hl : l.length ≤ 256) :
    textsR (pre ++ (Vi.grp (Vi.zz (l.length : Int)) ++ gtxts l ++ post)) (pre.length : Int) 256 = (l, ((pre.length + (Vi.grp (Vi.zz (l.length : Int)) ++ gtxts l).length : Nat) : Int), 0) := by
  unfold textsR
  rw [List.append_assoc, cntR_back pre (gtxts l ++ post) l.length 256 (by omega) (by omega)]
  simp only
  rw [if_pos trivial, Int.toNat_natCast, ← List.length_append, ← List.append_assoc pre, tsR_back post _ l (pre ++ Vi.grp (Vi.zz (l.length : Int))) [] h]
  simp only [List.length_append, List.nil_append, Nat.add_assoc]

/-- A number of which something is missing. -/
theorem rd_cut : ∀ (k v i u m : Nat), v < 128 ^ k → v * 128 ^ i < 18446744073709551616 → (0 < i → 0 < v) → m < (Vi.grp v).length → Vi.rd ((Vi.grp v).take m) i u = .missing
  | _, _, _, _, 0, _, _, _, _ => rfl
  | 0, v, i, u, m + 1, h0, h1, h2, hm => by
    have : v = 0 := by simpa using h0
    subst this
    rw [Vi.grp_lo (by omega)] at hm
    simp at hm
  | k + 1, v, i, u, m + 1, h0, h1, h2, hm => by
    by_cases hv : v < 128
    · rw [Vi.grp_lo hv] at hm
      simp at hm
    · have hi9 : i ≠ 9 := fun e => by
        subst e
        have : (128 : Nat) ^ 9 = 9223372036854775808 := by decide
        rw [this] at h1
        omega
      have hc : (UInt8.ofNat (v % 128 + 128)).toNat = v % 128 + 128 := by simp; omega
      rw [Vi.grp_hi hv] at hm ⊢
      rw [List.length_cons] at hm
      rw [List.take_succ_cons, Vi.rd, hc, if_neg (by rintro (⟨e, h⟩ | ⟨h, e⟩)
                                                     · exact hi9 e
                                                     · omega), if_pos (by omega)]
      refine rd_cut k (v / 128) (i + 1) _ m (by rw [Nat.pow_succ] at h0; omega) ?_ (fun _ => by omega) (by omega)
      have e2 : v / 128 * 128 ^ (i + 1) = (v / 128 * 128) * 128 ^ i := by rw [Nat.pow_succ]; rw [Nat.mul_comm (128 ^ i) 128, ← Nat.mul_assoc]
      rw [e2]
      exact Nat.lt_of_le_of_lt (Nat.mul_le_mul_right _ (by omega)) h1
theorem intR_cut (pre : List UInt8) (n : Int) (h : in64 n) (m : Nat) (hm : m < (Vi.grp (Vi.zz n)).length) : intR (pre ++ (Vi.grp (Vi.zz n)).take m) (pre.length : Int) = (0, (pre.length : Int), 5) := by
  have h1 := Vi.zz_lt n h
  unfold intR
  rw [if_neg (by rw [List.length_append]; omega), drop_len, rd_cut 10 (Vi.zz n) 0 0 m (by
    have : (128 : Nat) ^ 10 = 1180591620717411303424 := by decide
    omega) (by simp; exact h1) (fun h => absurd h (by omega)) hm]
  rfl
theorem take_app_lt (g r : List UInt8) (k : Nat) (h : k < g.length) : (g ++ r).take k = g.take k := List.take_append_of_le_length (Nat.le_of_lt h)
theorem take_app_ge (g r : List UInt8) (k : Nat) (h : g.length ≤ k) : (g ++ r).take k = g ++ r.take (k - g.length) := by
  rw [List.take_append, List.take_of_length_le h]
theorem txtR_cut (s : List UInt8) (h : s.length ≤ 1000000000) (k : Nat) (hk : k < (gtxt s).length) : txtR ((gtxt s).take k) 0 = ([], 0, 5) := by
  unfold gtxt at hk ⊢
  unfold txtR
  have h64 : in64 (s.length : Int) := ⟨by omega, by omega⟩
  by_cases hg : k < (Vi.grp (Vi.zz (s.length : Int))).length
  · rw [take_app_lt _ _ _ hg]
    have h1 := intR_cut [] _ h64 k hg
    simp only [List.nil_append, List.length_nil] at h1
    rw [show ((0 : Nat) : Int) = 0 from rfl] at h1
    rw [h1]
    rfl
  · rw [take_app_ge _ _ _ (by omega)]
    have h1 := intR_back [] (s.take (k - (Vi.grp (Vi.zz (s.length : Int))).length)) _ h64
    simp only [List.nil_append, List.length_nil, Nat.zero_add] at h1
    rw [show ((0 : Nat) : Int) = 0 from rfl] at h1
    rw [h1]
    rw [List.length_append] at hk
    simp only
    rw [if_pos trivial, if_neg (by omega), if_pos (by simp only [List.length_append, List.length_take]; omega)]
theorem ns_cut (a : Int) : ∀ (l : List Int) (pre : List UInt8) (acc : List Int) (k : Nat), (∀ x ∈ l, in64 x) → k < (gnums l).length →
    ns (pre ++ (gnums l).take k) a l.length (pre.length : Int) acc = ([], a, 5)
  | [], pre, acc, k, _, hk => by simp [gnums] at hk
  | x :: r, pre, acc, k, h, hk => by
    rw [gnums_cons] at hk ⊢
    have h64 := h x (List.mem_cons_self ..)
    by_cases hg : k < (Vi.grp (Vi.zz x)).length
    · rw [take_app_lt _ _ _ hg, List.length_cons, ns, intR_cut pre x h64 k hg]
      rfl
    · rw [take_app_ge _ _ _ (by omega), List.length_cons, ns, intR_back pre _ x h64]
      simp only
      rw [List.length_append] at hk
      rw [if_pos trivial, ← List.length_append, ← List.append_assoc pre, ns_cut a r (pre ++ Vi.grp (Vi.zz x)) _ _ (fun y hy => h y (List.mem_cons_of_mem _ hy)) (by omega)]
theorem intsR_cut (l : List Int) (h : ∀ x ∈ l, in64 x) (hl : l.length ≤ 2048) (k : Nat) (hk : k < (Vi.grp (Vi.zz (l.length : Int)) ++ gnums l).length) :
    intsR ((Vi.grp (Vi.zz (l.length : Int)) ++ gnums l).take k) 0 2048 = ([], 0, 5) := by
  unfold intsR
  have h64 : in64 (l.length : Int) := ⟨by omega, by omega⟩
  by_cases hg : k < (Vi.grp (Vi.zz (l.length : Int))).length
  · rw [take_app_lt _ _ _ hg]
    have h1 := intR_cut [] _ h64 k hg
    simp only [List.nil_append, List.length_nil] at h1
    rw [show ((0 : Nat) : Int) = 0 from rfl] at h1
    unfold cntR
    rw [h1]
    rfl
  · rw [take_app_ge _ _ _ (by omega)]
    have h1 := cntR_back [] ((gnums l).take (k - (Vi.grp (Vi.zz (l.length : Int))).length)) l.length 2048 (by omega) (by omega)
    simp only [List.nil_append, List.length_nil, Nat.zero_add] at h1
    rw [show ((0 : Nat) : Int) = 0 from rfl] at h1
    rw [h1]
    rw [List.length_append] at hk
    simp only
    rw [if_pos trivial, Int.toNat_natCast, ns_cut 0 l _ [] _ h (by omega)]

/-- Different lists have different bytes, and neither is the beginning of the other one. -/
theorem gints_apart (a b : List Int) (ha : ∀ x ∈ a, in64 x) (hb : ∀ x ∈ b, in64 x) (la : a.length ≤ 2048) (lb : b.length ≤ 2048) (z : List UInt8)
    (h : Vi.grp (Vi.zz (b.length : Int)) ++ gnums b = Vi.grp (Vi.zz (a.length : Int)) ++ gnums a ++ z) : a = b := by
  have h1 := intsR_back [] z a ha la
  have h2 := intsR_back [] [] b hb lb
  simp only [List.nil_append, List.append_nil] at h1 h2
  rw [← h, h2] at h1
  exact (Prod.mk.inj h1).1.symm
theorem gtexts_apart (a b : List ByteArray) (ha : ∀ x ∈ a, x.size ≤ 1000000000) (hb : ∀ x ∈ b, x.size ≤ 1000000000) (la : a.length ≤ 256) (lb : b.length ≤ 256) (z : List UInt8)
    (h : Vi.grp (Vi.zz (b.length : Int)) ++ gtxts b = Vi.grp (Vi.zz (a.length : Int)) ++ gtxts a ++ z) : a = b := by
  have h1 := textsR_back [] z a ha la
  have h2 := textsR_back [] [] b hb lb
  simp only [List.nil_append, List.append_nil] at h1 h2
  rw [← h, h2] at h1
  exact (Prod.mk.inj h1).1.symm

theorem rd_lt : ∀ (l : List UInt8) (i u v n : Nat), i ≤ 9 → u < 128 ^ i → Vi.rd l i u = .got v n → v < 18446744073709551616
  | [], _, _, _, _, _, _, h => by cases h
  | c :: r, i, u, v, n, hi, hu, h => by
    rw [Vi.rd] at h
    split at h
    · cases h
    · rename_i hf
      obtain ⟨r1, r2⟩ := grp_room u c.toNat i hi hu (fun e => by omega)
      split at h
      · rename_i hc
        exact rd_lt r (i + 1) _ v n (by omega) r2 h
      · simp only [Vi.Got.got.injEq] at h
        omega
/-- What is read as a number is what it is written as. -/
theorem intR_once (l : List UInt8) (p : Nat) (hp : p ≤ l.length) (h : (intR l (p : Int)).2.2 = 0) : ∃ q : Nat, (intR l (p : Int)).2.1 = (q : Int) ∧ p < q ∧ q ≤ l.length ∧ in64 (intR l (p : Int)).1 ∧ (l.drop p).take (q - p) = Vi.grp (Vi.zz (intR l (p : Int)).1) := by
  unfold intR at h ⊢
  rw [if_neg (by omega), Int.toNat_natCast] at h ⊢
  cases hg : Vi.rd (l.drop p) 0 0 with
  | missing => rw [hg] at h; cases h
  | form => rw [hg] at h; cases h
  | got u k =>
    have hlt := rd_lt _ 0 0 u k (by omega) (by decide) hg
    obtain ⟨x, k', hx, hk', hk1, ht, hkl, _⟩ := Vi.rd_only _ _ _ _ _ hg
    simp only [Nat.pow_zero, Nat.mul_one, Nat.zero_add] at hx hk'
    subst hx hk'
    rw [List.length_drop] at hkl
    refine ⟨p + k, rfl, by omega, by omega, Vi.uz_in u hlt, ?_⟩
    show _ = Vi.grp (Vi.zz (Vi.uz u))
    rw [Vi.zz_uz, Nat.add_sub_cancel_left]
    exact ht
theorem intR_err (l : List UInt8) (a : Int) (h : (intR l a).2.2 ≠ 0) : (intR l a).1 = 0 ∧ (intR l a).2.1 = a := by
  unfold intR at h ⊢
  split
  · exact ⟨rfl, rfl⟩
  · rename_i hr
    rw [if_neg hr] at h
    cases hg : Vi.rd (l.drop a.toNat) 0 0 with
    | missing => exact ⟨rfl, rfl⟩
    | form => exact ⟨rfl, rfl⟩
    | got u k => rw [hg] at h; exact absurd rfl h
end Go.Proofs.Ytkpdjeiocdppoaa
