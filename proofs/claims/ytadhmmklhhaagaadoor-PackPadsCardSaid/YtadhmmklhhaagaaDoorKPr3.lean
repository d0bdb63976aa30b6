
/- The program's padded strings: Pad and Strip. -/
import Derived.Test.YtadhmmklhhaagaaDoorShelf
import Derived.Test.YtadhmmklhhaagaaDoorKStp
import Derived.Test.YtadhmmklhhaagaaDoorKPr1
namespace Go.Proofs.YtadhmmklhhaagaaDoor
open Go.RowKit
set_option linter.unusedVariables false

theorem repeat_zero (k : Nat) : Lib.repeatL [(0 : UInt8)] k = List.replicate k 0 := by
  have h := Lib.repeatL_replicate (0 : UInt8) 1 k
  rw [Nat.mul_one] at h
  exact h
set_option maxRecDepth 100000 in
set_option maxHeartbeats 4000000 in
theorem pPad_any (s : ByteArray) (u : Int) (w : World) (hs : s.size ≤ 1000000000) :
    Calls Tryd.prog 9 #[.string s, .int .i64 u] w fun e w' => e = two (padR s.data.toList u) ∧ Below w.heap.size w w' := by
  obtain ⟨l, hl⟩ : ∃ l, s.data.toList = l := ⟨_, rfl⟩
  obtain ⟨N, hN⟩ : ∃ N, s.size = N := ⟨_, rfl⟩
  have hln : l.length = N := by rw [← hl, ← hN, ← Lib.size_eq]
  rw [hl]
  by_cases h0 : u < 1
  · have hr : padR l u = ([], 2) := by unfold padR; rw [if_pos (.inl h0)]
    have c1 : decide (u < 1) = true := decide_eq_true h0
    rw [hr]
    clear h0 hr hl hln
    go_enter Tryd.func9, Tryd.ntmps9
    go_wp2
    go_ret2
    exact ⟨rfl, Below.refl _ _⟩
  · have c1 : decide (u < 1) = false := decide_eq_false h0
    by_cases h1 : 1024 < u
    · have hr : padR l u = ([], 2) := by unfold padR; rw [if_pos (.inr h1)]
      have c2 : decide ((1024 : Int) < u) = true := decide_eq_true h1
      rw [hr]
      clear h0 h1 hr hl hln
      go_enter Tryd.func9, Tryd.ntmps9
      go_wp2
      go_ret2
      exact ⟨rfl, Below.refl _ _⟩
    · have c2 : decide ((1024 : Int) < u) = false := decide_eq_false h1
      obtain ⟨U, rfl⟩ := Int.eq_ofNat_of_zero_le (show 0 ≤ u by omega)
      have hU1 : 1 ≤ U := by omega
      have hU2 : U ≤ 1024 := by omega
      have hgt := padN_gt (n := N) hU1
      have hle := padN_le (n := N) hU1
      obtain ⟨n, hn⟩ : ∃ n, padN N U = n := ⟨_, rfl⟩
      obtain ⟨q, hq⟩ : ∃ q, N / U = q := ⟨_, rfl⟩
      have hqN : q ≤ N := by rw [← hq]; exact Nat.div_le_self _ _
      have hqi : (N : Int) / (U : Int) = (q : Int) := by rw [← hq]; rfl
      have hqt : (N : Int).tdiv (U : Int) = (q : Int) := by rw [Int.tdiv_eq_ediv_of_nonneg (by omega), hqi]
      have hmul : ((q : Int) + 1) * (U : Int) = (n : Int) := by
        rw [← hn]; unfold padN; rw [hq]; push_cast; rfl
      rw [hn] at hgt hle
      have hw1 : IntKind.i64.wrap ((q : Int) + 1) = (q : Int) + 1 := by rw [IntKind.wrap_i64]; omega
      have hw2 : IntKind.i64.wrap (n : Int) = (n : Int) := by rw [IntKind.wrap_i64]; omega
      have hU0 : ((U : Int) == 0) = false := by simp only [beq_eq_false_iff_ne]; omega
      by_cases h2 : 16384 < n
      · have hr : padR l (U : Int) = ([], 3) := by
          unfold padR; rw [if_neg (by omega), hln, Int.toNat_natCast, hn, if_pos h2]
        have c3 : decide ((16384 : Int) < (n : Int)) = true := decide_eq_true (by omega)
        rw [hr]
        clear h0 h1 h2 hr hl hln hgt hle hn hq
        go_enter Tryd.func9, Tryd.ntmps9
        go_wp2
        go_ret2
        exact ⟨rfl, Below.refl _ _⟩
      · have c3 : decide ((16384 : Int) < (n : Int)) = false := decide_eq_false (by omega)
        obtain ⟨k, hk⟩ : ∃ k, n - N - 1 = k := ⟨_, rfl⟩
        have hr : padR l (U : Int) = (l ++ 128 :: List.replicate k 0, 0) := by
          unfold padR; rw [if_neg (by omega), hln, Int.toNat_natCast, hn, if_neg h2, hk]
        have hw3 : IntKind.i64.wrap ((n : Int) - (N : Int)) = (n : Int) - (N : Int) := by rw [IntKind.wrap_i64]; omega
        have hw4 : (n : Int) - (N : Int) - 1 = (k : Int) := by omega
        have hw5 : IntKind.i64.wrap (k : Int) = (k : Int) := by rw [IntKind.wrap_i64]; omega
        have hkb : k ≤ 16384 := by omega
        have hNb : N ≤ 16384 := by omega
        obtain ⟨Z, hZ⟩ : ∃ Z : ByteArray, (⟨(List.replicate k (0 : UInt8)).toArray⟩ : ByteArray) = Z := ⟨_, rfl⟩
        have hZs : Z.size = k := by rw [← hZ, Lib.size_eq]; simp
        have HC : Hid (∀ w : World, Calls Tryd.prog 22 #[.string ⟨#[0]⟩, .int .i64 k] w fun e w' => e = .returned (.string Z) ∧ Below w.heap.size w w') := fun w => by
          have h := Tryd.strings_Repeat ⟨#[0]⟩ k w (by omega) (by show 1 * k ≤ _; omega)
          rw [show (ByteArray.mk #[0]).data.toList = [(0 : UInt8)] from rfl, repeat_zero, hZ] at h
          exact h
        have HF : Hid ((⟨(l ++ 128 :: List.replicate k 0).toArray⟩ : ByteArray) = s ++ ⟨#[128]⟩ ++ Z) := by
          show _ = _
          have h : (s ++ ⟨#[128]⟩ ++ Z).data.toList = l ++ 128 :: List.replicate k 0 := by
            rw [cat_list, cat_list, hl, ← hZ]
            simp
          rw [← h]
          try simp
        rw [hr]
        clear h0 h1 h2 hr hl hln hgt hle hn hq hk hZ
        go_enter Tryd.func9, Tryd.ntmps9
        go_wp2_with fail
        refine (HC.out w).mono ?_
        rintro e w1 ⟨rfl, hb⟩
        go_wp2
        go_ret2
        exact ⟨by show _ = Ending.returned _; rw [HF.out]; rfl, hb⟩

set_option maxRecDepth 100000 in
set_option maxHeartbeats 4000000 in
theorem pUnit_any (n z : Nat) (w : World) (hn : n ≤ 16384) (hz : z ≤ 16384) : ∃ b : Bool, (b = true ↔ ∃ u, z + 1 ≤ u ∧ u ≤ 1024 ∧ n % u = 0) ∧
    ∀ w, Calls Tryd.prog 25 #[.int .i64 n, .int .i64 z] w fun e w' => e = .returned (.bool b) ∧ w = w' := by
  obtain ⟨b, hb⟩ : ∃ b : Bool, (b = true ↔ ∃ u, z + 1 ≤ u ∧ u ≤ 1024 ∧ n % u = 0) := by
    by_cases h : ∃ u, z + 1 ≤ u ∧ u ≤ 1024 ∧ n % u = 0
    · exact ⟨true, by simp [h]⟩
    · exact ⟨false, by simp [h]⟩
  refine ⟨b, hb, fun w => ?_⟩
  have HT : Hid (∀ u, z + 1 ≤ u → u ≤ 1024 → n % u = 0 → b = true) := fun u h1 h2 h3 => hb.2 ⟨u, h1, h2, h3⟩
  have HF : Hid ((∀ u, z + 1 ≤ u → u ≤ 1024 → n % u ≠ 0) → b = false) := fun h => by
    cases hbb : b with
    | false => rfl
    | true =>
      obtain ⟨u, h1, h2, h3⟩ := hb.1 hbb
      exact absurd h3 (h u h1 h2)
  have H0 : Hid (∀ u, z + 1 ≤ u → u < z + 1 → n % u ≠ 0) := fun u h1 h2 => by omega
  clear hb
  go_enter Tryd.func25, Tryd.ntmps25
  go_wp2_with fail
  go_loop [5] (fun v => ∃ u : Nat, z + 1 ≤ u ∧ u ≤ z + 1 + 1024 ∧ v = .int .i64 u ∧ Hid (∀ u', z + 1 ≤ u' → u' < u → n % u' ≠ 0)) (fun v => 20000 - (intOf v).toNat)
  case atStart => exact ⟨z + 1, by omega, by omega, by go_num, H0⟩
  case round =>
    obtain ⟨u, hu1, hu2, rfl, HU⟩ := hrel
    by_cases hle : u ≤ 1024
    · have c1 : decide ((u : Int) ≤ 1024) = true := decide_eq_true (by omega)
      obtain ⟨r, hr⟩ : ∃ r, n % u = r := ⟨_, rfl⟩
      have hri : (n : Int) % (u : Int) = (r : Int) := by rw [← hr]; rfl
      have hrt : (n : Int).tmod (u : Int) = (r : Int) := by rw [Int.tmod_eq_emod_of_nonneg (by omega), hri]
      have hu0 : ((u : Int) == 0) = false := by simp only [beq_eq_false_iff_ne]; omega
      have hu0' : ¬ u = 0 := by omega
      by_cases h0 : r = 0
      · have HB := Lib.hid (HT.out u hu1 hle (by rw [hr]; exact h0))
        have c2 : ((r : Int) == 0) = true := by simp [h0]
        clear hr h0
        go_wp2
        go_ret
        exact ⟨by rw [HB.out]; rfl, rfl⟩
      · have HU2 : Hid (∀ u', z + 1 ≤ u' → u' < u + 1 → n % u' ≠ 0) := fun u' h1 h2 => by
          rcases Nat.eq_or_lt_of_le (Nat.le_of_lt_succ h2) with h | h
          · subst h; rw [hr]; exact h0
          · exact HU.out u' h1 h
        have c2 : ((r : Int) == 0) = false := by simp only [beq_eq_false_iff_ne]; omega
        clear hr
        go_wp2
        go_round
        case rel => exact ⟨u + 1, by omega, by omega, by go_num, HU2⟩
        case measure => simp [intOf]; omega
    · have c1 : decide ((u : Int) ≤ 1024) = false := decide_eq_false (by omega)
      have HB := Lib.hid (HF.out fun u' h1 h2 => HU.out u' h1 (by omega))
      go_wp2
      go_ret
      exact ⟨by rw [HB.out]; rfl, rfl⟩

/-- Where the zero bytes at the end begin. -/
theorem zeros_from (l : List UInt8) : ∀ n, n ≤ l.length → Zeros l n → ∃ k, k ≤ n ∧ Zeros l k ∧ ∀ i, k = i + 1 → l.getD i 0 ≠ 0
  | 0, _, hz => ⟨0, Nat.le_refl _, hz, fun i h => by omega⟩
  | n + 1, hn, hz => by
    by_cases h : l.getD n 0 = 0
    · obtain ⟨k, h1, h2, h3⟩ := zeros_from l n (by omega) (fun j hj hjl => by
        rcases Nat.eq_or_lt_of_le hj with e | e
        · subst e
          have : n < l.length := by omega
          simp [List.getD, this] at h ⊢
          exact h
        · exact hz j e hjl)
      exact ⟨k, by omega, h2, h3⟩
    · exact ⟨n + 1, Nat.le_refl _, hz, fun i hi => by rw [show i = n by omega]; exact h⟩
theorem trim_take {l : List UInt8} {k : Nat} (hk : k ≤ l.length) (hz : Zeros l k) (hn : ∀ i, k = i + 1 → l.getD i 0 ≠ 0) : Lib.trimRightB l 0 = l.take k := by
  refine Lib.trimRightB_take l 0 k hk (fun j b hj hb => ?_) (fun b h0 hb => ?_)
  · have hjl : j < l.length := (List.getElem?_eq_some_iff.1 hb).1
    have h := hz j hj hjl
    rw [List.getD_eq_getElem?_getD, hb] at h
    exact h
  · intro e
    refine hn (k - 1) (by omega) ?_
    rw [List.getD_eq_getElem?_getD, hb, e]
    rfl
theorem suffix_one (l : List UInt8) (i : Nat) (hi : i < l.length) (c : UInt8) : Lib.hasSuffix (l.take (i + 1)) [c] = decide (l.getD i 0 = c) := by
  have h : l.take (i + 1) = l.take i ++ [l.getD i 0] := by
    rw [List.take_add_one, List.getElem?_eq_getElem hi]
    simp [List.getD, hi]
  unfold Lib.hasSuffix
  rw [h]
  unfold List.isSuffixOf
  rw [List.reverse_append]
  rw [List.reverse_singleton, List.reverse_singleton]
  show (c == l.getD i 0 && true) = _
  generalize l.getD i 0 = x
  by_cases h : x = c
  · simp [h]
  · have h2 : ¬ c = x := fun e => h e.symm
    simp [h, h2]
theorem pad_len {l : List UInt8} {i u : Nat} (hi : i < l.length) (h128 : l.getD i 0 = 128) (hz : Zeros l (i + 1)) (hu1 : 1 ≤ u) (hu2 : u ≤ 1024) (hl : l.length ≤ 16384) :
    PadOf l (l.take i) u ↔ (l.length - (i + 1) + 1 ≤ u ∧ l.length % u = 0) := by
  have hlt : (l.take i).length = i := by rw [List.length_take]; omega
  have heq : l = l.take i ++ 128 :: List.replicate (l.length - (i + 1)) 0 := by
    have h1 : l = l.take i ++ (l.getD i 0 :: l.drop (i + 1)) := by
      have h2 : l.getD i 0 = l[i] := by simp [List.getD, hi]
      rw [h2, List.getElem_cons_drop, List.take_append_drop]
    have h3 : l.drop (i + 1) = List.replicate (l.length - (i + 1)) 0 := by
      refine List.ext_getElem (by simp) fun j h4 h5 => ?_
      rw [List.getElem_drop, List.getElem_replicate]
      rw [List.length_drop] at h4
      have h6 := hz (i + 1 + j) (by omega) (by omega)
      have h7 : i + 1 + j < l.length := by omega
      simp only [List.getD, List.getElem?_eq_getElem h7, Option.getD_some] at h6
      exact h6
    rw [h128, h3] at h1
    exact h1
  rw [padOf_iff hu1 hu2, hlt]
  have hd := Nat.div_add_mod i u
  have hm := Nat.mod_lt i (show 0 < u by omega)
  have hpn : padN i u = u * (i / u) + u := by unfold padN; rw [Nat.add_mul, Nat.one_mul, Nat.mul_comm]
  constructor
  · rintro ⟨h1, h2⟩
    have h3 := congrArg List.length h2
    rw [List.length_append, List.length_cons, List.length_replicate, hlt] at h3
    have h4 : l.length = padN i u := by rw [hpn] at h3 ⊢; omega
    refine ⟨by rw [h4, hpn]; omega, ?_⟩
    rw [h4]; unfold padN; exact Nat.mul_mod_left _ _
  · rintro ⟨h1, h2⟩
    have h3 : l.length = padN i u := by
      obtain ⟨q, hq⟩ := Nat.dvd_of_mod_eq_zero h2
      have h4 : u * (i / u) < u * q := by omega
      have h5 : i / u < q := Nat.lt_of_mul_lt_mul_left h4
      have h6 : u * q < u * (i / u + 2) := by rw [Nat.mul_add]; omega
      have h7 : q < i / u + 2 := Nat.lt_of_mul_lt_mul_left h6
      have h8 : q = i / u + 1 := by omega
      rw [hq, hpn, h8, Nat.mul_add, Nat.mul_one]
    refine ⟨by omega, ?_⟩
    rw [← h3, show l.length - i - 1 = l.length - (i + 1) by omega]
    exact heq

set_option maxRecDepth 100000 in
set_option maxHeartbeats 8000000 in
theorem pStrip_any (s : ByteArray) (w : World) (hs : s.size ≤ 1000000000) :
    Calls Tryd.prog 12 #[.string s] w fun e w' => ∃ r : List UInt8 × Int, e = two r ∧ Strips s.data.toList r ∧ w = w' := by
  have HT := Lib.hid (Tryd.strings_TrimRight_one s 0 (by decide) w (by omega))
  obtain ⟨l, hl⟩ : ∃ l, s.data.toList = l := ⟨_, rfl⟩
  obtain ⟨N, hN⟩ : ∃ N, s.size = N := ⟨_, rfl⟩
  have hln : l.length = N := by rw [← hl, ← hN, ← Lib.size_eq]
  rw [hl] at HT ⊢
  rw [hN] at hs
  obtain ⟨k, hk, hz, hn⟩ := zeros_from l l.length (Nat.le_refl _) (fun j hj hjl => by omega)
  rw [trim_take hk hz hn] at HT
  obtain ⟨X, hX⟩ : ∃ X : ByteArray, (⟨(l.take k).toArray⟩ : ByteArray) = X := ⟨_, rfl⟩
  have hXl : X.data.toList = l.take k := by rw [← hX]
  have hXs : X.size = k := by rw [Lib.size_eq, hXl, List.length_take]; omega
  have hkN : k ≤ N := by omega
  have HC := Lib.hid (Tryd.strings_CutSuffix X ⟨#[128]⟩ w (by omega))
  rw [hX] at HT
  rw [show (ByteArray.mk #[128]).data.toList = [(128 : UInt8)] from rfl, hXl] at HC
  obtain ⟨T, hT⟩ : ∃ T : ByteArray, (⟨(Lib.trimSuffix (l.take k) [128]).toArray⟩ : ByteArray) = T := ⟨_, rfl⟩
  have hTl : T.data.toList = Lib.trimSuffix (l.take k) [128] := by rw [← hT]
  obtain ⟨b, hb⟩ : ∃ b, Lib.hasSuffix (l.take k) [128] = b := ⟨_, rfl⟩
  rw [hT, hb] at HC
  have hno : b = false → Strips l ([], 4) := fun hbf => by
    rcases Nat.eq_zero_or_pos k with hk0 | hk0
    · subst hk0
      exact .inr ⟨fun t u => no_pad_zero hz t u, rfl⟩
    · obtain ⟨i, rfl⟩ : ∃ i, k = i + 1 := ⟨k - 1, by omega⟩
      refine .inr ⟨fun t u hp => ?_, rfl⟩
      have h1 := (pad_at hz (by omega) (hn i rfl) hp).1
      rw [suffix_one l i (by omega), hbf] at hb
      exact of_decide_eq_false hb h1
  have hbig : 16384 < N → Strips l ([], 4) := fun hNb => .inr ⟨fun t u hp => by have := (padOf_len hp).2.2; omega, rfl⟩
  have hyes : b = true → ∃ i, k = i + 1 ∧ T.data.toList = l.take i ∧ l.getD i 0 = 128 := fun hbt => by
    rcases Nat.eq_zero_or_pos k with hk0 | hk0
    · subst hk0
      rw [List.take_zero] at hb
      have h1 : Lib.hasSuffix [] [(128 : UInt8)] = false := by decide
      rw [h1] at hb
      rw [← hb] at hbt
      cases hbt
    · obtain ⟨i, rfl⟩ : ∃ i, k = i + 1 := ⟨k - 1, by omega⟩
      refine ⟨i, rfl, ?_, ?_⟩
      · rw [hTl]
        unfold Lib.trimSuffix
        rw [hb, hbt, if_pos rfl, List.length_take, List.take_take]
        congr 1
        simp; omega
      · rw [suffix_one l i (by omega), hbt] at hb
        exact of_decide_eq_true hb
  cases b with
  | false =>
    have HR := Lib.hid (hno rfl)
    clear hno hbig hyes hT hTl hb hX hXl hz hn hl hln
    go_enter Tryd.func12, Tryd.ntmps12
    go_wp2_with fail
    refine HT.out.mono ?_
    rintro e w1 ⟨rfl, hw1⟩
    subst hw1
    go_wp2_with fail
    refine HC.out.mono ?_
    rintro e w1 ⟨rfl, hw1⟩
    subst hw1
    go_wp2
    go_ret2
    exact ⟨([], 4), rfl, HR.out, rfl⟩
  | true =>
    by_cases hNb : 16384 < N
    · have HR := Lib.hid (hbig hNb)
      have q1 : decide ((16384 : Int) < (N : Int)) = true := decide_eq_true (by omega)
      clear hno hbig hyes hT hTl hb hX hXl hz hn hl hln
      go_enter Tryd.func12, Tryd.ntmps12
      go_wp2_with fail
      refine HT.out.mono ?_
      rintro e w1 ⟨rfl, hw1⟩
      subst hw1
      go_wp2_with fail
      refine HC.out.mono ?_
      rintro e w1 ⟨rfl, hw1⟩
      subst hw1
      go_wp2
      go_ret2
      exact ⟨([], 4), rfl, HR.out, rfl⟩
    · have q1 : decide ((16384 : Int) < (N : Int)) = false := decide_eq_false (by omega)
      obtain ⟨i, rfl, hTi, h128⟩ := hyes rfl
      obtain ⟨z, hzz⟩ : ∃ z, N - (i + 1) = z := ⟨_, rfl⟩
      have hsub : (N : Int) - ((i + 1 : Nat) : Int) = (z : Int) := by omega
      have hsub2 : (N : Int) - ((i : Int) + 1) = (z : Int) := by omega
      have hwz : IntKind.i64.wrap (z : Int) = (z : Int) := by rw [IntKind.wrap_i64]; omega
      have hzb : z ≤ 16384 := by omega
      have HTT : Hid (T = ⟨(l.take i).toArray⟩) := bytes_ext (by rw [hTi])
      obtain ⟨c, hc, hcu⟩ := pUnit_any N z w (by omega) (by omega)
      have HU := Lib.hid (hcu w)
      cases c with
      | true =>
        obtain ⟨u, hu1, hu2, hu3⟩ := hc.1 rfl
        clear hc
        have hpo : PadOf l (l.take i) u := (pad_len (by omega) h128 hz (by omega) hu2 (by omega)).2 (by
          rw [hln]
          exact ⟨by omega, hu3⟩)
        have HR : Hid (Strips l (l.take i, 0)) := .inl ⟨l.take i, u, hpo, rfl⟩
        clear hno hbig hyes hT hTl hb hX hXl hz hn hl hln hzz hcu hTi
        go_enter Tryd.func12, Tryd.ntmps12
        go_wp2_with fail
        refine HT.out.mono ?_
        rintro e w1 ⟨rfl, hw1⟩
        subst hw1
        go_wp2_with fail
        refine HC.out.mono ?_
        rintro e w1 ⟨rfl, hw1⟩
        subst hw1
        go_wp2_with fail
        refine HU.out.mono ?_
        rintro e w1 ⟨rfl, rfl⟩
        go_wp2
        go_ret2
        exact ⟨(l.take i, 0), by rw [HTT.out]; rfl, HR.out, rfl⟩
      | false =>
        have hnone : ∀ t u, ¬ PadOf l t u := by
          intro t u hp
          have h1 := (pad_at hz (by omega) (hn i rfl) hp).2.1
          subst h1
          have h2 := (pad_len (by omega) h128 hz hp.1 hp.2.1 (by omega)).1 hp
          rw [hln] at h2
          have h3 := hc.2 ⟨u, by omega, hp.2.1, h2.2⟩
          cases h3
        have HR : Hid (Strips l ([], 4)) := .inr ⟨hnone, rfl⟩
        clear hno hbig hyes hT hTl hb hX hXl hz hn hl hln hzz hc hcu hTi
        go_enter Tryd.func12, Tryd.ntmps12
        go_wp2_with fail
        refine HT.out.mono ?_
        rintro e w1 ⟨rfl, hw1⟩
        subst hw1
        go_wp2_with fail
        refine HC.out.mono ?_
        rintro e w1 ⟨rfl, hw1⟩
        subst hw1
        go_wp2_with fail
        refine HU.out.mono ?_
        rintro e w1 ⟨rfl, rfl⟩
        go_wp2
        go_ret2
        exact ⟨([], 4), rfl, HR.out, rfl⟩
end Go.Proofs.YtadhmmklhhaagaaDoor
