
/- SHA-256: mathematics alone. Words are integers below 2^32. -/
import Derived.Laws.BitsAllLaws
namespace Go.Proofs.YtogpjoldfcmbfaaDoor
namespace Sha
set_option linter.unusedVariables false

def rr (x n : Int) : Int := bits .or .u32 (x / 2 ^ n.toNat) (x * 2 ^ (32 - n).toNat % 4294967296)
def xr (a b : Int) : Int := bits .xor .u32 a b
def an (a b : Int) : Int := bits .and .u32 a b
def B1 (e : Int) : Int := xr (xr (rr e 6) (rr e 11)) (rr e 25)
def B0 (a : Int) : Int := xr (xr (rr a 2) (rr a 13)) (rr a 22)
def s0 (x : Int) : Int := xr (xr (rr x 7) (rr x 18)) (x / 8)
def s1 (y : Int) : Int := xr (xr (rr y 17) (rr y 19)) (y / 1024)
def ch (e f g : Int) : Int := xr (an e f) (an (xr 4294967295 e) g)
def mj (a b c : Int) : Int := xr (xr (an a b) (an a c)) (an b c)
def ad (a b : Int) : Int := (a + b) % 4294967296

def Ks : List Int := [
  0x428a2f98, 0x71374491, 0xb5c0fbcf, 0xe9b5dba5, 0x3956c25b, 0x59f111f1, 0x923f82a4, 0xab1c5ed5,
  0xd807aa98, 0x12835b01, 0x243185be, 0x550c7dc3, 0x72be5d74, 0x80deb1fe, 0x9bdc06a7, 0xc19bf174,
  0xe49b69c1, 0xefbe4786, 0x0fc19dc6, 0x240ca1cc, 0x2de92c6f, 0x4a7484aa, 0x5cb0a9dc, 0x76f988da,
  0x983e5152, 0xa831c66d, 0xb00327c8, 0xbf597fc7, 0xc6e00bf3, 0xd5a79147, 0x06ca6351, 0x14292967,
  0x27b70a85, 0x2e1b2138, 0x4d2c6dfc, 0x53380d13, 0x650a7354, 0x766a0abb, 0x81c2c92e, 0x92722c85,
  0xa2bfe8a1, 0xa81a664b, 0xc24b8b70, 0xc76c51a3, 0xd192e819, 0xd6990624, 0xf40e3585, 0x106aa070,
  0x19a4c116, 0x1e376c08, 0x2748774c, 0x34b0bcb5, 0x391c0cb3, 0x4ed8aa4a, 0x5b9cca4f, 0x682e6ff3,
  0x748f82ee, 0x78a5636f, 0x84c87814, 0x8cc70208, 0x90befffa, 0xa4506ceb, 0xbef9a3f7, 0xc67178f2]

structure St where
  (a b c d e f g h : Int)
def H0 : St := ⟨0x6a09e667, 0xbb67ae85, 0x3c6ef372, 0xa54ff53a, 0x510e527f, 0x9b05688c, 0x1f83d9ab, 0x5be0cd19⟩
def St.list (s : St) : List Int := [s.a, s.b, s.c, s.d, s.e, s.f, s.g, s.h]
def t1 (s : St) (k w : Int) : Int := ad (ad (ad (ad s.h (B1 s.e)) (ch s.e s.f s.g)) k) w
def t2 (s : St) : Int := ad (B0 s.a) (mj s.a s.b s.c)
def rnd (s : St) (k w : Int) : St := ⟨ad (t1 s k w) (t2 s), s.a, s.b, s.c, ad s.d (t1 s k w), s.e, s.f, s.g⟩

def bt (l : List UInt8) (i : Nat) : Int := ((l.getD i 0).toNat : Int)
def wd (l : List UInt8) (i : Nat) : Int := ((bt l (4 * i) * 256 + bt l (4 * i + 1)) * 256 + bt l (4 * i + 2)) * 256 + bt l (4 * i + 3)
def W0 (l : List UInt8) : List Int := (List.range 16).map (wd l)
def nx (W : List Int) : Int := ad (ad (ad (s1 (W.getD (W.length - 2) 0)) (W.getD (W.length - 7) 0)) (s0 (W.getD (W.length - 15) 0))) (W.getD (W.length - 16) 0)
def sch (l : List UInt8) : Nat → List Int
  | 0 => W0 l
  | k + 1 => sch l k ++ [nx (sch l k)]
theorem sch_len (l : List UInt8) : ∀ k, (sch l k).length = 16 + k
  | 0 => by simp [sch, W0]
  | k + 1 => by rw [sch, List.length_append, sch_len l k]; simp; omega
def vs (H : St) (l : List UInt8) : Nat → St
  | 0 => H
  | t + 1 => rnd (vs H l t) (Ks.getD t 0) ((sch l 48).getD t 0)
def plus (x y : St) : St := ⟨ad x.a y.a, ad x.b y.b, ad x.c y.c, ad x.d y.d, ad x.e y.e, ad x.f y.f, ad x.g y.g, ad x.h y.h⟩
theorem ad_comm (a b : Int) : ad a b = ad b a := by unfold ad; rw [Int.add_comm]
theorem plus_comm (x y : St) : plus x y = plus y x := by simp only [plus, ad_comm]
def comp (H : St) (l : List UInt8) : St := plus H (vs H l 64)
def hs (m : List UInt8) : Nat → St
  | 0 => H0
  | k + 1 => comp (hs m k) ((m.drop (64 * k)).take 64)
theorem hs_app (m x : List UInt8) : ∀ k, 64 * k ≤ m.length → hs (m ++ x) k = hs m k
  | 0, _ => rfl
  | k + 1, h => by
    rw [hs, hs, hs_app m x k (by omega), List.drop_append_of_le_length (by omega), List.take_append_of_le_length (by rw [List.length_drop]; omega)]

def four (x : Int) : List UInt8 := [UInt8.ofNat (x / 16777216).toNat, UInt8.ofNat (x / 65536).toNat, UInt8.ofNat (x / 256).toNat, UInt8.ofNat x.toNat]
def eight (x : Nat) : List UInt8 := [UInt8.ofNat (x / 72057594037927936), UInt8.ofNat (x / 281474976710656), UInt8.ofNat (x / 1099511627776), UInt8.ofNat (x / 4294967296), UInt8.ofNat (x / 16777216), UInt8.ofNat (x / 65536), UInt8.ofNat (x / 256), UInt8.ofNat x]
def bytes (s : St) : List UInt8 := s.list.flatMap four
def zs (n : Nat) : Nat := (119 - n % 64) % 64
def pad (m : List UInt8) : List UInt8 := (m ++ 128 :: List.replicate (zs m.length) 0) ++ eight (8 * m.length % 18446744073709551616)
def sum (m : List UInt8) : List UInt8 := bytes (hs (pad m) ((pad m).length / 64))

/-! bounds -/
def In (x : Int) : Prop := 0 ≤ x ∧ x < 4294967296
theorem in_bits_xor (a b : Int) : In (xr a b) := by
  show In (IntKind.u32.wrap ((BitVec.ofInt 32 a ^^^ BitVec.ofInt 32 b).toNat : Int))
  rw [IntKind.wrap_u32']; unfold In; omega
theorem in_bits_or (a b : Int) : In (bits .or .u32 a b) := by
  show In (IntKind.u32.wrap ((BitVec.ofInt 32 a ||| BitVec.ofInt 32 b).toNat : Int))
  rw [IntKind.wrap_u32']; unfold In; omega
theorem in_ad (a b : Int) : In (ad a b) := by unfold In ad; omega
theorem ad4 (a b c d : Int) : ad (ad (ad a b) c) d = (a + b + c + d) % 4294967296 := by unfold ad; omega
theorem ad5 (a b c d e : Int) : ad (ad (ad (ad a b) c) d) e = (a + b + c + d + e) % 4294967296 := by unfold ad; omega
theorem in_rr (a b : Int) : In (rr a b) := in_bits_or _ _
theorem xr_zero {a : Int} (h : In a) : xr 0 a = a := by
  obtain ⟨h1, h2⟩ := h
  unfold xr
  rw [u32_xor 0 a (by omega) (by omega) h1 h2]
  simp
  omega
theorem or_comm (a b : Int) : bits .or .u32 a b = bits .or .u32 b a := by
  show IntKind.u32.wrap ((BitVec.ofInt 32 a ||| BitVec.ofInt 32 b).toNat : Int) = IntKind.u32.wrap ((BitVec.ofInt 32 b ||| BitVec.ofInt 32 a).toNat : Int)
  rw [BitVec.or_comm]
theorem bt_in (l : List UInt8) (i : Nat) : 0 ≤ bt l i ∧ bt l i < 256 := by
  unfold bt
  have := (l.getD i 0).toNat_lt
  omega
theorem wd_in (l : List UInt8) (i : Nat) : In (wd l i) := by
  unfold In wd
  have h0 := bt_in l (4 * i)
  have h1 := bt_in l (4 * i + 1)
  have h2 := bt_in l (4 * i + 2)
  have h3 := bt_in l (4 * i + 3)
  omega
/-- A word of which one byte more is shifted in. -/
theorem shift_or (x b : Int) (hx : In x) (hb : 0 ≤ b ∧ b < 256) : bits .or .u32 (x * 256 % 4294967296) b = (x * 256 + b) % 4294967296 := by
  obtain ⟨X, rfl⟩ := Int.eq_ofNat_of_zero_le hx.1
  obtain ⟨B, rfl⟩ := Int.eq_ofNat_of_zero_le hb.1
  have h1 : X < 4294967296 := by have := hx.2; omega
  have h2 : B < 256 := by omega
  have e1 : ((X : Int) * 256 % 4294967296) = ((X * 256 % 4294967296 : Nat) : Int) := by omega
  rw [e1, u32_or_nat _ _ (by omega) (by omega)]
  have e2 : X * 256 % 4294967296 = 2 ^ 8 * (X % 16777216) := by omega
  rw [e2, ← Nat.two_pow_add_eq_or_of_lt (i := 8) (by omega)]
  omega

/-- A word of which k bytes of the block have been shifted in. -/
def pw (l : List UInt8) (k j : Nat) : Int :=
  if k ≤ 4 * j then 0 else if k = 4 * j + 1 then bt l (4 * j) else if k = 4 * j + 2 then bt l (4 * j) * 256 + bt l (4 * j + 1)
  else if k = 4 * j + 3 then (bt l (4 * j) * 256 + bt l (4 * j + 1)) * 256 + bt l (4 * j + 2) else wd l j
theorem pw_zero (l : List UInt8) (j : Nat) : pw l 0 j = 0 := by simp [pw]
theorem pw_in (l : List UInt8) (k j : Nat) : In (pw l k j) := by
  have h0 := bt_in l (4 * j)
  have h1 := bt_in l (4 * j + 1)
  have h2 := bt_in l (4 * j + 2)
  have h3 := wd_in l j
  unfold pw
  split
  · unfold In; omega
  · split
    · unfold In; omega
    · split
      · unfold In; omega
      · split
        · unfold In; omega
        · exact h3
theorem pw_step (l : List UInt8) (k : Nat) : bits .or .u32 (pw l k (k / 4) * 256 % 4294967296) (bt l k) = pw l (k + 1) (k / 4) := by
  rw [shift_or _ _ (pw_in l k _) (bt_in l k)]
  have h0 := bt_in l (4 * (k / 4))
  have h1 := bt_in l (4 * (k / 4) + 1)
  have h2 := bt_in l (4 * (k / 4) + 2)
  have h3 := bt_in l (4 * (k / 4) + 3)
  generalize hj : k / 4 = j at *
  have : k = 4 * j ∨ k = 4 * j + 1 ∨ k = 4 * j + 2 ∨ k = 4 * j + 3 := by omega
  rcases this with rfl | rfl | rfl | rfl
  · simp [pw]; omega
  · simp [pw]; omega
  · simp [pw]; omega
  · simp [pw, wd]; omega
theorem pw_other (l : List UInt8) (k j : Nat) (h : j ≠ k / 4) : pw l (k + 1) j = pw l k j := by
  unfold pw
  by_cases h1 : k < 4 * j
  · rw [if_pos (by omega), if_pos (by omega)]
  · rw [if_neg (by omega), if_neg (by omega), if_neg (by omega), if_neg (by omega), if_neg (by omega), if_neg (by omega), if_neg (by omega), if_neg (by omega)]
theorem pw_end (l : List UInt8) (j : Nat) : pw l 64 j = if j < 16 then wd l j else 0 := by
  unfold pw
  by_cases h : j < 16
  · rw [if_neg (by omega), if_neg (by omega), if_neg (by omega), if_neg (by omega), if_pos h]
  · rw [if_pos (by omega), if_neg h]

theorem getD_l {l x : List Int} {i : Nat} (h : i < l.length) : (l ++ x).getD i 0 = l.getD i 0 := by
  simp only [List.getD, List.getElem?_append_left h]
theorem getD_r {l x : List Int} {i : Nat} (h : l.length ≤ i) : (l ++ x).getD i 0 = x.getD (i - l.length) 0 := by
  simp only [List.getD, List.getElem?_append_right h]
/-- The words of a block. -/
def W (l : List UInt8) (j : Nat) : Int := (sch l 48).getD j 0
theorem sch_old (l : List UInt8) : ∀ (n k j : Nat), j < 16 + k → (sch l (k + n)).getD j 0 = (sch l k).getD j 0
  | 0, _, _, _ => rfl
  | n + 1, k, j, h => by
    rw [← Nat.add_assoc, sch, getD_l (by rw [sch_len]; omega), sch_old l n k j h]
theorem W_first (l : List UInt8) (j : Nat) (h : j < 16) : W l j = wd l j := by
  unfold W
  rw [show 48 = 0 + 48 from rfl, sch_old l 48 0 j (by omega)]
  simp [sch, W0, List.getD, h]
theorem W_next (l : List UInt8) (k : Nat) (h : k < 48) : W l (16 + k) = ad (ad (ad (s1 (W l (14 + k))) (W l (9 + k))) (s0 (W l (1 + k)))) (W l k) := by
  have e : W l (16 + k) = nx (sch l k) := by
    unfold W
    rw [show 48 = (k + 1) + (47 - k) by omega, sch_old l (47 - k) (k + 1) (16 + k) (by omega), sch, getD_r (by rw [sch_len]; omega), sch_len]
    simp
  have f : ∀ j, j < 16 + k → W l j = (sch l k).getD j 0 := fun j hj => by
    unfold W
    rw [show 48 = k + (48 - k) by omega, sch_old l (48 - k) k j hj]
  rw [e, nx, sch_len, f _ (by omega), f (9 + k) (by omega), f (1 + k) (by omega), f k (by omega), show 16 + k - 2 = 14 + k by omega, show 16 + k - 7 = 9 + k by omega, show 16 + k - 15 = 1 + k by omega, show 16 + k - 16 = k by omega]

/-! lists -/
theorem St.list_len (s : St) : s.list.length = 8 := rfl
theorem four_len (x : Int) : (four x).length = 4 := rfl
theorem eight_len (x : Nat) : (eight x).length = 8 := rfl
theorem bytes_len (s : St) : (bytes s).length = 32 := rfl
theorem pad_len (m : List UInt8) : (pad m).length = m.length + 1 + zs m.length + 8 := by
  unfold pad
  simp [eight_len]
  omega
theorem zs_eq (n : Nat) : (n + 1 + zs n) % 64 = 56 := by unfold zs; omega
end Sha
end Go.Proofs.YtogpjoldfcmbfaaDoor
