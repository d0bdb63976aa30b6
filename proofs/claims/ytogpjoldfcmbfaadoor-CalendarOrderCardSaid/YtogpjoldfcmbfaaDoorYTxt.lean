
/- Days as texts: the program's and the document's. -/
import Derived.Test.YtogpjoldfcmbfaaDoorYRf2
import Derived.Test.YtogpjoldfcmbfaaDoorYTmt
import Derived.Test.YtogpjoldfcmbfaaDoorShelf
namespace Go.Proofs.YtogpjoldfcmbfaaDoor
open Go.RowKit Go.Sort Go.Shelf
open Cal
set_option linter.unusedVariables false

theorem gPw : Tryd.prog.globalNamed "internal/strconv.uint64pow10" = some 3 := by kernel_rfl
theorem gSy : Tryd.prog.globalNamed "strconv.ErrSyntax" = some 1 := by kernel_rfl
theorem var_below {P : Program} {w w' : World} {n : String} {cs : Array Value} (h : w.var? P n = some cs) (b : Below w.heap.size w w') : w'.var? P n = some cs := by
  unfold World.var? at h ⊢
  cases hg : P.globalNamed n with
  | none => rw [hg] at h; simp at h
  | some g =>
    simp only [hg, Option.bind_some] at h ⊢
    have hz : g < w.heap.size := by
      by_cases hz : g < w.heap.size
      · exact hz
      · rw [Array.getElem?_eq_none (by omega)] at h; simp at h
    rw [b.block g hz]; exact h
/-- What writing texts reads: the months' days, and the library's powers of ten. -/
def Txs (w : World) : Prop := Lens w ∧ Lib.TabIs Tryd.prog w "internal/strconv.uint64pow10" .u64 Lib.pow10Tab
theorem Txs.below {w w' : World} (h : Txs w) (b : Below w.heap.size w w') : Txs w' := ⟨h.1.below b, var_below h.2 b⟩

theorem str_size (l : List UInt8) : (⟨l.toArray⟩ : ByteArray).size = l.length := by simp [ByteArray.size]
theorem str_add (a b : List UInt8) : (⟨a.toArray⟩ : ByteArray) ++ ⟨b.toArray⟩ = ⟨(a ++ b).toArray⟩ := by
  apply ByteArray.ext; simp
theorem ret_str {a b : ByteArray} (h : a = b) : Ending.returned (.string a) = .returned (.string b) := by rw [h]

theorem below_draws (w : World) (k : Nat) (os : Array Obj) : Below w.heap.size w (grow (w.drewN k) os) :=
  ⟨rfl, rfl, rfl, by first | (simp [grow]; done) | (simp [grow]; omega), fun i hi => by
    show ((w.drewN k).heap ++ os)[i]? = _
    rw [Array.getElem?_append_left (by show i < w.heap.size; omega)]
    rfl⟩

set_option maxHeartbeats 1000000 in
theorem digits_any (n k : Nat) (w : World) (hw : Txs w) (hn : n < 10 ^ (k + 1)) (hk : k ≤ 10) :
    Calls Tryd.prog 31 #[.int .i64 n, .int .i64 ((k : Int) + 1)] w fun e w' => e = .returned (.string ⟨(digL (k + 1) n).toArray⟩) ∧ Below w.heap.size w w' := by
  obtain ⟨p1, p2⟩ := pad k n hn
  have hbig : 10 ^ (k + 1) ≤ 10 ^ 11 := Nat.pow_le_pow_right (by omega) (by omega)
  have hit : Lib.itoa (n : Int) = Lib.decDigits n := by unfold Lib.itoa; rw [if_neg (by omega)]; simp
  have HI := Tryd.strconv_Itoa (n : Int) (by omega) (by omega) w hw.2
  rw [hit] at HI
  obtain ⟨c, hc⟩ : ∃ c : Nat, c + (Lib.decDigits n).length = k + 1 := ⟨k + 1 - (Lib.decDigits n).length, by omega⟩
  rw [show k + 1 - (Lib.decDigits n).length = c by omega] at p2
  have HR : Hid (∀ w, Calls Tryd.prog 38 #[.string ⟨#[48]⟩, .int .i64 (c : Int)] w fun e w' => e = .returned (.string ⟨(Lib.repeatL [48] c).toArray⟩) ∧ Below w.heap.size w w') := fun w => Tryd.strings_Repeat ⟨#[48]⟩ c w (by omega) (by show 1 * c ≤ _; omega)
  have hz : (⟨(Lib.decDigits n).toArray⟩ : ByteArray).size = (Lib.decDigits n).length := str_size _
  have hz2 : (⟨(Lib.repeatL [48] c).toArray⟩ : ByteArray).size = c := by rw [str_size, rep_one]; simp
  have HE : Hid ((⟨(Lib.repeatL [48] c).toArray⟩ : ByteArray) ++ ⟨(Lib.decDigits n).toArray⟩ = ⟨(digL (k + 1) n).toArray⟩) := by show _ = _; rw [str_add, p2]
  have HII := Lib.hid HI
  generalize (⟨(Lib.decDigits n).toArray⟩ : ByteArray) = S at *
  generalize (⟨(Lib.repeatL [48] c).toArray⟩ : ByteArray) = R at *
  generalize (⟨(digL (k + 1) n).toArray⟩ : ByteArray) = D at *
  generalize (Lib.decDigits n).length = L at *
  have hcc : IntKind.i64.wrap ((k : Int) + 1 - (L : Int)) = (c : Int) := by rw [IntKind.wrap_i64]; omega
  have hcz : (k : Int) + 1 - (L : Int) = (c : Int) := by omega
  clear p1 p2 hn hbig hit HI hw
  go_enter Tryd.func31, Tryd.ntmps31
  go_wp2_with fail
  refine HII.out.mono ?_
  rintro e w1 ⟨rfl, kk, os, rfl⟩
  have HB1 := Lib.hid (below_draws w kk os)
  generalize grow (w.drewN kk) os = w1 at *
  go_wp2_with fail
  refine (HR.out w1).mono ?_
  rintro e w2 ⟨rfl, hb⟩
  have HB2 := Lib.hid (HB1.out.trans (hb.mono HB1.out.size))
  clear hb HB1
  go_wp2
  go_ret
  exact ⟨ret_str HE.out, HB2.out⟩
end Go.Proofs.YtogpjoldfcmbfaaDoor
