
/- The letters with marks: the map that words.markedLetters makes. -/
import Derived.Test.YtmegmgcfnihhiaaDoorOMt2
import Derived.Test.YtmegmgcfnihhiaaDoorOVal
import Derived.Maps.OwnOps
import Derived.Maps.Views
import Derived.Maps.StringElems
namespace Go.Proofs.YtmegmgcfnihhiaaDoor
open Go.RowKit Go.Shelf
open Go.Maps (Keyed int_keyed)
set_option linter.unusedVariables false

theorem runeKeys : Keyed Tryd.prog 21 := int_keyed Tryd.underlying21
theorem zeroStrM (w : World) : (zeroValue 9).run Tryd.prog w = .ok (.string ⟨#[]⟩) w := by kernel_rfl
/-- Block b is a map that gives every rune what f says. -/
def LetAt (w : World) (b n : Nat) (f : Int → List UInt8) : Prop := ∃ D : DataW Unit, w.ownsMap Tryd.prog 21 (plainElem Tryd.prog 9) b n D ∧ Go.Maps.IsMap D ∧ ∀ h : Int, (Lit.int .i32 h).wf = true → D.atKey (.int .i32 h) (.lit (.string [])) = .lit (.string (f h))
theorem letAt_made (w : World) : LetAt (w.alloc (.map #[] 0)) w.heap.size 0 (fun _ => []) := ⟨_, World.ownsMap_made _ _ _ _, ⟨[], rfl⟩, fun h _ => by simp [DataW.atKey]⟩
theorem LetAt.kept {w w' : World} {b n : Nat} {f : Int → List UInt8} {row : Option Nat} (h : LetAt w b n f) (k : w.grownBy w' row) (hne : some b ≠ row) : LetAt w' b n f := by
  obtain ⟨D, h1, h2⟩ := h
  exact ⟨D, h1.kept k hne, h2⟩
theorem LetAt.lt {w : World} {b n : Nat} {f : Int → List UInt8} (h : LetAt w b n f) : b < w.heap.size := by
  obtain ⟨D, h1, h2⟩ := h
  exact h1.lt
set_option maxRecDepth 100000 in
theorem LetAt.look {w : World} {b n : Nat} {f : Int → List UInt8} (h : LetAt w b n f) {t : TypeId} (ht : Tryd.prog.underlying t = some (.map 21 9)) (x : Int) (hx : (Lit.int .i32 x).wf = true) : (Instr.lookup t (.map (some b)) (.int .i32 x) false).run Tryd.prog w = .ok (.string ⟨(f x).toArray⟩) w := by
  obtain ⟨D, h1, _, h2⟩ := h
  obtain ⟨v, ps, hrun, hv⟩ := h1.lookup runeKeys ht (zeroStrM w) (plainElem_string Tryd.underlying9 (s := ⟨#[]⟩) (by decide)) (Go.Maps.keyOf_int_mk Tryd.underlying21 hx)
  have e0 : ((⟨#[]⟩ : ByteArray).data.toList) = [] := rfl
  rw [e0, h2 x hx] at hv
  obtain ⟨s, rfl, hz, _⟩ := plainElem_string_inv Tryd.underlying9 hv
  simp only [Prod.mk.injEq, DataW.lit.injEq, Lit.string.injEq] at hz
  rw [hrun, hz.1]
set_option maxRecDepth 100000 in
theorem LetAt.put {w : World} {b n : Nat} {f : Int → List UInt8} (h : LetAt w b n f) (x : Int) (hx : (Lit.int .i32 x).wf = true) (l : List UInt8) (hl : l.length ≤ 100) (hn : n < 100) :
    ∃ w', (Instr.mapUpdate 65 (.map (some b)) (.int .i32 x) (.string ⟨l.toArray⟩)).run Tryd.prog w = .ok () w' ∧ LetAt w' b (n + 1) (fun h => if h = x then l else f h) ∧ w.grownBy w' (some b) := by
  obtain ⟨D, h1, hm, h2⟩ := h
  obtain ⟨w', hrun, h3, h4⟩ := h1.update runeKeys Tryd.underlying65 (by unfold maxLen; omega) (Go.Maps.keyOf_int_mk Tryd.underlying21 hx) (plainElem_string Tryd.underlying9 (s := ⟨l.toArray⟩) (by rw [Lib.size_eq]; show l.length ≤ _; unfold maxLen; omega))
  refine ⟨w', hrun, ⟨_, h3, Go.Maps.IsMap.put hm _ _, fun y hy => ?_⟩, h4⟩
  by_cases e : y = x
  · subst e
    rw [Go.Maps.atKey_put_same hm (by simp [WideAt.IsKeyLit])]
    simp
  · rw [Go.Maps.atKey_put_other (fun e2 => e (by simpa using e2)), h2 y hy]
    simp [e]

def letF : Int → List UInt8 := (fun h => if h = 254 then [32] else (fun h => if h = 247 then [32] else (fun h => if h = 240 then [32] else (fun h => if h = 255 then [121] else (fun h => if h = 253 then [121] else (fun h => if h = 252 then [117, 101] else (fun h => if h = 251 then [117] else (fun h => if h = 250 then [117] else (fun h => if h = 249 then [117] else (fun h => if h = 223 then [115, 115] else (fun h => if h = 248 then [111, 101] else (fun h => if h = 246 then [111, 101] else (fun h => if h = 245 then [111] else (fun h => if h = 244 then [111] else (fun h => if h = 243 then [111] else (fun h => if h = 242 then [111] else (fun h => if h = 241 then [110] else (fun h => if h = 239 then [105] else (fun h => if h = 238 then [105] else (fun h => if h = 237 then [105] else (fun h => if h = 236 then [105] else (fun h => if h = 235 then [101] else (fun h => if h = 234 then [101] else (fun h => if h = 233 then [101] else (fun h => if h = 232 then [101] else (fun h => if h = 231 then [99] else (fun h => if h = 230 then [97, 101] else (fun h => if h = 229 then [97, 97] else (fun h => if h = 228 then [97, 101] else (fun h => if h = 227 then [97] else (fun h => if h = 226 then [97] else (fun h => if h = 225 then [97] else (fun h => if h = 224 then [97] else (fun _ => []) h) h) h) h) h) h) h) h) h) h) h) h) h) h) h) h) h) h) h) h) h) h) h) h) h) h) h) h) h) h) h) h) h)
theorem letF_mark : ∀ k : Fin 33, letF (((223 + k.val : Nat)) : Int) = markT k.val := by decide +kernel
theorem letF_mk {q : Nat} (h1 : 223 ≤ q) (h2 : q ≤ 255) : letF (q : Int) = markT (q - 223) := by
  have h := letF_mark ⟨q - 223, by omega⟩
  simp only at h
  rw [show 223 + (q - 223) = q from by omega] at h
  exact h
/-- The map of all letters with marks. -/
def Letters (w : World) (b : Nat) : Prop := LetAt w b 33 letF
set_option maxRecDepth 100000 in
set_option maxHeartbeats 4000000 in
theorem marked_any (w : World) :
    Calls Tryd.prog 36 #[] w fun e w' => e = .returned (.map (some w.heap.size)) ∧ Letters w' w.heap.size ∧ Below w.heap.size w w' := by
  have hmm := @run_makeMap Tryd.prog
  have m0 := letAt_made w
  have b0 : Below w.heap.size w (w.alloc (.map #[] 0)) := (Below.refl _ w).alloc (Nat.le_refl _) _
  obtain ⟨g, hg⟩ : ∃ g, w.heap.size = g := ⟨_, rfl⟩
  obtain ⟨w0, hw0⟩ : ∃ w0, w.alloc (.map #[] 0) = w0 := ⟨_, rfl⟩
  rw [hg] at m0 b0
  rw [hw0] at m0 b0
  obtain ⟨w1, r1, m1, g1⟩ := m0.put 224 (by decide) [97] (by decide) (by decide)
  have b1 := b0.grown g1 (Nat.le_of_lt m0.lt) (fun k e => by cases e; exact Nat.le_refl _)
  clear m0 b0 g1
  obtain ⟨w2, r2, m2, g2⟩ := m1.put 225 (by decide) [97] (by decide) (by decide)
  have b2 := b1.grown g2 (Nat.le_of_lt m1.lt) (fun k e => by cases e; exact Nat.le_refl _)
  clear m1 b1 g2
  obtain ⟨w3, r3, m3, g3⟩ := m2.put 226 (by decide) [97] (by decide) (by decide)
  have b3 := b2.grown g3 (Nat.le_of_lt m2.lt) (fun k e => by cases e; exact Nat.le_refl _)
  clear m2 b2 g3
  obtain ⟨w4, r4, m4, g4⟩ := m3.put 227 (by decide) [97] (by decide) (by decide)
  have b4 := b3.grown g4 (Nat.le_of_lt m3.lt) (fun k e => by cases e; exact Nat.le_refl _)
  clear m3 b3 g4
  obtain ⟨w5, r5, m5, g5⟩ := m4.put 228 (by decide) [97, 101] (by decide) (by decide)
  have b5 := b4.grown g5 (Nat.le_of_lt m4.lt) (fun k e => by cases e; exact Nat.le_refl _)
  clear m4 b4 g5
  obtain ⟨w6, r6, m6, g6⟩ := m5.put 229 (by decide) [97, 97] (by decide) (by decide)
  have b6 := b5.grown g6 (Nat.le_of_lt m5.lt) (fun k e => by cases e; exact Nat.le_refl _)
  clear m5 b5 g6
  obtain ⟨w7, r7, m7, g7⟩ := m6.put 230 (by decide) [97, 101] (by decide) (by decide)
  have b7 := b6.grown g7 (Nat.le_of_lt m6.lt) (fun k e => by cases e; exact Nat.le_refl _)
  clear m6 b6 g7
  obtain ⟨w8, r8, m8, g8⟩ := m7.put 231 (by decide) [99] (by decide) (by decide)
  have b8 := b7.grown g8 (Nat.le_of_lt m7.lt) (fun k e => by cases e; exact Nat.le_refl _)
  clear m7 b7 g8
  obtain ⟨w9, r9, m9, g9⟩ := m8.put 232 (by decide) [101] (by decide) (by decide)
  have b9 := b8.grown g9 (Nat.le_of_lt m8.lt) (fun k e => by cases e; exact Nat.le_refl _)
  clear m8 b8 g9
  obtain ⟨w10, r10, m10, g10⟩ := m9.put 233 (by decide) [101] (by decide) (by decide)
  have b10 := b9.grown g10 (Nat.le_of_lt m9.lt) (fun k e => by cases e; exact Nat.le_refl _)
  clear m9 b9 g10
  obtain ⟨w11, r11, m11, g11⟩ := m10.put 234 (by decide) [101] (by decide) (by decide)
  have b11 := b10.grown g11 (Nat.le_of_lt m10.lt) (fun k e => by cases e; exact Nat.le_refl _)
  clear m10 b10 g11
  obtain ⟨w12, r12, m12, g12⟩ := m11.put 235 (by decide) [101] (by decide) (by decide)
  have b12 := b11.grown g12 (Nat.le_of_lt m11.lt) (fun k e => by cases e; exact Nat.le_refl _)
  clear m11 b11 g12
  obtain ⟨w13, r13, m13, g13⟩ := m12.put 236 (by decide) [105] (by decide) (by decide)
  have b13 := b12.grown g13 (Nat.le_of_lt m12.lt) (fun k e => by cases e; exact Nat.le_refl _)
  clear m12 b12 g13
  obtain ⟨w14, r14, m14, g14⟩ := m13.put 237 (by decide) [105] (by decide) (by decide)
  have b14 := b13.grown g14 (Nat.le_of_lt m13.lt) (fun k e => by cases e; exact Nat.le_refl _)
  clear m13 b13 g14
  obtain ⟨w15, r15, m15, g15⟩ := m14.put 238 (by decide) [105] (by decide) (by decide)
  have b15 := b14.grown g15 (Nat.le_of_lt m14.lt) (fun k e => by cases e; exact Nat.le_refl _)
  clear m14 b14 g15
  obtain ⟨w16, r16, m16, g16⟩ := m15.put 239 (by decide) [105] (by decide) (by decide)
  have b16 := b15.grown g16 (Nat.le_of_lt m15.lt) (fun k e => by cases e; exact Nat.le_refl _)
  clear m15 b15 g16
  obtain ⟨w17, r17, m17, g17⟩ := m16.put 241 (by decide) [110] (by decide) (by decide)
  have b17 := b16.grown g17 (Nat.le_of_lt m16.lt) (fun k e => by cases e; exact Nat.le_refl _)
  clear m16 b16 g17
  obtain ⟨w18, r18, m18, g18⟩ := m17.put 242 (by decide) [111] (by decide) (by decide)
  have b18 := b17.grown g18 (Nat.le_of_lt m17.lt) (fun k e => by cases e; exact Nat.le_refl _)
  clear m17 b17 g18
  obtain ⟨w19, r19, m19, g19⟩ := m18.put 243 (by decide) [111] (by decide) (by decide)
  have b19 := b18.grown g19 (Nat.le_of_lt m18.lt) (fun k e => by cases e; exact Nat.le_refl _)
  clear m18 b18 g19
  obtain ⟨w20, r20, m20, g20⟩ := m19.put 244 (by decide) [111] (by decide) (by decide)
  have b20 := b19.grown g20 (Nat.le_of_lt m19.lt) (fun k e => by cases e; exact Nat.le_refl _)
  clear m19 b19 g20
  obtain ⟨w21, r21, m21, g21⟩ := m20.put 245 (by decide) [111] (by decide) (by decide)
  have b21 := b20.grown g21 (Nat.le_of_lt m20.lt) (fun k e => by cases e; exact Nat.le_refl _)
  clear m20 b20 g21
  obtain ⟨w22, r22, m22, g22⟩ := m21.put 246 (by decide) [111, 101] (by decide) (by decide)
  have b22 := b21.grown g22 (Nat.le_of_lt m21.lt) (fun k e => by cases e; exact Nat.le_refl _)
  clear m21 b21 g22
  obtain ⟨w23, r23, m23, g23⟩ := m22.put 248 (by decide) [111, 101] (by decide) (by decide)
  have b23 := b22.grown g23 (Nat.le_of_lt m22.lt) (fun k e => by cases e; exact Nat.le_refl _)
  clear m22 b22 g23
  obtain ⟨w24, r24, m24, g24⟩ := m23.put 223 (by decide) [115, 115] (by decide) (by decide)
  have b24 := b23.grown g24 (Nat.le_of_lt m23.lt) (fun k e => by cases e; exact Nat.le_refl _)
  clear m23 b23 g24
  obtain ⟨w25, r25, m25, g25⟩ := m24.put 249 (by decide) [117] (by decide) (by decide)
  have b25 := b24.grown g25 (Nat.le_of_lt m24.lt) (fun k e => by cases e; exact Nat.le_refl _)
  clear m24 b24 g25
  obtain ⟨w26, r26, m26, g26⟩ := m25.put 250 (by decide) [117] (by decide) (by decide)
  have b26 := b25.grown g26 (Nat.le_of_lt m25.lt) (fun k e => by cases e; exact Nat.le_refl _)
  clear m25 b25 g26
  obtain ⟨w27, r27, m27, g27⟩ := m26.put 251 (by decide) [117] (by decide) (by decide)
  have b27 := b26.grown g27 (Nat.le_of_lt m26.lt) (fun k e => by cases e; exact Nat.le_refl _)
  clear m26 b26 g27
  obtain ⟨w28, r28, m28, g28⟩ := m27.put 252 (by decide) [117, 101] (by decide) (by decide)
  have b28 := b27.grown g28 (Nat.le_of_lt m27.lt) (fun k e => by cases e; exact Nat.le_refl _)
  clear m27 b27 g28
  obtain ⟨w29, r29, m29, g29⟩ := m28.put 253 (by decide) [121] (by decide) (by decide)
  have b29 := b28.grown g29 (Nat.le_of_lt m28.lt) (fun k e => by cases e; exact Nat.le_refl _)
  clear m28 b28 g29
  obtain ⟨w30, r30, m30, g30⟩ := m29.put 255 (by decide) [121] (by decide) (by decide)
  have b30 := b29.grown g30 (Nat.le_of_lt m29.lt) (fun k e => by cases e; exact Nat.le_refl _)
  clear m29 b29 g30
  obtain ⟨w31, r31, m31, g31⟩ := m30.put 240 (by decide) [32] (by decide) (by decide)
  have b31 := b30.grown g31 (Nat.le_of_lt m30.lt) (fun k e => by cases e; exact Nat.le_refl _)
  clear m30 b30 g31
  obtain ⟨w32, r32, m32, g32⟩ := m31.put 247 (by decide) [32] (by decide) (by decide)
  have b32 := b31.grown g32 (Nat.le_of_lt m31.lt) (fun k e => by cases e; exact Nat.le_refl _)
  clear m31 b31 g32
  obtain ⟨w33, r33, m33, g33⟩ := m32.put 254 (by decide) [32] (by decide) (by decide)
  have b33 := b32.grown g33 (Nat.le_of_lt m32.lt) (fun k e => by cases e; exact Nat.le_refl _)
  clear m32 b32 g33
  have HM : Hid (Letters w33 g ∧ Below g w w33) := ⟨m33, b33⟩
  clear m33 b33
  rw [hg]
  go_enter Tryd.func36, Tryd.ntmps36
  go_wp2_with fail
  go_ret
  exact ⟨rfl, HM.out.1, HM.out.2⟩
end Go.Proofs.YtmegmgcfnihhiaaDoor
