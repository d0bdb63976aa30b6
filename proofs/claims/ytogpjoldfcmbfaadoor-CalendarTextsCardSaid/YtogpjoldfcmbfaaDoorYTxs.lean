
/- The walk of CalendarTexts. -/
import Derived.Test.YtogpjoldfcmbfaaDoorYLaw
import Derived.Test.YtogpjoldfcmbfaaDoorYPaq
import Derived.Test.YtogpjoldfcmbfaaDoorKSpo
namespace Go.Proofs.YtogpjoldfcmbfaaDoor
open Go.RowKit Go.Sort Go.Shelf
open Cal
set_option linter.unusedVariables false

/-- Block g holds the strings l. -/
def LitS (w : World) (g : Nat) (l : List ByteArray) : Prop := g < w.heap.size ∧ ∀ k, k < l.length → w.cell? ⟨g, k, none⟩ = some (.string (l.getD k ⟨#[]⟩))
theorem LitS.below {w w' : World} {g : Nat} {l : List ByteArray} (h : LitS w g l) (b : Below w.heap.size w w') : LitS w' g l :=
  ⟨Nat.lt_of_lt_of_le h.1 b.size, fun k hk => by rw [b.cell h.1]; exact h.2 k hk⟩
theorem lit7 (w : World) (a b c d e f g : ByteArray) (t : TypeId) : LitS (w.alloc (.cells #[.string a, .string b, .string c, .string d, .string e, .string f, .string g] t)) w.heap.size [a, b, c, d, e, f, g] :=
  ⟨by simp, fun k hk => by
    have : k = 0 ∨ k = 1 ∨ k = 2 ∨ k = 3 ∨ k = 4 ∨ k = 5 ∨ k = 6 := by simp at hk; omega
    rcases this with rfl | rfl | rfl | rfl | rfl | rfl | rfl <;> (rw [World.cell?_alloc_at _ _ _ _ (by simp)]; rfl)⟩
theorem text_short (n : Int) : (⟨(textL n).toArray⟩ : ByteArray).size ≤ 10 := by
  rw [str_size]
  cases h : dayB n
  · unfold textL; rw [h]; simp
  · rw [(text_back h).2.2]; omega

set_option maxRecDepth 100000 in
set_option maxHeartbeats 8000000 in
theorem calendarTexts_walk (n : Int) (s : ByteArray) (at' by' : Int) (w : World) (hw : Txp w) (wn : (Lit.int .i64 n).wf = true) (hs : s.size ≤ 140737488355328) (wa : (Lit.int .i64 at').wf = true) (wb : (Lit.int .i64 by').wf = true) :
    Calls Tryd.prog 4 #[.int .i64 n, .string s, .int .i64 at', .int .i64 by'] w fun e w' => e = .returned (.bool true) ∧ Below w.heap.size w w' := by
  obtain ⟨n1, n1a, n1b, _, N1⟩ := mod_q n 3652059 (by omega) (by omega)
  have HW := Lib.hid hw
  have HAW : Hid (∀ w, Txp w → Calls Tryd.prog 16 #[] w fun e w' => e = .returned (.bool true) ∧ w = w') := fun w hw => awake10_any w hw.1.1
  clear hw wn wa wb
  by_cases hlong : 50 < s.size
  · go_enter Tryd.func4, Tryd.ntmps4
    go_wp2_with fail
    refine (HAW.out w HW.out).mono ?_
    rintro e w' ⟨rfl, rfl⟩
    go_wp2
    go_ret
    exact ⟨rfl, Below.refl _ _⟩
  · go_enter Tryd.func4, Tryd.ntmps4
    go_wp2_with fail
    refine (N1.out _).mono ?_
    rintro e w' ⟨rfl, rfl⟩
    go_wp2
    have HL1 := Lib.hid (lit2 w n n1 3)
    have HB1 := Lib.hid (al_below w (.cells #[.int .i64 n, .int .i64 n1] 3))
    obtain ⟨g, hg⟩ : ∃ g, w.heap.size = g := ⟨_, rfl⟩
    have HG := Lib.hid hg
    have HW1 := Lib.hid (HW.out.below HB1.out)
    rw [hg] at HL1 HB1 ⊢
    clear hg
    generalize w.alloc (.cells #[.int .i64 n, .int .i64 n1] 3) = w1 at *
    go_loopw [30] (fun s wr => ∃ k : Nat, k ≤ 2 ∧ s = .int .i64 k ∧ Hid (Below g w wr ∧ LitI wr g [n, n1] ∧ Txp wr)) (fun s _ => 2 - (intOf s).toNat)
    case atStart => exact ⟨0, by omega, rfl, HB1.out, HL1.out, HW1.out⟩
    case round =>
      obtain ⟨k, hk, rfl, hr⟩ := hrel
      have HR := Lib.hid hr
      clear hr
      obtain ⟨wo, hwo⟩ : ∃ wo, wo = wr := ⟨_, rfl⟩
      subst hwo
      by_cases hlt : k < 2
      · have hc := HR.out.out.2.1.2 k hlt
        generalize [n, n1].getD k 0 = K at hc
        have A1 := Lib.hid (text_any K wo HR.out.out.2.2.1)
        have A2 : Hid (∀ w, Calls Tryd.prog 18 #[.int .i64 K] w fun e w' => e = .returned (.tuple #[.string ⟨(textL K).toArray⟩, .int .i64 (dE 2 K)]) ∧ w = w') := fun w => rtext_any K w
        have hz := text_short K
        generalize (⟨(textL K).toArray⟩ : ByteArray) = S at *
        generalize dE 2 K = e1 at *
        obtain ⟨r, _, hsp⟩ := spoil_val S at' by' (by omega)
        have HSP := Lib.hid hsp
        have q1 := neq_self e1
        clear hsp
        go_wp2_with fail
        refine A1.out.mono ?_
        rintro e w2 ⟨rfl, hb⟩
        have HB2 := Lib.hid (HR.out.out.1.trans (hb.mono (by rw [← HG.out]; exact HR.out.out.1.size)))
        have HL2 := Lib.hid (HR.out.out.2.1.below hb)
        have HW2 := Lib.hid (HR.out.out.2.2.below hb)
        clear hb hc A1
        go_wp2_with fail
        refine (A2.out w2).mono ?_
        rintro e w' ⟨rfl, rfl⟩
        go_wp2_with fail
        refine (HSP.out w2).mono ?_
        rintro e w3 ⟨rfl, hb⟩
        have HB3 := Lib.hid (HB2.out.trans (hb.mono (by rw [← HG.out]; exact HB2.out.size)))
        have HL3 := Lib.hid (HL2.out.below hb)
        have HW3 := Lib.hid (HW2.out.below hb)
        clear hb HB2 HL2 HW2
        go_wp2
        have HLA := Lib.hid (lit7 w3 S s r (S ++ ⟨#[48]⟩) ⟨#[48, 48, 48, 48, 45, 48, 49, 45, 48, 49]⟩ ⟨#[50, 48, 48, 48, 45, 48, 50, 45, 51, 48]⟩ ⟨#[50, 48, 48, 48, 45, 49, 51, 45, 48, 49]⟩ 9)
        have HBA := Lib.hid (al_below w3 (.cells #[.string S, .string s, .string r, .string (S ++ ⟨#[48]⟩), .string ⟨#[48, 48, 48, 48, 45, 48, 49, 45, 48, 49]⟩, .string ⟨#[50, 48, 48, 48, 45, 48, 50, 45, 51, 48]⟩, .string ⟨#[50, 48, 48, 48, 45, 49, 51, 45, 48, 49]⟩] 9))
        obtain ⟨ga, hga⟩ : ∃ g, w3.heap.size = g := ⟨_, rfl⟩
        have HGA := Lib.hid hga
        have HWA := Lib.hid (HW3.out.below HBA.out)
        have HZA := Lib.hid HB3.out.size
        rw [hga] at HLA HBA ⊢
        clear hga
        generalize w3.alloc (.cells #[.string S, .string s, .string r, .string (S ++ ⟨#[48]⟩), .string ⟨#[48, 48, 48, 48, 45, 48, 49, 45, 48, 49]⟩, .string ⟨#[50, 48, 48, 48, 45, 48, 50, 45, 51, 48]⟩, .string ⟨#[50, 48, 48, 48, 45, 49, 51, 45, 48, 49]⟩] 9) = wa at *
        have HLN : Hid (([S, s, r, S ++ ⟨#[48]⟩, ⟨#[48, 48, 48, 48, 45, 48, 49, 45, 48, 49]⟩, ⟨#[50, 48, 48, 48, 45, 48, 50, 45, 51, 48]⟩, ⟨#[50, 48, 48, 48, 45, 49, 51, 45, 48, 49]⟩] : List ByteArray).length = 7) := rfl
        generalize [S, s, r, S ++ ⟨#[48]⟩, ⟨#[48, 48, 48, 48, 45, 48, 49, 45, 48, 49]⟩, ⟨#[50, 48, 48, 48, 45, 48, 50, 45, 51, 48]⟩, ⟨#[50, 48, 48, 48, 45, 49, 51, 45, 48, 49]⟩] = LL at *
        go_loopw [62] (fun s wr => ∃ k : Nat, k ≤ 7 ∧ s = .int .i64 k ∧ Hid (Below ga w3 wr ∧ LitS wr ga LL ∧ Txp wr)) (fun s _ => 7 - (intOf s).toNat)
        case atStart => exact ⟨0, by omega, rfl, HBA.out, HLA.out, HWA.out⟩
        case round =>
          obtain ⟨j, hj, rfl, hr⟩ := hrel
          have HRB := Lib.hid hr
          clear hr
          obtain ⟨wi, hwi⟩ : ∃ wo, wo = wr := ⟨_, rfl⟩
          subst hwi
          by_cases hltj : j < 7
          · have hc := HRB.out.out.2.1.2 j (by rw [HLN.out]; exact hltj)
            generalize LL.getD j ⟨#[]⟩ = X at hc
            have P1 := Lib.hid (parse_any X wi HRB.out.out.2.2)
            have P2 : Hid (∀ w, Calls Tryd.prog 21 #[.string X] w fun e w' => e = .returned (.tuple #[.int .i64 (parV X.data.toList), .int .i64 (parE X.data.toList)]) ∧ Below w.heap.size w w') := fun w => rparse_any X w
            generalize parV X.data.toList = v at *
            generalize parE X.data.toList = e2 at *
            have q2 := neq_self v
            have q3 := neq_self e2
            go_wp2_with fail
            refine P1.out.mono ?_
            rintro e w4 ⟨rfl, hb⟩
            have HB4 := Lib.hid (HRB.out.out.1.trans (hb.mono (by rw [← HGA.out]; exact HRB.out.out.1.size)))
            have HL4 := Lib.hid (HRB.out.out.2.1.below hb)
            have HW4 := Lib.hid (HRB.out.out.2.2.below hb)
            clear hb hc P1
            go_wp2_with fail
            refine (P2.out w4).mono ?_
            rintro e w5 ⟨rfl, hb⟩
            have HB5 := Lib.hid (HB4.out.trans (hb.mono (by rw [← HGA.out]; exact HB4.out.size)))
            have HL5 := Lib.hid (HL4.out.below hb)
            have HW5 := Lib.hid (HW4.out.below hb)
            clear hb P2 HB4 HL4 HW4
            go_wp2
            go_roundw
            case rel => exact ⟨j + 1, by omega, by go_num, HB5.out, HL5.out, HW5.out⟩
            case measure => simp [intOf]; omega
          · obtain rfl : j = 7 := by omega
            go_wp2
            go_roundw
            case rel => exact ⟨k + 1, by omega, by go_num, HB3.out.trans (HRB.out.out.1.mono (by rw [← HG.out, ← HGA.out]; exact HZA.out)), HL3.out.below (by rw [HGA.out]; exact HRB.out.out.1), HRB.out.out.2.2⟩
            case measure => simp [intOf]; omega
      · obtain rfl : k = 2 := by omega
        go_wp2_with fail
        refine (HAW.out wo HR.out.out.2.2).mono ?_
        rintro e w' ⟨rfl, rfl⟩
        go_wp2
        go_ret
        exact ⟨rfl, by rw [HG.out]; exact HR.out.out.1⟩
end Go.Proofs.YtogpjoldfcmbfaaDoor
