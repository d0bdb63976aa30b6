
/- The days of texts: Parse, the document's. -/
import Derived.Test.YtogpjoldfcmbfaaDoorYPar
namespace Go.Proofs.YtogpjoldfcmbfaaDoor
open Go.RowKit Go.Sort Go.Shelf
open Cal
set_option linter.unusedVariables false
set_option linter.unusedSimpArgs false

theorem ext_list (s : ByteArray) (a b : Nat) : (s.extract a b).data.toList = (s.data.toList.drop a).take (b - a) := by
  rw [ByteArray.data_extract, Array.toList_extract]
theorem size_list (s : ByteArray) : s.data.toList.length = s.size := rfl

/-- What a text of ten bytes is cut into. -/
theorem cuts (s : ByteArray) (h : s.size = 10) : ∃ a b c : ByteArray, a.size = 4 ∧ b.size = 2 ∧ c.size = 2 ∧ a.data.toList = s.data.toList.take 4 ∧ b.data.toList = (s.data.toList.drop 5).take 2 ∧ c.data.toList = s.data.toList.drop 8 ∧
    (∀ W, (Instr.slice 9 (.string s) none (some (.int .i64 4)) none).run Tryd.prog W = .ok (.string a) W) ∧
    (∀ W, (Instr.slice 9 (.string s) (some (.int .i64 5)) (some (.int .i64 7)) none).run Tryd.prog W = .ok (.string b) W) ∧
    (∀ W, (Instr.slice 9 (.string s) (some (.int .i64 8)) none none).run Tryd.prog W = .ok (.string c) W) := by
  have hl : s.data.toList.length = 10 := h
  have e1 := ext_list s 0 4
  have e2 := ext_list s 5 7
  have e3 := ext_list s 8 s.size
  refine ⟨s.extract 0 4, s.extract 5 7, s.extract 8 s.size, ?_, ?_, ?_, ?_, ?_, ?_, fun W => slice_to s 4 (by omega) W, fun W => slice_str s 5 7 (by omega) (by omega) W, fun W => slice_from s 8 (by omega) W⟩
  · rw [← size_list, e1]; simp; omega
  · rw [← size_list, e2]; simp; omega
  · rw [← size_list, e3]; simp; omega
  · rw [e1]; simp
  · rw [e2]
  · rw [e3, h, List.take_of_length_le (by simp; omega)]

/-- Which texts have the form of a day. -/
theorem form (s : ByteArray) : (s.size ≠ 10 ∧ okT s.data.toList = false) ∨ (s.size = 10 ∧ ∃ c4 c7 : Nat, c4 < 256 ∧ c7 < 256 ∧ (∀ W, (Instr.index 9 (.string s) (.int .i64 4)).run Tryd.prog W = .ok (.int .u8 (c4 : Int)) W) ∧ (∀ W, (Instr.index 9 (.string s) (.int .i64 7)).run Tryd.prog W = .ok (.int .u8 (c7 : Int)) W) ∧
    ((c4 ≠ 45 ∧ okT s.data.toList = false) ∨ (c4 = 45 ∧ c7 ≠ 45 ∧ okT s.data.toList = false) ∨ (c4 = 45 ∧ c7 = 45 ∧ okT s.data.toList = true))) := by
  by_cases h : s.size = 10
  · right
    have hl : s.data.toList.length = 10 := h
    refine ⟨h, (s.data.toList.getD 4 0).toNat, (s.data.toList.getD 7 0).toNat, UInt8.toNat_lt _, UInt8.toNat_lt _, fun W => index_chr s 4 (by omega) W, fun W => index_chr s 7 (by omega) W, ?_⟩
    have k : ∀ c : UInt8, c.toNat = 45 ↔ (c == 45) = true := fun c => by
      rw [beq_iff_eq]
      constructor
      · intro e; exact UInt8.toNat_inj.1 e
      · rintro rfl; rfl
    unfold okT
    rw [decide_eq_true hl]
    by_cases h4 : (s.data.toList.getD 4 0).toNat = 45
    · by_cases h7 : (s.data.toList.getD 7 0).toNat = 45
      · right; right; exact ⟨h4, h7, by rw [(k _).1 h4, (k _).1 h7]; rfl⟩
      · right; left; refine ⟨h4, h7, ?_⟩
        have : (s.data.toList.getD 7 0 == 45) = false := by rw [Bool.eq_false_iff]; exact fun hc => h7 ((k _).2 hc)
        rw [this]; simp
    · left; refine ⟨h4, ?_⟩
      have : (s.data.toList.getD 4 0 == 45) = false := by rw [Bool.eq_false_iff]; exact fun hc => h4 ((k _).2 hc)
      rw [this]; simp
  · left
    refine ⟨h, ?_⟩
    unfold okT
    rw [decide_eq_false (show ¬ s.data.toList.length = 10 from h)]; simp

theorem par_bad {l : List UInt8} (h : okT l = false) : parV l = 0 ∧ parE l = 10 := by
  unfold parV parE; rw [h]; exact ⟨rfl, rfl⟩
theorem par_good {l : List UInt8} (h : okT l = true) : parV l = dayV (numL (l.take 4)) (numL ((l.drop 5).take 2)) (numL (l.drop 8)) ∧ parE l = dayE 10 (numL (l.take 4)) (numL ((l.drop 5).take 2)) (numL (l.drop 8)) := by
  unfold parV parE; rw [if_pos h, if_pos h]; exact ⟨rfl, rfl⟩

set_option maxHeartbeats 2000000 in
theorem rparse_any (s : ByteArray) (w : World) :
    Calls Tryd.prog 21 #[.string s] w fun e w' => e = .returned (.tuple #[.int .i64 (parV s.data.toList), .int .i64 (parE s.data.toList)]) ∧ Below w.heap.size w w' := by
  rcases form s with ⟨h, ho⟩ | ⟨h, c4, c7, b4, b7, hix4, hix7, hx⟩
  · obtain ⟨e1, e2⟩ := par_bad ho
    rw [e1, e2]
    have h' : ((s.size : Int) != 10) = true := by simp only [bne_iff_ne]; omega
    have h'' : ((s.size : Int) == 10) = false := by simp only [beq_eq_false_iff_ne]; omega
    clear ho e1 e2 h
    go_enter Tryd.func21, Tryd.ntmps21
    go_wp2
    go_ret2
    exact ⟨rfl, Below.refl _ _⟩
  · have hz : ((s.size : Int) != 10) = false := by simp only [bne_eq_false_iff_eq]; omega
    rcases hx with ⟨hc, ho⟩ | ⟨hc, hc2, ho⟩ | ⟨hc, hc2, ho⟩
    · obtain ⟨e1, e2⟩ := par_bad ho
      rw [e1, e2]
      have h' : ((c4 : Int) != 45) = true := by simp only [bne_iff_ne]; omega
      have h'' : ((c4 : Int) == 45) = false := by simp only [beq_eq_false_iff_ne]; omega
      clear ho e1 e2 hc
      go_enter Tryd.func21, Tryd.ntmps21
      go_wp2
      go_ret2
      exact ⟨rfl, Below.refl _ _⟩
    · obtain ⟨e1, e2⟩ := par_bad ho
      rw [e1, e2]
      subst hc
      have h' : ((c7 : Int) != 45) = true := by simp only [bne_iff_ne]; omega
      have h'' : ((c7 : Int) == 45) = false := by simp only [beq_eq_false_iff_ne]; omega
      clear ho e1 e2 hc2
      go_enter Tryd.func21, Tryd.ntmps21
      go_wp2
      go_ret2
      exact ⟨rfl, Below.refl _ _⟩
    · obtain ⟨e1, e2⟩ := par_good ho
      rw [e1, e2]
      subst hc hc2
      obtain ⟨a, b, c, za, zb, zc, la, lb, lc, hsa, hsb, hsc⟩ := cuts s h
      rw [← la, ← lb, ← lc]
      have NA : Hid (∀ w, Calls Tryd.prog 34 #[.string a] w fun e w' => e = .returned (.int .i64 (numL a.data.toList)) ∧ w = w') := fun w => rnumber_any a w (by omega)
      have NB : Hid (∀ w, Calls Tryd.prog 34 #[.string b] w fun e w' => e = .returned (.int .i64 (numL b.data.toList)) ∧ w = w') := fun w => rnumber_any b w (by omega)
      have NC : Hid (∀ w, Calls Tryd.prog 34 #[.string c] w fun e w' => e = .returned (.int .i64 (numL c.data.toList)) ∧ w = w') := fun w => rnumber_any c w (by omega)
      generalize numL a.data.toList = A at *
      generalize numL b.data.toList = B at *
      generalize numL c.data.toList = C at *
      have ND : Hid (∀ w, Calls Tryd.prog 11 #[.int .i64 A, .int .i64 B, .int .i64 C] w fun e w' => e = .returned (.tuple #[.int .i64 (dayV A B C), .int .i64 (dayE 10 A B C)]) ∧ w = w') := fun w => rday_any A B C w
      generalize dayV A B C = V at *
      generalize dayE 10 A B C = E at *
      clear ho e1 e2 za zb zc la lb lc
      go_enter Tryd.func21, Tryd.ntmps21
      go_wp2
      go_quiet ((first | (go_at_call 34; (with_reducible exact quiet_left (NA.out _))) | (go_at_call 34; (with_reducible exact quiet_left (NB.out _))) | (go_at_call 34; (with_reducible exact quiet_left (NC.out _))) | (go_at_call 11; (with_reducible exact quiet_left (ND.out _)))))
      all_goals go_wp2
      all_goals go_ret2
      all_goals exact ⟨rfl, ⟨rfl, rfl, rfl, Nat.le_refl _, fun _ _ => rfl⟩⟩
end Go.Proofs.YtogpjoldfcmbfaaDoor
