
/- Mark of both sides: the sum of a share's text. -/
import Derived.Test.YtpgbjnenllfmlaaGreatDoorSSum
import Derived.Test.YtpgbjnenllfmlaaGreatDoorRSum
import Derived.Test.YtpgbjnenllfmlaaGreatDoorCPts
import Derived.Test.YtpgbjnenllfmlaaGreatDoorQOnE
import Derived.Deep.RegionHeld3
import Derived.BigQuiet
import Derived.Lib.QuietBelow
namespace Go.Proofs.YtpgbjnenllfmlaaGreatDoor
open Go.RowKit Go.Sort
set_option linter.unusedVariables false

/-- The text of a share. -/
def shareL (h : Int) (l : List Int) : List UInt8 := Vi.grp (Vi.zz h) ++ Vi.grp (Vi.zz (l.length : Int)) ++ gnums l
def markB (h : Int) (l : List Int) : ByteArray := ⟨(Sha.sum (shareL h l)).toArray⟩
theorem shareL_len {h : Int} {l : List Int} (hh : in64 h) (hx : ∀ x ∈ l, in64 x) (hl : l.length ≤ 100000) : (shareL h l).length ≤ 1000020 := by
  have h1 := Vi.grp_len10 (Vi.zz_lt h hh)
  have h2 := Vi.grp_len10 (Vi.zz_lt (l.length : Int) (by omega))
  have h3 := gnums_len l hx
  unfold shareL
  simp only [List.length_append]
  omega
theorem share_cells (w : World) (h : Int) (v : Value) : (w.alloc (.cells #[.int .i64 h, v] 42)).cell? ⟨w.heap.size, 0, none⟩ = some (.int .i64 h) ∧ (w.alloc (.cells #[.int .i64 h, v] 42)).cell? ⟨w.heap.size, 1, none⟩ = some v := by
  have k := shAt_new w h v 42
  generalize w.alloc (.cells #[.int .i64 h, v] 42) = W at *
  obtain ⟨t, k⟩ := k
  exact ⟨by simp [World.cell?, k], by simp [World.cell?, k]⟩


set_option maxRecDepth 100000 in
set_option maxHeartbeats 4000000 in
theorem mark_any (h : Int) (a : Option Addr) (n c : Nat) (l : List Int) (w : World) (ht : Tabs w) (hs : Ints w (.slice a n c) l) (hn : n = l.length) (hl : n ≤ 100000) (hh : in64 h) (hx : ∀ x ∈ l, in64 x) :
    Calls Tryz.prog 19 #[.agg #[.int .i64 h, .slice a n c]] w fun e w' => e = .returned (.string (markB h l)) ∧ Below w.heap.size w w' := by
  have hsz := shareL_len hh hx (by omega)
  obtain ⟨w1, hw1⟩ : ∃ w1, w.alloc (.cells #[.int .i64 h, .slice a n c] 42) = w1 := ⟨_, rfl⟩
  obtain ⟨p0, p1⟩ := share_cells w h (.slice a n c)
  rw [hw1] at p0 p1
  have hb1 : Below w.heap.size w w1 := by rw [← hw1]; exact (Below.refl _ _).alloc (Nat.le_refl _) _
  have p0 := cell_regrown p0
  have p1 := cell_regrown p1
  obtain ⟨s1, hs1⟩ : ∃ s : ByteArray, (⟨((⟨#[]⟩ : ByteArray).data.toList ++ Vi.grp (Vi.zz h)).toArray⟩ : ByteArray) = s := ⟨_, rfl⟩
  have hd1 : s1.data.toList = Vi.grp (Vi.zz h) := by rw [← hs1]; simp
  obtain ⟨s2, hs2⟩ : ∃ s : ByteArray, (⟨(s1.data.toList ++ Vi.grp (Vi.zz (n : Int)) ++ gnums l).toArray⟩ : ByteArray) = s := ⟨_, rfl⟩
  have hd2 : s2.data.toList = shareL h l := by rw [← hs2, hd1, hn]; rfl
  have z1 := Vi.grp_len10 (Vi.zz_lt h hh)
  have z2 : s1.size ≤ 10 := by rw [Lib.size_eq, hd1]; exact z1
  have z3 : s2.size ≤ 1000020 := by rw [Lib.size_eq, hd2]; exact hsz
  have cA : ∀ d os, Calls Tryz.prog 46 #[.string ⟨#[]⟩, .int .i64 h] (grow (redrawn w1 d) os) fun e w'' => e = .returned (.string s1) ∧ ∃ p : Regrown, w'' = grow (redrawn w1 p.d) p.os := fun d os => by
    have k := putInt_any ⟨#[]⟩ h (grow (redrawn w1 d) os) (by rw [Lib.size_eq]; simp) hh
    rw [hs1] at k
    exact Calls.regrown_of k
  have cB : ∀ d os, Calls Tryz.prog 45 #[.string s1, .slice a n c] (grow (redrawn w1 d) os) fun e w'' => e = .returned (.string s2) ∧ ∃ p : Regrown, w'' = grow (redrawn w1 p.d) p.os := fun d os => by
    have k := putInts_any s1 a n c l (grow (redrawn w1 d) os) ((hs.below (Nat.le_refl _) hb1).below (Nat.le_refl _) (below_regrown w1 d os)) hn (by omega) hx (by omega)
    rw [hs2] at k
    exact Calls.regrown_of k
  have cC : ∀ d os, Calls Tryz.prog 44 #[.string s2] (grow (redrawn w1 d) os) fun e w'' => e = .returned (.string (markB h l)) ∧ ∃ p : Regrown, w'' = grow (redrawn w1 p.d) p.os := fun d os => by
    have k := sum_any s2 (grow (redrawn w1 d) os) ((ht.below hb1 ht.size).below (below_regrown w1 d os) (Nat.lt_of_lt_of_le ht.size hb1.size)) (by omega)
    rw [hd2] at k
    exact Calls.regrown_of k
  have HBF := Lib.hid hb1
  generalize markB h l = r at *
  obtain ⟨g, hg⟩ : ∃ g, w.heap.size = g := ⟨_, rfl⟩
  have HGG := Lib.hid hg
  rw [hg] at p0 p1 HBF ⊢
  clear hs hb1 hd1 hd2 hs1 hs2 hsz z1 z2 z3 hx hn hl hh ht
  go_enter Tryz.func19, Tryz.ntmps19
  go_wp2_with fail
  try rw [hw1]
  try rw [hg]
  refine wp_region_quiet_below (by kernel_rfl) (by kernel_rfl) ?_
  repeat (go_big_quiet_step (first | (with_reducible exact cA _ _) | (with_reducible exact cB _ _) | (with_reducible exact cC _ _)))
  refine wpQuiet_nil ?_
  intro _ hw'
  obtain ⟨⟨dq, osq⟩, hw''⟩ := hw'
  subst hw''
  have hbq := below_regrown w1 dq osq
  have HBQ := Lib.hid (HBF.out.trans (hbq.mono (by have q1 := HBF.out.size; have q2 := HGG.out; omega)))
  clear hbq cA cB cC p0 p1
  generalize grow (redrawn w1 dq) osq = W at *
  go_wp2
  go_ret
  exact ⟨rfl, HBQ.out⟩

set_option maxRecDepth 100000 in
set_option maxHeartbeats 4000000 in
theorem ref7_mark_any (h : Int) (a : Option Addr) (n c : Nat) (l : List Int) (w : World) (hs : Ints w (.slice a n c) l) (hn : n = l.length) (hl : n ≤ 100000) (hh : in64 h) (hx : ∀ x ∈ l, in64 x) :
    Calls Tryz.prog 14 #[.agg #[.int .i64 h, .slice a n c]] w fun e w' => e = .returned (.string (markB h l)) ∧ Below w.heap.size w w' := by
  have hsz := shareL_len hh hx (by omega)
  obtain ⟨w1, hw1⟩ : ∃ w1, w.alloc (.cells #[.int .i64 h, .slice a n c] 42) = w1 := ⟨_, rfl⟩
  obtain ⟨p0, p1⟩ := share_cells w h (.slice a n c)
  rw [hw1] at p0 p1
  have hb1 : Below w.heap.size w w1 := by rw [← hw1]; exact (Below.refl _ _).alloc (Nat.le_refl _) _
  have p0 := cell_regrown p0
  have p1 := cell_regrown p1
  obtain ⟨s1, hs1⟩ : ∃ s : ByteArray, (⟨((⟨#[]⟩ : ByteArray).data.toList ++ Vi.grp (Vi.zz h)).toArray⟩ : ByteArray) = s := ⟨_, rfl⟩
  have hd1 : s1.data.toList = Vi.grp (Vi.zz h) := by rw [← hs1]; simp
  obtain ⟨s2, hs2⟩ : ∃ s : ByteArray, (⟨(s1.data.toList ++ Vi.grp (Vi.zz (n : Int)) ++ gnums l).toArray⟩ : ByteArray) = s := ⟨_, rfl⟩
  have hd2 : s2.data.toList = shareL h l := by rw [← hs2, hd1, hn]; rfl
  have z1 := Vi.grp_len10 (Vi.zz_lt h hh)
  have z2 : s1.size ≤ 10 := by rw [Lib.size_eq, hd1]; exact z1
  have z3 : s2.size ≤ 1000020 := by rw [Lib.size_eq, hd2]; exact hsz
  have cA : ∀ d os, Calls Tryz.prog 31 #[.string ⟨#[]⟩, .int .i64 h] (grow (redrawn w1 d) os) fun e w'' => e = .returned (.string s1) ∧ ∃ p : Regrown, w'' = grow (redrawn w1 p.d) p.os := fun d os => by
    have k := refPutInt_any ⟨#[]⟩ h (grow (redrawn w1 d) os) (by rw [Lib.size_eq]; simp) hh
    rw [hs1] at k
    exact Calls.regrown_of k
  have cB : ∀ d os, Calls Tryz.prog 30 #[.string s1, .slice a n c] (grow (redrawn w1 d) os) fun e w'' => e = .returned (.string s2) ∧ ∃ p : Regrown, w'' = grow (redrawn w1 p.d) p.os := fun d os => by
    have k := refPutInts_any s1 a n c l (grow (redrawn w1 d) os) ((hs.below (Nat.le_refl _) hb1).below (Nat.le_refl _) (below_regrown w1 d os)) hn (by omega) hx (by omega)
    rw [hs2] at k
    exact Calls.regrown_of k
  have cC : ∀ d os, Calls Tryz.prog 29 #[.string s2] (grow (redrawn w1 d) os) fun e w'' => e = .returned (.string (markB h l)) ∧ ∃ p : Regrown, w'' = grow (redrawn w1 p.d) p.os := fun d os => by
    have k := refSum_any s2 (grow (redrawn w1 d) os) (by omega)
    rw [hd2] at k
    exact Calls.regrown_of k
  have HBF := Lib.hid hb1
  generalize markB h l = r at *
  obtain ⟨g, hg⟩ : ∃ g, w.heap.size = g := ⟨_, rfl⟩
  have HGG := Lib.hid hg
  rw [hg] at p0 p1 HBF ⊢
  clear hs hb1 hd1 hd2 hs1 hs2 hsz z1 z2 z3 hx hn hl hh 
  go_enter Tryz.func14, Tryz.ntmps14
  go_wp2_with fail
  try rw [hw1]
  try rw [hg]
  refine wp_region_quiet_below (by kernel_rfl) (by kernel_rfl) ?_
  repeat (go_big_quiet_step (first | (with_reducible exact cA _ _) | (with_reducible exact cB _ _) | (with_reducible exact cC _ _)))
  refine wpQuiet_nil ?_
  intro _ hw'
  obtain ⟨⟨dq, osq⟩, hw''⟩ := hw'
  subst hw''
  have hbq := below_regrown w1 dq osq
  have HBQ := Lib.hid (HBF.out.trans (hbq.mono (by have q1 := HBF.out.size; have q2 := HGG.out; omega)))
  clear hbq cA cB cC p0 p1
  generalize grow (redrawn w1 dq) osq = W at *
  go_wp2
  go_ret
  exact ⟨rfl, HBQ.out⟩
end Go.Proofs.YtpgbjnenllfmlaaGreatDoor
