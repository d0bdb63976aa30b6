
/- The value through points does not hang on the order of the points. -/
import Derived.Test.YtcgemfiinmjllaaDoorHXl
namespace Go.Proofs.YtcgemfiinmjllaaDoor
open Go.RowKit Go.Sort
open Num
set_option linter.unusedVariables false

theorem ipv_perm {p : Int} (hp : PrmI p) {Z Z' : List (Int × Int)} (h : Z.Perm Z') (hn : (Z.map (·.1)).Nodup) (he : Els p (Z.map (·.1))) (hy : Els p (Z.map (·.2))) (x : Int) : ipv p (Z.map (·.1)) (Z.map (·.2)) x = ipv p (Z'.map (·.1)) (Z'.map (·.2)) x := by
  have hn' : (Z'.map (·.1)).Nodup := (h.map (·.1)).nodup_iff.1 hn
  have he' : Els p (Z'.map (·.1)) := fun y hm => he y ((h.map (·.1)).mem_iff.2 hm)
  have hll : Z.length = Z'.length := h.length_eq
  rw [ipv_lag p (Z'.map (·.1)) (Z'.map (·.2)) x]
  refine ipv_val hp hn he ?_ (fun j hj => ?_) x
  · have h1 := lag_len p (Z'.map (·.1)) (Z'.map (·.2)) _ (Nat.le_refl _)
    have h2 : (Z'.map (·.1)).length = (Z.map (·.1)).length := by rw [List.length_map, List.length_map, hll]
    exact Nat.le_trans h1 (Nat.le_of_eq h2)
  · rw [List.length_map] at hj
    have hz : Z[j] ∈ Z' := h.mem_iff.1 (List.getElem_mem hj)
    obtain ⟨i, hi, hzi⟩ := List.getElem_of_mem hz
    have e1 : (Z.map (·.1)).getD j 0 = (Z'.map (·.1)).getD i 0 := by simp [List.getD, hj, hi, hzi]
    have e2 : (Z.map (·.2)).getD j 0 = (Z'.map (·.2)).getD i 0 := by simp [List.getD, hj, hi, hzi]
    have hyi : El p ((Z'.map (·.2)).getD i 0) := by
      rw [← e2]
      exact hy _ (by simp only [List.getD_eq_getElem?_getD]; rw [List.getElem?_eq_getElem (by simpa using hj)]; exact List.getElem_mem _)
    have h2 := ipv_at hp hn' he' (j := i) (by simpa using hi) hyi
    rw [ipv_lag] at h2
    rw [e1, e2]
    have h3 : (E (lag p (Z'.map (·.1)) (Z'.map (·.2)) (Z'.map (·.1)).length) ((Z'.map (·.1)).getD i 0)) % p = ((Z'.map (·.2)).getD i 0) % p := by rw [h2, Int.emod_eq_of_lt hyi.1 hyi.2]
    exact Cg.of_mod h3
/-- The document's order of the points: the secret's behind the known ones. -/
theorem ipv_mid {p : Int} (hp : PrmI p) (xs ys fs gs : List Int) (a b : Int) (hl : ys.length = xs.length) (hl2 : gs.length = fs.length) (hn : (a :: (xs ++ fs)).Nodup) (he : Els p (a :: (xs ++ fs))) (hy : Els p (b :: (ys ++ gs))) (x : Int) :
    ipv p (xs ++ [a] ++ fs) (ys ++ [b] ++ gs) x = ipv p (a :: (xs ++ fs)) (b :: (ys ++ gs)) x := by
  have e1 : ∀ (u v : List Int), v.length = u.length → ((u.zip v).map (·.1)) = u := fun u v h => by rw [← List.unzip_fst, List.unzip_zip_left (by omega)]
  have e2 : ∀ (u v : List Int), v.length = u.length → ((u.zip v).map (·.2)) = v := fun u v h => by rw [← List.unzip_snd, List.unzip_zip_right (by omega)]
  have hpm : ((a, b) :: (xs.zip ys ++ fs.zip gs)).Perm (xs.zip ys ++ [(a, b)] ++ fs.zip gs) := by
    have h1 : (xs.zip ys ++ (a, b) :: fs.zip gs).Perm ((a, b) :: (xs.zip ys ++ fs.zip gs)) := List.perm_middle
    rw [List.append_assoc]
    exact h1.symm
  have m1 : ((a, b) :: (xs.zip ys ++ fs.zip gs)).map (·.1) = a :: (xs ++ fs) := by simp only [List.map_cons, List.map_append]; rw [e1 xs ys hl, e1 fs gs hl2]
  have m2 : ((a, b) :: (xs.zip ys ++ fs.zip gs)).map (·.2) = b :: (ys ++ gs) := by simp only [List.map_cons, List.map_append]; rw [e2 xs ys hl, e2 fs gs hl2]
  have m3 : (xs.zip ys ++ [(a, b)] ++ fs.zip gs).map (·.1) = xs ++ [a] ++ fs := by simp only [List.map_cons, List.map_append, List.map_nil]; rw [e1 xs ys hl, e1 fs gs hl2]
  have m4 : (xs.zip ys ++ [(a, b)] ++ fs.zip gs).map (·.2) = ys ++ [b] ++ gs := by simp only [List.map_cons, List.map_append, List.map_nil]; rw [e2 xs ys hl, e2 fs gs hl2]
  have h := ipv_perm hp hpm (by rw [m1]; exact hn) (by rw [m1]; exact he) (by rw [m2]; exact hy) x
  rw [m1, m2, m3, m4] at h
  exact h.symm
end Go.Proofs.YtcgemfiinmjllaaDoor
