/-
  A request cut short, and one with a byte more, is none.
-/
import Derived.Test.YtgndledehlilkabDoP
namespace Go.Proofs.Ytgndledehlilkab
open Go.RowKit

theorem fB_take {S : List Int} {k i : Nat} (h : i < k) : fB (S.take k) i = fB S i := by
  unfold fB
  rw [List.getD_eq_getElem?_getD, List.getD_eq_getElem?_getD, List.getElem?_take_of_lt h]
theorem fB_app {S : List Int} {c : Int} {i : Nat} (h : i < S.length) : fB (S ++ [c]) i = fB S i := by
  unfold fB
  rw [List.getD_eq_getElem?_getD, List.getD_eq_getElem?_getD, List.getElem?_append_left h]
/-- How long a request is, by its number and its fourth byte. -/
def sizeN (x y : Int) : Int :=
  if x = 1 ∨ x = 2 then 2 else if x = 11 ∨ x = 12 then 3 else if x = 3 then 4 else if x = 4 ∨ x = 7 ∨ x = 9 then 5 else if x = 6 then 6 else if x = 5 ∨ x = 10 then 7 else if x = 8 then 4 + 6 * y else -1
theorem sizeB_N (S : List Int) : sizeB S = sizeN (fB S 0) (fB S 3) := rfl
theorem sizeN_other {x : Int} (h : x ≠ 8) (y z : Int) : sizeN x y = sizeN x z := by
  unfold sizeN
  repeat' split
  all_goals first | rfl | (exfalso; omega)
theorem sizeN_eight (y : Int) : sizeN 8 y = 4 + 6 * y := rfl
theorem isReq_size {S : List Int} (h : isReq S = true) : (S.length : Int) = sizeN (fB S 0) (fB S 3) := by
  unfold isReq at h
  rw [Bool.and_eq_true, decide_eq_true_eq] at h
  exact h.1
theorem notReq {S : List Int} (h : (S.length : Int) ≠ sizeN (fB S 0) (fB S 3)) : isReq S = false := by
  unfold isReq
  rw [decide_eq_false (by rw [sizeB_N]; exact h)]
  rfl
theorem cut_none {S : List Int} (hS : okBytes S) (h : isReq S = true) {k : Nat} (hk : k < S.length) : isReq (S.take k) = false := by
  have hsz := isReq_size h
  have hl : (S.take k).length = k := by rw [List.length_take]; omega
  refine notReq ?_
  rw [hl]
  rcases Nat.eq_zero_or_pos k with h0 | h0
  · subst h0
    have e : fB (S.take 0) 0 = 0 := by simp [fB]
    rw [e]
    unfold sizeN
    simp
  · rw [fB_take h0]
    have h3 := fB_ok hS 3
    by_cases h8 : fB S 0 = 8
    · rw [h8, sizeN_eight]
      rw [h8, sizeN_eight] at hsz
      rcases Nat.lt_or_ge 3 k with hk3 | hk3
      · rw [fB_take hk3]; omega
      · rw [fB_out (by rw [hl]; omega)]; omega
    · rw [sizeN_other h8 _ (fB S 3)]
      omega
theorem more_none {S : List Int} (hS : okBytes S) (h : isReq S = true) (c : Int) : isReq (S ++ [c]) = false := by
  have hsz := isReq_size h
  have h3 := fB_ok hS 3
  refine notReq ?_
  rw [List.length_append]
  have hpos : 0 < S.length := by
    rcases Nat.eq_zero_or_pos S.length with h0 | h0
    · rw [List.eq_nil_of_length_eq_zero h0] at h
      exact absurd h (by decide)
    · exact h0
  rw [fB_app hpos]
  by_cases h8 : fB S 0 = 8
  · rw [h8, sizeN_eight] at hsz ⊢
    rw [fB_app (by omega)]
    simp
    omega
  · rw [sizeN_other h8 _ (fB S 3)]
    simp
    omega
end Go.Proofs.Ytgndledehlilkab
