/-
  begun, as plain data.
-/
import Derived.Test.YtgndledehlilkabPure
namespace Go.Proofs.Ytgndledehlilkab
open Go.RowKit

/-- The engine with the first i of the tenants. -/
def begT (Q : List Int) (T : Nat → Tok) (i : Nat) : RefS := ⟨64, i, fun j => ⟨j, Q.getD j 0, 0, 0, [], [], false⟩, i, T⟩
def begF (Q : List Int) (i : Nat) : RefS := begT Q (fun j => ⟨j, 15, [], false⟩) i
theorem begT_createS (Q : List Int) {T : Nat → Tok} {i : Nat} (hT : T i = ⟨i, 15, [], false⟩) : createS (begT Q T i) i (Q.getD i 0) = begT Q T (i + 1) := by
  unfold createS begT
  simp only [RefS.mk.injEq, true_and]
  refine ⟨?_, ?_⟩
  · funext j
    unfold upd
    split
    · rename_i e; subst e; rfl
    · rfl
  · funext j
    unfold upd
    split
    · rename_i e; subst e; exact hT.symm
    · rfl
def sumQ (Q : List Int) : Nat → Int
  | 0 => 0
  | n + 1 => sumQ Q n + Q.getD n 0
theorem begF_sum (Q : List Int) (T : Nat → Tok) (i : Nat) : ∀ n, liveSum (begT Q T i) n = sumQ Q n
  | 0 => rfl
  | n + 1 => by
    unfold liveSum sumQ
    rw [begF_sum Q T i n]
    rfl
theorem begF_count (Q : List Int) (T : Nat → Tok) (i : Nat) : ∀ n, liveCount (begT Q T i) n = n
  | 0 => rfl
  | n + 1 => by
    unfold liveCount
    rw [begF_count Q T i n]
    rfl
theorem begF_free (Q : List Int) (T : Nat → Tok) {i : Nat} (hi : i < 8) : freeNo (begT Q T i) = i := by
  refine (freeNo_is (by omega) ?_ ?_).symm
  · intro j hj
    right
    have hj' : j < i := hj
    show (j : Int) ≠ (i : Int)
    omega
  · intro j hj hf
    rcases hf j hj with h | h
    · cases h
    · exact h rfl
theorem sumQ_mono {Q : List Int} (h : ∀ j, j < Q.length → 1 ≤ Q.getD j 0) {m n : Nat} (hmn : m ≤ n) (hn : n ≤ Q.length) : sumQ Q m ≤ sumQ Q n := by
  induction n with
  | zero => obtain rfl : m = 0 := (by omega); exact Int.le_refl _
  | succ n ih =>
    by_cases e : m = n + 1
    · subst e; exact Int.le_refl _
    · have := ih (by omega) (by omega)
      have := h n (by omega)
      simp only [sumQ]; omega
theorem begF_create {Q : List Int} {T : Nat → Tok} (hT : ∀ j, j < Q.length → T j = ⟨j, 15, [], false⟩) (h : ∀ j, j < Q.length → 1 ≤ Q.getD j 0 ∧ Q.getD j 0 ≤ 64) (hs : sumQ Q Q.length ≤ 64) (hl : Q.length ≤ 8) {i : Nat} (hi : i < Q.length) :
    createR (begT Q T i) (Q.getD i 0) = 0 ∧ createA (begT Q T i) (Q.getD i 0) = ((i : Int), (i : Int) + 1) ∧ createdR (begT Q T i) (Q.getD i 0) = begT Q T (i + 1) := by
  have h1 := h i hi
  have h2 := sumQ_mono (fun j hj => (h j hj).1) (show i + 1 ≤ Q.length by omega) (Nat.le_refl _)
  simp only [sumQ] at h2
  have e0 : createR (begT Q T i) (Q.getD i 0) = 0 := by
    unfold createR
    have a1 : liveCount (begT Q T i) (begT Q T i).nl = i := begF_count Q T i i
    have a2 : liveSum (begT Q T i) (begT Q T i).nl = sumQ Q i := begF_sum Q T i i
    rw [a1, a2, if_neg (by omega), if_neg (by omega), if_neg (by show ¬ (64 : Int) < _; omega), if_neg (by show ¬ 100 ≤ i; omega)]
  refine ⟨e0, ?_, ?_⟩
  · unfold createA
    rw [if_pos e0, begF_free Q T (by omega)]
    rfl
  · unfold createdR
    rw [if_pos e0, begF_free Q T (by omega)]
    exact begT_createS Q (hT i hi)
end Go.Proofs.Ytgndledehlilkab
