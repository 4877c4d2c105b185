/-
  Rules that are handed in.
-/
import Derived.Test.YtgndledehlilkabPure
namespace Go.Proofs.Ytgndledehlilkab
open Go.RowKit

/-- Rules that are handed in. -/
def RulesIn (w : World) (v : Value) (R : List RuleD) : Prop :=
  (v = .slice none 0 0 ∧ R = []) ∨ ∃ ad c, v = .slice (some ad) R.length c ∧ R.length * 40 ≤ 140737488355328 ∧ ∀ j u, (R.flatMap ruleCells)[j]? = some u → w.cell? (ad.add j) = some u
theorem RulesIn.kept {P : Nat → Prop} {w w' : World} {v : Value} {R : List RuleD} (h : RulesIn w v R) (hk : Kept P w w') (hp : ∀ ad c, v = .slice (some ad) R.length c → 0 < R.length → ¬ P ad.block) : RulesIn w' v R := by
  rcases h with h | ⟨ad, c, rfl, hl, hc⟩
  · exact .inl h
  · refine .inr ⟨ad, c, rfl, hl, fun j u hu => ?_⟩
    have h1 := hc j u hu
    have hlt := World.block_lt_of_cell? _ _ h1
    have hpos : 0 < R.length := by
      rcases Nat.eq_zero_or_pos R.length with h0 | h0
      · rw [List.eq_nil_of_length_eq_zero h0] at hu
        simp at hu
      · exact h0
    have hb : (ad.add j).block = ad.block := by unfold Addr.add; split <;> rfl
    rw [hb] at hlt
    have := hk.block ad.block hlt (hp ad c rfl hpos)
    rw [← h1]
    exact World.cell?_of_block (w := w) (by rw [hb]; exact this)
theorem RulesIn.still {w w' : World} {v : Value} {R : List RuleD} (h : RulesIn w v R) (hk : Still w w') : RulesIn w' v R := h.kept hk fun _ _ _ _ h => h
theorem RulesIn.len {w : World} {v : Value} {R : List RuleD} (h : RulesIn w v R) : ∃ a c, v = .slice a R.length c ∧ R.length * 40 ≤ 140737488355328 := by
  rcases h with ⟨rfl, rfl⟩ | ⟨ad, c, rfl, hl, _⟩
  · exact ⟨none, 0, rfl, by simp⟩
  · exact ⟨_, _, rfl, hl⟩
theorem RulesIn.at {w : World} {a : Option Addr} {n c : Nat} {R : List RuleD} (h : RulesIn w (.slice a n c) R) {k : Nat} (hk : k < R.length) :
    ∃ bs off, a = some ⟨bs, off, none⟩ ∧ bs < w.heap.size ∧ w.cell? ⟨bs, off + k * 5, none⟩ = some (.bool (R.getD k ru0).allow) ∧ w.cell? ⟨bs, off + k * 5 + 1, none⟩ = some (.int .i64 (R.getD k ru0).addr) ∧ w.cell? ⟨bs, off + k * 5 + 2, none⟩ = some (.int .i64 (R.getD k ru0).len) ∧ w.cell? ⟨bs, off + k * 5 + 3, none⟩ = some (.int .i64 (R.getD k ru0).ge) ∧ w.cell? ⟨bs, off + k * 5 + 4, none⟩ = some (.int .i64 (R.getD k ru0).le) := by
  rcases h with ⟨_, rfl⟩ | ⟨ad, c', e, _, hc⟩
  · simp at hk
  · simp only [Value.slice.injEq] at e
    obtain ⟨rfl, rfl, rfl⟩ := e
    rw [flat_enc R ru0] at hc
    have key : ∀ j, j < 5 → w.cell? (ad.add (k * 5 + j)) = (ruleCells (R.getD k ru0))[j]? := fun j hj => by
      have e1 : (enc R.length fun i => ruleCells (R.getD i ru0))[k * 5 + j]? = (ruleCells (R.getD k ru0))[j]? := enc_at (s := 5) (f := fun i => ruleCells (R.getD i ru0)) (fun _ _ => rfl) hk hj
      have e2 : (ruleCells (R.getD k ru0))[j]? = some ((ruleCells (R.getD k ru0))[j]'(by simpa [ruleCells] using hj)) := List.getElem?_eq_getElem _
      rw [e2]
      exact hc _ _ (e1.trans e2)
    obtain ⟨bs, off, spot⟩ := ad
    have hsp : spot = none := by
      have h0 := hc 0 (.bool (R.getD 0 ru0).allow) ((enc_at (s := 5) (f := fun i => ruleCells (R.getD i ru0)) (fun _ _ => rfl) (i := 0) (j := 0) (by omega) (by omega)).trans rfl)
      exact World.cell?_spot h0
    subst hsp
    have hadd : ∀ j, (⟨bs, off, none⟩ : Addr).add (k * 5 + j) = ⟨bs, off + k * 5 + j, none⟩ := fun j => by
      unfold Addr.add
      split
      · simp only [Addr.mk.injEq, true_and, and_true]; omega
      · simp [Nat.add_assoc]
    have k0 := key 0 (by omega)
    rw [hadd] at k0
    refine ⟨bs, off, rfl, World.block_lt_of_cell? _ _ (k0.trans (show _ = some (.bool (R.getD k ru0).allow) from rfl)), k0, ?_, ?_, ?_, ?_⟩
    · have := key 1 (by omega); rw [hadd] at this; exact this
    · have := key 2 (by omega); rw [hadd] at this; exact this
    · have := key 3 (by omega); rw [hadd] at this; exact this
    · have := key 4 (by omega); rw [hadd] at this; exact this
end Go.Proofs.Ytgndledehlilkab
