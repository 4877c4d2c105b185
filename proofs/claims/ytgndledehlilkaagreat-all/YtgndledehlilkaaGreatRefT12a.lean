/-
  The document's engine behind a change of one life's own routes or rules.
-/
import Derived.Test.YtgndledehlilkaaGreatPure
import Derived.Test.YtgndledehlilkaaGreatRefT9M
import Derived.Test.YtgndledehlilkaaGreatRefOps2
namespace Go.Proofs.YtgndledehlilkaaGreat
open Go.RowKit
def changed (w : World) (O : Nat → Nat × Nat × Nat) (e b : Nat) (r' : RefS) (w' : World) : Prop :=
  ∃ O' : Nat → Nat × Nat × Nat, (∀ k, k < w.heap.size → O' k = O k) ∧ RefRep w' O' e b r' ∧ Kept (mineR O e) w w'
/-- The own routes are a new row. -/
theorem set_fin {w V w5 : World} {O : Nat → Nat × Nat × Nat} {e b gl capl l : Nat} {r : RefS} {tv u : Value} {ov rv ln : Nat → Value} {l' : List RouteD} (hs : Still w V) (h : RefAt V O e b r (.slice (some ⟨gl, 0, none⟩) r.nl capl) tv ov rv ln) (hl : l < r.nl) (hs5 : Still V w5)
    (hown : w5.ownsRow V.heap.size 50 4 u l'.length (l'.flatMap routeCells)) : changed w O e b (ownS r l l') (w5.setCell ⟨gl, l * 7 + 4, none⟩ u) := by
  have hz := hs.size
  have hlo : ∀ g, u.ownBlock = some g → V.heap.size ≤ g := fun g hg => (hown.lt g hg).1
  have k1 : RefAt w5 (tagRow O u (e, 3, l)) e b r (.slice (some ⟨gl, 0, none⟩) r.nl capl) tv ov rv ln := h.frame (fun k hk _ _ => hs5.heap hk) (fun k hk => tagRow_old hlo hk)
  have k2 := k1.setOwn (u := u) hl l' (hown.mono (Nat.zero_le _)) (fun k hk => tagRow_new hk)
  refine ⟨_, fun k hk => tagRow_old hlo (by omega), ⟨_, _, _, _, _, k2⟩, ?_⟩
  refine Kept.setCell (Kept.trans (Still.kept hs _) (Still.kept hs5 _)) (.inl ?_) _
  unfold mineR
  show (O gl).1 = e ∧ (O gl).2.1 ≤ 5
  rw [h.ltag gl rfl]; simp
/-- The rules are a new row. -/
theorem rules_fin {w V w5 : World} {O : Nat → Nat × Nat × Nat} {e b gl capl l : Nat} {r : RefS} {tv u : Value} {ov rv ln : Nat → Value} {l' : List RuleD} (hs : Still w V) (h : RefAt V O e b r (.slice (some ⟨gl, 0, none⟩) r.nl capl) tv ov rv ln) (hl : l < r.nl) (hs5 : Still V w5)
    (hown : w5.ownsRow V.heap.size 55 5 u l'.length (l'.flatMap ruleCells)) : changed w O e b (rulesS r l l') (w5.setCell ⟨gl, l * 7 + 5, none⟩ u) := by
  have hz := hs.size
  have hlo : ∀ g, u.ownBlock = some g → V.heap.size ≤ g := fun g hg => (hown.lt g hg).1
  have k2 := h.pushRules (O' := tagRow O u (e, 4, l)) (u := u) (l := l') hl hs5 (hown.mono (Nat.zero_le _)) (fun k hk => tagRow_old hlo hk) (fun k hk => tagRow_new hk)
  refine ⟨_, fun k hk => tagRow_old hlo (by omega), ⟨_, _, _, _, _, k2⟩, ?_⟩
  refine Kept.setCell (Kept.trans (Still.kept hs _) (Still.kept hs5 _)) (.inl ?_) _
  unfold mineR
  show (O gl).1 = e ∧ (O gl).2.1 ≤ 5
  rw [h.ltag gl rfl]; simp
end Go.Proofs.YtgndledehlilkaaGreat
