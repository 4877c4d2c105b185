/-
  The program's engine (package district, tokens): its state as plain data, and how it lies in memory.
-/
import Derived.Test.YtkgfkdmojjohdaaHeap
import Derived.Test.YtkgfkdmojjohdaaRows
import Derived.WalkLawsBesides
import Derived.BigQuiet
import Derived.Deep.QuietTactic
import Derived.Deep.DrawnRows
namespace Go.Proofs.Ytkgfkdmojjohdaa
open Go.RowKit

structure ProgS where
  room : Int
  quota : Nat → Int
  given : Nat
  tenant : Nat → Int
  rights : Nat → Int
  parent : Nat → Nat
  ended : Nat → Bool

/-- The engine x in block b. -/
structure XAt (w : World) (b : Nat) (p : ProgS) : Prop where
  lt : b < w.heap.size
  fz : ∀ j, w.frozen? ⟨b, j, none⟩ = false
  room : w.cell? ⟨b, 0, none⟩ = some (.int .i64 p.room)
  quota : ∀ i, i < 8 → w.cell? ⟨b, 1 + i, none⟩ = some (.int .i64 (p.quota i))
  given : w.cell? ⟨b, 9, none⟩ = some (.int .i64 (p.given : Int))
  tenant : ∀ k, k < 100 → w.cell? ⟨b, 10 + k * 4, none⟩ = some (.int .i64 (p.tenant k))
  rights : ∀ k, k < 100 → w.cell? ⟨b, 10 + k * 4 + 1, none⟩ = some (.int .i64 (p.rights k))
  parent : ∀ k, k < 100 → w.cell? ⟨b, 10 + k * 4 + 2, none⟩ = some (.int .i64 (p.parent k : Int))
  ended : ∀ k, k < 100 → w.cell? ⟨b, 10 + k * 4 + 3, none⟩ = some (.bool (p.ended k))

structure ProgWf (p : ProgS) : Prop where
  room : 1 ≤ p.room ∧ p.room ≤ 64
  quota : ∀ i, i < 8 → 0 ≤ p.quota i ∧ p.quota i ≤ 64
  given : p.given ≤ 100
  rights : ∀ k, k < p.given → 0 ≤ p.rights k ∧ p.rights k ≤ 15
  parent : ∀ k, k < p.given → p.parent k ≤ k

section
variable {w w' : World} {b : Nat} {p : ProgS}
theorem XAt.frame (h : XAt w b p) (hk : w'.heap[b]? = w.heap[b]?) : XAt w' b p := by
  have hc : ∀ j, w'.cell? ⟨b, j, none⟩ = w.cell? ⟨b, j, none⟩ := fun j => World.cell?_of_block (w := w) (a := ⟨b, j, none⟩) hk
  have hf : ∀ j, w'.frozen? ⟨b, j, none⟩ = w.frozen? ⟨b, j, none⟩ := fun j => World.frozen?_of_block (w := w) (a := ⟨b, j, none⟩) hk
  have hl : b < w'.heap.size := by
    have h1 := (hc 0).trans h.room
    exact World.block_lt_of_cell? w' ⟨b, 0, none⟩ h1
  exact ⟨hl, fun j => (hf j).trans (h.fz j), (hc _).trans h.room, fun i hi => (hc _).trans (h.quota i hi), (hc _).trans h.given, fun k hk => (hc _).trans (h.tenant k hk), fun k hk => (hc _).trans (h.rights k hk), fun k hk => (hc _).trans (h.parent k hk), fun k hk => (hc _).trans (h.ended k hk)⟩
theorem XAt.still (h : XAt w b p) (hs : Still w w') : XAt w' b p := h.frame (hs.heap h.lt)
theorem XAt.off (h : XAt w b p) (j : Nat) (u : Value) : b < (w.setCell ⟨b, j, none⟩ u).heap.size ∧ (∀ i, (w.setCell ⟨b, j, none⟩ u).frozen? ⟨b, i, none⟩ = false) ∧ (∀ i, i ≠ j → (w.setCell ⟨b, j, none⟩ u).cell? ⟨b, i, none⟩ = w.cell? ⟨b, i, none⟩) := by
  refine ⟨by simpa using h.lt, fun i => by simpa using h.fz i, fun i hi => World.cell?_setCell_other _ _ _ _ (fun hh => hi ?_)⟩
  simpa using (congrArg Addr.off hh).symm
theorem XAt.setQuota (h : XAt w b p) {k : Nat} (hk : k < 8) (v : Int) : XAt (w.setCell ⟨b, 1 + k, none⟩ (.int .i64 v)) b { p with quota := upd p.quota k v } := by
  obtain ⟨hl, hf, ho⟩ := h.off (1 + k) (.int .i64 v)
  have hs : (w.setCell ⟨b, 1 + k, none⟩ (.int .i64 v)).cell? ⟨b, 1 + k, none⟩ = some (.int .i64 v) := World.cell?_setCell_same _ _ _ (h.quota k hk)
  refine ⟨hl, hf, ?_, ?_, ?_, ?_, ?_, ?_, ?_⟩
  · rw [ho _ (by omega)]; exact h.room
  · intro i hi
    by_cases e : i = k
    · subst e; rw [hs]; simp only [upd_same]
    · rw [ho _ (by omega)]; simp only [upd_other _ _ e]; exact h.quota i hi
  · rw [ho _ (by omega)]; exact h.given
  · intro i hi; rw [ho _ (by omega)]; exact h.tenant i hi
  · intro i hi; rw [ho _ (by omega)]; exact h.rights i hi
  · intro i hi; rw [ho _ (by omega)]; exact h.parent i hi
  · intro i hi; rw [ho _ (by omega)]; exact h.ended i hi
theorem XAt.setGiven (h : XAt w b p) (v : Nat) : XAt (w.setCell ⟨b, 9, none⟩ (.int .i64 (v : Int))) b { p with given := v } := by
  obtain ⟨hl, hf, ho⟩ := h.off (9) (.int .i64 (v : Int))
  have hs : (w.setCell ⟨b, 9, none⟩ (.int .i64 (v : Int))).cell? ⟨b, 9, none⟩ = some (.int .i64 (v : Int)) := World.cell?_setCell_same _ _ _ (h.given)
  refine ⟨hl, hf, ?_, ?_, ?_, ?_, ?_, ?_, ?_⟩
  · rw [ho _ (by omega)]; exact h.room
  · intro i hi; rw [ho _ (by omega)]; exact h.quota i hi
  · exact hs
  · intro i hi; rw [ho _ (by omega)]; exact h.tenant i hi
  · intro i hi; rw [ho _ (by omega)]; exact h.rights i hi
  · intro i hi; rw [ho _ (by omega)]; exact h.parent i hi
  · intro i hi; rw [ho _ (by omega)]; exact h.ended i hi
theorem XAt.setTenant (h : XAt w b p) {k : Nat} (hk : k < 100) (v : Int) : XAt (w.setCell ⟨b, 10 + k * 4, none⟩ (.int .i64 v)) b { p with tenant := upd p.tenant k v } := by
  obtain ⟨hl, hf, ho⟩ := h.off (10 + k * 4) (.int .i64 v)
  have hs : (w.setCell ⟨b, 10 + k * 4, none⟩ (.int .i64 v)).cell? ⟨b, 10 + k * 4, none⟩ = some (.int .i64 v) := World.cell?_setCell_same _ _ _ (h.tenant k hk)
  refine ⟨hl, hf, ?_, ?_, ?_, ?_, ?_, ?_, ?_⟩
  · rw [ho _ (by omega)]; exact h.room
  · intro i hi; rw [ho _ (by omega)]; exact h.quota i hi
  · rw [ho _ (by omega)]; exact h.given
  · intro i hi
    by_cases e : i = k
    · subst e; rw [hs]; simp only [upd_same]
    · rw [ho _ (by omega)]; simp only [upd_other _ _ e]; exact h.tenant i hi
  · intro i hi; rw [ho _ (by omega)]; exact h.rights i hi
  · intro i hi; rw [ho _ (by omega)]; exact h.parent i hi
  · intro i hi; rw [ho _ (by omega)]; exact h.ended i hi
theorem XAt.setRights (h : XAt w b p) {k : Nat} (hk : k < 100) (v : Int) : XAt (w.setCell ⟨b, 10 + k * 4 + 1, none⟩ (.int .i64 v)) b { p with rights := upd p.rights k v } := by
  obtain ⟨hl, hf, ho⟩ := h.off (10 + k * 4 + 1) (.int .i64 v)
  have hs : (w.setCell ⟨b, 10 + k * 4 + 1, none⟩ (.int .i64 v)).cell? ⟨b, 10 + k * 4 + 1, none⟩ = some (.int .i64 v) := World.cell?_setCell_same _ _ _ (h.rights k hk)
  refine ⟨hl, hf, ?_, ?_, ?_, ?_, ?_, ?_, ?_⟩
  · rw [ho _ (by omega)]; exact h.room
  · intro i hi; rw [ho _ (by omega)]; exact h.quota i hi
  · rw [ho _ (by omega)]; exact h.given
  · intro i hi; rw [ho _ (by omega)]; exact h.tenant i hi
  · intro i hi
    by_cases e : i = k
    · subst e; rw [hs]; simp only [upd_same]
    · rw [ho _ (by omega)]; simp only [upd_other _ _ e]; exact h.rights i hi
  · intro i hi; rw [ho _ (by omega)]; exact h.parent i hi
  · intro i hi; rw [ho _ (by omega)]; exact h.ended i hi
theorem XAt.setParent (h : XAt w b p) {k : Nat} (hk : k < 100) (v : Nat) : XAt (w.setCell ⟨b, 10 + k * 4 + 2, none⟩ (.int .i64 (v : Int))) b { p with parent := upd p.parent k v } := by
  obtain ⟨hl, hf, ho⟩ := h.off (10 + k * 4 + 2) (.int .i64 (v : Int))
  have hs : (w.setCell ⟨b, 10 + k * 4 + 2, none⟩ (.int .i64 (v : Int))).cell? ⟨b, 10 + k * 4 + 2, none⟩ = some (.int .i64 (v : Int)) := World.cell?_setCell_same _ _ _ (h.parent k hk)
  refine ⟨hl, hf, ?_, ?_, ?_, ?_, ?_, ?_, ?_⟩
  · rw [ho _ (by omega)]; exact h.room
  · intro i hi; rw [ho _ (by omega)]; exact h.quota i hi
  · rw [ho _ (by omega)]; exact h.given
  · intro i hi; rw [ho _ (by omega)]; exact h.tenant i hi
  · intro i hi; rw [ho _ (by omega)]; exact h.rights i hi
  · intro i hi
    by_cases e : i = k
    · subst e; rw [hs]; simp only [upd_same]
    · rw [ho _ (by omega)]; simp only [upd_other _ _ e]; exact h.parent i hi
  · intro i hi; rw [ho _ (by omega)]; exact h.ended i hi
theorem XAt.setEnded (h : XAt w b p) {k : Nat} (hk : k < 100) (v : Bool) : XAt (w.setCell ⟨b, 10 + k * 4 + 3, none⟩ (.bool v)) b { p with ended := upd p.ended k v } := by
  obtain ⟨hl, hf, ho⟩ := h.off (10 + k * 4 + 3) (.bool v)
  have hs : (w.setCell ⟨b, 10 + k * 4 + 3, none⟩ (.bool v)).cell? ⟨b, 10 + k * 4 + 3, none⟩ = some (.bool v) := World.cell?_setCell_same _ _ _ (h.ended k hk)
  refine ⟨hl, hf, ?_, ?_, ?_, ?_, ?_, ?_, ?_⟩
  · rw [ho _ (by omega)]; exact h.room
  · intro i hi; rw [ho _ (by omega)]; exact h.quota i hi
  · rw [ho _ (by omega)]; exact h.given
  · intro i hi; rw [ho _ (by omega)]; exact h.tenant i hi
  · intro i hi; rw [ho _ (by omega)]; exact h.rights i hi
  · intro i hi; rw [ho _ (by omega)]; exact h.parent i hi
  · intro i hi
    by_cases e : i = k
    · subst e; rw [hs]; simp only [upd_same]
    · rw [ho _ (by omega)]; simp only [upd_other _ _ e]; exact h.ended i hi
end
end Go.Proofs.Ytkgfkdmojjohdaa
