/-
  The document's own answer (package districtref): its state as plain data, and how it lies in memory.
-/
import Derived.Test.YtgndledehlilkaaGreatPure
import Derived.Test.YtgndledehlilkaaGreatHeap
import Derived.Test.YtgndledehlilkaaGreatRows
namespace Go.Proofs.YtgndledehlilkaaGreat
open Go.RowKit
/-- The engine y, number e, in block b. O: whose each block is: (engine, kind, place). -/
structure RefAt (w : World) (O : Nat → Nat × Nat × Nat) (e b : Nat) (r : RefS) (lv tv : Value) (ov rv ln : Nat → Value) : Prop where
  blk : w.heap[b]? = some (.cells #[.int .i64 r.room, lv, tv] 76 (0, 0))
  btag : O b = (e, 0, 0)
  lives : w.ownsRow 0 101 7 lv r.nl (enc r.nl fun i => lifeCells (r.life i) (ov i) (rv i))
  ltag : ∀ g, lv.ownBlock = some g → O g = (e, 1, 0)
  toks : w.ownsRow 0 104 4 tv r.nt (enc r.nt fun k => tokCells (r.tok k) (ln k))
  ttag : ∀ g, tv.ownBlock = some g → O g = (e, 2, 0)
  owns : ∀ i, i < r.nl → w.ownsRow 0 50 4 (ov i) (r.life i).own.length ((r.life i).own.flatMap routeCells)
  otag : ∀ i g, i < r.nl → (ov i).ownBlock = some g → O g = (e, 3, i)
  rules : ∀ i, i < r.nl → w.ownsRow 0 55 5 (rv i) (r.life i).rules.length ((r.life i).rules.flatMap ruleCells)
  rtag : ∀ i g, i < r.nl → (rv i).ownBlock = some g → O g = (e, 4, i)
  lines : ∀ k, k < r.nt → w.ownsRow 0 3 1 (ln k) (r.tok k).line.length (lineCells (r.tok k).line)
  ntag : ∀ k g, k < r.nt → (ln k).ownBlock = some g → O g = (e, 5, k)
def RefRep (w : World) (O : Nat → Nat × Nat × Nat) (e b : Nat) (r : RefS) : Prop := ∃ lv tv ov rv ln, RefAt w O e b r lv tv ov rv ln
section
variable {w w' : World} {O O' : Nat → Nat × Nat × Nat} {e b : Nat} {r : RefS} {lv tv : Value} {ov rv ln : Nat → Value}
theorem RefAt.lt (h : RefAt w O e b r lv tv ov rv ln) : b < w.heap.size := (Array.getElem?_eq_some_iff.1 h.blk).1
/-- Where no block of the engine's has turned it stands as it did. -/
theorem RefAt.frame (h : RefAt w O e b r lv tv ov rv ln) (hk : ∀ k, k < w.heap.size → (O k).1 = e → (O k).2.1 ≤ 5 → w'.heap[k]? = w.heap[k]?) (hO : ∀ k, k < w.heap.size → O' k = O k) : RefAt w' O' e b r lv tv ov rv ln := by
  have hb := h.lt
  refine ⟨?_, ?_, ?_, ?_, ?_, ?_, ?_, ?_, ?_, ?_, ?_, ?_⟩
  · rw [hk b hb (by rw [h.btag]) (by rw [h.btag]; simp)]; exact h.blk
  · rw [hO b hb]; exact h.btag
  · exact ownsRow_of_block h.lives fun g hg => hk g (ownsRow_lt h.lives hg) (by rw [h.ltag g hg]) (by rw [h.ltag g hg]; simp)
  · intro g hg; rw [hO g (ownsRow_lt h.lives hg)]; exact h.ltag g hg
  · exact ownsRow_of_block h.toks fun g hg => hk g (ownsRow_lt h.toks hg) (by rw [h.ttag g hg]) (by rw [h.ttag g hg]; simp)
  · intro g hg; rw [hO g (ownsRow_lt h.toks hg)]; exact h.ttag g hg
  · intro i hi; exact ownsRow_of_block (h.owns i hi) fun g hg => hk g (ownsRow_lt (h.owns i hi) hg) (by rw [h.otag i g hi hg]) (by rw [h.otag i g hi hg]; simp)
  · intro i g hi hg; rw [hO g (ownsRow_lt (h.owns i hi) hg)]; exact h.otag i g hi hg
  · intro i hi; exact ownsRow_of_block (h.rules i hi) fun g hg => hk g (ownsRow_lt (h.rules i hi) hg) (by rw [h.rtag i g hi hg]) (by rw [h.rtag i g hi hg]; simp)
  · intro i g hi hg; rw [hO g (ownsRow_lt (h.rules i hi) hg)]; exact h.rtag i g hi hg
  · intro i hi; exact ownsRow_of_block (h.lines i hi) fun g hg => hk g (ownsRow_lt (h.lines i hi) hg) (by rw [h.ntag i g hi hg]) (by rw [h.ntag i g hi hg]; simp)
  · intro i g hi hg; rw [hO g (ownsRow_lt (h.lines i hi) hg)]; exact h.ntag i g hi hg
theorem RefRep.frame (h : RefRep w O e b r) (hk : ∀ k, k < w.heap.size → (O k).1 = e → (O k).2.1 ≤ 5 → w'.heap[k]? = w.heap[k]?) (hO : ∀ k, k < w.heap.size → O' k = O k) : RefRep w' O' e b r := by
  obtain ⟨lv, tv, ov, rv, ln, h⟩ := h
  exact ⟨lv, tv, ov, rv, ln, h.frame hk hO⟩
theorem RefRep.lt (h : RefRep w O e b r) : b < w.heap.size := by
  obtain ⟨lv, tv, ov, rv, ln, h⟩ := h
  exact h.lt
theorem RefRep.still (h : RefRep w O e b r) (hs : Still w w') : RefRep w' O e b r := h.frame (fun _ hk _ _ => hs.heap hk) (fun _ _ => rfl)
theorem RefAt.still (h : RefAt w O e b r lv tv ov rv ln) (hs : Still w w') : RefAt w' O e b r lv tv ov rv ln := h.frame (fun _ hk _ _ => hs.heap hk) (fun _ _ => rfl)
theorem RefAt.cells (h : RefAt w O e b r lv tv ov rv ln) : w.cell? ⟨b, 0, none⟩ = some (.int .i64 r.room) ∧ w.cell? ⟨b, 1, none⟩ = some lv ∧ w.cell? ⟨b, 2, none⟩ = some tv ∧ (∀ j, w.frozen? ⟨b, j, none⟩ = false) := by
  refine ⟨?_, ?_, ?_, ?_⟩ <;> simp [World.cell?, World.frozen?, h.blk]
/-- The slice of lives; its cells. -/
theorem RefAt.livesAt (h : RefAt w O e b r lv tv ov rv ln) : ∃ a cap, lv = .slice a r.nl cap ∧ r.nl ≤ cap ∧ cap ≤ maxLen ∧ ∀ i, i < r.nl → ∃ g, a = some ⟨g, 0, none⟩ := by
  obtain ⟨a, cap, hv, h1, h2⟩ := ownsRow_slice h.lives
  refine ⟨a, cap, hv, h1, h2, fun i hi => ?_⟩
  have hl := h.lives
  rw [hv] at hl
  obtain ⟨g, hg, _⟩ := ownsRow_some hl (by omega)
  exact ⟨g, hg⟩
theorem RefAt.toksAt (h : RefAt w O e b r lv tv ov rv ln) : ∃ a cap, tv = .slice a r.nt cap ∧ r.nt ≤ cap ∧ cap ≤ maxLen ∧ ∀ i, i < r.nt → ∃ g, a = some ⟨g, 0, none⟩ := by
  obtain ⟨a, cap, hv, h1, h2⟩ := ownsRow_slice h.toks
  refine ⟨a, cap, hv, h1, h2, fun i hi => ?_⟩
  have hl := h.toks
  rw [hv] at hl
  obtain ⟨g, hg, _⟩ := ownsRow_some hl (by omega)
  exact ⟨g, hg⟩
theorem RefAt.lifeCell {g cap : Nat} (h : RefAt w O e b r (.slice (some ⟨g, 0, none⟩) r.nl cap) tv ov rv ln) {i : Nat} (hi : i < r.nl) (j : Nat) (hj : j < 7) : w.cell? ⟨g, i * 7 + j, none⟩ = (lifeCells (r.life i) (ov i) (rv i))[j]? :=
  ownsRow_cell h.lives (lifeCells_len r ov rv) hi hj
theorem RefAt.tokCell {g cap : Nat} (h : RefAt w O e b r lv (.slice (some ⟨g, 0, none⟩) r.nt cap) ov rv ln) {i : Nat} (hi : i < r.nt) (j : Nat) (hj : j < 4) : w.cell? ⟨g, i * 4 + j, none⟩ = (tokCells (r.tok i) (ln i))[j]? :=
  ownsRow_cell h.toks (tokCells_len r ln) hi hj
end
end Go.Proofs.YtgndledehlilkaaGreat
