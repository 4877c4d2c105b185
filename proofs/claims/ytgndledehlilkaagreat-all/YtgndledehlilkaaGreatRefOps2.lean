/-
  The document's engine in memory: own routes and rules that turn.
-/
import Derived.Test.YtgndledehlilkaaGreatPure
import Derived.Test.YtgndledehlilkaaGreatRefOps
namespace Go.Proofs.YtgndledehlilkaaGreat
open Go.RowKit
section
variable {w w' : World} {O O' : Nat → Nat × Nat × Nat} {e b : Nat} {r : RefS} {lv tv : Value} {ov rv ln : Nat → Value}
/-- The own routes of a life, written in place. -/
theorem RefAt.turnOwn {i go : Nat} (h : RefAt w O e b r lv tv ov rv ln) (hi : i < r.nl) (l : List RouteD) (hgo : (ov i).ownBlock = some go) (hk : ∀ k, k ≠ go → w'.heap[k]? = w.heap[k]?) (hrow : w'.ownsRow 0 50 4 (ov i) l.length (l.flatMap routeCells)) :
    RefAt w' O e b { r with life := upd r.life i { r.life i with own := l } } lv tv ov rv ln := by
  have htg := h.otag i go hi hgo
  have hne : ∀ k t, O k = t → t ≠ (e, 3, i) → w'.heap[k]? = w.heap[k]? := fun k t hkt ht => hk k (by rintro rfl; exact ht (hkt.symm.trans htg))
  refine ⟨?_, h.btag, ?_, h.ltag, ?_, h.ttag, ?_, h.otag, ?_, h.rtag, ?_, h.ntag⟩
  · rw [hne b _ h.btag (by simp)]; exact h.blk
  · have e1 : (enc r.nl fun k => lifeCells (upd r.life i { r.life i with own := l } k) (ov k) (rv k)) = enc r.nl fun k => lifeCells (r.life k) (ov k) (rv k) := enc_congr fun k _ => by
      by_cases hki : k = i
      · subst hki; rw [upd_same]; rfl
      · rw [upd_other _ _ hki]
    show World.ownsRow _ _ _ _ _ r.nl (enc r.nl fun k => lifeCells (upd r.life i { r.life i with own := l } k) (ov k) (rv k))
    rw [e1]
    exact ownsRow_of_block h.lives fun g hg => hne g _ (h.ltag g hg) (by simp)
  · exact ownsRow_of_block h.toks fun g hg => hne g _ (h.ttag g hg) (by simp)
  · intro k hk'
    by_cases hki : k = i
    · subst hki
      simp only [upd_same]
      exact hrow
    · simp only [upd_other _ _ hki]
      exact ownsRow_of_block (h.owns k hk') fun g hg => hne g _ (h.otag k g hk' hg) (by simp [hki])
  · intro k hk'
    have : (upd r.life i { r.life i with own := l } k).rules = (r.life k).rules := by
      by_cases hki : k = i
      · subst hki; rw [upd_same]
      · rw [upd_other _ _ hki]
    show World.ownsRow _ _ _ _ _ (upd r.life i { r.life i with own := l } k).rules.length ((upd r.life i { r.life i with own := l } k).rules.flatMap ruleCells)
    rw [this]
    exact ownsRow_of_block (h.rules k hk') fun g hg => hne g _ (h.rtag k g hk' hg) (by simp)
  · intro k hk'
    exact ownsRow_of_block (h.lines k hk') fun g hg => hne g _ (h.ntag k g hk' hg) (by simp)
/-- A life's own routes are another row now, or the old one grown; the life says so. -/
theorem RefAt.pushOwn {g cap i : Nat} {u : Value} {l : List RouteD} {row : Option Nat} (h : RefAt w O e b r (.slice (some ⟨g, 0, none⟩) r.nl cap) tv ov rv ln) (hi : i < r.nl) (hg : w.grownBy w' row) (hrow : ∀ k, row = some k → O k = (e, 3, i))
    (hu : w'.ownsRow 0 50 4 u l.length (l.flatMap routeCells)) (hO : ∀ k, k < w.heap.size → O' k = O k) (ht : ∀ k, u.ownBlock = some k → O' k = (e, 3, i)) :
    RefAt (w'.setCell ⟨g, i * 7 + 4, none⟩ u) O' e b { r with life := upd r.life i { r.life i with own := l } } (.slice (some ⟨g, 0, none⟩) r.nl cap) tv (upd ov i u) rv ln := by
  have hgt := h.ltag g rfl
  have hgl : g < w.heap.size := ownsRow_lt h.lives rfl
  have hne : ∀ k t, k < w.heap.size → O k = t → t ≠ (e, 1, 0) → t ≠ (e, 3, i) → (w'.setCell ⟨g, i * 7 + 4, none⟩ u).heap[k]? = w.heap[k]? := fun k t hk hkt h1 h3 => by
    rw [Below.heap_setCell _ _ _ _ (by rintro rfl; exact h1 (hkt.symm.trans hgt))]
    exact hg.block k hk (fun hh => h3 (hkt.symm.trans (hrow k hh.symm)))
  have hlw : w'.ownsRow 0 101 7 (.slice (some ⟨g, 0, none⟩) r.nl cap) r.nl (enc r.nl fun i => lifeCells (r.life i) (ov i) (rv i)) := ownsRow_of_block h.lives (fun k hk => hg.block k (ownsRow_lt h.lives hk) (fun hh => by have h1 := hrow k hh.symm; rw [h.ltag k hk] at h1; simp at h1))
  have hOg : O' g = (e, 1, 0) := by rw [hO g hgl]; exact hgt
  have hb := h.lt
  refine ⟨?_, ?_, ?_, ?_, ?_, ?_, ?_, ?_, ?_, ?_, ?_, ?_⟩
  · rw [hne b _ hb h.btag (by simp) (by simp)]; exact h.blk
  · rw [hO b hb]; exact h.btag
  · exact ownsRow_store hlw (lifeCells_len r ov rv) hi (by omega) (by simp only [upd_same]; rfl) (fun k _ hk => by simp only [upd_other _ _ hk])
  · intro k hk
    have : g = k := by simpa [Value.ownBlock] using hk
    subst this; exact hOg
  · exact ownsRow_of_block h.toks fun k hk => hne k _ (ownsRow_lt h.toks hk) (h.ttag k hk) (by simp) (by simp)
  · intro k hk; rw [hO k (ownsRow_lt h.toks hk)]; exact h.ttag k hk
  · intro k hk
    by_cases hki : k = i
    · subst hki
      simp only [upd_same]
      exact ownsRow_of_block hu fun y hy => Below.heap_setCell _ _ _ _ (by
        rintro rfl
        have := ht _ hy
        rw [hOg] at this; simp at this)
    · simp only [upd_other _ _ hki]
      exact ownsRow_of_block (h.owns k hk) fun y hy => hne y _ (ownsRow_lt (h.owns k hk) hy) (h.otag k y hk hy) (by simp) (by simp [hki])
  · intro k y hk hy
    by_cases hki : k = i
    · subst hki
      rw [upd_same] at hy
      exact ht y hy
    · rw [upd_other _ _ hki] at hy
      rw [hO y (ownsRow_lt (h.owns k hk) hy)]
      exact h.otag k y hk hy
  · intro k hk
    have : (upd r.life i { r.life i with own := l } k).rules = (r.life k).rules := by
      by_cases hki : k = i
      · subst hki; rw [upd_same]
      · rw [upd_other _ _ hki]
    show World.ownsRow _ _ _ _ _ (upd r.life i { r.life i with own := l } k).rules.length ((upd r.life i { r.life i with own := l } k).rules.flatMap ruleCells)
    rw [this]
    exact ownsRow_of_block (h.rules k hk) fun y hy => hne y _ (ownsRow_lt (h.rules k hk) hy) (h.rtag k y hk hy) (by simp) (by simp)
  · intro k y hk hy
    rw [hO y (ownsRow_lt (h.rules k hk) hy)]
    exact h.rtag k y hk hy
  · intro k hk
    exact ownsRow_of_block (h.lines k hk) fun y hy => hne y _ (ownsRow_lt (h.lines k hk) hy) (h.ntag k y hk hy) (by simp) (by simp)
  · intro k y hk hy
    rw [hO y (ownsRow_lt (h.lines k hk) hy)]
    exact h.ntag k y hk hy
/-- A life's rules are another row now; the life says so. -/
theorem RefAt.pushRules {g cap i : Nat} {u : Value} {l : List RuleD} (h : RefAt w O e b r (.slice (some ⟨g, 0, none⟩) r.nl cap) tv ov rv ln) (hi : i < r.nl) (hs : Still w w')
    (hu : w'.ownsRow 0 55 5 u l.length (l.flatMap ruleCells)) (hO : ∀ k, k < w.heap.size → O' k = O k) (ht : ∀ k, u.ownBlock = some k → O' k = (e, 4, i)) :
    RefAt (w'.setCell ⟨g, i * 7 + 5, none⟩ u) O' e b { r with life := upd r.life i { r.life i with rules := l } } (.slice (some ⟨g, 0, none⟩) r.nl cap) tv ov (upd rv i u) ln := by
  have hgt := h.ltag g rfl
  have hgl : g < w.heap.size := ownsRow_lt h.lives rfl
  have hne : ∀ k t, k < w.heap.size → O k = t → t ≠ (e, 1, 0) → (w'.setCell ⟨g, i * 7 + 5, none⟩ u).heap[k]? = w.heap[k]? := fun k t hk hkt h1 => by
    rw [Below.heap_setCell _ _ _ _ (by rintro rfl; exact h1 (hkt.symm.trans hgt))]
    exact hs.heap hk
  have hlw : w'.ownsRow 0 101 7 (.slice (some ⟨g, 0, none⟩) r.nl cap) r.nl (enc r.nl fun i => lifeCells (r.life i) (ov i) (rv i)) := ownsRow_of_block h.lives (fun k hk => hs.heap (ownsRow_lt h.lives hk))
  have hOg : O' g = (e, 1, 0) := by rw [hO g hgl]; exact hgt
  have hb := h.lt
  refine ⟨?_, ?_, ?_, ?_, ?_, ?_, ?_, ?_, ?_, ?_, ?_, ?_⟩
  · rw [hne b _ hb h.btag (by simp)]; exact h.blk
  · rw [hO b hb]; exact h.btag
  · exact ownsRow_store hlw (lifeCells_len r ov rv) hi (by omega) (by simp only [upd_same]; rfl) (fun k _ hk => by simp only [upd_other _ _ hk])
  · intro k hk
    have : g = k := by simpa [Value.ownBlock] using hk
    subst this; exact hOg
  · exact ownsRow_of_block h.toks fun k hk => hne k _ (ownsRow_lt h.toks hk) (h.ttag k hk) (by simp)
  · intro k hk; rw [hO k (ownsRow_lt h.toks hk)]; exact h.ttag k hk
  · intro k hk
    have : (upd r.life i { r.life i with rules := l } k).own = (r.life k).own := by
      by_cases hki : k = i
      · subst hki; rw [upd_same]
      · rw [upd_other _ _ hki]
    show World.ownsRow _ _ _ _ _ (upd r.life i { r.life i with rules := l } k).own.length ((upd r.life i { r.life i with rules := l } k).own.flatMap routeCells)
    rw [this]
    exact ownsRow_of_block (h.owns k hk) fun y hy => hne y _ (ownsRow_lt (h.owns k hk) hy) (h.otag k y hk hy) (by simp)
  · intro k y hk hy
    rw [hO y (ownsRow_lt (h.owns k hk) hy)]
    exact h.otag k y hk hy
  · intro k hk
    by_cases hki : k = i
    · subst hki
      simp only [upd_same]
      exact ownsRow_of_block hu fun y hy => Below.heap_setCell _ _ _ _ (by
        rintro rfl
        have := ht _ hy
        rw [hOg] at this; simp at this)
    · simp only [upd_other _ _ hki]
      exact ownsRow_of_block (h.rules k hk) fun y hy => hne y _ (ownsRow_lt (h.rules k hk) hy) (h.rtag k y hk hy) (by simp)
  · intro k y hk hy
    by_cases hki : k = i
    · subst hki
      rw [upd_same] at hy
      exact ht y hy
    · rw [upd_other _ _ hki] at hy
      rw [hO y (ownsRow_lt (h.rules k hk) hy)]
      exact h.rtag k y hk hy
  · intro k hk
    exact ownsRow_of_block (h.lines k hk) fun y hy => hne y _ (ownsRow_lt (h.lines k hk) hy) (h.ntag k y hk hy) (by simp)
  · intro k y hk hy
    rw [hO y (ownsRow_lt (h.lines k hk) hy)]
    exact h.ntag k y hk hy
end
end Go.Proofs.YtgndledehlilkaaGreat
