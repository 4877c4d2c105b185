/-
  The document's engine in memory: what becomes of it where one of its rows turns.
-/
import Derived.Test.YtgndledehlilkaaGreatPure
import Derived.Test.YtgndledehlilkaaGreatRef
namespace Go.Proofs.YtgndledehlilkaaGreat
open Go.RowKit
section
variable {w w' : World} {O O' : Nat → Nat × Nat × Nat} {e b : Nat} {r : RefS} {lv tv : Value} {ov rv ln : Nat → Value}
/-- One life's plain field is written. -/
theorem RefAt.setLife {g cap i j : Nat} {u : Value} (h : RefAt w O e b r (.slice (some ⟨g, 0, none⟩) r.nl cap) tv ov rv ln) (hi : i < r.nl) (hj : j < 7) (L : Life) (ho : L.own = (r.life i).own) (hr : L.rules = (r.life i).rules)
    (hs : lifeCells L (ov i) (rv i) = (lifeCells (r.life i) (ov i) (rv i)).set j u) :
    RefAt (w.setCell ⟨g, i * 7 + j, none⟩ u) O e b { r with life := upd r.life i L } (.slice (some ⟨g, 0, none⟩) r.nl cap) tv ov rv ln := by
  have hg := h.ltag g rfl
  have hne : ∀ k t, O k = t → t ≠ (e, 1, 0) → (w.setCell ⟨g, i * 7 + j, none⟩ u).heap[k]? = w.heap[k]? := fun k t hk ht =>
    Below.heap_setCell _ _ _ _ (by rintro rfl; exact ht (hk.symm.trans hg))
  refine ⟨?_, h.btag, ?_, h.ltag, ?_, h.ttag, ?_, h.otag, ?_, h.rtag, ?_, h.ntag⟩
  · rw [hne b _ h.btag (by simp)]; exact h.blk
  · exact ownsRow_store h.lives (lifeCells_len r ov rv) hi hj (by simp only [upd_same]; exact hs) (fun k _ hk => by simp only [upd_other _ _ hk])
  · exact ownsRow_of_block h.toks fun g' hg' => hne g' _ (h.ttag g' hg') (by simp)
  · intro k hk
    have : (upd r.life i L k).own = (r.life k).own := by
      by_cases hki : k = i
      · subst hki; rw [upd_same]; exact ho
      · rw [upd_other _ _ hki]
    show World.ownsRow _ _ _ _ _ (upd r.life i L k).own.length ((upd r.life i L k).own.flatMap routeCells)
    rw [this]
    exact ownsRow_of_block (h.owns k hk) fun g' hg' => hne g' _ (h.otag k g' hk hg') (by simp)
  · intro k hk
    have : (upd r.life i L k).rules = (r.life k).rules := by
      by_cases hki : k = i
      · subst hki; rw [upd_same]; exact hr
      · rw [upd_other _ _ hki]
    show World.ownsRow _ _ _ _ _ (upd r.life i L k).rules.length ((upd r.life i L k).rules.flatMap ruleCells)
    rw [this]
    exact ownsRow_of_block (h.rules k hk) fun g' hg' => hne g' _ (h.rtag k g' hk hg') (by simp)
  · intro k hk
    exact ownsRow_of_block (h.lines k hk) fun g' hg' => hne g' _ (h.ntag k g' hk hg') (by simp)
/-- One life's own routes are another row now. -/
theorem RefAt.setOwn {g cap i : Nat} {u : Value} (h : RefAt w O e b r (.slice (some ⟨g, 0, none⟩) r.nl cap) tv ov rv ln) (hi : i < r.nl) (l : List RouteD) (hu : w.ownsRow 0 50 4 u l.length (l.flatMap routeCells)) (ht : ∀ k, u.ownBlock = some k → O k = (e, 3, i)) :
    RefAt (w.setCell ⟨g, i * 7 + 4, none⟩ u) O e b { r with life := upd r.life i { r.life i with own := l } } (.slice (some ⟨g, 0, none⟩) r.nl cap) tv (upd ov i u) rv ln := by
  have hg := h.ltag g rfl
  have hne : ∀ k t, O k = t → t ≠ (e, 1, 0) → (w.setCell ⟨g, i * 7 + 4, none⟩ u).heap[k]? = w.heap[k]? := fun k t hk ht =>
    Below.heap_setCell _ _ _ _ (by rintro rfl; exact ht (hk.symm.trans hg))
  refine ⟨?_, h.btag, ?_, h.ltag, ?_, h.ttag, ?_, ?_, ?_, h.rtag, ?_, h.ntag⟩
  · rw [hne b _ h.btag (by simp)]; exact h.blk
  · exact ownsRow_store h.lives (lifeCells_len r ov rv) hi (by omega) (by simp only [upd_same]; rfl) (fun k _ hk => by simp only [upd_other _ _ hk])
  · exact ownsRow_of_block h.toks fun g' hg' => hne g' _ (h.ttag g' hg') (by simp)
  · intro k hk
    by_cases hki : k = i
    · subst hki
      simp only [upd_same]
      exact ownsRow_of_block hu fun g' hg' => hne g' _ (ht g' hg') (by simp)
    · simp only [upd_other _ _ hki]
      exact ownsRow_of_block (h.owns k hk) fun g' hg' => hne g' _ (h.otag k g' hk hg') (by simp)
  · intro k g' hk hg'
    by_cases hki : k = i
    · subst hki
      rw [upd_same] at hg'
      exact ht g' hg'
    · rw [upd_other _ _ hki] at hg'
      exact h.otag k g' hk hg'
  · intro k hk
    have : (upd r.life i { r.life i with own := l } k).rules = (r.life k).rules := by
      by_cases hki : k = i
      · subst hki; rw [upd_same]
      · rw [upd_other _ _ hki]
    show World.ownsRow _ _ _ _ _ (upd r.life i { r.life i with own := l } k).rules.length ((upd r.life i { r.life i with own := l } k).rules.flatMap ruleCells)
    rw [this]
    exact ownsRow_of_block (h.rules k hk) fun g' hg' => hne g' _ (h.rtag k g' hk hg') (by simp)
  · intro k hk
    exact ownsRow_of_block (h.lines k hk) fun g' hg' => hne g' _ (h.ntag k g' hk hg') (by simp)
/-- One token's plain field is written. -/
theorem RefAt.setTok {g cap i j : Nat} {u : Value} (h : RefAt w O e b r lv (.slice (some ⟨g, 0, none⟩) r.nt cap) ov rv ln) (hi : i < r.nt) (hj : j < 4) (T : Tok) (hl : T.line = (r.tok i).line)
    (hs : tokCells T (ln i) = (tokCells (r.tok i) (ln i)).set j u) :
    RefAt (w.setCell ⟨g, i * 4 + j, none⟩ u) O e b { r with tok := upd r.tok i T } lv (.slice (some ⟨g, 0, none⟩) r.nt cap) ov rv ln := by
  have hg := h.ttag g rfl
  have hne : ∀ k t, O k = t → t ≠ (e, 2, 0) → (w.setCell ⟨g, i * 4 + j, none⟩ u).heap[k]? = w.heap[k]? := fun k t hk ht =>
    Below.heap_setCell _ _ _ _ (by rintro rfl; exact ht (hk.symm.trans hg))
  refine ⟨?_, h.btag, ?_, h.ltag, ?_, h.ttag, ?_, h.otag, ?_, h.rtag, ?_, h.ntag⟩
  · rw [hne b _ h.btag (by simp)]; exact h.blk
  · exact ownsRow_of_block h.lives fun g' hg' => hne g' _ (h.ltag g' hg') (by simp)
  · exact ownsRow_store h.toks (tokCells_len r ln) hi hj (by simp only [upd_same]; exact hs) (fun k _ hk => by simp only [upd_other _ _ hk])
  · intro k hk
    exact ownsRow_of_block (h.owns k hk) fun g' hg' => hne g' _ (h.otag k g' hk hg') (by simp)
  · intro k hk
    exact ownsRow_of_block (h.rules k hk) fun g' hg' => hne g' _ (h.rtag k g' hk hg') (by simp)
  · intro k hk
    have : (upd r.tok i T k).line = (r.tok k).line := by
      by_cases hki : k = i
      · subst hki; rw [upd_same]; exact hl
      · rw [upd_other _ _ hki]
    show World.ownsRow _ _ _ _ _ (upd r.tok i T k).line.length (lineCells (upd r.tok i T k).line)
    rw [this]
    exact ownsRow_of_block (h.lines k hk) fun g' hg' => hne g' _ (h.ntag k g' hk hg') (by simp)
/-- The row of lives has grown by one, and the struct says so. -/
theorem RefAt.pushLife {lv' : Value} {L : Life} (h : RefAt w O e b r lv tv ov rv ln) (ho : L.own = []) (hr : L.rules = []) (hg : w.grownBy w' lv.ownBlock)
    (hl : w'.ownsRow 0 101 7 lv' (r.nl + 1) ((enc r.nl fun i => lifeCells (r.life i) (ov i) (rv i)) ++ lifeCells L (.slice none 0 0) (.slice none 0 0)))
    (hO : ∀ k, k < w.heap.size → O' k = O k) (ht : ∀ g, lv'.ownBlock = some g → O' g = (e, 1, 0)) :
    RefAt (w'.setCell ⟨b, 1, none⟩ lv') O' e b { r with nl := r.nl + 1, life := upd r.life r.nl L } lv' tv (upd ov r.nl (.slice none 0 0)) (upd rv r.nl (.slice none 0 0)) ln := by
  have hb := h.lt
  have hbb : w'.heap[b]? = w.heap[b]? := hg.block b hb (fun hh => by have := h.ltag b hh.symm; rw [h.btag] at this; simp at this)
  have hOb : O' b = (e, 0, 0) := by rw [hO b hb]; exact h.btag
  have hne : ∀ k t, k < w.heap.size → O k = t → t ≠ (e, 1, 0) → t ≠ (e, 0, 0) → (w'.setCell ⟨b, 1, none⟩ lv').heap[k]? = w.heap[k]? := fun k t hk hkt h1 h0 => by
    rw [Below.heap_setCell _ _ _ _ (by rintro rfl; exact h0 (hkt.symm.trans h.btag))]
    exact hg.block k hk (fun hh => h1 (hkt.symm.trans (h.ltag k hh.symm)))
  refine ⟨?_, hOb, ?_, ht, ?_, ?_, ?_, ?_, ?_, ?_, ?_, ?_⟩
  · simp [World.setCell, Array.getElem?_modify, hbb, h.blk]
  · have e1 : enc (r.nl + 1) (fun i => lifeCells (upd r.life r.nl L i) (upd ov r.nl (.slice none 0 0) i) (upd rv r.nl (.slice none 0 0) i)) = (enc r.nl fun i => lifeCells (r.life i) (ov i) (rv i)) ++ lifeCells L (.slice none 0 0) (.slice none 0 0) := by
      rw [enc_succ]
      congr 1
      · exact enc_congr fun i hi => by rw [upd_other _ _ (by omega), upd_other _ _ (by omega), upd_other _ _ (by omega)]
      · simp only [upd_same]
    show World.ownsRow _ _ _ _ _ (r.nl + 1) (enc (r.nl + 1) (fun i => lifeCells (upd r.life r.nl L i) (upd ov r.nl (.slice none 0 0) i) (upd rv r.nl (.slice none 0 0) i)))
    rw [e1]
    exact ownsRow_of_block hl fun g hg' => Below.heap_setCell _ _ _ _ (by
      rintro rfl
      have := ht _ hg'
      rw [hOb] at this; simp at this)
  · exact ownsRow_of_block h.toks fun g hg' => hne g _ (ownsRow_lt h.toks hg') (h.ttag g hg') (by simp) (by simp)
  · intro g hg'; rw [hO g (ownsRow_lt h.toks hg')]; exact h.ttag g hg'
  · intro k hk
    by_cases hki : k = r.nl
    · subst hki
      simp only [upd_same, ho]
      exact World.ownsRow_nil _ _ _ _
    · have hk' : k < r.nl := by have : k < r.nl + 1 := hk; omega
      simp only [upd_other _ _ hki]
      exact ownsRow_of_block (h.owns k hk') fun g' hg' => hne g' _ (ownsRow_lt (h.owns k hk') hg') (h.otag k g' hk' hg') (by simp) (by simp)
  · intro k g' hk hg'
    by_cases hki : k = r.nl
    · subst hki
      simp [upd_same, Value.ownBlock] at hg'
    · have hk' : k < r.nl := by have : k < r.nl + 1 := hk; omega
      rw [upd_other _ _ hki] at hg'
      rw [hO g' (ownsRow_lt (h.owns k hk') hg')]
      exact h.otag k g' hk' hg'
  · intro k hk
    by_cases hki : k = r.nl
    · subst hki
      simp only [upd_same, hr]
      exact World.ownsRow_nil _ _ _ _
    · have hk' : k < r.nl := by have : k < r.nl + 1 := hk; omega
      simp only [upd_other _ _ hki]
      exact ownsRow_of_block (h.rules k hk') fun g' hg' => hne g' _ (ownsRow_lt (h.rules k hk') hg') (h.rtag k g' hk' hg') (by simp) (by simp)
  · intro k g' hk hg'
    by_cases hki : k = r.nl
    · subst hki
      simp [upd_same, Value.ownBlock] at hg'
    · have hk' : k < r.nl := by have : k < r.nl + 1 := hk; omega
      rw [upd_other _ _ hki] at hg'
      rw [hO g' (ownsRow_lt (h.rules k hk') hg')]
      exact h.rtag k g' hk' hg'
  · intro k hk
    exact ownsRow_of_block (h.lines k hk) fun g' hg' => hne g' _ (ownsRow_lt (h.lines k hk) hg') (h.ntag k g' hk hg') (by simp) (by simp)
  · intro k g' hk hg'
    rw [hO g' (ownsRow_lt (h.lines k hk) hg')]
    exact h.ntag k g' hk hg'
/-- The row of tokens has grown by one, and the struct says so. -/
theorem RefAt.pushTok {tv' nv : Value} {T : Tok} (h : RefAt w O e b r lv tv ov rv ln) (hg : w.grownBy w' tv.ownBlock)
    (hl : w'.ownsRow 0 104 4 tv' (r.nt + 1) ((enc r.nt fun k => tokCells (r.tok k) (ln k)) ++ tokCells T nv))
    (hn : w'.ownsRow 0 3 1 nv T.line.length (lineCells T.line))
    (hO : ∀ k, k < w.heap.size → O' k = O k) (ht : ∀ g, tv'.ownBlock = some g → O' g = (e, 2, 0)) (hnt : ∀ g, nv.ownBlock = some g → O' g = (e, 5, r.nt)) :
    RefAt (w'.setCell ⟨b, 2, none⟩ tv') O' e b { r with nt := r.nt + 1, tok := upd r.tok r.nt T } lv tv' ov rv (upd ln r.nt nv) := by
  have hb := h.lt
  have hbb : w'.heap[b]? = w.heap[b]? := hg.block b hb (fun hh => by have := h.ttag b hh.symm; rw [h.btag] at this; simp at this)
  have hOb : O' b = (e, 0, 0) := by rw [hO b hb]; exact h.btag
  have hne : ∀ k t, k < w.heap.size → O k = t → t ≠ (e, 2, 0) → t ≠ (e, 0, 0) → (w'.setCell ⟨b, 2, none⟩ tv').heap[k]? = w.heap[k]? := fun k t hk hkt h1 h0 => by
    rw [Below.heap_setCell _ _ _ _ (by rintro rfl; exact h0 (hkt.symm.trans h.btag))]
    exact hg.block k hk (fun hh => h1 (hkt.symm.trans (h.ttag k hh.symm)))
  refine ⟨?_, hOb, ?_, ?_, ?_, ht, ?_, ?_, ?_, ?_, ?_, ?_⟩
  · simp [World.setCell, Array.getElem?_modify, hbb, h.blk]
  · exact ownsRow_of_block h.lives fun g hg' => hne g _ (ownsRow_lt h.lives hg') (h.ltag g hg') (by simp) (by simp)
  · intro g hg'; rw [hO g (ownsRow_lt h.lives hg')]; exact h.ltag g hg'
  · have e1 : enc (r.nt + 1) (fun k => tokCells (upd r.tok r.nt T k) (upd ln r.nt nv k)) = (enc r.nt fun k => tokCells (r.tok k) (ln k)) ++ tokCells T nv := by
      rw [enc_succ]
      congr 1
      · exact enc_congr fun i hi => by rw [upd_other _ _ (by omega), upd_other _ _ (by omega)]
      · simp only [upd_same]
    show World.ownsRow _ _ _ _ _ (r.nt + 1) (enc (r.nt + 1) (fun k => tokCells (upd r.tok r.nt T k) (upd ln r.nt nv k)))
    rw [e1]
    exact ownsRow_of_block hl fun g hg' => Below.heap_setCell _ _ _ _ (by
      rintro rfl
      have := ht _ hg'
      rw [hOb] at this; simp at this)
  · intro k hk
    exact ownsRow_of_block (h.owns k hk) fun g' hg' => hne g' _ (ownsRow_lt (h.owns k hk) hg') (h.otag k g' hk hg') (by simp) (by simp)
  · intro k g' hk hg'
    rw [hO g' (ownsRow_lt (h.owns k hk) hg')]
    exact h.otag k g' hk hg'
  · intro k hk
    exact ownsRow_of_block (h.rules k hk) fun g' hg' => hne g' _ (ownsRow_lt (h.rules k hk) hg') (h.rtag k g' hk hg') (by simp) (by simp)
  · intro k g' hk hg'
    rw [hO g' (ownsRow_lt (h.rules k hk) hg')]
    exact h.rtag k g' hk hg'
  · intro k hk
    by_cases hki : k = r.nt
    · subst hki
      simp only [upd_same]
      exact ownsRow_of_block hn fun g hg' => Below.heap_setCell _ _ _ _ (by
        rintro rfl
        have := hnt _ hg'
        rw [hOb] at this; simp at this)
    · have hk' : k < r.nt := by have : k < r.nt + 1 := hk; omega
      simp only [upd_other _ _ hki]
      exact ownsRow_of_block (h.lines k hk') fun g' hg' => hne g' _ (ownsRow_lt (h.lines k hk') hg') (h.ntag k g' hk' hg') (by simp) (by simp)
  · intro k g' hk hg'
    by_cases hki : k = r.nt
    · subst hki
      rw [upd_same] at hg'
      exact hnt g' hg'
    · have hk' : k < r.nt := by have : k < r.nt + 1 := hk; omega
      rw [upd_other _ _ hki] at hg'
      rw [hO g' (ownsRow_lt (h.lines k hk') hg')]
      exact h.ntag k g' hk' hg'
end
end Go.Proofs.YtgndledehlilkaaGreat
