/-
  The world of the statements (package districtlaw): the engines, two by two, and how they lie in memory. (No list has come out yet.)
-/
import Derived.Test.YtgndledehlilkaaGreatLawI1M
namespace Go.Proofs.YtgndledehlilkaaGreat
open Go.RowKit

structure LawAtI (I : EngI) (w : World) (O : Tag) (B bw ne : Nat) (lv : Value) (bx by_ : Nat → Nat) (rs : Nat → RefS) : Prop where
  blk : w.heap[bw]? = some (.cells #[lv, .slice none 0 0, .slice none 0 0, .slice none 0 0, .slice none 0 0] 31 (0, 0))
  wtag : O bw = (0, 6, 0)
  row : w.ownsRow 0 46 2 lv ne (enc ne fun i => [.pointer (some ⟨bx i, 0, none⟩), .pointer (some ⟨by_ i, 0, none⟩)])
  ltag : ∀ g, lv.ownBlock = some g → O g = (0, 7, 0)
  outer : ∀ k, k < B → O k = (0, 8, 0)
  size : B ≤ w.heap.size
  pair : ∀ i, i < ne → PairI I w O (i + 1) (bx i) (by_ i) (rs i)
def LawRepI (I : EngI) (w : World) (B bw ne : Nat) : Prop := ∃ O lv bx by_ rs, LawAtI I w O B bw ne lv bx by_ rs

section
variable {I : EngI} {w w' : World} {O O' : Tag} {B bw ne : Nat} {lv : Value} {bx by_ : Nat → Nat} {rs : Nat → RefS}
theorem LawAtI.lt (h : LawAtI I w O B bw ne lv bx by_ rs) : bw < w.heap.size := (Array.getElem?_eq_some_iff.1 h.blk).1
theorem LawAtI.frame (h : LawAtI I w O B bw ne lv bx by_ rs) (hs : w.heap.size ≤ w'.heap.size) (hk : ∀ k, k < w.heap.size → O k ≠ (0, 8, 0) → w'.heap[k]? = w.heap[k]?) (hO : ∀ k, k < w.heap.size → O' k = O k) : LawAtI I w' O' B bw ne lv bx by_ rs := by
  have hb := h.lt
  have hz := h.size
  refine ⟨?_, ?_, ?_, ?_, ?_, by omega, ?_⟩
  · rw [hk bw hb (by rw [h.wtag]; simp)]; exact h.blk
  · rw [hO bw hb]; exact h.wtag
  · exact ownsRow_of_block h.row fun g hg => hk g (ownsRow_lt h.row hg) (by rw [h.ltag g hg]; simp)
  · intro g hg; rw [hO g (ownsRow_lt h.row hg)]; exact h.ltag g hg
  · intro k hk'; rw [hO k (by omega)]; exact h.outer k hk'
  · intro i hi
    exact (h.pair i hi).frame (fun k a c => hk k a (by intro e; rw [e] at c; simp at c)) (fun k a _ => hO k a)
theorem LawAtI.still (h : LawAtI I w O B bw ne lv bx by_ rs) (hs : Still w w') : LawAtI I w' O B bw ne lv bx by_ rs := h.frame hs.size (fun _ hk _ => hs.heap hk) (fun _ _ => rfl)
theorem LawRepI.still (h : LawRepI I w B bw ne) (hs : Still w w') : LawRepI I w' B bw ne := by
  obtain ⟨O, lv, bx, by_, rs, h⟩ := h
  exact ⟨O, lv, bx, by_, rs, h.still hs⟩
/-- Behind a call on engine i. -/
theorem LawAtI.after (h : LawAtI I w O B bw ne lv bx by_ rs) {i : Nat} (hi : i < ne) (ha : AfterI I w O (i + 1) (bx i) (by_ i) w') : LawRepI I w' B bw ne ∧ Below B w w' := by
  obtain ⟨O', hO, ⟨r', hp⟩, hk⟩ := ha
  have hb := h.lt
  have hz := h.size
  have hs := hk.size
  have hne : ∀ k, k < w.heap.size → (O k).1 ≠ i + 1 → w'.heap[k]? = w.heap[k]? := fun k a c => hk.block k a c
  refine ⟨⟨O', lv, bx, by_, upd rs i r', ?_, ?_, ?_, ?_, ?_, by omega, ?_⟩, hk.below hz (fun k hk' => by unfold mineA; rw [h.outer k hk']; simp)⟩
  · rw [hne bw hb (by rw [h.wtag]; simp)]; exact h.blk
  · rw [hO bw hb]; exact h.wtag
  · exact ownsRow_of_block h.row fun g hg => hne g (ownsRow_lt h.row hg) (by rw [h.ltag g hg]; simp)
  · intro g hg; rw [hO g (ownsRow_lt h.row hg)]; exact h.ltag g hg
  · intro k hk'; rw [hO k (by omega)]; exact h.outer k hk'
  · intro j hj
    by_cases e : j = i
    · subst e; rw [upd_same]; exact hp
    · rw [upd_other _ _ e]
      exact (h.pair j hj).frame (fun k a c => hne k a (by omega)) (fun k a _ => hO k a)
theorem LawAtI.cells (h : LawAtI I w O B bw ne lv bx by_ rs) : w.cell? ⟨bw, 0, none⟩ = some lv ∧ (∀ j, 1 ≤ j → j < 5 → w.cell? ⟨bw, j, none⟩ = some (.slice none 0 0)) ∧ ∀ j, w.frozen? ⟨bw, j, none⟩ = false := by
  refine ⟨by simp [World.cell?, h.blk], fun j h1 h5 => ?_, fun j => by simp [World.frozen?, h.blk]⟩
  rcases (by omega : j = 1 ∨ j = 2 ∨ j = 3 ∨ j = 4) with rfl | rfl | rfl | rfl <;> simp [World.cell?, h.blk]
/-- One engine more. -/
theorem LawAtI.push {lv' : Value} {nx ny : Nat} {r : RefS} {w0 : World} (h : LawAtI I w O B bw ne lv bx by_ rs) (hw : Still w w0) (hg : w0.grownBy w' lv.ownBlock)
    (hl : w'.ownsRow 0 46 2 lv' (ne + 1) ((enc ne fun i => [.pointer (some ⟨bx i, 0, none⟩), .pointer (some ⟨by_ i, 0, none⟩)]) ++ [.pointer (some ⟨nx, 0, none⟩), .pointer (some ⟨ny, 0, none⟩)]))
    (hO : ∀ k, k < w.heap.size → O' k = O k) (ht : ∀ g, lv'.ownBlock = some g → O' g = (0, 7, 0)) (hp : PairI I w0 O' (ne + 1) nx ny r) (hrow : ∀ g, lv.ownBlock = some g → O' g = (0, 7, 0)) :
    LawRepI I (w'.setCell ⟨bw, 0, none⟩ lv') B bw (ne + 1) ∧ Below B w (w'.setCell ⟨bw, 0, none⟩ lv') := by
  have hb := h.lt
  have hz := h.size
  have hs0 := hw.size
  have hs1 := hg.size
  have hbB : B ≤ bw := by
    rcases Nat.lt_or_ge bw B with hl | hg
    · have := h.outer bw hl; rw [h.wtag] at this; simp at this
    · exact hg
  have hblk : w'.heap[bw]? = w.heap[bw]? := by
    rw [hg.block bw (by omega) (fun hh => by have := h.ltag bw hh.symm; rw [h.wtag] at this; simp at this), hw.heap hb]
  have hOb : O' bw = (0, 6, 0) := by rw [hO bw hb]; exact h.wtag
  have hne : ∀ k, k < w0.heap.size → O' k ≠ (0, 7, 0) → O' k ≠ (0, 6, 0) → (w'.setCell ⟨bw, 0, none⟩ lv').heap[k]? = w0.heap[k]? := fun k hk h7 h6 => by
    rw [Below.heap_setCell _ _ _ _ (by rintro rfl; exact h6 hOb)]
    exact hg.block k hk (fun hh => h7 (hrow k hh.symm))
  refine ⟨⟨O', lv', upd bx ne nx, upd by_ ne ny, upd rs ne r, ?_, hOb, ?_, ht, ?_, by simp; omega, ?_⟩, ?_⟩
  · simp [World.setCell, Array.getElem?_modify, hblk, h.blk]
  · have e1 : enc (ne + 1) (fun i => [Value.pointer (some ⟨upd bx ne nx i, 0, none⟩), Value.pointer (some ⟨upd by_ ne ny i, 0, none⟩)]) = (enc ne fun i => [.pointer (some ⟨bx i, 0, none⟩), .pointer (some ⟨by_ i, 0, none⟩)]) ++ [.pointer (some ⟨nx, 0, none⟩), .pointer (some ⟨ny, 0, none⟩)] := by
      rw [enc_succ]
      congr 1
      · exact enc_congr fun i hi => by rw [upd_other _ _ (by omega), upd_other _ _ (by omega)]
      · simp only [upd_same]
    rw [e1]
    exact ownsRow_of_block hl fun g hg' => Below.heap_setCell _ _ _ _ (by
      rintro rfl
      have := ht _ hg'
      rw [hOb] at this; simp at this)
  · intro k hk'; rw [hO k (by omega)]; exact h.outer k hk'
  · intro i hi
    by_cases e : i = ne
    · subst e
      rw [upd_same, upd_same, upd_same]
      exact hp.frame (fun k a c => hne k a (by intro e; rw [e] at c; simp at c) (by intro e; rw [e] at c; simp at c)) (fun _ _ _ => rfl)
    · rw [upd_other _ _ e, upd_other _ _ e, upd_other _ _ e]
      refine (h.pair i (by omega)).frame (fun k a c => ?_) (fun k a _ => hO k a)
      rw [hne k (by omega) (by rw [hO k a]; intro e; rw [e] at c; simp at c) (by rw [hO k a]; intro e; rw [e] at c; simp at c)]
      exact hw.heap a
  · refine ⟨?_, ?_, ?_, ?_, ?_⟩
    · exact hg.os.trans hw.os
    · exact hg.tape.trans hw.tape
    · exact hg.output.trans hw.output
    · simp; omega
    · intro k hk'
      rw [Below.heap_setCell _ _ _ _ (by show k ≠ bw; omega), hg.block k (by omega) (fun hh => by have := h.ltag k hh.symm; rw [h.outer k hk'] at this; simp at this)]
      exact hw.heap (by omega)
end
set_option maxHeartbeats 400000 in
theorem refNew_yes (n : Int) (w : World) (h1 : 1 ≤ n) (h2 : n ≤ 64) :
    Calls Tryz.prog 12 #[.int .i64 n] w fun en w' => en = .returned (.tuple #[.pointer (some ⟨w.heap.size, 0, none⟩), .int .i64 0]) ∧ Still w w' ∧ w'.heap.size = w.heap.size + 1 ∧
      (∀ (O : Nat → Nat × Nat × Nat) (e : Nat) (lf : Nat → Life) (tk : Nat → Tok), O w.heap.size = (e, 0, 0) → RefRep w' O e w.heap.size ⟨n, 0, lf, 0, tk⟩) := by
  go_enter Tryz.func12, Tryz.ntmps12
  go_wp2_with (go_at_call 20; refine (between_yes _ _ _ _ (by omega) (by omega)).mono ?_; rintro e w' ⟨rfl, hw⟩; replace hw := hw.symm; subst hw)
  go_ret2
  refine ⟨rfl, (Kept.refl _ _).alloc _, by simp, fun O e lf tk hO => ⟨.slice none 0 0, .slice none 0 0, fun _ => .slice none 0 0, fun _ => .slice none 0 0, fun _ => .slice none 0 0, heap_alloc_new w _, hO, World.ownsRow_nil _ _ _ _, ?_, World.ownsRow_nil _ _ _ _, ?_, ?_, ?_, ?_, ?_, ?_, ?_⟩⟩
  · intro g hg; simp [Value.ownBlock] at hg
  · intro g hg; simp [Value.ownBlock] at hg
  · intro i hi; exact absurd hi (Nat.not_lt_zero _)
  · intro i g hi; exact absurd hi (Nat.not_lt_zero _)
  · intro i hi; exact absurd hi (Nat.not_lt_zero _)
  · intro i g hi; exact absurd hi (Nat.not_lt_zero _)
  · intro i hi; exact absurd hi (Nat.not_lt_zero _)
  · intro i g hi; exact absurd hi (Nat.not_lt_zero _)
set_option maxHeartbeats 400000 in
theorem refNew_no (n : Int) (w : World) (h : n < 1 ∨ 64 < n) :
    Calls Tryz.prog 12 #[.int .i64 n] w fun en w' => en = .returned (.tuple #[.pointer none, .int .i64 2]) ∧ w' = w := by
  have H := hide h
  clear h
  go_enter Tryz.func12, Tryz.ntmps12
  go_wp2_with (go_at_call 20; refine (between_no _ _ _ _ (unhide H)).mono ?_; rintro e w' ⟨rfl, hw⟩; replace hw := hw.symm; subst hw)
  go_ret2
  exact ⟨rfl, rfl⟩
end Go.Proofs.YtgndledehlilkaaGreat
