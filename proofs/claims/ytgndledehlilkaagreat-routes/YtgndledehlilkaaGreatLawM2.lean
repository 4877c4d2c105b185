/-
  The statements' world: one engine more; one table more.
-/
import Derived.Test.YtgndledehlilkaaGreatLawM1
namespace Go.Proofs.YtgndledehlilkaaGreat
open Go.RowKit

section
variable {I : EngI} {w w' : World} {O O' : Tag} {B bw ne nt nb : Nat} {lv tv kv bv cv : Value} {bx by_ : Nat → Nat} {rs : Nat → RefS} {T : Nat → Value} {K : Nat → Nat} {Tb : Nat → Value} {Kb : Nat → Nat}
/-- One engine more. -/
theorem LawAtM.push {lv' : Value} {nx ny : Nat} {r : RefS} {w0 : World} (h : LawAtM I w O B bw ne nt nb lv tv kv bv cv bx by_ rs T K Tb Kb) (hw : Still w w0) (hg : w0.grownBy w' lv.ownBlock)
    (hl : w'.ownsRow 0 46 2 lv' (ne + 1) ((enc ne fun i => [.pointer (some ⟨bx i, 0, none⟩), .pointer (some ⟨by_ i, 0, none⟩)]) ++ [.pointer (some ⟨nx, 0, none⟩), .pointer (some ⟨ny, 0, none⟩)]))
    (hO : ∀ k, k < w.heap.size → O' k = O k) (ht : ∀ g, lv'.ownBlock = some g → O' g = (0, 7, 0)) (hp : PairI I w0 O' (ne + 1) nx ny r) (hrow : ∀ g, lv.ownBlock = some g → O' g = (0, 7, 0)) :
    LawRepM I (w'.setCell ⟨bw, 0, none⟩ lv') B bw (ne + 1) nt nb ∧ Below B w (w'.setCell ⟨bw, 0, none⟩ lv') := by
  have hb := h.lt
  have hz := h.size
  have hs0 := hw.size
  have hs1 := hg.size
  have hbB : B ≤ bw := by
    rcases Nat.lt_or_ge bw B with hl | hg
    · have := h.outer bw hl; rw [h.wtag] at this; simp at this
    · exact hg
  have hblk : w'.heap[bw]? = w.heap[bw]? := by
    rw [hg.block bw (by omega) (fun hh => by have := h.ltag bw hh.symm; rw [h.wtag] at this; simp at this), hw.heap hb]
  have hOb : O' bw = (0, 6, 0) := by rw [hO bw hb]; exact h.wtag
  have hne : ∀ k, k < w0.heap.size → O' k ≠ (0, 7, 0) → O' k ≠ (0, 6, 0) → (w'.setCell ⟨bw, 0, none⟩ lv').heap[k]? = w0.heap[k]? := fun k hk h7 h6 => by
    rw [Below.heap_setCell _ _ _ _ (by rintro rfl; exact h6 hOb)]
    exact hg.block k hk (fun hh => h7 (hrow k hh.symm))
  have hne' : ∀ k, k < w.heap.size → O k ≠ (0, 7, 0) → O k ≠ (0, 6, 0) → (w'.setCell ⟨bw, 0, none⟩ lv').heap[k]? = w.heap[k]? := fun k hk h7 h6 => by
    rw [hne k (by omega) (by rw [hO k hk]; exact h7) (by rw [hO k hk]; exact h6)]
    exact hw.heap hk
  refine ⟨⟨O', lv', tv, kv, bv, cv, upd bx ne nx, upd by_ ne ny, upd rs ne r, T, K, Tb, Kb, ?_, hOb, ?_, ht, ?_, by simp; omega, ?_, ?_, ?_⟩, ?_⟩
  · simp [World.setCell, Array.getElem?_modify, hblk, h.blk]
  · have e1 : enc (ne + 1) (fun i => [Value.pointer (some ⟨upd bx ne nx i, 0, none⟩), Value.pointer (some ⟨upd by_ ne ny i, 0, none⟩)]) = (enc ne fun i => [.pointer (some ⟨bx i, 0, none⟩), .pointer (some ⟨by_ i, 0, none⟩)]) ++ [.pointer (some ⟨nx, 0, none⟩), .pointer (some ⟨ny, 0, none⟩)] := by
      rw [enc_succ]
      congr 1
      · exact enc_congr fun i hi => by rw [upd_other _ _ (by omega), upd_other _ _ (by omega)]
      · simp only [upd_same]
    rw [e1]
    exact ownsRow_of_block hl fun g hg' => Below.heap_setCell _ _ _ _ (by
      rintro rfl
      have := ht _ hg'
      rw [hOb] at this; simp at this)
  · intro k hk'; rw [hO k (by omega)]; exact h.outer k hk'
  · intro i hi
    by_cases e : i = ne
    · subst e
      rw [upd_same, upd_same, upd_same]
      exact hp.frame (fun k a c => hne k a (by intro e; rw [e] at c; simp at c) (by intro e; rw [e] at c; simp at c)) (fun _ _ _ => rfl)
    · rw [upd_other _ _ e, upd_other _ _ e, upd_other _ _ e]
      exact (h.pair i (by omega)).frame (fun k a c => hne' k a (by intro e; rw [e] at c; simp at c) (by intro e; rw [e] at c; simp at c)) (fun k a _ => hO k a)
  · exact h.outR.frameR (by simp; omega) (fun k a c => hne' k a (by rcases c with c | c | c <;> rw [c] <;> simp) (by rcases c with c | c | c <;> rw [c] <;> simp)) hO
  · exact h.outB.frameB (by simp; omega) (fun k a c => hne' k a (by rcases c with c | c | c <;> rw [c] <;> simp) (by rcases c with c | c | c <;> rw [c] <;> simp)) hO
  · refine ⟨?_, ?_, ?_, ?_, ?_⟩
    · exact hg.os.trans hw.os
    · exact hg.tape.trans hw.tape
    · exact hg.output.trans hw.output
    · simp; omega
    · intro k hk'
      rw [Below.heap_setCell _ _ _ _ (by show k ≠ bw; omega), hg.block k (by omega) (fun hh => by have := h.ltag k hh.symm; rw [h.outer k hk'] at this; simp at this)]
      exact hw.heap (by omega)

def four (T : Nat → Value) (n : Nat) (a b c d : Value) (i : Nat) : Value := if i < n then T i else if i = n then a else if i = n + 1 then b else if i = n + 2 then c else d
def fourK (K : Nat → Nat) (n i : Nat) : Nat := if i < n then K i else n
theorem enc_four (T : Nat → Value) (n : Nat) (a b c d : Value) : (enc n fun i => [T i]) ++ [a, b, c, d] = enc (n + 4) fun i => [four T n a b c d i] := by
  rw [show n + 4 = n + 1 + 1 + 1 + 1 from rfl, enc_succ, enc_succ, enc_succ, enc_succ]
  simp only [four, List.append_assoc]
  congr 1
  · exact enc_congr fun i hi => by rw [if_pos hi]
  · have e1 : ¬ n + 1 < n := by omega
    have e2 : ¬ n + 1 + 1 < n := by omega
    have e3 : ¬ n + 1 + 1 + 1 < n := by omega
    simp [e1, e2, e3]
theorem enc_fourK (K : Nat → Nat) (n : Nat) : (enc n fun i => [Value.int .i64 (K i : Int)]) ++ [.int .i64 n, .int .i64 n, .int .i64 n, .int .i64 n] = enc (n + 4) fun i => [Value.int .i64 (fourK K n i : Int)] := by
  rw [show n + 4 = n + 1 + 1 + 1 + 1 from rfl, enc_succ, enc_succ, enc_succ, enc_succ]
  simp only [fourK, List.append_assoc]
  congr 1
  · exact enc_congr fun i hi => by rw [if_pos hi]
  · rw [if_neg (by omega), if_neg (by omega), if_neg (by omega), if_neg (by omega)]
    rfl
/-- One table more. -/
theorem LawAtM.routes {l : Value} (h : LawAtM I w O B bw ne nt nb lv tv kv bv cv bx by_ rs T K Tb Kb) (hlB : ∀ b, l.ownBlock = some b → O b = (0, 9, 0)) (hl9 : ∀ i b, i < nt → (T i).ownBlock = some b → l.ownBlock ≠ some b) (hl9b : ∀ i b, i < nb → (Tb i).ownBlock = some b → l.ownBlock ≠ some b)
    (hr : RoutesPost w O bw nt lv tv kv bv cv l (enc nt fun i => [T i]) (enc nt fun i => [.int .i64 (K i : Int)]) w') :
    LawRepM I w' B bw ne (nt + 4) nb ∧ Below B w w' := by
  obtain ⟨O', tv', kv', g, h', j, hO, hk, hblk, htr, htt, hkr, hkt, hx⟩ := hr
  have hb := h.lt
  have hz := h.size
  have hs := hk.size
  have hne : ∀ k, k < w.heap.size → O k ≠ (0, 6, 0) → O k ≠ (0, 7, 1) → O k ≠ (0, 7, 2) → l.ownBlock ≠ some k → w'.heap[k]? = w.heap[k]? := fun k a c6 c1 c2 c9 => hk.block k a (by
    rintro (rfl | e | e | e)
    · exact c6 h.wtag
    · exact c1 (h.outR.ttag k e)
    · exact c2 (h.outR.ktag k e)
    · exact c9 e)
  have hn9 : ∀ k, O k ≠ (0, 9, 0) → l.ownBlock ≠ some k := fun k c e => c (hlB k e)
  refine ⟨⟨O', lv, tv', kv', bv, cv, bx, by_, rs, four T nt l g h' j, fourK K nt, Tb, Kb, hblk, ?_, ?_, ?_, ?_, by omega, ?_, ?_, ?_⟩, ?_⟩
  · rw [hO bw hb]; exact h.wtag
  · exact ownsRow_of_block h.row fun b hb' => hne b (ownsRow_lt h.row hb') (by rw [h.ltag b hb']; simp) (by rw [h.ltag b hb']; simp) (by rw [h.ltag b hb']; simp) (hn9 b (by rw [h.ltag b hb']; simp))
  · intro b hb'; rw [hO b (ownsRow_lt h.row hb')]; exact h.ltag b hb'
  · intro k hk'; rw [hO k (by omega)]; exact h.outer k hk'
  · intro i hi
    exact (h.pair i hi).frame (fun k a c => hne k a (by intro e; rw [e] at c; simp at c) (by intro e; rw [e] at c; simp at c) (by intro e; rw [e] at c; simp at c) (hn9 k (by intro e; rw [e] at c; simp at c))) (fun k a _ => hO k a)
  · refine ⟨by rw [← enc_four]; exact htr, htt, by rw [← enc_fourK]; exact hkr, hkt, fun i hi => ?_, fun i hi => ?_⟩
    · unfold fourK
      split
      · have := h.outR.num i (by assumption); omega
      · omega
    · unfold fourK four
      by_cases hlt : i < nt
      · rw [if_pos hlt, if_pos hlt]
        obtain ⟨h1, h2⟩ := h.outR.fil i hlt
        refine ⟨FilledR.frame h1 fun b hb' => ?_, fun b hb' => ?_⟩
        · obtain ⟨q1, q2⟩ := h2 b hb'
          exact hne b q1 (by rw [q2]; simp) (by rw [q2]; simp) (by rw [q2]; simp) (hl9 i b hlt hb')
        · obtain ⟨q1, q2⟩ := h2 b hb'
          exact ⟨by omega, by rw [hO b q1]; exact q2⟩
      · rw [if_neg hlt, if_neg hlt]
        split
        · exact hx l (.inl rfl)
        · split
          · exact hx g (.inr (.inl rfl))
          · split
            · exact hx h' (.inr (.inr (.inl rfl)))
            · exact hx j (.inr (.inr (.inr rfl)))
  · refine ⟨?_, ?_, ?_, ?_, h.outB.num, fun i hi => ?_⟩
    · exact ownsRow_of_block h.outB.trow fun b hb' => hne b (ownsRow_lt h.outB.trow hb') (by rw [h.outB.ttag b hb']; simp) (by rw [h.outB.ttag b hb']; simp) (by rw [h.outB.ttag b hb']; simp) (hn9 b (by rw [h.outB.ttag b hb']; simp))
    · intro b hb'; rw [hO b (ownsRow_lt h.outB.trow hb')]; exact h.outB.ttag b hb'
    · exact ownsRow_of_block h.outB.krow fun b hb' => hne b (ownsRow_lt h.outB.krow hb') (by rw [h.outB.ktag b hb']; simp) (by rw [h.outB.ktag b hb']; simp) (by rw [h.outB.ktag b hb']; simp) (hn9 b (by rw [h.outB.ktag b hb']; simp))
    · intro b hb'; rw [hO b (ownsRow_lt h.outB.krow hb')]; exact h.outB.ktag b hb'
    · obtain ⟨h1, h2⟩ := h.outB.fil i hi
      refine ⟨FilledB.frame h1 fun b hb' => ?_, fun b hb' => ?_⟩
      · obtain ⟨q1, q2⟩ := h2 b hb'
        exact hne b q1 (by rw [q2]; simp) (by rw [q2]; simp) (by rw [q2]; simp) (hl9b i b hi hb')
      · obtain ⟨q1, q2⟩ := h2 b hb'
        exact ⟨by omega, by rw [hO b q1]; exact q2⟩
  · refine hk.below hz fun k hk' => ?_
    have ho := h.outer k hk'
    rintro (rfl | e | e | e)
    · rw [h.wtag] at ho; simp at ho
    · rw [h.outR.ttag k e] at ho; simp at ho
    · rw [h.outR.ktag k e] at ho; simp at ho
    · rw [hlB k e] at ho; simp at ho
end
end Go.Proofs.YtgndledehlilkaaGreat
