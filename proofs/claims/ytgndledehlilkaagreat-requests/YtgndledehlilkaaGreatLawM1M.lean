import Derived.Test.YtgndledehlilkaaGreatLawJ1M
import Derived.Test.YtgndledehlilkaaGreatLawI5
namespace Go.Proofs.YtgndledehlilkaaGreat
open Go.RowKit

/-- What the caller writes at the place i of the k-th answer. -/
def signC (k i : Nat) : Value := .int .u8 ((if i % 2 = 0 then k % 256 else k / 256 % 256 : Nat) : Int)
/-- A list of bytes, written full by its owner. -/
def FilledB (w : World) (v : Value) (k : Nat) : Prop :=
  ∃ a n c, v = .slice a n c ∧ n ≤ maxLen ∧ (0 < n → ∃ g, a = some ⟨g, 0, none⟩ ∧ ∀ i, i < n → w.cell? ⟨g, i, none⟩ = some (signC k i))
theorem FilledB.frame {w w' : World} {v : Value} {k : Nat} (h : FilledB w v k) (hk : ∀ g, v.ownBlock = some g → w'.heap[g]? = w.heap[g]?) : FilledB w' v k := by
  obtain ⟨a, n, c, rfl, hn, hc⟩ := h
  refine ⟨a, n, c, rfl, hn, fun h0 => ?_⟩
  obtain ⟨g, rfl, hg⟩ := hc h0
  exact ⟨g, rfl, fun i hi => by
    rw [← hg i hi]
    exact World.cell?_of_block (w := w) (a := ⟨g, i, none⟩) (hk g rfl)⟩

/-- One sort of lists that came out: the row of the lists, and the row of their numbers. F: a list reads as it was written. -/
structure Out (F : World → Value → Nat → Prop) (e : TypeId) (c : Nat) (w : World) (O : Tag) (tv kv : Value) (n : Nat) (T : Nat → Value) (K : Nat → Nat) : Prop where
  trow : w.ownsRow 0 e 1 tv n (enc n fun i => [T i])
  ttag : ∀ b, tv.ownBlock = some b → O b = (0, 7, c)
  krow : w.ownsRow 0 3 1 kv n (enc n fun i => [.int .i64 (K i : Int)])
  ktag : ∀ b, kv.ownBlock = some b → O b = (0, 7, c + 1)
  num : ∀ i, i < n → K i ≤ n
  fil : ∀ i, i < n → F w (T i) (K i) ∧ ∀ b, (T i).ownBlock = some b → b < w.heap.size ∧ O b = (0, 9, 0)
theorem Out.frame {F : World → Value → Nat → Prop} (hF : ∀ (w w' : World) (v : Value) (k : Nat), F w v k → (∀ g, v.ownBlock = some g → w'.heap[g]? = w.heap[g]?) → F w' v k)
    {e : TypeId} {c : Nat} {w w' : World} {O O' : Tag} {tv kv : Value} {n : Nat} {T : Nat → Value} {K : Nat → Nat} (h : Out F e c w O tv kv n T K) (hs : w.heap.size ≤ w'.heap.size)
    (hk : ∀ k, k < w.heap.size → (O k = (0, 7, c) ∨ O k = (0, 7, c + 1) ∨ O k = (0, 9, 0)) → w'.heap[k]? = w.heap[k]?) (hO : ∀ k, k < w.heap.size → O' k = O k) : Out F e c w' O' tv kv n T K := by
  refine ⟨?_, ?_, ?_, ?_, h.num, ?_⟩
  · exact ownsRow_of_block h.trow fun g hg => hk g (ownsRow_lt h.trow hg) (.inl (h.ttag g hg))
  · intro g hg; rw [hO g (ownsRow_lt h.trow hg)]; exact h.ttag g hg
  · exact ownsRow_of_block h.krow fun g hg => hk g (ownsRow_lt h.krow hg) (.inr (.inl (h.ktag g hg)))
  · intro g hg; rw [hO g (ownsRow_lt h.krow hg)]; exact h.ktag g hg
  · intro i hi
    obtain ⟨h1, h2⟩ := h.fil i hi
    refine ⟨hF _ _ _ _ h1 fun g hg => hk g (h2 g hg).1 (.inr (.inr (h2 g hg).2)), fun b hb => ?_⟩
    obtain ⟨q1, q2⟩ := h2 b hb
    exact ⟨by omega, by rw [hO b q1]; exact q2⟩
def FilledRN (w : World) (v : Value) (k : Nat) : Prop := FilledR w v (k : Int)
theorem Out.frameR {w w' : World} {O O' : Tag} {tv kv : Value} {n : Nat} {T : Nat → Value} {K : Nat → Nat} (h : Out FilledRN 52 1 w O tv kv n T K) (hs : w.heap.size ≤ w'.heap.size)
    (hk : ∀ k, k < w.heap.size → (O k = (0, 7, 1) ∨ O k = (0, 7, 2) ∨ O k = (0, 9, 0)) → w'.heap[k]? = w.heap[k]?) (hO : ∀ k, k < w.heap.size → O' k = O k) : Out FilledRN 52 1 w' O' tv kv n T K :=
  Out.frame (F := FilledRN) (fun _ _ _ _ h hk => FilledR.frame h hk) h hs hk hO
theorem Out.frameB {w w' : World} {O O' : Tag} {tv kv : Value} {n : Nat} {T : Nat → Value} {K : Nat → Nat} (h : Out FilledB 33 3 w O tv kv n T K) (hs : w.heap.size ≤ w'.heap.size)
    (hk : ∀ k, k < w.heap.size → (O k = (0, 7, 3) ∨ O k = (0, 7, 4) ∨ O k = (0, 9, 0)) → w'.heap[k]? = w.heap[k]?) (hO : ∀ k, k < w.heap.size → O' k = O k) : Out FilledB 33 3 w' O' tv kv n T K :=
  Out.frame (F := FilledB) (fun _ _ _ _ h hk => FilledB.frame h hk) h hs hk hO

/-- The statements' world: the engines, two by two, and the lists. -/
structure LawAtM (I : EngI) (w : World) (O : Tag) (B bw ne nt nb : Nat) (lv tv kv bv cv : Value) (bx by_ : Nat → Nat) (rs : Nat → RefS) (T : Nat → Value) (K : Nat → Nat) (Tb : Nat → Value) (Kb : Nat → Nat) : Prop where
  blk : w.heap[bw]? = some (.cells #[lv, tv, kv, bv, cv] 31 (0, 0))
  wtag : O bw = (0, 6, 0)
  row : w.ownsRow 0 46 2 lv ne (enc ne fun i => [.pointer (some ⟨bx i, 0, none⟩), .pointer (some ⟨by_ i, 0, none⟩)])
  ltag : ∀ g, lv.ownBlock = some g → O g = (0, 7, 0)
  outer : ∀ k, k < B → O k = (0, 8, 0)
  size : B ≤ w.heap.size
  pair : ∀ i, i < ne → PairI I w O (i + 1) (bx i) (by_ i) (rs i)
  outR : Out FilledRN 52 1 w O tv kv nt T K
  outB : Out FilledB 33 3 w O bv cv nb Tb Kb
def LawRepM (I : EngI) (w : World) (B bw ne nt nb : Nat) : Prop := ∃ O lv tv kv bv cv bx by_ rs T K Tb Kb, LawAtM I w O B bw ne nt nb lv tv kv bv cv bx by_ rs T K Tb Kb

section
variable {I : EngI} {w w' : World} {O O' : Tag} {B bw ne nt nb : Nat} {lv tv kv bv cv : Value} {bx by_ : Nat → Nat} {rs : Nat → RefS} {T : Nat → Value} {K : Nat → Nat} {Tb : Nat → Value} {Kb : Nat → Nat}
theorem LawAtM.lt (h : LawAtM I w O B bw ne nt nb lv tv kv bv cv bx by_ rs T K Tb Kb) : bw < w.heap.size := (Array.getElem?_eq_some_iff.1 h.blk).1
theorem LawAtM.frame (h : LawAtM I w O B bw ne nt nb lv tv kv bv cv bx by_ rs T K Tb Kb) (hs : w.heap.size ≤ w'.heap.size) (hk : ∀ k, k < w.heap.size → O k ≠ (0, 8, 0) → w'.heap[k]? = w.heap[k]?) (hO : ∀ k, k < w.heap.size → O' k = O k) : LawAtM I w' O' B bw ne nt nb lv tv kv bv cv bx by_ rs T K Tb Kb := by
  have hb := h.lt
  have hz := h.size
  refine ⟨?_, ?_, ?_, ?_, ?_, by omega, ?_, ?_, ?_⟩
  · rw [hk bw hb (by rw [h.wtag]; simp)]; exact h.blk
  · rw [hO bw hb]; exact h.wtag
  · exact ownsRow_of_block h.row fun g hg => hk g (ownsRow_lt h.row hg) (by rw [h.ltag g hg]; simp)
  · intro g hg; rw [hO g (ownsRow_lt h.row hg)]; exact h.ltag g hg
  · intro k hk'; rw [hO k (by omega)]; exact h.outer k hk'
  · intro i hi
    exact (h.pair i hi).frame (fun k a c => hk k a (by intro e; rw [e] at c; simp at c)) (fun k a _ => hO k a)
  · exact h.outR.frameR hs (fun k a c => hk k a (by rcases c with c | c | c <;> rw [c] <;> simp)) hO
  · exact h.outB.frameB hs (fun k a c => hk k a (by rcases c with c | c | c <;> rw [c] <;> simp)) hO
theorem LawAtM.still (h : LawAtM I w O B bw ne nt nb lv tv kv bv cv bx by_ rs T K Tb Kb) (hs : Still w w') : LawAtM I w' O B bw ne nt nb lv tv kv bv cv bx by_ rs T K Tb Kb := h.frame hs.size (fun _ hk _ => hs.heap hk) (fun _ _ => rfl)
theorem LawRepM.still (h : LawRepM I w B bw ne nt nb) (hs : Still w w') : LawRepM I w' B bw ne nt nb := by
  obtain ⟨O, lv, tv, kv, bv, cv, bx, by_, rs, T, K, Tb, Kb, h⟩ := h
  exact ⟨O, lv, tv, kv, bv, cv, bx, by_, rs, T, K, Tb, Kb, h.still hs⟩
/-- Behind a call on engine i. -/
theorem LawAtM.afterAt (h : LawAtM I w O B bw ne nt nb lv tv kv bv cv bx by_ rs T K Tb Kb) {i : Nat} (hi : i < ne) (ha : AfterI I w O (i + 1) (bx i) (by_ i) w') :
    ∃ O' r', (∀ k, k < w.heap.size → O' k = O k) ∧ LawAtM I w' O' B bw ne nt nb lv tv kv bv cv bx by_ (upd rs i r') T K Tb Kb ∧ Below B w w' := by
  obtain ⟨O', hO, ⟨r', hp⟩, hk⟩ := ha
  have hb := h.lt
  have hz := h.size
  have hs := hk.size
  have hne : ∀ k, k < w.heap.size → (O k).1 ≠ i + 1 → w'.heap[k]? = w.heap[k]? := fun k a c => hk.block k a c
  refine ⟨O', r', hO, ⟨?_, ?_, ?_, ?_, ?_, by omega, ?_, ?_, ?_⟩, hk.below hz (fun k hk' => by unfold mineA; rw [h.outer k hk']; simp)⟩
  · rw [hne bw hb (by rw [h.wtag]; simp)]; exact h.blk
  · rw [hO bw hb]; exact h.wtag
  · exact ownsRow_of_block h.row fun g hg => hne g (ownsRow_lt h.row hg) (by rw [h.ltag g hg]; simp)
  · intro g hg; rw [hO g (ownsRow_lt h.row hg)]; exact h.ltag g hg
  · intro k hk'; rw [hO k (by omega)]; exact h.outer k hk'
  · intro j hj
    by_cases e : j = i
    · subst e; rw [upd_same]; exact hp
    · rw [upd_other _ _ e]
      exact (h.pair j hj).frame (fun k a c => hne k a (by omega)) (fun k a _ => hO k a)
  · exact h.outR.frameR hs (fun k a c => hne k a (by rcases c with c | c | c <;> rw [c] <;> simp)) hO
  · exact h.outB.frameB hs (fun k a c => hne k a (by rcases c with c | c | c <;> rw [c] <;> simp)) hO
theorem LawAtM.after (h : LawAtM I w O B bw ne nt nb lv tv kv bv cv bx by_ rs T K Tb Kb) {i : Nat} (hi : i < ne) (ha : AfterI I w O (i + 1) (bx i) (by_ i) w') : LawRepM I w' B bw ne nt nb ∧ Below B w w' := by
  obtain ⟨O', r', _, h1, h2⟩ := h.afterAt hi ha
  exact ⟨⟨O', _, _, _, _, _, _, _, _, _, _, _, _, h1⟩, h2⟩
theorem LawAtM.cells (h : LawAtM I w O B bw ne nt nb lv tv kv bv cv bx by_ rs T K Tb Kb) : w.cell? ⟨bw, 0, none⟩ = some lv ∧ w.cell? ⟨bw, 1, none⟩ = some tv ∧ w.cell? ⟨bw, 2, none⟩ = some kv ∧ w.cell? ⟨bw, 3, none⟩ = some bv ∧ w.cell? ⟨bw, 4, none⟩ = some cv ∧ ∀ j, w.frozen? ⟨bw, j, none⟩ = false :=
  ⟨by simp [World.cell?, h.blk], by simp [World.cell?, h.blk], by simp [World.cell?, h.blk], by simp [World.cell?, h.blk], by simp [World.cell?, h.blk], fun j => by simp [World.frozen?, h.blk]⟩
end

section
variable {I : EngI} {w w' : World} {O O' : Tag} {B bw ne nt nb : Nat} {lv tv kv bv cv : Value} {bx by_ : Nat → Nat} {rs : Nat → RefS} {T : Nat → Value} {K : Nat → Nat} {Tb : Nat → Value} {Kb : Nat → Nat}
/-- One engine more. -/
theorem LawAtM.push {lv' : Value} {nx ny : Nat} {r : RefS} {w0 : World} (h : LawAtM I w O B bw ne nt nb lv tv kv bv cv bx by_ rs T K Tb Kb) (hw : Still w w0) (hg : w0.grownBy w' lv.ownBlock)
    (hl : w'.ownsRow 0 46 2 lv' (ne + 1) ((enc ne fun i => [.pointer (some ⟨bx i, 0, none⟩), .pointer (some ⟨by_ i, 0, none⟩)]) ++ [.pointer (some ⟨nx, 0, none⟩), .pointer (some ⟨ny, 0, none⟩)]))
    (hO : ∀ k, k < w.heap.size → O' k = O k) (ht : ∀ g, lv'.ownBlock = some g → O' g = (0, 7, 0)) (hp : PairI I w0 O' (ne + 1) nx ny r) (hrow : ∀ g, lv.ownBlock = some g → O' g = (0, 7, 0)) :
    LawRepM I (w'.setCell ⟨bw, 0, none⟩ lv') B bw (ne + 1) nt nb ∧ Below B w (w'.setCell ⟨bw, 0, none⟩ lv') := by
  have hb := h.lt
  have hz := h.size
  have hs0 := hw.size
  have hs1 := hg.size
  have hbB : B ≤ bw := by
    rcases Nat.lt_or_ge bw B with hl | hg
    · have := h.outer bw hl; rw [h.wtag] at this; simp at this
    · exact hg
  have hblk : w'.heap[bw]? = w.heap[bw]? := by
    rw [hg.block bw (by omega) (fun hh => by have := h.ltag bw hh.symm; rw [h.wtag] at this; simp at this), hw.heap hb]
  have hOb : O' bw = (0, 6, 0) := by rw [hO bw hb]; exact h.wtag
  have hne : ∀ k, k < w0.heap.size → O' k ≠ (0, 7, 0) → O' k ≠ (0, 6, 0) → (w'.setCell ⟨bw, 0, none⟩ lv').heap[k]? = w0.heap[k]? := fun k hk h7 h6 => by
    rw [Below.heap_setCell _ _ _ _ (by rintro rfl; exact h6 hOb)]
    exact hg.block k hk (fun hh => h7 (hrow k hh.symm))
  have hne' : ∀ k, k < w.heap.size → O k ≠ (0, 7, 0) → O k ≠ (0, 6, 0) → (w'.setCell ⟨bw, 0, none⟩ lv').heap[k]? = w.heap[k]? := fun k hk h7 h6 => by
    rw [hne k (by omega) (by rw [hO k hk]; exact h7) (by rw [hO k hk]; exact h6)]
    exact hw.heap hk
  refine ⟨⟨O', lv', tv, kv, bv, cv, upd bx ne nx, upd by_ ne ny, upd rs ne r, T, K, Tb, Kb, ?_, hOb, ?_, ht, ?_, by simp; omega, ?_, ?_, ?_⟩, ?_⟩
  · simp [World.setCell, Array.getElem?_modify, hblk, h.blk]
  · have e1 : enc (ne + 1) (fun i => [Value.pointer (some ⟨upd bx ne nx i, 0, none⟩), Value.pointer (some ⟨upd by_ ne ny i, 0, none⟩)]) = (enc ne fun i => [.pointer (some ⟨bx i, 0, none⟩), .pointer (some ⟨by_ i, 0, none⟩)]) ++ [.pointer (some ⟨nx, 0, none⟩), .pointer (some ⟨ny, 0, none⟩)] := by
      rw [enc_succ]
      congr 1
      · exact enc_congr fun i hi => by rw [upd_other _ _ (by omega), upd_other _ _ (by omega)]
      · simp only [upd_same]
    rw [e1]
    exact ownsRow_of_block hl fun g hg' => Below.heap_setCell _ _ _ _ (by
      rintro rfl
      have := ht _ hg'
      rw [hOb] at this; simp at this)
  · intro k hk'; rw [hO k (by omega)]; exact h.outer k hk'
  · intro i hi
    by_cases e : i = ne
    · subst e
      rw [upd_same, upd_same, upd_same]
      exact hp.frame (fun k a c => hne k a (by intro e; rw [e] at c; simp at c) (by intro e; rw [e] at c; simp at c)) (fun _ _ _ => rfl)
    · rw [upd_other _ _ e, upd_other _ _ e, upd_other _ _ e]
      exact (h.pair i (by omega)).frame (fun k a c => hne' k a (by intro e; rw [e] at c; simp at c) (by intro e; rw [e] at c; simp at c)) (fun k a _ => hO k a)
  · exact h.outR.frameR (by simp; omega) (fun k a c => hne' k a (by rcases c with c | c | c <;> rw [c] <;> simp) (by rcases c with c | c | c <;> rw [c] <;> simp)) hO
  · exact h.outB.frameB (by simp; omega) (fun k a c => hne' k a (by rcases c with c | c | c <;> rw [c] <;> simp) (by rcases c with c | c | c <;> rw [c] <;> simp)) hO
  · refine ⟨?_, ?_, ?_, ?_, ?_⟩
    · exact hg.os.trans hw.os
    · exact hg.tape.trans hw.tape
    · exact hg.output.trans hw.output
    · simp; omega
    · intro k hk'
      rw [Below.heap_setCell _ _ _ _ (by show k ≠ bw; omega), hg.block k (by omega) (fun hh => by have := h.ltag k hh.symm; rw [h.outer k hk'] at this; simp at this)]
      exact hw.heap (by omega)

def four (T : Nat → Value) (n : Nat) (a b c d : Value) (i : Nat) : Value := if i < n then T i else if i = n then a else if i = n + 1 then b else if i = n + 2 then c else d
def fourK (K : Nat → Nat) (n i : Nat) : Nat := if i < n then K i else n
theorem enc_four (T : Nat → Value) (n : Nat) (a b c d : Value) : (enc n fun i => [T i]) ++ [a, b, c, d] = enc (n + 4) fun i => [four T n a b c d i] := by
  rw [show n + 4 = n + 1 + 1 + 1 + 1 from rfl, enc_succ, enc_succ, enc_succ, enc_succ]
  simp only [four, List.append_assoc]
  congr 1
  · exact enc_congr fun i hi => by rw [if_pos hi]
  · have e1 : ¬ n + 1 < n := by omega
    have e2 : ¬ n + 1 + 1 < n := by omega
    have e3 : ¬ n + 1 + 1 + 1 < n := by omega
    simp [e1, e2, e3]
theorem enc_fourK (K : Nat → Nat) (n : Nat) : (enc n fun i => [Value.int .i64 (K i : Int)]) ++ [.int .i64 n, .int .i64 n, .int .i64 n, .int .i64 n] = enc (n + 4) fun i => [Value.int .i64 (fourK K n i : Int)] := by
  rw [show n + 4 = n + 1 + 1 + 1 + 1 from rfl, enc_succ, enc_succ, enc_succ, enc_succ]
  simp only [fourK, List.append_assoc]
  congr 1
  · exact enc_congr fun i hi => by rw [if_pos hi]
  · rw [if_neg (by omega), if_neg (by omega), if_neg (by omega), if_neg (by omega)]
    rfl
/-- One table more. -/
theorem LawAtM.routes {l : Value} (h : LawAtM I w O B bw ne nt nb lv tv kv bv cv bx by_ rs T K Tb Kb) (hlB : ∀ b, l.ownBlock = some b → O b = (0, 9, 0)) (hl9 : ∀ i b, i < nt → (T i).ownBlock = some b → l.ownBlock ≠ some b) (hl9b : ∀ i b, i < nb → (Tb i).ownBlock = some b → l.ownBlock ≠ some b)
    (hr : RoutesPost w O bw nt lv tv kv bv cv l (enc nt fun i => [T i]) (enc nt fun i => [.int .i64 (K i : Int)]) w') :
    LawRepM I w' B bw ne (nt + 4) nb ∧ Below B w w' := by
  obtain ⟨O', tv', kv', g, h', j, hO, hk, hblk, htr, htt, hkr, hkt, hx⟩ := hr
  have hb := h.lt
  have hz := h.size
  have hs := hk.size
  have hne : ∀ k, k < w.heap.size → O k ≠ (0, 6, 0) → O k ≠ (0, 7, 1) → O k ≠ (0, 7, 2) → l.ownBlock ≠ some k → w'.heap[k]? = w.heap[k]? := fun k a c6 c1 c2 c9 => hk.block k a (by
    rintro (rfl | e | e | e)
    · exact c6 h.wtag
    · exact c1 (h.outR.ttag k e)
    · exact c2 (h.outR.ktag k e)
    · exact c9 e)
  have hn9 : ∀ k, O k ≠ (0, 9, 0) → l.ownBlock ≠ some k := fun k c e => c (hlB k e)
  refine ⟨⟨O', lv, tv', kv', bv, cv, bx, by_, rs, four T nt l g h' j, fourK K nt, Tb, Kb, hblk, ?_, ?_, ?_, ?_, by omega, ?_, ?_, ?_⟩, ?_⟩
  · rw [hO bw hb]; exact h.wtag
  · exact ownsRow_of_block h.row fun b hb' => hne b (ownsRow_lt h.row hb') (by rw [h.ltag b hb']; simp) (by rw [h.ltag b hb']; simp) (by rw [h.ltag b hb']; simp) (hn9 b (by rw [h.ltag b hb']; simp))
  · intro b hb'; rw [hO b (ownsRow_lt h.row hb')]; exact h.ltag b hb'
  · intro k hk'; rw [hO k (by omega)]; exact h.outer k hk'
  · intro i hi
    exact (h.pair i hi).frame (fun k a c => hne k a (by intro e; rw [e] at c; simp at c) (by intro e; rw [e] at c; simp at c) (by intro e; rw [e] at c; simp at c) (hn9 k (by intro e; rw [e] at c; simp at c))) (fun k a _ => hO k a)
  · refine ⟨by rw [← enc_four]; exact htr, htt, by rw [← enc_fourK]; exact hkr, hkt, fun i hi => ?_, fun i hi => ?_⟩
    · unfold fourK
      split
      · have := h.outR.num i (by assumption); omega
      · omega
    · unfold fourK four
      by_cases hlt : i < nt
      · rw [if_pos hlt, if_pos hlt]
        obtain ⟨h1, h2⟩ := h.outR.fil i hlt
        refine ⟨FilledR.frame h1 fun b hb' => ?_, fun b hb' => ?_⟩
        · obtain ⟨q1, q2⟩ := h2 b hb'
          exact hne b q1 (by rw [q2]; simp) (by rw [q2]; simp) (by rw [q2]; simp) (hl9 i b hlt hb')
        · obtain ⟨q1, q2⟩ := h2 b hb'
          exact ⟨by omega, by rw [hO b q1]; exact q2⟩
      · rw [if_neg hlt, if_neg hlt]
        split
        · exact hx l (.inl rfl)
        · split
          · exact hx g (.inr (.inl rfl))
          · split
            · exact hx h' (.inr (.inr (.inl rfl)))
            · exact hx j (.inr (.inr (.inr rfl)))
  · refine ⟨?_, ?_, ?_, ?_, h.outB.num, fun i hi => ?_⟩
    · exact ownsRow_of_block h.outB.trow fun b hb' => hne b (ownsRow_lt h.outB.trow hb') (by rw [h.outB.ttag b hb']; simp) (by rw [h.outB.ttag b hb']; simp) (by rw [h.outB.ttag b hb']; simp) (hn9 b (by rw [h.outB.ttag b hb']; simp))
    · intro b hb'; rw [hO b (ownsRow_lt h.outB.trow hb')]; exact h.outB.ttag b hb'
    · exact ownsRow_of_block h.outB.krow fun b hb' => hne b (ownsRow_lt h.outB.krow hb') (by rw [h.outB.ktag b hb']; simp) (by rw [h.outB.ktag b hb']; simp) (by rw [h.outB.ktag b hb']; simp) (hn9 b (by rw [h.outB.ktag b hb']; simp))
    · intro b hb'; rw [hO b (ownsRow_lt h.outB.krow hb')]; exact h.outB.ktag b hb'
    · obtain ⟨h1, h2⟩ := h.outB.fil i hi
      refine ⟨FilledB.frame h1 fun b hb' => ?_, fun b hb' => ?_⟩
      · obtain ⟨q1, q2⟩ := h2 b hb'
        exact hne b q1 (by rw [q2]; simp) (by rw [q2]; simp) (by rw [q2]; simp) (hl9b i b hi hb')
      · obtain ⟨q1, q2⟩ := h2 b hb'
        exact ⟨by omega, by rw [hO b q1]; exact q2⟩
  · refine hk.below hz fun k hk' => ?_
    have ho := h.outer k hk'
    rintro (rfl | e | e | e)
    · rw [h.wtag] at ho; simp at ho
    · rw [h.outR.ttag k e] at ho; simp at ho
    · rw [h.outR.ktag k e] at ho; simp at ho
    · rw [hlB k e] at ho; simp at ho
end

set_option maxHeartbeats 400000 in
theorem sign_any (k i : Nat) (w : World) (hk : k ≤ 4611686018427387904) (hi : i ≤ 9223372036854775807) :
    Calls Tryz.prog 19 #[.int .i64 (k : Int), .int .i64 (i : Int)] w fun en w' => en = .returned (signC k i) ∧ w' = w := by
  have e1 : IntKind.u8.wrap (k : Int) = ((k % 256 : Nat) : Int) := by unfold IntKind.wrap; simp [IntKind.bits, IntKind.signed]
  have e2 : IntKind.u8.wrap ((k : Int) / 256) = ((k / 256 % 256 : Nat) : Int) := by unfold IntKind.wrap; simp [IntKind.bits, IntKind.signed]
  have e3 : (k : Int).tdiv 256 = (k : Int) / 256 := Int.tdiv_eq_ediv_of_nonneg (by omega)
  have e4 : (i : Int).tmod 2 = (i : Int) % 2 := Int.tmod_eq_emod_of_nonneg (by omega)
  by_cases h : i % 2 = 0
  · have e5 : (i : Int) % 2 = 0 := by omega
    have hs : signC k i = .int .u8 ((k % 256 : Nat) : Int) := by unfold signC; rw [if_pos h]
    rw [hs]
    go_enter Tryz.func19, Tryz.ntmps19
    go_wp2
    go_ret
    exact ⟨by simp, rfl⟩
  · have e5 : (i : Int) % 2 = 1 := by omega
    have hs : signC k i = .int .u8 ((k / 256 % 256 : Nat) : Int) := by unfold signC; rw [if_neg h]
    rw [hs]
    go_enter Tryz.func19, Tryz.ntmps19
    go_wp2
    go_ret
    exact ⟨by simp, rfl⟩
theorem neRouteM (x : RouteD) (w : World) : (binOp .neq 50 (.agg #[.int .i64 x.addr, .int .i64 x.len, .int .i64 x.hop, .int .i64 x.from_]) (.agg #[.int .i64 x.addr, .int .i64 x.len, .int .i64 x.hop, .int .i64 x.from_])).run Tryz.prog w = .ok (.bool false) w := by
  have hu := Tryz.underlying50
  have hf : Tryz.prog.underlying 50 = some (.struct (Tryz.prog.fieldsOf 50)) := by unfold Program.fieldsOf; rw [hu]
  have hp : Tryz.prog.stoodInHeld 50 = false := by kernel_rfl
  rw [run_neq_struct, run_equalIn_struct w 9999 _ _ _ hf hp]
  unfold Program.fieldsOf
  rw [hu]
  simp [Op.eqFields, go_sem, Tryz.underlying3]

set_option maxHeartbeats 2000000 in
theorem looksM_any {I : EngI} {w : World} {B bw ne nt nb : Nat} (h : LawRepM I w B bw ne nt nb) (hnt : nt ≤ 4611686018427387904) (hnb : nb ≤ 4611686018427387904) :
    Calls Tryz.prog 10 #[.pointer (some ⟨bw, 0, none⟩)] w fun en w' => en = .returned (.bool true) ∧ Still w w' := by
  obtain ⟨O, lv, tv, kv, bv, cv, bx, by_, rs, T, K, Tb, Kb, h⟩ := h
  obtain ⟨_, c1, c2, c3, c4, cf⟩ := h.cells
  have bwl := h.lt
  have hR := h.outR
  have hB := h.outB
  clear h cf
  obtain ⟨ta, tc, rfl, t1, t2⟩ := ownsRow_slice hR.trow
  obtain ⟨ka, kc, rfl, k1, k2⟩ := ownsRow_slice hR.krow
  obtain ⟨ba, bc, rfl, b1, b2⟩ := ownsRow_slice hB.trow
  obtain ⟨da, dc, rfl, d1, d2⟩ := ownsRow_slice hB.krow
  unfold maxLen at t2 k2 b2 d2
  have HR := hide hR
  have HB := hide hB
  have HC1 := hide c1
  have HC2 := hide c2
  have HC3 := hide c3
  have HC4 := hide c4
  clear hR hB c1 c2 c3 c4
  go_enter Tryz.func10, Tryz.ntmps10
  go_wp2
  go_loopw [3] (fun t w' => ∃ i : Nat, i ≤ nt ∧ t = .int .i64 i ∧ Still w w') (fun t _ => nt - (intOf t).toNat)
  case atStart => exact ⟨0, Nat.zero_le _, rfl, Kept.refl _ _⟩
  case round =>
    obtain ⟨i, hi, rfl, hst⟩ := hrel
    have HST := hide hst
    have hzr := hst.size
    have c1 := (hst.cell bw 1 bwl).trans (unhide HC1)
    have c2 := (hst.cell bw 2 bwl).trans (unhide HC2)
    have c3 := (hst.cell bw 3 bwl).trans (unhide HC3)
    clear hst
    by_cases hlt : i < nt
    · obtain ⟨gt, rfl, hgt⟩ := ownsRow_some (unhide HR).trow (by omega)
      obtain ⟨gk, rfl, hgk⟩ := ownsRow_some (unhide HR).krow (by omega)
      have qk : wr.cell? ⟨gk, i, none⟩ = some (.int .i64 (K i : Int)) := by
        have := ownsRow_cell (unhide HR).krow (fun _ _ => rfl) hlt (j := 0) (by omega)
        rw [(unhide HST).cell gk i hgk]; simpa using this
      have hKi := (unhide HR).num i hlt
      obtain ⟨hf, hown⟩ := (unhide HR).fil i hlt
      obtain ⟨la, ln, lc, hTi, hln, hcs⟩ := hf
      have qt : w.cell? ⟨gt, i, none⟩ = some (.slice la ln lc) := by
        have := ownsRow_cell (unhide HR).trow (fun _ _ => rfl) hlt (j := 0) (by omega)
        rw [← hTi]; simpa using this
      rw [hTi] at hown
      have HCS := hide hcs
      have HOWN := hide hown
      have HQT := hide qt
      clear hcs hown qt hTi
      generalize K i = ki at *
      unfold maxLen at hln
      have hi0' : (0 : Int) ≤ (i : Int) := by omega
      have hi1' : (i : Int) < (nt : Int) := by omega
      go_wp2_with fail
      refine (mark_any _ _ (by omega) (by omega)).mono ?_
      rintro en w1 ⟨rfl, hw⟩
      have hz1 := hw.size
      have HW := hide (Kept.trans (unhide HST) hw)
      clear hw c1 c2 c3 qk HST
      go_wp2
      have hbx : Box4 (w1.alloc (.cells #[.int .i64 (-(ki : Int)), .int .i64 (ki : Int), .int .i64 (-7), .int .i64 (ki : Int)] 50)) w1.heap.size ⟨-(ki : Int), ki, -7, ki⟩ := Box4.new w1 ⟨-(ki : Int), ki, -7, ki⟩ _
      have hs2 : Still w (w1.alloc (.cells #[.int .i64 (-(ki : Int)), .int .i64 (ki : Int), .int .i64 (-7), .int .i64 (ki : Int)] 50)) := Kept.alloc (unhide HW) _
      have hs0 : w1.heap.size < (w1.alloc (.cells #[.int .i64 (-(ki : Int)), .int .i64 (ki : Int), .int .i64 (-7), .int .i64 (ki : Int)] 50)).heap.size := by simp
      generalize w1.alloc (.cells #[.int .i64 (-(ki : Int)), .int .i64 (ki : Int), .int .i64 (-7), .int .i64 (ki : Int)] 50) = W2 at *
      generalize w1.heap.size = s0 at *
      have HBX := hide hbx
      have HS2 := hide hs2
      clear hbx hs2 HW
      go_loopw [5] (fun t w' => ∃ k : Nat, k ≤ ln ∧ t = .int .i64 k ∧ Still W2 w') (fun t _ => ln - (intOf t).toNat)
      case atStart => exact ⟨0, Nat.zero_le _, rfl, Kept.refl _ _⟩
      case round =>
        obtain ⟨k, hk, rfl, hst⟩ := hrel
        have hst' : Still w wr := Kept.trans (unhide HS2) hst
        have HST' := hide hst'
        have c1 := (hst'.cell bw 1 bwl).trans (unhide HC1)
        have qt := (hst'.cell gt i hgt).trans (unhide HQT)
        have hbr := (unhide HBX).kept hst (fun x => x)
        obtain ⟨_, x0, x1, x2, x3, _⟩ := hbr
        by_cases hkl : k < ln
        · obtain ⟨gl, rfl, hc⟩ := unhide HCS (by omega)
          have hgl := (unhide HOWN gl rfl).1
          have q := fun (j : Nat) (hj : j < 4) => (hst'.cell gl (k * 4 + j) hgl).trans (hc k hkl j hj)
          have q0 : wr.cell? ⟨gl, k * 4 + 0, none⟩ = some (.int .i64 (-(ki : Int))) := (q 0 (by omega)).trans rfl
          have q1 : wr.cell? ⟨gl, k * 4 + 1, none⟩ = some (.int .i64 (ki : Int)) := (q 1 (by omega)).trans rfl
          have q2 : wr.cell? ⟨gl, k * 4 + 2, none⟩ = some (.int .i64 (-7)) := (q 2 (by omega)).trans rfl
          have q3 : wr.cell? ⟨gl, k * 4 + 3, none⟩ = some (.int .i64 (ki : Int)) := (q 3 (by omega)).trans rfl
          rw [Nat.add_zero] at q0
          have hE : ∀ w, (binOp .neq 50 (.agg #[.int .i64 (-(ki : Int)), .int .i64 (ki : Int), .int .i64 (-7), .int .i64 (ki : Int)]) (.agg #[.int .i64 (-(ki : Int)), .int .i64 (ki : Int), .int .i64 (-7), .int .i64 (ki : Int)])).run Tryz.prog w = .ok (.bool false) w := fun w => neRouteM ⟨-(ki : Int), ki, -7, ki⟩ w
          have hk0' : (0 : Int) ≤ (k : Int) := by omega
          have hk1' : (k : Int) < (ln : Int) := by omega
          have HS3 := hide hst
          clear hst hst' hc q
          go_wp2_with fail
          go_quiet (fail)
          have HS4 := hide ((unhide HS3).drewN nq)
          clear q0 q1 q2 q3 x0 x1 x2 x3 hE c1 qt
          generalize wr.drewN nq = WQ at *
          go_wp2
          go_roundw
          case rel => exact ⟨k + 1, by omega, by go_num, unhide HS4⟩
          case measure => simp [intOf]; omega
        · obtain rfl : k = ln := by omega
          clear hst hst' x0 x1 x2 x3
          go_wp2
          go_roundw
          case rel => exact ⟨i + 1, by omega, by go_num, unhide HST'⟩
          case measure => simp [intOf]; omega
    · obtain rfl : i = nt := by omega
      clear c2
      go_wp2
      go_loopw [6] (fun t w' => ∃ m : Nat, m ≤ nb ∧ t = .int .i64 m ∧ Still w w') (fun t _ => nb - (intOf t).toNat)
      case atStart => exact ⟨0, Nat.zero_le _, rfl, unhide HST⟩
      case round =>
        clear c1 c3 HST
        obtain ⟨m, hm, rfl, hst⟩ := hrel
        have HST := hide hst
        have c3 := (hst.cell bw 3 bwl).trans (unhide HC3)
        clear hst
        by_cases hlm : m < nb
        · obtain ⟨gb, rfl, hgb⟩ := ownsRow_some (unhide HB).trow (by omega)
          obtain ⟨gd, rfl, hgd⟩ := ownsRow_some (unhide HB).krow (by omega)
          have qk : w.cell? ⟨gd, m, none⟩ = some (.int .i64 (Kb m : Int)) := by
            have := ownsRow_cell (unhide HB).krow (fun _ _ => rfl) hlm (j := 0) (by omega)
            simpa using this
          have hKi := (unhide HB).num m hlm
          obtain ⟨hf, hown⟩ := (unhide HB).fil m hlm
          obtain ⟨la, ln, lc, hTi, hln, hcs⟩ := hf
          have qt : w.cell? ⟨gb, m, none⟩ = some (.slice la ln lc) := by
            have := ownsRow_cell (unhide HB).trow (fun _ _ => rfl) hlm (j := 0) (by omega)
            rw [← hTi]; simpa using this
          rw [hTi] at hown
          have HCS := hide hcs
          have HOWN := hide hown
          have HQT := hide qt
          have HQK := hide qk
          clear hcs hown qt hTi qk
          generalize Kb m = ki at *
          unfold maxLen at hln
          have hi0' : (0 : Int) ≤ (m : Int) := by omega
          have hi1' : (m : Int) < (nb : Int) := by omega
          go_wp2
          go_loopw [7] (fun t w' => ∃ k : Nat, k ≤ ln ∧ t = .int .i64 k ∧ Still w w') (fun t _ => ln - (intOf t).toNat)
          case atStart => exact ⟨0, Nat.zero_le _, rfl, unhide HST⟩
          case round =>
            clear HST c3
            obtain ⟨k, hk, rfl, hst⟩ := hrel
            have HST := hide hst
            have hzr2 := hst.size
            have c3 := (hst.cell bw 3 bwl).trans (unhide HC3)
            have c4 := (hst.cell bw 4 bwl).trans (unhide HC4)
            have qt := (hst.cell gb m hgb).trans (unhide HQT)
            have qk := (hst.cell gd m hgd).trans (unhide HQK)
            by_cases hkl : k < ln
            · obtain ⟨gl, rfl, hc⟩ := unhide HCS (by omega)
              have hgl := (unhide HOWN gl rfl).1
              have q0 : wr.cell? ⟨gl, k, none⟩ = some (signC ki k) := (hst.cell gl k hgl).trans (hc k hkl)
              have hk0' : (0 : Int) ≤ (k : Int) := by omega
              have hk1' : (k : Int) < (ln : Int) := by omega
              clear hst hc
              unfold signC at q0
              have hsg : ∀ w, Calls Tryz.prog 19 #[.int .i64 (ki : Int), .int .i64 (k : Int)] w fun en w' => en = .returned (signC ki k) ∧ w' = w := fun w => sign_any ki k w (by omega) (by omega)
              unfold signC at hsg
              generalize ((if k % 2 = 0 then ki % 256 else ki / 256 % 256 : Nat) : Int) = sv at *
              go_wp2_with fail
              go_region_held3 (fun w' => w'.cell? ⟨bw, 3, none⟩ = some (.slice (some ⟨gb, 0, none⟩) nb bc) ∧ w'.cell? ⟨gb, m, none⟩ = some (.slice (some ⟨gl, 0, none⟩) ln lc) ∧ w'.cell? ⟨gl, k, none⟩ = some (.int .u8 sv) ∧ w'.cell? ⟨bw, 4, none⟩ = some (.slice (some ⟨gd, 0, none⟩) nb dc) ∧ w'.cell? ⟨gd, m, none⟩ = some (.int .i64 (ki : Int))) (first | go_keep | (go_split_ands; exact ⟨c3, qt, q0, c4, qk⟩)) ((go_at_call 19; refine (hsg _).mono ?_; rintro en wx ⟨rfl, rfl⟩))
              all_goals
                have HS4 := hide ((unhide HST).drew)
                go_wp2
                go_roundw
                case rel => exact ⟨k + 1, by omega, by go_num, unhide HS4⟩
                case measure => simp [intOf]; omega
            · obtain rfl : k = ln := by omega
              clear hst
              go_wp2
              go_roundw
              case rel => exact ⟨m + 1, by omega, by go_num, unhide HST⟩
              case measure => simp [intOf]; omega
        · obtain rfl : m = nb := by omega
          go_wp2
          go_ret
          exact ⟨rfl, unhide HST⟩
end Go.Proofs.YtgndledehlilkaaGreat
