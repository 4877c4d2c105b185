/-
  The world of the statements (package districtlaw) with the lists that came out: routes and bytes.
-/
import Derived.Test.YtgndledehlilkaaGreatLawJ1M
import Derived.Test.YtgndledehlilkaaGreatLawI5
namespace Go.Proofs.YtgndledehlilkaaGreat
open Go.RowKit

/-- What the caller writes at the place i of the k-th answer. -/
def signC (k i : Nat) : Value := .int .u8 ((if i % 2 = 0 then k % 256 else k / 256 % 256 : Nat) : Int)
/-- A list of bytes, written full by its owner. -/
def FilledB (w : World) (v : Value) (k : Nat) : Prop :=
  ∃ a n c, v = .slice a n c ∧ n ≤ maxLen ∧ (0 < n → ∃ g, a = some ⟨g, 0, none⟩ ∧ ∀ i, i < n → w.cell? ⟨g, i, none⟩ = some (signC k i))
theorem FilledB.frame {w w' : World} {v : Value} {k : Nat} (h : FilledB w v k) (hk : ∀ g, v.ownBlock = some g → w'.heap[g]? = w.heap[g]?) : FilledB w' v k := by
  obtain ⟨a, n, c, rfl, hn, hc⟩ := h
  refine ⟨a, n, c, rfl, hn, fun h0 => ?_⟩
  obtain ⟨g, rfl, hg⟩ := hc h0
  exact ⟨g, rfl, fun i hi => by
    rw [← hg i hi]
    exact World.cell?_of_block (w := w) (a := ⟨g, i, none⟩) (hk g rfl)⟩

/-- One sort of lists that came out: the row of the lists, and the row of their numbers. F: a list reads as it was written. -/
structure Out (F : World → Value → Nat → Prop) (e : TypeId) (c : Nat) (w : World) (O : Tag) (tv kv : Value) (n : Nat) (T : Nat → Value) (K : Nat → Nat) : Prop where
  trow : w.ownsRow 0 e 1 tv n (enc n fun i => [T i])
  ttag : ∀ b, tv.ownBlock = some b → O b = (0, 7, c)
  krow : w.ownsRow 0 3 1 kv n (enc n fun i => [.int .i64 (K i : Int)])
  ktag : ∀ b, kv.ownBlock = some b → O b = (0, 7, c + 1)
  num : ∀ i, i < n → K i ≤ n
  fil : ∀ i, i < n → F w (T i) (K i) ∧ ∀ b, (T i).ownBlock = some b → b < w.heap.size ∧ O b = (0, 9, 0)
theorem Out.frame {F : World → Value → Nat → Prop} (hF : ∀ (w w' : World) (v : Value) (k : Nat), F w v k → (∀ g, v.ownBlock = some g → w'.heap[g]? = w.heap[g]?) → F w' v k)
    {e : TypeId} {c : Nat} {w w' : World} {O O' : Tag} {tv kv : Value} {n : Nat} {T : Nat → Value} {K : Nat → Nat} (h : Out F e c w O tv kv n T K) (hs : w.heap.size ≤ w'.heap.size)
    (hk : ∀ k, k < w.heap.size → (O k = (0, 7, c) ∨ O k = (0, 7, c + 1) ∨ O k = (0, 9, 0)) → w'.heap[k]? = w.heap[k]?) (hO : ∀ k, k < w.heap.size → O' k = O k) : Out F e c w' O' tv kv n T K := by
  refine ⟨?_, ?_, ?_, ?_, h.num, ?_⟩
  · exact ownsRow_of_block h.trow fun g hg => hk g (ownsRow_lt h.trow hg) (.inl (h.ttag g hg))
  · intro g hg; rw [hO g (ownsRow_lt h.trow hg)]; exact h.ttag g hg
  · exact ownsRow_of_block h.krow fun g hg => hk g (ownsRow_lt h.krow hg) (.inr (.inl (h.ktag g hg)))
  · intro g hg; rw [hO g (ownsRow_lt h.krow hg)]; exact h.ktag g hg
  · intro i hi
    obtain ⟨h1, h2⟩ := h.fil i hi
    refine ⟨hF _ _ _ _ h1 fun g hg => hk g (h2 g hg).1 (.inr (.inr (h2 g hg).2)), fun b hb => ?_⟩
    obtain ⟨q1, q2⟩ := h2 b hb
    exact ⟨by omega, by rw [hO b q1]; exact q2⟩
def FilledRN (w : World) (v : Value) (k : Nat) : Prop := FilledR w v (k : Int)
theorem Out.frameR {w w' : World} {O O' : Tag} {tv kv : Value} {n : Nat} {T : Nat → Value} {K : Nat → Nat} (h : Out FilledRN 52 1 w O tv kv n T K) (hs : w.heap.size ≤ w'.heap.size)
    (hk : ∀ k, k < w.heap.size → (O k = (0, 7, 1) ∨ O k = (0, 7, 2) ∨ O k = (0, 9, 0)) → w'.heap[k]? = w.heap[k]?) (hO : ∀ k, k < w.heap.size → O' k = O k) : Out FilledRN 52 1 w' O' tv kv n T K :=
  Out.frame (F := FilledRN) (fun _ _ _ _ h hk => FilledR.frame h hk) h hs hk hO
theorem Out.frameB {w w' : World} {O O' : Tag} {tv kv : Value} {n : Nat} {T : Nat → Value} {K : Nat → Nat} (h : Out FilledB 33 3 w O tv kv n T K) (hs : w.heap.size ≤ w'.heap.size)
    (hk : ∀ k, k < w.heap.size → (O k = (0, 7, 3) ∨ O k = (0, 7, 4) ∨ O k = (0, 9, 0)) → w'.heap[k]? = w.heap[k]?) (hO : ∀ k, k < w.heap.size → O' k = O k) : Out FilledB 33 3 w' O' tv kv n T K :=
  Out.frame (F := FilledB) (fun _ _ _ _ h hk => FilledB.frame h hk) h hs hk hO

/-- The statements' world: the engines, two by two, and the lists. -/
structure LawAtM (I : EngI) (w : World) (O : Tag) (B bw ne nt nb : Nat) (lv tv kv bv cv : Value) (bx by_ : Nat → Nat) (rs : Nat → RefS) (T : Nat → Value) (K : Nat → Nat) (Tb : Nat → Value) (Kb : Nat → Nat) : Prop where
  blk : w.heap[bw]? = some (.cells #[lv, tv, kv, bv, cv] 31 (0, 0))
  wtag : O bw = (0, 6, 0)
  row : w.ownsRow 0 46 2 lv ne (enc ne fun i => [.pointer (some ⟨bx i, 0, none⟩), .pointer (some ⟨by_ i, 0, none⟩)])
  ltag : ∀ g, lv.ownBlock = some g → O g = (0, 7, 0)
  outer : ∀ k, k < B → O k = (0, 8, 0)
  size : B ≤ w.heap.size
  pair : ∀ i, i < ne → PairI I w O (i + 1) (bx i) (by_ i) (rs i)
  outR : Out FilledRN 52 1 w O tv kv nt T K
  outB : Out FilledB 33 3 w O bv cv nb Tb Kb
def LawRepM (I : EngI) (w : World) (B bw ne nt nb : Nat) : Prop := ∃ O lv tv kv bv cv bx by_ rs T K Tb Kb, LawAtM I w O B bw ne nt nb lv tv kv bv cv bx by_ rs T K Tb Kb

section
variable {I : EngI} {w w' : World} {O O' : Tag} {B bw ne nt nb : Nat} {lv tv kv bv cv : Value} {bx by_ : Nat → Nat} {rs : Nat → RefS} {T : Nat → Value} {K : Nat → Nat} {Tb : Nat → Value} {Kb : Nat → Nat}
theorem LawAtM.lt (h : LawAtM I w O B bw ne nt nb lv tv kv bv cv bx by_ rs T K Tb Kb) : bw < w.heap.size := (Array.getElem?_eq_some_iff.1 h.blk).1
theorem LawAtM.frame (h : LawAtM I w O B bw ne nt nb lv tv kv bv cv bx by_ rs T K Tb Kb) (hs : w.heap.size ≤ w'.heap.size) (hk : ∀ k, k < w.heap.size → O k ≠ (0, 8, 0) → w'.heap[k]? = w.heap[k]?) (hO : ∀ k, k < w.heap.size → O' k = O k) : LawAtM I w' O' B bw ne nt nb lv tv kv bv cv bx by_ rs T K Tb Kb := by
  have hb := h.lt
  have hz := h.size
  refine ⟨?_, ?_, ?_, ?_, ?_, by omega, ?_, ?_, ?_⟩
  · rw [hk bw hb (by rw [h.wtag]; simp)]; exact h.blk
  · rw [hO bw hb]; exact h.wtag
  · exact ownsRow_of_block h.row fun g hg => hk g (ownsRow_lt h.row hg) (by rw [h.ltag g hg]; simp)
  · intro g hg; rw [hO g (ownsRow_lt h.row hg)]; exact h.ltag g hg
  · intro k hk'; rw [hO k (by omega)]; exact h.outer k hk'
  · intro i hi
    exact (h.pair i hi).frame (fun k a c => hk k a (by intro e; rw [e] at c; simp at c)) (fun k a _ => hO k a)
  · exact h.outR.frameR hs (fun k a c => hk k a (by rcases c with c | c | c <;> rw [c] <;> simp)) hO
  · exact h.outB.frameB hs (fun k a c => hk k a (by rcases c with c | c | c <;> rw [c] <;> simp)) hO
theorem LawAtM.still (h : LawAtM I w O B bw ne nt nb lv tv kv bv cv bx by_ rs T K Tb Kb) (hs : Still w w') : LawAtM I w' O B bw ne nt nb lv tv kv bv cv bx by_ rs T K Tb Kb := h.frame hs.size (fun _ hk _ => hs.heap hk) (fun _ _ => rfl)
theorem LawRepM.still (h : LawRepM I w B bw ne nt nb) (hs : Still w w') : LawRepM I w' B bw ne nt nb := by
  obtain ⟨O, lv, tv, kv, bv, cv, bx, by_, rs, T, K, Tb, Kb, h⟩ := h
  exact ⟨O, lv, tv, kv, bv, cv, bx, by_, rs, T, K, Tb, Kb, h.still hs⟩
/-- Behind a call on engine i. -/
theorem LawAtM.afterAt (h : LawAtM I w O B bw ne nt nb lv tv kv bv cv bx by_ rs T K Tb Kb) {i : Nat} (hi : i < ne) (ha : AfterI I w O (i + 1) (bx i) (by_ i) w') :
    ∃ O' r', (∀ k, k < w.heap.size → O' k = O k) ∧ LawAtM I w' O' B bw ne nt nb lv tv kv bv cv bx by_ (upd rs i r') T K Tb Kb ∧ Below B w w' := by
  obtain ⟨O', hO, ⟨r', hp⟩, hk⟩ := ha
  have hb := h.lt
  have hz := h.size
  have hs := hk.size
  have hne : ∀ k, k < w.heap.size → (O k).1 ≠ i + 1 → w'.heap[k]? = w.heap[k]? := fun k a c => hk.block k a c
  refine ⟨O', r', hO, ⟨?_, ?_, ?_, ?_, ?_, by omega, ?_, ?_, ?_⟩, hk.below hz (fun k hk' => by unfold mineA; rw [h.outer k hk']; simp)⟩
  · rw [hne bw hb (by rw [h.wtag]; simp)]; exact h.blk
  · rw [hO bw hb]; exact h.wtag
  · exact ownsRow_of_block h.row fun g hg => hne g (ownsRow_lt h.row hg) (by rw [h.ltag g hg]; simp)
  · intro g hg; rw [hO g (ownsRow_lt h.row hg)]; exact h.ltag g hg
  · intro k hk'; rw [hO k (by omega)]; exact h.outer k hk'
  · intro j hj
    by_cases e : j = i
    · subst e; rw [upd_same]; exact hp
    · rw [upd_other _ _ e]
      exact (h.pair j hj).frame (fun k a c => hne k a (by omega)) (fun k a _ => hO k a)
  · exact h.outR.frameR hs (fun k a c => hne k a (by rcases c with c | c | c <;> rw [c] <;> simp)) hO
  · exact h.outB.frameB hs (fun k a c => hne k a (by rcases c with c | c | c <;> rw [c] <;> simp)) hO
theorem LawAtM.after (h : LawAtM I w O B bw ne nt nb lv tv kv bv cv bx by_ rs T K Tb Kb) {i : Nat} (hi : i < ne) (ha : AfterI I w O (i + 1) (bx i) (by_ i) w') : LawRepM I w' B bw ne nt nb ∧ Below B w w' := by
  obtain ⟨O', r', _, h1, h2⟩ := h.afterAt hi ha
  exact ⟨⟨O', _, _, _, _, _, _, _, _, _, _, _, _, h1⟩, h2⟩
theorem LawAtM.cells (h : LawAtM I w O B bw ne nt nb lv tv kv bv cv bx by_ rs T K Tb Kb) : w.cell? ⟨bw, 0, none⟩ = some lv ∧ w.cell? ⟨bw, 1, none⟩ = some tv ∧ w.cell? ⟨bw, 2, none⟩ = some kv ∧ w.cell? ⟨bw, 3, none⟩ = some bv ∧ w.cell? ⟨bw, 4, none⟩ = some cv ∧ ∀ j, w.frozen? ⟨bw, j, none⟩ = false :=
  ⟨by simp [World.cell?, h.blk], by simp [World.cell?, h.blk], by simp [World.cell?, h.blk], by simp [World.cell?, h.blk], by simp [World.cell?, h.blk], fun j => by simp [World.frozen?, h.blk]⟩
end
end Go.Proofs.YtgndledehlilkaaGreat
