/-
  Memory: which blocks may have turned ('Kept'); rows of cells by a function of the place ('enc'); marks on blocks (whose they are).
-/
import Derived.WalkKit
import Derived.WalkSpells
import Derived.Deep.Draws
import Derived.OneCell
namespace Go.Proofs.Ytgndledehlilkab
open Go.RowKit

theorem hide {p : Prop} (h : p) : Hid p := h
theorem unhide {p : Prop} (h : Hid p) : p := h
/-- Between w and w' no block has gone, and of the old ones those of P alone may have turned. -/
structure Kept (P : Nat → Prop) (w w' : World) : Prop where
  os : w'.os = w.os
  tape : w'.tape = w.tape
  output : w'.output = w.output
  size : w.heap.size ≤ w'.heap.size
  block : ∀ k, k < w.heap.size → ¬ P k → w'.heap[k]? = w.heap[k]?

theorem Kept.refl (P : Nat → Prop) (w : World) : Kept P w w := ⟨rfl, rfl, rfl, Nat.le_refl _, fun _ _ _ => rfl⟩
theorem Kept.trans {P : Nat → Prop} {a b c : World} (h : Kept P a b) (k : Kept P b c) : Kept P a c :=
  ⟨k.os.trans h.os, k.tape.trans h.tape, k.output.trans h.output, Nat.le_trans h.size k.size,
    fun i hi hp => (k.block i (Nat.lt_of_lt_of_le hi h.size) hp).trans (h.block i hi hp)⟩
/-- Two steps, the second with a P of its own that speaks of the blocks that were there at the start. -/
theorem Kept.trans' {P Q : Nat → Prop} {a b c : World} (h : Kept P a b) (k : Kept Q b c) (hq : ∀ i, i < a.heap.size → Q i → P i) : Kept P a c :=
  ⟨k.os.trans h.os, k.tape.trans h.tape, k.output.trans h.output, Nat.le_trans h.size k.size,
    fun i hi hp => (k.block i (Nat.lt_of_lt_of_le hi h.size) (fun q => hp (hq i hi q))).trans (h.block i hi hp)⟩
theorem Kept.mono {P Q : Nat → Prop} {w w' : World} (h : Kept P w w') (hq : ∀ i, i < w.heap.size → P i → Q i) : Kept Q w w' :=
  ⟨h.os, h.tape, h.output, h.size, fun i hi hp => h.block i hi (fun q => hp (hq i hi q))⟩
theorem Kept.drew {P : Nat → Prop} {a w : World} (h : Kept P a w) : Kept P a w.drew := ⟨h.os, h.tape, h.output, h.size, h.block⟩
theorem Kept.drewN {P : Nat → Prop} {a w : World} (h : Kept P a w) (n : Nat) : Kept P a (w.drewN n) := ⟨h.os, h.tape, h.output, h.size, h.block⟩
theorem Kept.alloc {P : Nat → Prop} {a w : World} (h : Kept P a w) (o : Obj) : Kept P a (w.alloc o) :=
  ⟨h.os, h.tape, h.output, by have := h.size; simp; omega, fun k hk hp => by
    rw [Below.heap_alloc _ _ _ (by have := h.size; omega)]; exact h.block k hk hp⟩
theorem Kept.setCell {P : Nat → Prop} {a w : World} (h : Kept P a w) {p : Addr} (hp : P p.block ∨ a.heap.size ≤ p.block) (u : Value) : Kept P a (w.setCell p u) :=
  ⟨h.os, h.tape, h.output, by have := h.size; simp; omega, fun k hk hn => by
    rw [Below.heap_setCell _ _ _ _ (by rintro rfl; rcases hp with hp | hp
                                       · exact hn hp
                                       · omega)]; exact h.block k hk hn⟩
theorem Kept.grown {P : Nat → Prop} {a w w' : World} {row : Option Nat} (h : Kept P a w) (hg : w.grownBy w' row) (hr : ∀ k, row = some k → P k ∨ a.heap.size ≤ k) : Kept P a w' :=
  ⟨hg.os.trans h.os, hg.tape.trans h.tape, hg.output.trans h.output, Nat.le_trans h.size hg.size, fun k hk hn => by
    rw [hg.block k (by have := h.size; omega) (by
      intro e
      rcases hr k e.symm with q | q
      · exact hn q
      · omega)]
    exact h.block k hk hn⟩
theorem Kept.below {w w' : World} {P : Nat → Prop} {B : Nat} (h : Kept P w w') (hB : B ≤ w.heap.size) (hp : ∀ k, k < B → ¬ P k) : Below B w w' :=
  ⟨h.os, h.tape, h.output, h.size, fun k hk => h.block k (by omega) (hp k hk)⟩
theorem Kept.ofBelow {w w' : World} (P : Nat → Prop) (h : Below w.heap.size w w') : Kept P w w' :=
  ⟨h.os, h.tape, h.output, h.size, fun k hk _ => h.block k hk⟩
theorem Kept.cell {P : Nat → Prop} {w w' : World} (h : Kept P w w') {p : Addr} (hl : p.block < w.heap.size) (hp : ¬ P p.block) : w'.cell? p = w.cell? p := World.cell?_of_block (w := w) (h.block p.block hl hp)
theorem Kept.frozen {P : Nat → Prop} {w w' : World} (h : Kept P w w') {p : Addr} (hl : p.block < w.heap.size) (hp : ¬ P p.block) : w'.frozen? p = w.frozen? p := World.frozen?_of_block (w := w) (h.block p.block hl hp)
/-- Nothing old has turned. -/
def Still (w w' : World) : Prop := Kept (fun _ => False) w w'
theorem Still.kept {w w' : World} (h : Still w w') (P : Nat → Prop) : Kept P w w' := Kept.mono h (fun _ _ => False.elim)
theorem Still.heap {w w' : World} (h : Still w w') {k : Nat} (hk : k < w.heap.size) : w'.heap[k]? = w.heap[k]? := Kept.block h k hk (fun x => x)
theorem Still.cell {w w' : World} (h : Still w w') : ∀ b o, b < w.heap.size → w'.cell? ⟨b, o, none⟩ = w.cell? ⟨b, o, none⟩ := fun b o hb => Kept.cell (p := ⟨b, o, none⟩) h hb (fun x => x)
theorem Still.frozen {w w' : World} (h : Still w w') : ∀ b o, b < w.heap.size → w'.frozen? ⟨b, o, none⟩ = w.frozen? ⟨b, o, none⟩ := fun b o hb => Kept.frozen (p := ⟨b, o, none⟩) h hb (fun x => x)

/-- A row of n things, each of some cells. -/
def enc (n : Nat) (f : Nat → List Value) : List Value := (List.range n).flatMap f
theorem enc_zero (f : Nat → List Value) : enc 0 f = [] := rfl
theorem enc_succ (n : Nat) (f : Nat → List Value) : enc (n + 1) f = enc n f ++ f n := by simp [enc, List.range_succ]
theorem enc_congr {n : Nat} {f g : Nat → List Value} (h : ∀ i, i < n → f i = g i) : enc n f = enc n g := by
  induction n with
  | zero => rfl
  | succ n ih => rw [enc_succ, enc_succ, ih (fun i hi => h i (by omega)), h n (by omega)]
theorem enc_length {n s : Nat} {f : Nat → List Value} (h : ∀ i, i < n → (f i).length = s) : (enc n f).length = n * s := by
  induction n with
  | zero => simp [enc]
  | succ n ih => rw [enc_succ, List.length_append, ih (fun i hi => h i (by omega)), h n (by omega), Nat.add_mul, Nat.one_mul]
theorem enc_at {n s : Nat} {f : Nat → List Value} (h : ∀ i, i < n → (f i).length = s) {i j : Nat} (hi : i < n) (hj : j < s) : (enc n f)[i * s + j]? = (f i)[j]? := by
  induction n with
  | zero => omega
  | succ n ih =>
    rw [enc_succ]
    have hl := enc_length (fun i hi => h i (by omega) : ∀ i, i < n → (f i).length = s)
    by_cases e : i = n
    · subst e
      rw [List.getElem?_append_right (by omega), hl, Nat.add_sub_cancel_left]
    · have hlt : i < n := by omega
      have : i * s + j < n * s := by
        have : (i + 1) * s ≤ n * s := Nat.mul_le_mul_right s hlt
        rw [Nat.add_mul] at this; omega
      rw [List.getElem?_append_left (by omega)]
      exact ih (fun i hi => h i (by omega)) hlt
theorem enc_set {n s : Nat} {f g : Nat → List Value} (h : ∀ i, i < n → (f i).length = s) {i j : Nat} {u : Value} (hi : i < n) (hj : j < s) (hg : g i = (f i).set j u) (ho : ∀ k, k < n → k ≠ i → g k = f k) :
    (enc n f).set (i * s + j) u = enc n g := by
  induction n with
  | zero => omega
  | succ n ih =>
    rw [enc_succ, enc_succ]
    have hl := enc_length (fun i hi => h i (by omega) : ∀ i, i < n → (f i).length = s)
    by_cases e : i = n
    · subst e
      rw [List.set_append_right _ _ (by omega), hl, Nat.add_sub_cancel_left, hg]
      rw [enc_congr (fun k hk => ho k (by omega) (by omega))]
    · have hlt : i < n := by omega
      have : i * s + j < n * s := by
        have : (i + 1) * s ≤ n * s := Nat.mul_le_mul_right s hlt
        rw [Nat.add_mul] at this; omega
      rw [List.set_append_left _ _ (by omega), ih (fun i hi => h i (by omega)) hlt (fun k hk => ho k (by omega)), ho n (by omega) (by omega)]

/-- An owned row, read off its block alone. -/
theorem ownsRow_of_block {w w' : World} {base : Nat} {e : TypeId} {size : Nat} {v : Value} {n : Nat} {xs : List Value} (h : w.ownsRow base e size v n xs) (hb : ∀ g, v.ownBlock = some g → w'.heap[g]? = w.heap[g]?) : w'.ownsRow base e size v n xs := by
  refine ⟨h.1, ?_⟩
  rcases h.2 with hn | ⟨g, cap, cur, rfl, hb', hgg, rest⟩
  · exact .inl hn
  · exact .inr ⟨g, cap, cur, rfl, hb', by rw [hb g rfl]; exact hgg, rest⟩
theorem ownsRow_lt {w : World} {base : Nat} {e : TypeId} {size : Nat} {v : Value} {n : Nat} {xs : List Value} (h : w.ownsRow base e size v n xs) {g : Nat} (hg : v.ownBlock = some g) : g < w.heap.size := (h.lt g hg).2
/-- A slice of something that the call owns: its length is n; where there is an element, it has a block. -/
theorem ownsRow_slice {w : World} {base : Nat} {e : TypeId} {size : Nat} {v : Value} {n : Nat} {xs : List Value} (h : w.ownsRow base e size v n xs) : ∃ a cap, v = .slice a n cap ∧ n ≤ cap ∧ cap ≤ maxLen := by
  rcases h.2 with ⟨rfl, rfl⟩ | ⟨g, cap, cur, rfl, hb', hgg, h1, h2, _⟩
  · exact ⟨none, 0, rfl, Nat.le_refl _, Nat.zero_le _⟩
  · exact ⟨_, cap, rfl, h1, h2⟩
theorem ownsRow_some {w : World} {base : Nat} {e : TypeId} {size : Nat} {a : Option Addr} {n cap : Nat} {xs : List Value} (h : w.ownsRow base e size (.slice a n cap) n xs) (hn : 0 < n) : ∃ g, a = some ⟨g, 0, none⟩ ∧ g < w.heap.size := by
  rcases h.2 with ⟨e, rfl⟩ | ⟨g, cap', cur, e, hb', hgg, rest⟩
  · omega
  · simp only [Value.slice.injEq] at e
    obtain ⟨rfl, _, _⟩ := e
    exact ⟨g, rfl, (Array.getElem?_eq_some_iff.1 hgg).1⟩
/-- The cells of a row of things. -/
theorem ownsRow_cell {w : World} {base : Nat} {e : TypeId} {s : Nat} {g n cap : Nat} {f : Nat → List Value} (h : w.ownsRow base e s (.slice (some ⟨g, 0, none⟩) n cap) n (enc n f)) (hs : ∀ i, i < n → (f i).length = s) {i j : Nat} (hi : i < n) (hj : j < s) : w.cell? ⟨g, i * s + j, none⟩ = (f i)[j]? := by
  rw [h.cellAt _ (by
    have : (i + 1) * s ≤ n * s := Nat.mul_le_mul_right s hi
    rw [Nat.add_mul] at this; omega), enc_at hs hi hj]
/-- A store into a row of things. -/
theorem ownsRow_store {w : World} {base : Nat} {e : TypeId} {s : Nat} {g n cap : Nat} {f f' : Nat → List Value} (h : w.ownsRow base e s (.slice (some ⟨g, 0, none⟩) n cap) n (enc n f)) (hs : ∀ i, i < n → (f i).length = s) {i j : Nat} {u : Value} (hi : i < n) (hj : j < s) (hg : f' i = (f i).set j u) (ho : ∀ k, k < n → k ≠ i → f' k = f k) :
    (w.setCell ⟨g, i * s + j, none⟩ u).ownsRow base e s (.slice (some ⟨g, 0, none⟩) n cap) n (enc n f') := by
  rw [← enc_set hs hi hj hg ho]
  exact (h.stored (i * s + j) u).1
def upd {α : Type} (f : Nat → α) (i : Nat) (v : α) : Nat → α := fun j => if j = i then v else f j
theorem upd_same {α : Type} (f : Nat → α) (i : Nat) (v : α) : upd f i v i = v := by simp [upd]
theorem upd_other {α : Type} (f : Nat → α) {i j : Nat} (v : α) (h : j ≠ i) : upd f i v j = f j := by simp [upd, h]
end Go.Proofs.Ytgndledehlilkab
