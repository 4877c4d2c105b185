/-
  Calls of one engine, by what they answer and leave.
-/
import Derived.Test.YtgndledehlilkabKeep3
namespace Go.Proofs.Ytgndledehlilkab
open Go.RowKit

theorem kept_row {P : Nat → Prop} {w w' : World} {base sz : Nat} {t : TypeId} {v : Value} {n : Nat} {xs : List Value} (h : w.ownsRow base t sz v n xs) (hk : Kept P w w') (hp : ∀ g, v.ownBlock = some g → ¬ P g) : w'.ownsRow base t sz v n xs :=
  ownsRow_of_block h fun g hg => hk.block g (ownsRow_lt h hg) (hp g hg)
/-- The marks, cut off behind the blocks that there are. -/
def cutK (O : Tag) (n : Nat) : Tag := fun k => if k < n then O k else (0, 8, 0)
theorem cutK_lt {O : Tag} {n k : Nat} (h : k < n) : cutK O n k = O k := by unfold cutK; rw [if_pos h]
theorem cutK_ge {O : Tag} {n k e : Nat} (h : n ≤ k) : ¬ mineX (cutK O n) e k := by unfold mineX cutK; rw [if_neg (by omega)]; simp
/-- Behind a call: the engine, what was kept, and that no block to come is the engine's. -/
def Now (w0 w : World) (O : Tag) (e b : Nat) (r' : RefS) (w' : World) : Prop :=
  ∃ O' : Tag, (∀ k, k < w.heap.size → O' k = O k) ∧ On w0 w' O' e b r' ∧ Kept (mineX O e) w w' ∧ ∀ k, w'.heap.size ≤ k → ¬ mineX O' e k
section
variable {w0 w w1 : World} {O : Tag} {e b : Nat} {r r' : RefS}
theorem On.lt (h : On w0 w O e b r) : b < w.heap.size := by
  obtain ⟨p, hx, _⟩ := h.rep
  exact hx.lt
theorem On.cut (h : On w0 w O e b r) : On w0 w (cutK O w.heap.size) e b r := by
  have hz := h.still.size
  have hb := h.lt
  refine ⟨?_, h.ok, fun k hk => by rw [cutK_lt (by omega)]; exact h.new k hk, h.still⟩
  obtain ⟨p, h1, h2, h3, h4⟩ := h.rep
  exact ⟨p, h1, h2, h3, by rw [cutK_lt hb]; exact h4⟩
theorem Went.now (h : Went w0 w O e b r' w1) : Now w0 w O e b r' w1 := by
  obtain ⟨O', h1, h2, h3⟩ := h
  exact ⟨cutK O' w1.heap.size, fun k hk => (cutK_lt (Nat.lt_of_lt_of_le hk h3.size)).trans (h1 k hk), h2.cut, h3, fun k hk => cutK_ge hk⟩
theorem on_insert0 (h : On w0 w O e b r) {n addr len hop c : Int} (h0 : insertR r n addr len hop = c) (h1 : insertedR r n addr len hop = r') : Calls Try.prog 32 #[.pointer (some ⟨b, 0, none⟩), .int .i64 n, .int .i64 addr, .int .i64 len, .int .i64 hop] w fun en w' =>
    en = .returned (.int .i64 c) ∧ Now w0 w O e b r' w' := by
  subst h0 h1
  exact (on_insert h _ _ _ _).mono fun _ _ q => ⟨q.1, q.2.now⟩
theorem on_remove0 (h : On w0 w O e b r) {n addr len c : Int} (h0 : removeR r n addr len = c) (h1 : removedR r n addr len = r') : Calls Try.prog 33 #[.pointer (some ⟨b, 0, none⟩), .int .i64 n, .int .i64 addr, .int .i64 len] w fun en w' =>
    en = .returned (.int .i64 c) ∧ Now w0 w O e b r' w' := by
  subst h0 h1
  exact (on_remove h _ _ _).mono fun _ _ q => ⟨q.1, q.2.now⟩
theorem on_share0 (h : On w0 w O e b r) {n g k c : Int} (h0 : shareR r n g k = c) (h1 : sharedR r n g k = r') : Calls Try.prog 34 #[.pointer (some ⟨b, 0, none⟩), .int .i64 n, .int .i64 g, .int .i64 k] w fun en w' =>
    en = .returned (.int .i64 c) ∧ Now w0 w O e b r' w' := by
  subst h0 h1
  exact (on_share h _ _ _).mono fun _ _ q => ⟨q.1, q.2.now⟩
theorem on_derive0 (h : On w0 w O e b r) {n rights c a : Int} (h0 : deriveR r n rights = c) (h1 : deriveA r n rights = a) (h2 : derivedR r n rights = r') : Calls Try.prog 7 #[.pointer (some ⟨b, 0, none⟩), .int .i64 n, .int .i64 rights] w fun en w' =>
    en = .returned (.tuple #[.int .i64 a, .int .i64 c]) ∧ Now w0 w O e b r' w' := by
  subst h0 h1 h2
  exact (on_derive h _ _).mono fun _ _ q => ⟨q.1, q.2.now⟩
theorem on_revoke0 (h : On w0 w O e b r) {n which c : Int} (h0 : revokeR r n which = c) (h1 : revokedR r n which = r') : Calls Try.prog 13 #[.pointer (some ⟨b, 0, none⟩), .int .i64 n, .int .i64 which] w fun en w' =>
    en = .returned (.int .i64 c) ∧ Now w0 w O e b r' w' := by
  subst h0 h1
  exact (on_revoke h _ _).mono fun _ _ q => ⟨q.1, q.2.now⟩
theorem on_create0 (h : On w0 w O e b r) {quota c a1 a2 : Int} (h0 : createR r quota = c) (h1 : createA r quota = (a1, a2)) (h2 : createdR r quota = r') : Calls Try.prog 16 #[.pointer (some ⟨b, 0, none⟩), .int .i64 quota] w fun en w' =>
    en = .returned (.tuple #[.int .i64 a1, .int .i64 a2, .int .i64 c]) ∧ Now w0 w O e b r' w' := by
  subst h0 h2
  refine (on_create h _).mono fun _ _ q => ⟨?_, q.2.now⟩
  rw [q.1, h1]
theorem on_drop0 (h : On w0 w O e b r) {no c : Int} (h0 : dropR r no = c) (h1 : droppedS r no = r') : Calls Try.prog 14 #[.pointer (some ⟨b, 0, none⟩), .int .i64 no] w fun en w' =>
    en = .returned (.int .i64 c) ∧ Now w0 w O e b r' w' := by
  subst h0 h1
  exact (on_drop h _).mono fun _ _ q => ⟨q.1, q.2.now⟩
theorem on_table0 (h : On w0 w O e b r) {n c : Int} {l : List RouteD} (h0 : mayI r n 1 = c) (h1 : tableL r n = l) : Calls Try.prog 36 #[.pointer (some ⟨b, 0, none⟩), .int .i64 n] w fun en w' =>
    ∃ a cap, en = .returned (.tuple #[.slice a l.length cap, .int .i64 c]) ∧ w'.ownsRow w.heap.size 42 4 (.slice a l.length cap) l.length (l.flatMap routeCells) ∧
      ∃ O' : Tag, (∀ k, k < w.heap.size → O' k = O k) ∧ On w0 w' O' e b r ∧ Kept (mineX O e) w w' ∧ (∀ g, (Value.slice a l.length cap).ownBlock = some g → ¬ mineX O' e g) ∧ ∀ k, w'.heap.size ≤ k → ¬ mineX O' e k := by
  subst h0 h1
  refine (on_table h n).mono ?_
  rintro en w' ⟨v, rfl, h2, O', h3, h4, h5, h6⟩
  obtain ⟨a, cap, rfl, _, _⟩ := ownsRow_slice h2
  refine ⟨a, cap, rfl, h2, cutK O' w'.heap.size, fun k hk => (cutK_lt (Nat.lt_of_lt_of_le hk h5.size)).trans (h3 k hk), h4.cut, h5, fun g hg q => ?_, fun k hk => cutK_ge hk⟩
  unfold mineX at q
  rw [cutK_lt (ownsRow_lt h2 hg)] at q
  exact h6 g hg q.1
end
end Go.Proofs.Ytgndledehlilkab
