/-
  The program's engine as the statements need it ('EngI', 'EngI2').
-/
import Derived.Test.YtgndledehlilkabPure
import Derived.Test.YtgndledehlilkabRulesIn
namespace Go.Proofs.Ytgndledehlilkab
open Go.RowKit

abbrev Tag := Nat → Nat × Nat × Nat
def mineX (O : Tag) (e : Nat) : Nat → Prop := fun k => (O k).1 = e ∧ 10 ≤ (O k).2.1
/-- A call that may have changed the engine. -/
def doneX (Rep : World → Tag → Nat → Nat → RefS → Prop) (w : World) (O : Tag) (e b : Nat) (r' : RefS) (w' : World) : Prop :=
  ∃ O' : Tag, (∀ k, k < w.heap.size → O' k = O k) ∧ Rep w' O' e b r' ∧ Kept (mineX O e) w w'
/-- The program's engine: how it lies in memory, and what its calls answer. -/
structure EngI where
  Rep : World → Tag → Nat → Nat → RefS → Prop
  lt : ∀ {w O e b r}, Rep w O e b r → b < w.heap.size
  frame : ∀ {w w' : World} {O O' : Tag} {e b r}, Rep w O e b r → (∀ k, k < w.heap.size → mineX O e k → w'.heap[k]? = w.heap[k]?) → (∀ k, k < w.heap.size → (O k).1 = e → O' k = O k) → Rep w' O' e b r
  new_yes : ∀ (n : Int) (w : World), 1 ≤ n → n ≤ 64 → Calls Try.prog 5 #[.int .i64 n] w fun en w' => ∃ b, en = .returned (.tuple #[.pointer (some ⟨b, 0, none⟩), .int .i64 0]) ∧ Still w w' ∧
    ∀ (O : Tag) (e : Nat) (lf : Nat → Life) (tk : Nat → Tok), ∃ O' : Tag, (∀ k, k < w.heap.size → O' k = O k) ∧ Rep w' O' e b ⟨n, 0, lf, 0, tk⟩
  new_no : ∀ (n : Int) (w : World), (n < 1 ∨ 64 < n) → Calls Try.prog 5 #[.int .i64 n] w fun en w' => en = .returned (.tuple #[.pointer none, .int .i64 2]) ∧ Still w w'
  create : ∀ {w O e b r}, Rep w O e b r → RefOk r → ∀ quota : Int, Calls Try.prog 16 #[.pointer (some ⟨b, 0, none⟩), .int .i64 quota] w fun en w' =>
    en = .returned (.tuple #[.int .i64 (createA r quota).1, .int .i64 (createA r quota).2, .int .i64 (createR r quota)]) ∧ doneX Rep w O e b (createdR r quota) w'
  drop : ∀ {w O e b r}, Rep w O e b r → RefOk r → ∀ no : Int, Calls Try.prog 14 #[.pointer (some ⟨b, 0, none⟩), .int .i64 no] w fun en w' =>
    en = .returned (.int .i64 (dropR r no)) ∧ doneX Rep w O e b (droppedS r no) w'
  derive : ∀ {w O e b r}, Rep w O e b r → RefOk r → ∀ n rights : Int, Calls Try.prog 7 #[.pointer (some ⟨b, 0, none⟩), .int .i64 n, .int .i64 rights] w fun en w' =>
    en = .returned (.tuple #[.int .i64 (deriveA r n rights), .int .i64 (deriveR r n rights)]) ∧ doneX Rep w O e b (derivedR r n rights) w'
  revoke : ∀ {w O e b r}, Rep w O e b r → RefOk r → ∀ n which : Int, Calls Try.prog 13 #[.pointer (some ⟨b, 0, none⟩), .int .i64 n, .int .i64 which] w fun en w' =>
    en = .returned (.int .i64 (revokeR r n which)) ∧ doneX Rep w O e b (revokedR r n which) w'
/-- The calls of routes. -/
structure EngI2 (I : EngI) : Prop where
  insert : ∀ {w O e b r}, I.Rep w O e b r → RefOk r → ∀ n addr len hop : Int, Calls Try.prog 32 #[.pointer (some ⟨b, 0, none⟩), .int .i64 n, .int .i64 addr, .int .i64 len, .int .i64 hop] w fun en w' =>
    en = .returned (.int .i64 (insertR r n addr len hop)) ∧ doneX I.Rep w O e b (insertedR r n addr len hop) w'
  remove : ∀ {w O e b r}, I.Rep w O e b r → RefOk r → ∀ n addr len : Int, Calls Try.prog 33 #[.pointer (some ⟨b, 0, none⟩), .int .i64 n, .int .i64 addr, .int .i64 len] w fun en w' =>
    en = .returned (.int .i64 (removeR r n addr len)) ∧ doneX I.Rep w O e b (removedR r n addr len) w'
  share : ∀ {w O e b r}, I.Rep w O e b r → RefOk r → ∀ n gives takes : Int, Calls Try.prog 34 #[.pointer (some ⟨b, 0, none⟩), .int .i64 n, .int .i64 gives, .int .i64 takes] w fun en w' =>
    en = .returned (.int .i64 (shareR r n gives takes)) ∧ doneX I.Rep w O e b (sharedR r n gives takes) w'
  filter : ∀ {w O e b r}, I.Rep w O e b r → RefOk r → ∀ (n : Int) (v : Value) (R : List RuleD), RulesIn w v R → Calls Try.prog 35 #[.pointer (some ⟨b, 0, none⟩), .int .i64 n, v] w fun en w' =>
    en = .returned (.int .i64 (filterR r n R)) ∧ doneX I.Rep w O e b (filteredR r n R) w'
  table : ∀ {w O e b r}, I.Rep w O e b r → RefOk r → ∀ n : Int, Calls Try.prog 36 #[.pointer (some ⟨b, 0, none⟩), .int .i64 n] w fun en w' =>
    ∃ v, en = .returned (.tuple #[v, .int .i64 (mayI r n 1)]) ∧ w'.ownsRow w.heap.size 42 4 v (tableL r n).length ((tableL r n).flatMap routeCells) ∧
      ∃ O' : Tag, (∀ k, k < w.heap.size → O' k = O k) ∧ I.Rep w' O' e b r ∧ Kept (mineX O e) w w' ∧ ∀ g, v.ownBlock = some g → (O' g).1 ≠ e
  count : ∀ {w O e b r}, I.Rep w O e b r → RefOk r → ∀ n : Int, Calls Try.prog 15 #[.pointer (some ⟨b, 0, none⟩), .int .i64 n] w fun en w' =>
    en = .returned (.tuple #[.agg #[.int .i64 (countF r n).own, .int .i64 (countF r n).taken, .int .i64 (countF r n).dropped, .int .i64 (countF r n).quota], .int .i64 (mayI r n 1)]) ∧ doneX I.Rep w O e b r w'
end Go.Proofs.Ytgndledehlilkab
