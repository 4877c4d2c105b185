/-
  Calls of one engine: Lookup, Pass, Count, Table, by what they answer.
-/
import Derived.Test.YtgndledehlilkabInst2
import Derived.Test.YtgndledehlilkabKeepQ
namespace Go.Proofs.Ytgndledehlilkab
open Go.RowKit

section
variable {w0 w w1 : World} {O : Tag} {e b : Nat} {r r' : RefS}
theorem on_lookup0 (h : On w0 w O e b r) {n a c : Int} {x : RouteD} (h0 : lookR r n a = c) (h1 : lookA r n a = x) : Calls Try.prog 37 #[.pointer (some ⟨b, 0, none⟩), .int .i64 n, .int .i64 a] w fun en w' =>
    en = .returned (.tuple #[.agg #[.int .i64 x.addr, .int .i64 x.len, .int .i64 x.hop, .int .i64 x.from_], .int .i64 c]) ∧ Now w0 w O e b r w' := by
  subst h0 h1
  exact (engX3.lookup h.rep h.ok n a).mono fun _ _ q => ⟨q.1, (h.went h.ok q.2).now⟩
theorem on_pass0 (h : On w0 w O e b r) {n a hop c : Int} {strict y : Bool} (h0 : passR r n a hop = c) (h1 : passA r n a hop strict = y) : Calls Try.prog 38 #[.pointer (some ⟨b, 0, none⟩), .int .i64 n, .int .i64 a, .int .i64 hop, .bool strict] w fun en w' =>
    en = .returned (.tuple #[.bool y, .int .i64 c]) ∧ Now w0 w O e b r w' := by
  subst h0 h1
  exact (engX3.pass h.rep h.ok n a hop strict).mono fun _ _ q => ⟨q.1, (h.went h.ok q.2).now⟩
theorem on_count0 (h : On w0 w O e b r) {n c : Int} {s : SumsD} (h0 : mayI r n 1 = c) (h1 : countF r n = s) : Calls Try.prog 15 #[.pointer (some ⟨b, 0, none⟩), .int .i64 n] w fun en w' =>
    en = .returned (.tuple #[.agg #[.int .i64 s.own, .int .i64 s.taken, .int .i64 s.dropped, .int .i64 s.quota], .int .i64 c]) ∧ Now w0 w O e b r w' := by
  subst h0 h1
  exact (on_count h n).mono fun _ _ q => ⟨q.1, q.2.now⟩
end
end Go.Proofs.Ytgndledehlilkab
