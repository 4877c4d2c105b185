/-
  Two engines beside each other.
-/
import Derived.Test.YtgndledehlilkabKeepQ
namespace Go.Proofs.Ytgndledehlilkab
open Go.RowKit

/-- The engine's block, and no other. -/
def oneTag (b : Nat) : Tag := fun k => if k = b then (1, 10, 0) else (0, 8, 0)
theorem oneTag_mine (b k : Nat) : mineX (oneTag b) 1 k ↔ k = b := by
  unfold mineX oneTag
  by_cases e : k = b
  · simp [e]
  · simp [e]
section
variable {w0 w w' : World} {O : Tag} {b c : Nat} {r s r' : RefS}
theorem On.here (h : On w0 w O 1 b r) : w0.heap.size ≤ b := by
  have ht := RepX.tag h.rep
  rcases Nat.lt_or_ge b w0.heap.size with hl | hg
  · exact absurd (by rw [ht]) (h.new b hl)
  · exact hg
theorem On.alone (h : On w0 w O 1 b r) : On w0 w (oneTag b) 1 b r := by
  have hb := h.here
  obtain ⟨p, h1, h2, h3, _⟩ := h.rep
  exact ⟨⟨p, h1, h2, h3, by unfold oneTag; rw [if_pos rfl]⟩, h.ok, fun k hk => by unfold oneTag; rw [if_neg (by omega)]; simp, h.still⟩
theorem On.past (h : On w0 w (oneTag c) 1 c s) (hk : Kept (· = b) w w') (hne : b ≠ c) (hb : w0.heap.size ≤ b) : On w0 w' (oneTag c) 1 c s :=
  ⟨engX.frame h.rep (fun k hk1 hm => hk.block k hk1 (fun q => by have := (oneTag_mine c k).1 hm; omega)) (fun _ _ _ => rfl), h.ok, h.new, Kept.trans' h.still hk (fun i hi q => by omega)⟩
/-- Two engines. -/
structure Pair (w0 w : World) (b c : Nat) (r s : RefS) : Prop where
  x : On w0 w (oneTag b) 1 b r
  y : On w0 w (oneTag c) 1 c s
  ne : b ≠ c
theorem Pair.left (h : Pair w0 w b c r s) (hn : Now w0 w (oneTag b) 1 b r' w') : Pair w0 w' b c r' s ∧ Kept (· = b) w w' := by
  obtain ⟨O', _, h2, h3, _⟩ := hn
  have hk : Kept (· = b) w w' := h3.mono fun i _ q => (oneTag_mine b i).1 q
  exact ⟨⟨h2.alone, h.y.past hk h.ne h.x.here, h.ne⟩, hk⟩
theorem Pair.right (h : Pair w0 w b c r s) (hn : Now w0 w (oneTag c) 1 c r' w') : Pair w0 w' b c r r' ∧ Kept (· = c) w w' := by
  obtain ⟨O', _, h2, h3, _⟩ := hn
  have hk : Kept (· = c) w w' := h3.mono fun i _ q => (oneTag_mine c i).1 q
  exact ⟨⟨h.x.past hk (fun e => h.ne e.symm) h.y.here, h2.alone, h.ne⟩, hk⟩
theorem Pair.again (h : Pair w0 w b c r s) (hs : Still w w') : Pair w0 w' b c r s := ⟨h.x.again hs, h.y.again hs, h.ne⟩
/-- Table of the first, and of the second. -/
theorem Pair.table (h : Pair w0 w b c r s) {n k : Int} {l : List RouteD} (h0 : mayI r n 1 = k) (h1 : tableL r n = l) : Calls Try.prog 36 #[.pointer (some ⟨b, 0, none⟩), .int .i64 n] w fun en w' =>
    ∃ a cap, en = .returned (.tuple #[.slice a l.length cap, .int .i64 k]) ∧ w'.ownsRow w.heap.size 42 4 (.slice a l.length cap) l.length (l.flatMap routeCells) ∧ Pair w0 w' b c r s ∧ Kept (· = b) w w' := by
  refine (on_table0 h.x h0 h1).mono ?_
  rintro en w' ⟨a, cap, rfl, hr, O', hO, hon, hk, _, hnew⟩
  obtain ⟨p, q⟩ := h.left ⟨O', hO, hon, hk, hnew⟩
  exact ⟨a, cap, rfl, hr, p, q⟩
theorem Pair.table2 (h : Pair w0 w b c r s) {n k : Int} {l : List RouteD} (h0 : mayI s n 1 = k) (h1 : tableL s n = l) : Calls Try.prog 36 #[.pointer (some ⟨c, 0, none⟩), .int .i64 n] w fun en w' =>
    ∃ a cap, en = .returned (.tuple #[.slice a l.length cap, .int .i64 k]) ∧ w'.ownsRow w.heap.size 42 4 (.slice a l.length cap) l.length (l.flatMap routeCells) ∧ Pair w0 w' b c r s ∧ Kept (· = c) w w' := by
  refine (on_table0 h.y h0 h1).mono ?_
  rintro en w' ⟨a, cap, rfl, hr, O', hO, hon, hk, _, hnew⟩
  obtain ⟨p, q⟩ := h.right ⟨O', hO, hon, hk, hnew⟩
  exact ⟨a, cap, rfl, hr, p, q⟩
end
end Go.Proofs.Ytgndledehlilkab
