/-
  Ordered: the two engines at the start.
-/
import Derived.Test.YtgndledehlilkaaOrd4
namespace Go.Proofs.Ytgndledehlilkaa
open Go.RowKit

theorem begun3 (w : World) {q1 q2 q3 : Int} (h1 : 1 ≤ q1) (h2 : 1 ≤ q2) (h3 : 1 ≤ q3) (h4 : q1 + q2 + q3 ≤ 64) :
    Calls Try.prog 10 #[.slice (some ⟨w.heap.size, 0, none⟩) 3 3] (w.alloc (.cells #[.int .i64 q1, .int .i64 q2, .int .i64 q3] 3)) fun en w' =>
      ∃ b, en = .returned (.pointer (some ⟨b, 0, none⟩)) ∧ On (w.alloc (.cells #[.int .i64 q1, .int .i64 q2, .int .i64 q3] 3)) w' (oneTag b) 1 b (sR (quota3 q1 q2 q3) (fun _ => 0) (fun _ => 0) []) := by
  have hcell : ∀ j, j < ([q1, q2, q3] : List Int).length → (w.alloc (.cells #[.int .i64 q1, .int .i64 q2, .int .i64 q3] 3)).cell? ⟨w.heap.size, j, none⟩ = some (.int .i64 (([q1, q2, q3] : List Int).getD j 0)) := by
    intro j hj
    rw [World.cell?_alloc_new]
    have hj' : j < 3 := hj
    have : j = 0 ∨ j = 1 ∨ j = 2 := by omega
    rcases this with rfl | rfl | rfl <;> rfl
  have hg : w.heap.size < (w.alloc (.cells #[.int .i64 q1, .int .i64 q2, .int .i64 q3] 3)).heap.size := by simp
  have hB := begunK (w := w.alloc (.cells #[.int .i64 q1, .int .i64 q2, .int .i64 q3] 3)) (g := w.heap.size) (cap := 3) (Q := [q1, q2, q3]) (fun _ => (0, 0, 0)) 1 (fun _ _ => by simp) (by
    intro j hj
    have hj' : j < 3 := hj
    have : j = 0 ∨ j = 1 ∨ j = 2 := by omega
    rcases this with rfl | rfl | rfl
    · show 1 ≤ q1 ∧ q1 ≤ 64; omega
    · show 1 ≤ q2 ∧ q2 ≤ 64; omega
    · show 1 ≤ q3 ∧ q3 ≤ 64; omega) (by show 0 + q1 + q2 + q3 ≤ 64; omega) (by show 3 ≤ 8; omega) hg hcell
  refine Calls.mono hB ?_
  rintro en w' ⟨b, O', rfl, _, hon⟩
  exact ⟨b, rfl, On.alone hon⟩
theorem pair_start {V0 w1 V1 w2 : World} {b c : Nat} {r s : RefS} (hx : On V0 w1 (oneTag b) 1 b r) (h1 : Still w1 V1) (hy : On V1 w2 (oneTag c) 1 c s) : Pair V0 w2 b c r s := by
  have hb := hx.lt
  have hc := hy.here
  have hz := h1.size
  have hz0 := hx.still.size
  refine ⟨(hx.again h1).again hy.still, ⟨hy.rep, hy.ok, fun k hk => by unfold oneTag; rw [if_neg (by omega)]; simp, (hx.still.trans h1).trans hy.still⟩, by omega⟩
/-- The list that ones gives is neither's. -/
theorem beside_start {w0 w w' : World} {b c : Nat} {r s : RefS} {v : Value} {L : List RouteD} (h : Pair w0 w b c r s) (hr : w'.ownsRow w.heap.size 52 5 v L.length (L.flatMap oneCells)) : Beside w' b c w.heap.size v L := by
  have hb := h.x.lt
  have hc := h.y.lt
  refine ⟨hr, fun g hg => ?_⟩
  have := (hr.lt g hg).1
  omega
/-- One round of the loop that sets the routes: the first engine, and the second. -/
theorem round_left {q G T : Nat → Int} {L : List RouteD} (hq : ∀ t, t < 3 → 10 ≤ q t) (hL : OkOnes L) {k : Nat} (hk : k < L.length) : ∃ t : Nat, t < 3 ∧ (L.getD k rt0).from_ = (t : Int) ∧ insertR (sR q G T (L.take k)) ((t : Int) + 1) (L.getD k rt0).addr (L.getD k rt0).len (L.getD k rt0).hop = 0 ∧ insertedR (sR q G T (L.take k)) ((t : Int) + 1) (L.getD k rt0).addr (L.getD k rt0).len (L.getD k rt0).hop = sR q G T (L.take (k + 1)) := by
  have h := hL.take hk
  obtain ⟨t, ht, hf⟩ : ∃ t : Nat, t < 3 ∧ (L.getD k rt0).from_ = (t : Int) := by
    rcases h.who (L.getD k rt0) (by simp) with e | e | e
    · exact ⟨0, by omega, e⟩
    · exact ⟨1, by omega, e⟩
    · exact ⟨2, by omega, e⟩
  obtain ⟨e1, e2⟩ := sR_insert (q := q) (gv := G) (tk := T) hq h ht hf
  rw [take_snoc hk] at e2
  exact ⟨t, ht, hf, e1, e2⟩
theorem round_right {q G T : Nat → Int} {L : List RouteD} (hq : ∀ t, t < 3 → 10 ≤ q t) (hL : OkOnes L) {k : Nat} (hk : k < L.length) {x : RouteD} (hx : L.getD (L.length - 1 - k) rt0 = x) : ∃ t : Nat, t < 3 ∧ x.from_ = (t : Int) ∧
    insertR (sR q G T (L.reverse.take k)) ((t : Int) + 1) x.addr x.len 9 = 0 ∧ insertedR (sR q G T (L.reverse.take k)) ((t : Int) + 1) x.addr x.len 9 = sR q G T (L.reverse.take k ++ [{ x with hop := 9 }]) ∧
    removeR (sR q G T (L.reverse.take k ++ [{ x with hop := 9 }])) ((t : Int) + 1) x.addr x.len = 0 ∧ removedR (sR q G T (L.reverse.take k ++ [{ x with hop := 9 }])) ((t : Int) + 1) x.addr x.len = sR q G T (L.reverse.take k) ∧
    insertR (sR q G T (L.reverse.take k)) ((t : Int) + 1) x.addr x.len x.hop = 0 ∧ insertedR (sR q G T (L.reverse.take k)) ((t : Int) + 1) x.addr x.len x.hop = sR q G T (L.reverse.take (k + 1)) := by
  have hk' : k < L.reverse.length := by simpa using hk
  have hg : L.reverse.getD k rt0 = x := by
    rw [← hx, List.getD_eq_getElem?_getD, List.getD_eq_getElem?_getD, List.getElem?_reverse hk]
  have h := hL.reverse.take hk'
  rw [hg] at h
  have hs := take_snoc hk'
  rw [hg] at hs
  obtain ⟨t, ht, hf⟩ : ∃ t : Nat, t < 3 ∧ x.from_ = (t : Int) := by
    rcases h.who x (by simp) with e | e | e
    · exact ⟨0, by omega, e⟩
    · exact ⟨1, by omega, e⟩
    · exact ⟨2, by omega, e⟩
  have h9 := h.other (k := 9) (by omega)
  obtain ⟨a1, a2⟩ := sR_insert (q := q) (gv := G) (tk := T) hq h9 ht hf
  obtain ⟨b1, b2⟩ := sR_remove (q := q) (gv := G) (tk := T) h9 ht hf
  obtain ⟨c1, c2⟩ := sR_insert (q := q) (gv := G) (tk := T) hq h ht hf
  rw [hs] at c2
  exact ⟨t, ht, hf, a1, a2, b1, b2, c1, c2⟩
end Go.Proofs.Ytgndledehlilkaa
