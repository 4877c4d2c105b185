/-
  Do of the second of two engines; none.
-/
import Derived.Test.YtgndledehlilkabWirQ3
namespace Go.Proofs.Ytgndledehlilkab
open Go.RowKit

theorem BytesIn.rowB {w : World} {base g n cap : Nat} {S : List Int} (h : w.ownsRow base 5 1 (.slice (some ⟨g, 0, none⟩) n cap) n (S.map byteC)) (hn : n = S.length) (hS : okBytes S) (hl : S.length ≤ 1000) : BytesIn w (.slice (some ⟨g, 0, none⟩) n cap) S := BytesIn.row h hn hS (by omega)
theorem BytesIn.cut {w : World} {a : Option Addr} {n c : Nat} {S : List Int} (h : BytesIn w (.slice a n c) S) {k c' : Nat} (hk : k ≤ S.length) (hc : k ≤ c') (hp : 0 < S.length) : BytesIn w (.slice a k c') (S.take k) := by
  have hl : (S.take k).length = k := by rw [List.length_take]; omega
  refine ⟨fun x hx => h.1 x (List.mem_of_mem_take hx), ?_⟩
  rcases h.2 with ⟨_, rfl⟩ | ⟨ad, c0, e, h1, h2, h4⟩
  · simp at hp
  · obtain ⟨rfl, _, _⟩ := Value.slice.inj e
    refine .inr ⟨ad, c', by rw [hl], by rw [hl]; exact hc, by rw [hl]; omega, fun j hj => ?_⟩
    rw [hl] at hj
    obtain ⟨bs, off, e1, e2, e3⟩ := h4 j (by omega)
    exact ⟨bs, off, e1, e2, by rw [e3, fB_take hj]⟩
theorem okBytes.snoc {S : List Int} (h : okBytes S) (c : Int) : okBytes (S ++ [loB c]) := fun x hx => by
  rcases List.mem_append.1 hx with q | q
  · exact h x q
  · rw [List.mem_singleton.1 q]; exact loB_r c
section
variable {w0 w : World} {b c : Nat} {r s : RefS}
/-- Do of the second. -/
theorem Pair.do2 (h : Pair w0 w b c r s) {a : Option Addr} {n cap : Nat} {S : List Int} (hb : BytesIn w (.slice a n cap) S) : Calls Try.prog 6 #[.pointer (some ⟨c, 0, none⟩), .slice a n cap] w fun en w' =>
    ∃ a' cap', en = .returned (.slice a' (doB s S).length cap') ∧ w'.ownsRow w.heap.size 5 1 (.slice a' (doB s S).length cap') (doB s S).length ((doB s S).map byteC) ∧ Pair w0 w' b c r (doS s S) ∧ Kept (· = c) w w' := by
  refine (do_any (I := engX) engX2 engX3 h.y.rep h.y.ok hb).mono ?_
  rintro en w' ⟨v, rfl, hr, O', hO, hrep, hk, _⟩
  obtain ⟨a', cap', rfl, _, _⟩ := ownsRow_slice hr
  obtain ⟨p, q⟩ := h.right (Went.now (h.y.went (h.y.ok.doS S) ⟨O', hO, hrep, hk⟩))
  exact ⟨a', cap', rfl, hr, p, q⟩
end
end Go.Proofs.Ytgndledehlilkab
