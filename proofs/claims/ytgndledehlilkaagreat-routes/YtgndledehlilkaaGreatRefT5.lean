/-
  Walks: districtref: next.
-/
import Derived.Test.YtgndledehlilkaaGreatPure
import Derived.Test.YtgndledehlilkaaGreatRefT1M
namespace Go.Proofs.YtgndledehlilkaaGreat
open Go.RowKit
/-- A route in a block of its own. -/
structure Box4 (w : World) (b : Nat) (x : RouteD) : Prop where
  lt : b < w.heap.size
  c0 : w.cell? ⟨b, 0, none⟩ = some (.int .i64 x.addr)
  c1 : w.cell? ⟨b, 1, none⟩ = some (.int .i64 x.len)
  c2 : w.cell? ⟨b, 2, none⟩ = some (.int .i64 x.hop)
  c3 : w.cell? ⟨b, 3, none⟩ = some (.int .i64 x.from_)
  fz : ∀ j, w.frozen? ⟨b, j, none⟩ = false
theorem Box4.heap {w w' : World} {b : Nat} {x : RouteD} (h : Box4 w b x) (hk : w'.heap[b]? = w.heap[b]?) : Box4 w' b x := by
  have hc : ∀ j, w'.cell? ⟨b, j, none⟩ = w.cell? ⟨b, j, none⟩ := fun j => World.cell?_of_block (w := w) (a := ⟨b, j, none⟩) hk
  have hf : ∀ j, w'.frozen? ⟨b, j, none⟩ = w.frozen? ⟨b, j, none⟩ := fun j => World.frozen?_of_block (w := w) (a := ⟨b, j, none⟩) hk
  exact ⟨World.block_lt_of_cell? w' ⟨b, 0, none⟩ ((hc 0).trans h.c0), (hc _).trans h.c0, (hc _).trans h.c1, (hc _).trans h.c2, (hc _).trans h.c3, fun j => (hf j).trans (h.fz j)⟩
theorem Box4.still {w w' : World} {b : Nat} {x : RouteD} (h : Box4 w b x) (hs : Still w w') : Box4 w' b x := h.heap (hs.heap h.lt)
theorem Box4.kept {w w' : World} {P : Nat → Prop} {b : Nat} {x : RouteD} (h : Box4 w b x) (hs : Kept P w w') (hp : ¬ P b) : Box4 w' b x := h.heap (hs.block b h.lt hp)
theorem Box4.new (w : World) (x : RouteD) (T : TypeId) : Box4 (w.alloc (.cells #[.int .i64 x.addr, .int .i64 x.len, .int .i64 x.hop, .int .i64 x.from_] T)) w.heap.size x := by
  refine ⟨by simp, ?_, ?_, ?_, ?_, fun j => World.frozen?_alloc_new _ _ _ _⟩ <;> (rw [World.cell?_alloc_new]; rfl)
theorem Box4.put {w : World} {b : Nat} {x : RouteD} (h : Box4 w b x) (y : RouteD) : Box4 ((((w.setCell ⟨b, 0, none⟩ (.int .i64 y.addr)).setCell ⟨b, 1, none⟩ (.int .i64 y.len)).setCell ⟨b, 2, none⟩ (.int .i64 y.hop)).setCell ⟨b, 3, none⟩ (.int .i64 y.from_)) b y := by
  have n : ∀ i j : Nat, i ≠ j → (⟨b, i, none⟩ : Addr) ≠ ⟨b, j, none⟩ := fun i j hij hh => hij (congrArg Addr.off hh)
  have k0 := World.cell?_setCell_same w ⟨b, 0, none⟩ (.int .i64 y.addr) h.c0
  have k1 := World.cell?_setCell_same (w.setCell ⟨b, 0, none⟩ (.int .i64 y.addr)) ⟨b, 1, none⟩ (.int .i64 y.len) ((World.cell?_setCell_other _ _ _ _ (n 0 1 (by omega))).trans h.c1)
  have k2 := World.cell?_setCell_same ((w.setCell ⟨b, 0, none⟩ (.int .i64 y.addr)).setCell ⟨b, 1, none⟩ (.int .i64 y.len)) ⟨b, 2, none⟩ (.int .i64 y.hop) ((World.cell?_setCell_other _ _ _ _ (n 1 2 (by omega))).trans ((World.cell?_setCell_other _ _ _ _ (n 0 2 (by omega))).trans h.c2))
  have k3 := World.cell?_setCell_same (((w.setCell ⟨b, 0, none⟩ (.int .i64 y.addr)).setCell ⟨b, 1, none⟩ (.int .i64 y.len)).setCell ⟨b, 2, none⟩ (.int .i64 y.hop)) ⟨b, 3, none⟩ (.int .i64 y.from_) ((World.cell?_setCell_other _ _ _ _ (n 2 3 (by omega))).trans ((World.cell?_setCell_other _ _ _ _ (n 1 3 (by omega))).trans ((World.cell?_setCell_other _ _ _ _ (n 0 3 (by omega))).trans h.c3)))
  refine ⟨by simpa using h.lt, ?_, ?_, ?_, k3, fun j => by simpa using h.fz j⟩
  · exact (World.cell?_setCell_other _ _ _ _ (n 3 0 (by omega))).trans ((World.cell?_setCell_other _ _ _ _ (n 2 0 (by omega))).trans ((World.cell?_setCell_other _ _ _ _ (n 1 0 (by omega))).trans k0))
  · exact (World.cell?_setCell_other _ _ _ _ (n 3 1 (by omega))).trans ((World.cell?_setCell_other _ _ _ _ (n 2 1 (by omega))).trans k1)
  · exact (World.cell?_setCell_other _ _ _ _ (n 3 2 (by omega))).trans k2
end Go.Proofs.YtgndledehlilkaaGreat
