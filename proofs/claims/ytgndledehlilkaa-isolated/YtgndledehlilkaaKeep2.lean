/-
  Routes held against each other; has; begun.
-/
import Derived.Test.YtgndledehlilkaaKeep1
import Derived.Laws.StructEq
namespace Go.Proofs.Ytgndledehlilkaa
open Go.RowKit

def eqR (x y : RouteD) : Bool := x.addr == y.addr && (x.len == y.len && (x.hop == y.hop && x.from_ == y.from_))
theorem eqR_iff (x y : RouteD) : eqR x y = true ↔ x = y := by
  obtain ⟨a, b, c, d⟩ := x
  obtain ⟨a', b', c', d'⟩ := y
  unfold eqR
  simp only [Bool.and_eq_true, beq_iff_eq, RouteD.mk.injEq]
theorem eqRoute (x y : RouteD) (w : World) : (binOp .eql 34 (.agg #[.int .i64 x.addr, .int .i64 x.len, .int .i64 x.hop, .int .i64 x.from_]) (.agg #[.int .i64 y.addr, .int .i64 y.len, .int .i64 y.hop, .int .i64 y.from_])).run Try.prog w = .ok (.bool (eqR x y)) w := by
  have hu := Try.underlying34
  have hf : Try.prog.underlying 34 = some (.struct (Try.prog.fieldsOf 34)) := by unfold Program.fieldsOf; rw [hu]
  have hp : Try.prog.stoodInHeld 34 = false := by kernel_rfl
  rw [run_eql_struct, run_equalIn_struct w 9999 _ _ _ hf hp]
  unfold Program.fieldsOf
  rw [hu]
  unfold eqR
  cases h1 : (x.addr == y.addr) <;> cases h2 : (x.len == y.len) <;> cases h3 : (x.hop == y.hop) <;> cases h4 : (x.from_ == y.from_) <;> simp [Op.eqFields, go_sem, Try.underlying3, h1, h2, h3, h4]
theorem rowCell {w : World} {base : Nat} {g cap n : Nat} {l : List RouteD} (h : w.ownsRow base 34 4 (.slice (some ⟨g, 0, none⟩) n cap) n (l.flatMap routeCells)) (hn : n = l.length) {i : Nat} (hi : i < l.length) :
    w.cell? ⟨g, i * 4, none⟩ = some (.int .i64 (l.getD i rt0).addr) ∧ w.cell? ⟨g, i * 4 + 1, none⟩ = some (.int .i64 (l.getD i rt0).len) ∧ w.cell? ⟨g, i * 4 + 2, none⟩ = some (.int .i64 (l.getD i rt0).hop) ∧ w.cell? ⟨g, i * 4 + 3, none⟩ = some (.int .i64 (l.getD i rt0).from_) := by
  subst hn
  rw [flat_enc l rt0] at h
  have hs : ∀ i, i < l.length → (routeCells (l.getD i rt0)).length = 4 := fun _ _ => rfl
  exact ⟨ownsRow_cell h hs hi (j := 0) (by omega), ownsRow_cell h hs hi (j := 1) (by omega), ownsRow_cell h hs hi (j := 2) (by omega), ownsRow_cell h hs hi (j := 3) (by omega)⟩
set_option maxHeartbeats 2000000 in
theorem hasK {w : World} {base : Nat} {v : Value} {l : List RouteD} (h : w.ownsRow base 34 4 v l.length (l.flatMap routeCells)) (hl : l.length ≤ 1000000) (x : RouteD) :
    Calls Try.prog 23 #[v, .agg #[.int .i64 x.addr, .int .i64 x.len, .int .i64 x.hop, .int .i64 x.from_]] w fun e w' => e = .returned (.bool (l.any fun y => eqR y x)) ∧ Still w w' := by
  obtain ⟨va, vc, rfl, hv1, hv2⟩ := ownsRow_slice h
  unfold maxLen at hv2
  have hS : Still w (w.alloc (.cells #[.int .i64 x.addr, .int .i64 x.len, .int .i64 x.hop, .int .i64 x.from_] 34)) := (Kept.refl _ _).alloc _
  have HR := hide h
  have HB := hide (BoxX.new w x 34)
  have HS := hide hS
  clear h hS
  go_enter Try.func23, Try.ntmps23
  go_wp2
  generalize w.heap.size = s0 at *
  generalize w.alloc (.cells #[.int .i64 x.addr, .int .i64 x.len, .int .i64 x.hop, .int .i64 x.from_] 34) = V at *
  go_loopw [5] (fun s w' => ∃ k : Nat, k ≤ l.length ∧ s = .int .i64 k ∧ (∀ j, j < k → eqR (l.getD j rt0) x = false) ∧ Still V w') (fun s _ => l.length - (intOf s).toNat)
  case atStart => exact ⟨0, Nat.zero_le _, rfl, fun j hj => absurd hj (Nat.not_lt_zero _), Kept.refl _ _⟩
  case round =>
    obtain ⟨k, hk, rfl, hall, hw⟩ := hrel
    have hbx := (unhide HB).kept hw (fun q => q)
    have q0 := hbx.c0
    have q1 := hbx.c1
    have q2 := hbx.c2
    have q3 := hbx.c3
    have ql := hbx.lt
    have HALL := hide hall
    have HW := hide hw
    clear hall hw hbx
    by_cases hlt : k < l.length
    · have hst : Still w wr := (unhide HS).trans (unhide HW)
      obtain ⟨g, rfl, hg⟩ := ownsRow_some (unhide HR) (by omega)
      have hr : wr.ownsRow base 34 4 (.slice (some ⟨g, 0, none⟩) l.length vc) l.length (l.flatMap routeCells) := ownsRow_of_block (unhide HR) (fun y hy => hst.heap (ownsRow_lt (unhide HR) hy))
      obtain ⟨x0, x1, x2, x3⟩ := rowCell hr rfl hlt
      have hgw : g < wr.heap.size := ownsRow_lt hr rfl
      have hk0 : (0 : Int) ≤ (k : Int) := by omega
      have hkl : (k : Int) < (l.length : Int) := by omega
      have hmem : l.getD k rt0 ∈ l := by simp [List.getD_eq_getElem?_getD, hlt]
      have hE := fun w => eqRoute (l.getD k rt0) x w
      have HM := hide hmem
      have EQ : Hid (l.getD k rt0 = l.getD k rt0) := rfl
      clear hr hst hmem
      cases hd : eqR (l.getD k rt0) x with
      | true =>
        rw [hd] at hE
        have HD := hide hd
        clear hd
        generalize l.getD k rt0 = y at *
        go_wp2_with fail
        go_quiet (fail)
        go_wp2
        go_ret
        refine ⟨?_, ((unhide HS).trans (unhide HW)).drewN _⟩
        rw [show (l.any fun y => eqR y x) = true from List.any_eq_true.2 ⟨y, unhide HM, unhide HD⟩]
        rfl
      | false =>
        rw [hd] at hE
        have HD := hide hd
        clear hd
        generalize hy : l.getD k rt0 = y at *
        have HY := hide hy
        clear hy
        go_wp2_with fail
        go_quiet (fail)
        go_wp2
        go_roundw
        case rel => exact ⟨k + 1, by omega, by go_num, fun j hj => by
          by_cases ej : j = k
          · subst ej; rw [unhide HY]; exact unhide HD
          · exact unhide HALL j (by omega), (unhide HW).drewN _⟩
        case measure => simp [intOf]; omega
    · obtain rfl : k = l.length := by omega
      have hno : (l.any fun y => eqR y x) = false := by
        rw [List.any_eq_false]
        intro y hy
        obtain ⟨j, hj, rfl⟩ := List.getElem_of_mem hy
        have := unhide HALL j hj
        rw [show l.getD j rt0 = l[j] from by simp [List.getD_eq_getElem?_getD, hj]] at this
        rw [this]
        simp
      have HN := hide hno
      clear hno
      go_wp2
      go_ret
      exact ⟨by rw [unhide HN]; rfl, (unhide HS).trans (unhide HW)⟩
end Go.Proofs.Ytgndledehlilkaa
