/-
  Walks: districtref: find, Lets.
-/
import Derived.Test.YtgndledehlilkaaGreatPure
import Derived.Test.YtgndledehlilkaaGreatRefT1
import Derived.Deep.Slices
namespace Go.Proofs.YtgndledehlilkaaGreat
open Go.RowKit
/-- The cells of a row of routes. -/
theorem routeCell {w : World} {l : List RouteD} {g n cap : Nat} (h : w.ownsRow 0 50 4 (.slice (some ⟨g, 0, none⟩) n cap) n (l.flatMap routeCells)) (hn : n = l.length) {i : Nat} (hi : i < n) :
    w.cell? ⟨g, i * 4, none⟩ = some (.int .i64 (l.getD i rt0).addr) ∧ w.cell? ⟨g, i * 4 + 1, none⟩ = some (.int .i64 (l.getD i rt0).len) ∧ w.cell? ⟨g, i * 4 + 2, none⟩ = some (.int .i64 (l.getD i rt0).hop) ∧ w.cell? ⟨g, i * 4 + 3, none⟩ = some (.int .i64 (l.getD i rt0).from_) := by
  subst hn
  rw [flat_enc l rt0] at h
  exact ⟨ownsRow_cell h (fun _ _ => rfl) hi (j := 0) (by omega), ownsRow_cell h (fun _ _ => rfl) hi (j := 1) (by omega), ownsRow_cell h (fun _ _ => rfl) hi (j := 2) (by omega), ownsRow_cell h (fun _ _ => rfl) hi (j := 3) (by omega)⟩
theorem ruleCell {w : World} {l : List RuleD} {g n cap : Nat} (h : w.ownsRow 0 55 5 (.slice (some ⟨g, 0, none⟩) n cap) n (l.flatMap ruleCells)) (hn : n = l.length) {i : Nat} (hi : i < n) :
    w.cell? ⟨g, i * 5, none⟩ = some (.bool (l.getD i ru0).allow) ∧ w.cell? ⟨g, i * 5 + 1, none⟩ = some (.int .i64 (l.getD i ru0).addr) ∧ w.cell? ⟨g, i * 5 + 2, none⟩ = some (.int .i64 (l.getD i ru0).len) ∧ w.cell? ⟨g, i * 5 + 3, none⟩ = some (.int .i64 (l.getD i ru0).ge) ∧ w.cell? ⟨g, i * 5 + 4, none⟩ = some (.int .i64 (l.getD i ru0).le) := by
  subst hn
  rw [flat_enc l ru0] at h
  exact ⟨ownsRow_cell h (fun _ _ => rfl) hi (j := 0) (by omega), ownsRow_cell h (fun _ _ => rfl) hi (j := 1) (by omega), ownsRow_cell h (fun _ _ => rfl) hi (j := 2) (by omega), ownsRow_cell h (fun _ _ => rfl) hi (j := 3) (by omega), ownsRow_cell h (fun _ _ => rfl) hi (j := 4) (by omega)⟩
attribute [local go_sem ↓] Go.wp_at_zero Go.wp_at_succ
set_option maxRecDepth 100000 in
set_option maxHeartbeats 4000000 in
theorem find_any {w : World} {l : List RouteD} {v : Value} (h : w.ownsRow 0 50 4 v l.length (l.flatMap routeCells)) (r : RouteD) :
    Calls Tryz.prog 64 #[v, .agg #[.int .i64 r.addr, .int .i64 r.len, .int .i64 r.hop, .int .i64 r.from_]] w fun e w' => e = .returned (.int .i64 (findI l r)) ∧ Still w w' := by
  obtain ⟨a, cap, rfl, h1, h2⟩ := ownsRow_slice h
  unfold maxLen at h2
  have HO := hide h
  clear h
  go_enter Tryz.func64, Tryz.ntmps64
  go_wp2
  have HB : Hid (Still w (w.alloc (.cells #[.int .i64 r.addr, .int .i64 r.len, .int .i64 r.hop, .int .i64 r.from_] 50))) := (Kept.refl _ _).alloc _
  have HC : Hid (∀ w', Still (w.alloc (.cells #[.int .i64 r.addr, .int .i64 r.len, .int .i64 r.hop, .int .i64 r.from_] 50)) w' → w'.cell? ⟨w.heap.size, 0, none⟩ = some (.int .i64 r.addr) ∧ w'.cell? ⟨w.heap.size, 1, none⟩ = some (.int .i64 r.len) ∧ w'.cell? ⟨w.heap.size, 2, none⟩ = some (.int .i64 r.hop) ∧ w'.cell? ⟨w.heap.size, 3, none⟩ = some (.int .i64 r.from_)) := fun w' hs => by
    refine ⟨?_, ?_, ?_, ?_⟩ <;> (rw [hs.cell _ _ (by simp), World.cell?_alloc_new]; rfl)
  have hsz : w.heap.size < (w.alloc (.cells #[.int .i64 r.addr, .int .i64 r.len, .int .i64 r.hop, .int .i64 r.from_] 50)).heap.size := by simp
  generalize w.alloc (.cells #[.int .i64 r.addr, .int .i64 r.len, .int .i64 r.hop, .int .i64 r.from_] 50) = W at *
  generalize hs0 : w.heap.size = s0 at *
  have Hs0 := hide hs0
  clear hs0
  go_loopw [5] (fun t w' => ∃ k : Nat, k ≤ l.length ∧ t = .int .i64 k ∧ (∀ j, j < k → sameB (l.getD j rt0) r = false) ∧ Still W w') (fun t _ => l.length - (intOf t).toNat)
  case atStart => exact ⟨0, Nat.zero_le _, rfl, fun j hj => by omega, Kept.refl _ _⟩
  case round =>
    obtain ⟨k, hk, rfl, hall, hst⟩ := hrel
    have HA := hide hall
    have HS := hide hst
    have hz := hst.size
    clear hall hst
    by_cases hlt : k < l.length
    · obtain ⟨g, rfl, hg⟩ := ownsRow_some (unhide HO) (by omega)
      have hor : wr.ownsRow 0 50 4 (.slice (some ⟨g, 0, none⟩) l.length cap) l.length (l.flatMap routeCells) := ownsRow_of_block (unhide HO) (fun x hx => by
        have : g = x := by simpa [Value.ownBlock] using hx
        subst this
        rw [(unhide HS).heap (by rw [unhide Hs0] at hg; omega), (unhide HB).heap hg])
      obtain ⟨c0, c1, c2, c3⟩ := routeCell hor rfl hlt
      obtain ⟨d0, d1, d2, d3⟩ := unhide HC wr (unhide HS)
      have hk0 : (0 : Int) ≤ (k : Int) := by omega
      have hk1 : (k : Int) < (l.length : Int) := by omega
      have hgl : g < wr.heap.size := by rw [unhide Hs0] at hg; omega
      have hsl : s0 < wr.heap.size := by omega
      have EQ : Hid (l.getD k rt0 = l.getD k rt0) := rfl
      generalize hq : l.getD k rt0 = q at *
      have HQ := hide hq
      clear hor hq EQ
      cases hsm : sameB q r with
      | false =>
        have HM := hide hsm
        clear hsm
        go_wp2_with fail
        go_region_held3 (fun w' => w'.cell? ⟨g, k * 4, none⟩ = some (.int .i64 q.addr) ∧ w'.cell? ⟨g, k * 4 + 1, none⟩ = some (.int .i64 q.len) ∧ w'.cell? ⟨g, k * 4 + 2, none⟩ = some (.int .i64 q.hop) ∧ w'.cell? ⟨g, k * 4 + 3, none⟩ = some (.int .i64 q.from_) ∧ w'.cell? ⟨s0, 0, none⟩ = some (.int .i64 r.addr) ∧ w'.cell? ⟨s0, 1, none⟩ = some (.int .i64 r.len) ∧ w'.cell? ⟨s0, 2, none⟩ = some (.int .i64 r.hop) ∧ w'.cell? ⟨s0, 3, none⟩ = some (.int .i64 r.from_)) (first | go_keep | (go_split_ands; exact ⟨(hw3.cell _ _ hgl).trans c0, (hw3.cell _ _ hgl).trans c1, (hw3.cell _ _ hgl).trans c2, (hw3.cell _ _ hgl).trans c3, (hw3.cell _ _ hsl).trans d0, (hw3.cell _ _ hsl).trans d1, (hw3.cell _ _ hsl).trans d2, (hw3.cell _ _ hsl).trans d3⟩)) ((go_at_call 100; refine (same_any q r _).mono ?_; rintro e w3 ⟨rfl, hw3⟩; rw [unhide HM]))
        go_wp2
        go_roundw
        case rel => exact ⟨k + 1, by omega, by go_num, fun j hj => by
          by_cases e : j = k
          · subst e; rw [unhide HQ]; exact unhide HM
          · exact unhide HA j (by omega), Kept.trans (Kept.drew (unhide HS)) hw3⟩
        case measure => simp [intOf]; omega
      | true =>
        have HM := hide hsm
        clear hsm
        go_wp2_with fail
        go_region_held3 (fun w' => w'.cell? ⟨g, k * 4, none⟩ = some (.int .i64 q.addr) ∧ w'.cell? ⟨g, k * 4 + 1, none⟩ = some (.int .i64 q.len) ∧ w'.cell? ⟨g, k * 4 + 2, none⟩ = some (.int .i64 q.hop) ∧ w'.cell? ⟨g, k * 4 + 3, none⟩ = some (.int .i64 q.from_) ∧ w'.cell? ⟨s0, 0, none⟩ = some (.int .i64 r.addr) ∧ w'.cell? ⟨s0, 1, none⟩ = some (.int .i64 r.len) ∧ w'.cell? ⟨s0, 2, none⟩ = some (.int .i64 r.hop) ∧ w'.cell? ⟨s0, 3, none⟩ = some (.int .i64 r.from_)) (first | go_keep | (go_split_ands; exact ⟨(hw3.cell _ _ hgl).trans c0, (hw3.cell _ _ hgl).trans c1, (hw3.cell _ _ hgl).trans c2, (hw3.cell _ _ hgl).trans c3, (hw3.cell _ _ hsl).trans d0, (hw3.cell _ _ hsl).trans d1, (hw3.cell _ _ hsl).trans d2, (hw3.cell _ _ hsl).trans d3⟩)) ((go_at_call 100; refine (same_any q r _).mono ?_; rintro e w3 ⟨rfl, hw3⟩; rw [unhide HM]))
        go_wp2
        go_ret
        exact ⟨by rw [findI_some hlt (unhide HA) (by rw [unhide HQ]; exact unhide HM)]; rfl, Kept.trans (unhide HB) (Kept.trans (Kept.drew (unhide HS)) hw3)⟩
    · have hnn := findI_none (fun j hj => unhide HA j (by omega))
      have HN := hide hnn
      clear hnn
      go_wp2
      go_ret
      exact ⟨by rw [unhide HN]; rfl, Kept.trans (unhide HB) (unhide HS)⟩
end Go.Proofs.YtgndledehlilkaaGreat
