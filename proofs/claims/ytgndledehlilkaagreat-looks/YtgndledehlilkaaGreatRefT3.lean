/-
  Walks: districtref: Lets.
-/
import Derived.Test.YtgndledehlilkaaGreatPure
import Derived.Test.YtgndledehlilkaaGreatRefT2
namespace Go.Proofs.YtgndledehlilkaaGreat
open Go.RowKit
theorem contains_is (addr len a : Int) (w : World) (y : Bool) (hy : containsB addr len a = y) (h0 : 0 ≤ addr) (h1 : addr ≤ 65535) (h2 : 0 ≤ len) (h3 : len ≤ 16) (h4 : 0 ≤ a) (h5 : a ≤ 65535) :
    Calls Tryz.prog 108 #[.int .i64 addr, .int .i64 len, .int .i64 a] w fun e w' => e = .returned (.bool y) ∧ ∃ n, w' = w.drewN n := by
  rw [← hy]
  exact containsR_any addr len a w h0 h1 h2 h3 h4 h5
set_option maxRecDepth 100000 in
set_option maxHeartbeats 4000000 in
theorem lets_any {w : World} {l : List RuleD} {v : Value} (h : w.ownsRow 0 55 5 v l.length (l.flatMap ruleCells)) (hok : ∀ u ∈ l, okRule u) (r : RouteD) (hr0 : 0 ≤ r.addr) (hr1 : r.addr ≤ 65535) :
    Calls Tryz.prog 136 #[v, .agg #[.int .i64 r.addr, .int .i64 r.len, .int .i64 r.hop, .int .i64 r.from_]] w fun e w' => e = .returned (.bool (letsB l r)) ∧ Still w w' := by
  obtain ⟨a, cap, rfl, h1, h2⟩ := ownsRow_slice h
  unfold maxLen at h2
  have HO := hide h
  have HK := hide hok
  clear h hok
  go_enter Tryz.func136, Tryz.ntmps136
  go_wp2
  have HB : Hid (Still w (w.alloc (.cells #[.int .i64 r.addr, .int .i64 r.len, .int .i64 r.hop, .int .i64 r.from_] 50))) := (Kept.refl _ _).alloc _
  have d0 : (w.alloc (.cells #[.int .i64 r.addr, .int .i64 r.len, .int .i64 r.hop, .int .i64 r.from_] 50)).cell? ⟨w.heap.size, 0, none⟩ = some (.int .i64 r.addr) := by rw [World.cell?_alloc_new]; rfl
  have d1 : (w.alloc (.cells #[.int .i64 r.addr, .int .i64 r.len, .int .i64 r.hop, .int .i64 r.from_] 50)).cell? ⟨w.heap.size, 1, none⟩ = some (.int .i64 r.len) := by rw [World.cell?_alloc_new]; rfl
  have hsz : w.heap.size < (w.alloc (.cells #[.int .i64 r.addr, .int .i64 r.len, .int .i64 r.hop, .int .i64 r.from_] 50)).heap.size := by simp
  generalize w.alloc (.cells #[.int .i64 r.addr, .int .i64 r.len, .int .i64 r.hop, .int .i64 r.from_] 50) = W at *
  generalize hs0 : w.heap.size = s0 at *
  have Hs0 := hide hs0
  clear hs0
  go_loopw [5] (fun t w' => ∃ k : Nat, k ≤ l.length ∧ t = .int .i64 k ∧ (∀ j, j < k → matchB (l.getD j ru0) r = false) ∧ Still W w') (fun t _ => l.length - (intOf t).toNat)
  case atStart => exact ⟨0, Nat.zero_le _, rfl, fun j hj => by omega, Kept.refl _ _⟩
  case round =>
    obtain ⟨k, hk, rfl, hall, hst⟩ := hrel
    have HA := hide hall
    have HST := hide hst
    have d0' := (hst.cell _ 0 hsz).trans d0
    have d1' := (hst.cell _ 1 hsz).trans d1
    clear hall hst
    by_cases hlt : k < l.length
    · obtain ⟨g, rfl, hg⟩ := ownsRow_some (unhide HO) (by omega)
      have hor : wr.ownsRow 0 55 5 (.slice (some ⟨g, 0, none⟩) l.length cap) l.length (l.flatMap ruleCells) := ownsRow_of_block (unhide HO) (fun x hx => by
        have : g = x := by simpa [Value.ownBlock] using hx
        subst this
        rw [(unhide HST).heap (by rw [unhide Hs0] at hg; omega), (unhide HB).heap hg])
      obtain ⟨c0, c1, c2, c3, c4⟩ := ruleCell hor rfl hlt
      have hu := unhide HK (l.getD k ru0) (by simp [List.getD_eq_getElem?_getD, hlt])
      obtain ⟨u0, u1, u2, u3⟩ := hu
      have hk0 : (0 : Int) ≤ (k : Int) := by omega
      have hk1 : (k : Int) < (l.length : Int) := by omega
      have hm0 : Hid (matchB (l.getD k ru0) r = (containsB (l.getD k ru0).addr (l.getD k ru0).len r.addr && (decide ((l.getD k ru0).ge ≤ r.len) && decide (r.len ≤ (l.getD k ru0).le)))) := rfl
      have HS := hide (letsB_some hlt (unhide HA))
      generalize hq : l.getD k ru0 = q at *
      have HQ := hide hq
      clear hq
      clear hor
      by_cases hb : q.ge ≤ r.len ∧ r.len ≤ q.le
      · obtain ⟨hb1, hb2⟩ := hb
        have HB1 : Hid ((decide (q.ge ≤ r.len) && decide (r.len ≤ q.le)) = true) := by show _ = _; simp [hb1, hb2]
        cases hc : containsB q.addr q.len r.addr with
        | false =>
          have HC := hide hc
          clear hc
          go_wp2_with fail
          go_quiet ((go_at_call 108; exact Calls.quiet_of (contains_is _ _ _ _ false (unhide HC) u0 u1 u2 u3 hr0 hr1)))
          have x0 : (wr.drewN nq).cell? ⟨g, k * 5, none⟩ = some (.bool q.allow) := c0
          have x3 : (wr.drewN nq).cell? ⟨g, k * 5 + 3, none⟩ = some (.int .i64 q.ge) := c3
          have x4 : (wr.drewN nq).cell? ⟨g, k * 5 + 4, none⟩ = some (.int .i64 q.le) := c4
          have y1 : (wr.drewN nq).cell? ⟨s0, 1, none⟩ = some (.int .i64 r.len) := d1'
          have HSV : Hid (Still W (wr.drewN nq)) := Kept.drewN (unhide HST) _
          clear c0 c1 c2 c3 c4 d0' d1'
          generalize wr.drewN nq = V at *
          go_wp2_with fail
          go_quiet ((go_at_call 20; exact Calls.quiet_of_same (between_yes _ _ _ _ hb1 hb2)))
          go_wp2
          go_roundw
          case rel => exact ⟨k + 1, by omega, by go_num, fun j hj => by
            by_cases e : j = k
            · subst e; rw [unhide HQ, unhide hm0, unhide HC]; rfl
            · exact unhide HA j (by omega), Kept.drewN (unhide HSV) _⟩
          case measure => simp [intOf]; omega
        | true =>
          have HC := hide hc
          clear hc
          go_wp2_with fail
          go_quiet ((go_at_call 108; exact Calls.quiet_of (contains_is _ _ _ _ true (unhide HC) u0 u1 u2 u3 hr0 hr1)))
          have x0 : (wr.drewN nq).cell? ⟨g, k * 5, none⟩ = some (.bool q.allow) := c0
          have x3 : (wr.drewN nq).cell? ⟨g, k * 5 + 3, none⟩ = some (.int .i64 q.ge) := c3
          have x4 : (wr.drewN nq).cell? ⟨g, k * 5 + 4, none⟩ = some (.int .i64 q.le) := c4
          have y1 : (wr.drewN nq).cell? ⟨s0, 1, none⟩ = some (.int .i64 r.len) := d1'
          have HSV : Hid (Still W (wr.drewN nq)) := Kept.drewN (unhide HST) _
          clear c0 c1 c2 c3 c4 d0' d1'
          generalize wr.drewN nq = V at *
          go_wp2_with fail
          go_quiet ((go_at_call 20; exact Calls.quiet_of_same (between_yes _ _ _ _ hb1 hb2)))
          go_wp2
          go_ret
          exact ⟨by rw [unhide HS (by rw [unhide hm0, unhide HC, unhide HB1]; rfl)]; rfl, Kept.trans (unhide HB) (Kept.drewN (unhide HSV) _)⟩
      · have HB1 : Hid ((decide (q.ge ≤ r.len) && decide (r.len ≤ q.le)) = false) := by
          show _ = _
          simp only [Bool.and_eq_false_iff, decide_eq_false_iff_not]
          omega
        have HBN : Hid (r.len < q.ge ∨ q.le < r.len) := by show _ ∨ _; omega
        clear hb
        cases hc : containsB q.addr q.len r.addr
        all_goals
          have HC := hide hc
          clear hc
          go_wp2_with fail
          go_quiet ((go_at_call 108; exact Calls.quiet_of (contains_is _ _ _ _ _ (unhide HC) u0 u1 u2 u3 hr0 hr1)))
          have x0 : (wr.drewN nq).cell? ⟨g, k * 5, none⟩ = some (.bool q.allow) := c0
          have x3 : (wr.drewN nq).cell? ⟨g, k * 5 + 3, none⟩ = some (.int .i64 q.ge) := c3
          have x4 : (wr.drewN nq).cell? ⟨g, k * 5 + 4, none⟩ = some (.int .i64 q.le) := c4
          have y1 : (wr.drewN nq).cell? ⟨s0, 1, none⟩ = some (.int .i64 r.len) := d1'
          have HSV : Hid (Still W (wr.drewN nq)) := Kept.drewN (unhide HST) _
          clear c0 c1 c2 c3 c4 d0' d1'
          generalize wr.drewN nq = V at *
          go_wp2_with fail
          go_quiet ((go_at_call 20; exact Calls.quiet_of_same (between_no _ _ _ _ (unhide HBN))))
          go_wp2
          go_roundw
          case rel => exact ⟨k + 1, by omega, by go_num, fun j hj => by
            by_cases e : j = k
            · subst e; rw [unhide HQ, unhide hm0, unhide HB1, Bool.and_false]
            · exact unhide HA j (by omega), Kept.drewN (unhide HSV) _⟩
          case measure => simp [intOf]; omega
    · have hnn := letsB_none (r := r) (fun j hj => unhide HA j (by omega))
      have HN := hide hnn
      clear hnn
      have hd : ((l.length : Int) == 0) = decide (l.length = 0) := by
        rw [Bool.eq_iff_iff]
        simp
      go_wp2
      go_ret
      exact ⟨ret_bool (by rw [unhide HN]; simp), Kept.trans (unhide HB) (unhide HST)⟩
end Go.Proofs.YtgndledehlilkaaGreat
