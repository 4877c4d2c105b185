import Derived.Test.YtgndledehlilkaaGreatPure
import Derived.Test.YtgndledehlilkaaGreatRefW3M
import Derived.Deep.Slices
namespace Go.Proofs.YtgndledehlilkaaGreat
open Go.RowKit
set_option maxHeartbeats 400000 in
theorem power_any (n : Int) (w : World) (h0 : 0 ≤ n) (h1 : n ≤ 16) :
    Calls Tryz.prog 99 #[.int .i64 n] w fun e w' => e = .returned (.int .i64 (pw n.toNat)) ∧ w' = w := by
  obtain ⟨k, rfl⟩ : ∃ k : Nat, n = (k : Int) := ⟨n.toNat, by omega⟩
  rw [Int.toNat_natCast]
  go_enter Tryz.func99, Tryz.ntmps99
  go_wp2
  go_loop [3, 4] (fun p i => ∃ j : Nat, j ≤ k ∧ i = .int .i64 j ∧ p = .int .i64 (pw j)) (fun _ i => k - (intOf i).toNat)
  case atStart => exact ⟨0, Nat.zero_le _, rfl, rfl⟩
  case round =>
    obtain ⟨j, hj, rfl, rfl⟩ := hrel
    have hb := pw_le (j := j) (by omega)
    have E := hide (pw_succ j)
    by_cases hlt : j < k
    · generalize pw j = p at *
      go_wp2
      go_round
      case rel => exact ⟨j + 1, by omega, by go_num, by rw [unhide E]⟩
      case measure => simp [intOf]; omega
    · obtain rfl : j = k := by omega
      go_wp2
      go_ret
      exact ⟨rfl, rfl⟩
set_option maxHeartbeats 400000 in
theorem prefix_any (addr len : Int) (w : World) :
    Calls Tryz.prog 63 #[.int .i64 addr, .int .i64 len] w fun e w' => e = .returned (.bool (isPfx addr len)) ∧ w' = w := by
  by_cases ha : 0 ≤ addr ∧ addr ≤ 65535
  · by_cases hl : 0 ≤ len ∧ len ≤ 16
    · have e1 : isPfx addr len = (addr % pw (16 - len).toNat == 0) := by
        unfold isPfx
        rw [show decide (0 ≤ addr ∧ addr ≤ 65535 ∧ 0 ≤ len ∧ len ≤ 16) = true from by simp; omega]
        rfl
      rw [e1]
      have hp := pw_le (j := (16 - len).toNat) (by omega)
      clear e1
      go_enter Tryz.func63, Tryz.ntmps63
      go_wp2_with fail
      refine (between_yes _ _ _ _ (by omega) (by omega)).mono ?_
      rintro e w' ⟨rfl, hw⟩
      replace hw := hw.symm
      subst hw
      go_wp2_with fail
      refine (between_yes _ _ _ _ (by omega) (by omega)).mono ?_
      rintro e w' ⟨rfl, hw⟩
      replace hw := hw.symm
      subst hw
      go_wp2_with fail
      refine (power_any _ _ (by omega) (by omega)).mono ?_
      rintro e w' ⟨rfl, hw⟩
      replace hw := hw.symm
      subst hw
      generalize hpe : pw (16 - len).toNat = p at *
      have HPE := hide hpe
      clear hpe
      go_wp2
      go_ret
      exact ⟨by rw [unhide HPE]; rfl, rfl⟩
    · have e1 : isPfx addr len = false := by
        unfold isPfx
        rw [show decide (0 ≤ addr ∧ addr ≤ 65535 ∧ 0 ≤ len ∧ len ≤ 16) = false from by simp; omega]
        rfl
      rw [e1]
      have HL : Hid (len < 0 ∨ 16 < len) := by show len < 0 ∨ 16 < len; omega
      clear e1 hl
      go_enter Tryz.func63, Tryz.ntmps63
      go_wp2_with fail
      refine (between_yes _ _ _ _ (by omega) (by omega)).mono ?_
      rintro e w' ⟨rfl, hw⟩
      replace hw := hw.symm
      subst hw
      go_wp2_with fail
      refine (between_no _ _ _ _ (unhide HL)).mono ?_
      rintro e w' ⟨rfl, hw⟩
      replace hw := hw.symm
      subst hw
      go_wp2
      go_ret
      exact ⟨rfl, rfl⟩
  · have e1 : isPfx addr len = false := by
      unfold isPfx
      rw [show decide (0 ≤ addr ∧ addr ≤ 65535 ∧ 0 ≤ len ∧ len ≤ 16) = false from by simp; omega]
      rfl
    rw [e1]
    have HA : Hid (addr < 0 ∨ 65535 < addr) := by show addr < 0 ∨ 65535 < addr; omega
    clear e1 ha
    by_cases hl : 0 ≤ len ∧ len ≤ 16
    · go_enter Tryz.func63, Tryz.ntmps63
      go_wp2_with fail
      refine (between_no _ _ _ _ (unhide HA)).mono ?_
      rintro e w' ⟨rfl, hw⟩
      replace hw := hw.symm
      subst hw
      go_wp2_with fail
      refine (between_yes _ _ _ _ (by omega) (by omega)).mono ?_
      rintro e w' ⟨rfl, hw⟩
      replace hw := hw.symm
      subst hw
      go_wp2
      go_ret
      exact ⟨rfl, rfl⟩
    · have HL : Hid (len < 0 ∨ 16 < len) := by show len < 0 ∨ 16 < len; omega
      clear hl
      go_enter Tryz.func63, Tryz.ntmps63
      go_wp2_with fail
      refine (between_no _ _ _ _ (unhide HA)).mono ?_
      rintro e w' ⟨rfl, hw⟩
      replace hw := hw.symm
      subst hw
      go_wp2_with fail
      refine (between_no _ _ _ _ (unhide HL)).mono ?_
      rintro e w' ⟨rfl, hw⟩
      replace hw := hw.symm
      subst hw
      go_wp2
      go_ret
      exact ⟨rfl, rfl⟩
set_option maxHeartbeats 400000 in
theorem containsR_any (addr len a : Int) (w : World) (h0 : 0 ≤ addr) (h1 : addr ≤ 65535) (h2 : 0 ≤ len) (h3 : len ≤ 16) (h4 : 0 ≤ a) (h5 : a ≤ 65535) :
    Calls Tryz.prog 108 #[.int .i64 addr, .int .i64 len, .int .i64 a] w fun e w' => e = .returned (.bool (containsB addr len a)) ∧ ∃ n, w' = w.drewN n := by
  unfold containsB
  have hp := pw_le (j := (16 - len).toNat) (by omega)
  go_enter Tryz.func108, Tryz.ntmps108
  go_wp2_with fail
  refine (power_any _ _ (by omega) (by omega)).mono ?_
  rintro e w' ⟨rfl, hw⟩
  replace hw := hw.symm
  subst hw
  generalize hpe : pw (16 - len).toNat = p at *
  have HPE := hide hpe
  clear hpe
  have h6 : (p == 0) = false := by rw [beq_eq_false_iff_ne]; omega
  go_wp2_with fail
  go_quiet (fail)
  go_wp2
  go_ret
  exact ⟨by rw [unhide HPE]; rfl, nq, rfl⟩
set_option maxHeartbeats 400000 in
theorem same_any (r q : RouteD) (w : World) :
    Calls Tryz.prog 100 #[.agg #[.int .i64 r.addr, .int .i64 r.len, .int .i64 r.hop, .int .i64 r.from_], .agg #[.int .i64 q.addr, .int .i64 q.len, .int .i64 q.hop, .int .i64 q.from_]] w fun e w' => e = .returned (.bool (sameB r q)) ∧ Still w w' := by
  cases h1 : (r.addr == q.addr)
  · have e1 : sameB r q = false := by simp [sameB, h1]
    rw [e1]
    clear e1
    go_enter Tryz.func100, Tryz.ntmps100
    go_wp2
    go_ret
    exact ⟨rfl, ((Kept.refl _ _).alloc _).alloc _⟩
  · have e1 : sameB r q = (r.len == q.len) := by simp [sameB, h1]
    rw [e1]
    clear e1
    go_enter Tryz.func100, Tryz.ntmps100
    go_wp2
    go_ret
    exact ⟨rfl, ((Kept.refl _ _).alloc _).alloc _⟩
set_option maxHeartbeats 400000 in
theorem less_any (r q : RouteD) (w : World) :
    Calls Tryz.prog 127 #[.agg #[.int .i64 r.addr, .int .i64 r.len, .int .i64 r.hop, .int .i64 r.from_], .agg #[.int .i64 q.addr, .int .i64 q.len, .int .i64 q.hop, .int .i64 q.from_]] w fun e w' => e = .returned (.bool (lessB r q)) ∧ Still w w' := by
  by_cases h : r.addr = q.addr
  · have e1 : lessB r q = decide (r.len < q.len) := by simp [lessB, h]
    have h1 : (r.addr != q.addr) = false := by simp [h]
    rw [e1]
    clear e1 h
    go_enter Tryz.func127, Tryz.ntmps127
    go_wp2
    go_ret
    exact ⟨rfl, ((Kept.refl _ _).alloc _).alloc _⟩
  · have e1 : lessB r q = decide (r.addr < q.addr) := by simp [lessB, h]
    have h1 : (r.addr != q.addr) = true := by simp [h]
    rw [e1]
    clear e1 h
    go_enter Tryz.func127, Tryz.ntmps127
    go_wp2
    go_ret
    exact ⟨rfl, ((Kept.refl _ _).alloc _).alloc _⟩
set_option maxHeartbeats 1000000 in
theorem common_any (a b : Int) (w : World) (h0 : 0 ≤ a) (h1 : a ≤ 255) (h2 : 0 ≤ b) (h3 : b ≤ 255) :
    Calls Tryz.prog 135 #[.int .i64 a, .int .i64 b] w fun e w' => e = .returned (.bool (commonB a b)) ∧ w' = w := by
  go_enter Tryz.func135, Tryz.ntmps135
  go_wp2
  go_loop [5] (fun p => ∃ j : Nat, j ≤ 8 ∧ p = .int .i64 (pw j) ∧ commonTo a b j = false) (fun p => (256 - intOf p).toNat)
  case atStart => exact ⟨0, by omega, rfl, rfl⟩
  case round =>
    obtain ⟨j, hj, rfl, hc⟩ := hrel
    have HC := hide hc
    clear hc
    by_cases hj8 : j < 8
    · have hb : 1 ≤ pw j ∧ pw j ≤ 128 := by
        have h0 : ∀ k : Fin 8, 1 ≤ pw k.val ∧ pw k.val ≤ 128 := by decide +kernel
        exact h0 ⟨j, hj8⟩
      have E1 : Hid (commonTo a b (j + 1) = (commonTo a b j || (hasB a (pw j) && hasB b (pw j)))) := rfl
      have E2 := hide (pw_succ j)
      have EC : Hid (hasB a (pw j) = true → hasB b (pw j) = true → commonB a b = true) := commonTo_of hj8
      generalize pw j = p at *
      by_cases hbb : hasB a p = true ∧ hasB b p = true
      · obtain ⟨hb1, hb2⟩ := hbb
        have HB1 := hide hb1
        have HB2 := hide hb2
        clear hb1 hb2
        go_wp2_with fail
        refine (has_any _ _ _ (by omega) (by omega) (by omega) (by omega)).mono ?_
        rintro en w3 ⟨rfl, hww⟩
        replace hww := hww.symm
        subst hww
        rw [unhide HB1]
        go_wp2_with fail
        refine (has_any _ _ _ (by omega) (by omega) (by omega) (by omega)).mono ?_
        rintro en w3 ⟨rfl, hww⟩
        replace hww := hww.symm
        subst hww
        rw [unhide HB2]
        go_wp2
        go_ret
        exact ⟨by rw [unhide EC (unhide HB1) (unhide HB2)]; rfl, rfl⟩
      · cases hb1 : hasB a p
        all_goals cases hb2 : hasB b p
        case true.true => exact absurd ⟨hb1, hb2⟩ hbb
        all_goals
          clear hbb
          have HB1 := hide hb1
          have HB2 := hide hb2
          clear hb1 hb2
          go_wp2_with fail
          refine (has_any _ _ _ (by omega) (by omega) (by omega) (by omega)).mono ?_
          rintro en w3 ⟨rfl, hww⟩
          replace hww := hww.symm
          subst hww
          rw [unhide HB1]
          go_wp2_with fail
          refine (has_any _ _ _ (by omega) (by omega) (by omega) (by omega)).mono ?_
          rintro en w3 ⟨rfl, hww⟩
          replace hww := hww.symm
          subst hww
          rw [unhide HB2]
          go_wp2
          go_round
          case rel => exact ⟨j + 1, by omega, by rw [unhide E2], by rw [unhide E1, unhide HC, unhide HB1, unhide HB2]; rfl⟩
          case measure => simp [intOf]; omega
    · obtain rfl : j = 8 := by omega
      have e8 : pw 8 = 256 := rfl
      rw [e8]
      clear e8
      have HD : Hid (commonB a b = false) := unhide HC
      go_wp2
      go_ret
      exact ⟨by rw [unhide HD]; rfl, rfl⟩
section
/-- The cells of a row of routes. -/
theorem routeCell {w : World} {l : List RouteD} {g n cap : Nat} (h : w.ownsRow 0 50 4 (.slice (some ⟨g, 0, none⟩) n cap) n (l.flatMap routeCells)) (hn : n = l.length) {i : Nat} (hi : i < n) :
    w.cell? ⟨g, i * 4, none⟩ = some (.int .i64 (l.getD i rt0).addr) ∧ w.cell? ⟨g, i * 4 + 1, none⟩ = some (.int .i64 (l.getD i rt0).len) ∧ w.cell? ⟨g, i * 4 + 2, none⟩ = some (.int .i64 (l.getD i rt0).hop) ∧ w.cell? ⟨g, i * 4 + 3, none⟩ = some (.int .i64 (l.getD i rt0).from_) := by
  subst hn
  rw [flat_enc l rt0] at h
  exact ⟨ownsRow_cell h (fun _ _ => rfl) hi (j := 0) (by omega), ownsRow_cell h (fun _ _ => rfl) hi (j := 1) (by omega), ownsRow_cell h (fun _ _ => rfl) hi (j := 2) (by omega), ownsRow_cell h (fun _ _ => rfl) hi (j := 3) (by omega)⟩
theorem ruleCell {w : World} {l : List RuleD} {g n cap : Nat} (h : w.ownsRow 0 55 5 (.slice (some ⟨g, 0, none⟩) n cap) n (l.flatMap ruleCells)) (hn : n = l.length) {i : Nat} (hi : i < n) :
    w.cell? ⟨g, i * 5, none⟩ = some (.bool (l.getD i ru0).allow) ∧ w.cell? ⟨g, i * 5 + 1, none⟩ = some (.int .i64 (l.getD i ru0).addr) ∧ w.cell? ⟨g, i * 5 + 2, none⟩ = some (.int .i64 (l.getD i ru0).len) ∧ w.cell? ⟨g, i * 5 + 3, none⟩ = some (.int .i64 (l.getD i ru0).ge) ∧ w.cell? ⟨g, i * 5 + 4, none⟩ = some (.int .i64 (l.getD i ru0).le) := by
  subst hn
  rw [flat_enc l ru0] at h
  exact ⟨ownsRow_cell h (fun _ _ => rfl) hi (j := 0) (by omega), ownsRow_cell h (fun _ _ => rfl) hi (j := 1) (by omega), ownsRow_cell h (fun _ _ => rfl) hi (j := 2) (by omega), ownsRow_cell h (fun _ _ => rfl) hi (j := 3) (by omega), ownsRow_cell h (fun _ _ => rfl) hi (j := 4) (by omega)⟩
attribute [local go_sem ↓] Go.wp_at_zero Go.wp_at_succ
set_option maxRecDepth 100000 in
set_option maxHeartbeats 4000000 in
theorem find_any {w : World} {l : List RouteD} {v : Value} (h : w.ownsRow 0 50 4 v l.length (l.flatMap routeCells)) (r : RouteD) :
    Calls Tryz.prog 64 #[v, .agg #[.int .i64 r.addr, .int .i64 r.len, .int .i64 r.hop, .int .i64 r.from_]] w fun e w' => e = .returned (.int .i64 (findI l r)) ∧ Still w w' := by
  obtain ⟨a, cap, rfl, h1, h2⟩ := ownsRow_slice h
  unfold maxLen at h2
  have HO := hide h
  clear h
  go_enter Tryz.func64, Tryz.ntmps64
  go_wp2
  have HB : Hid (Still w (w.alloc (.cells #[.int .i64 r.addr, .int .i64 r.len, .int .i64 r.hop, .int .i64 r.from_] 50))) := (Kept.refl _ _).alloc _
  have HC : Hid (∀ w', Still (w.alloc (.cells #[.int .i64 r.addr, .int .i64 r.len, .int .i64 r.hop, .int .i64 r.from_] 50)) w' → w'.cell? ⟨w.heap.size, 0, none⟩ = some (.int .i64 r.addr) ∧ w'.cell? ⟨w.heap.size, 1, none⟩ = some (.int .i64 r.len) ∧ w'.cell? ⟨w.heap.size, 2, none⟩ = some (.int .i64 r.hop) ∧ w'.cell? ⟨w.heap.size, 3, none⟩ = some (.int .i64 r.from_)) := fun w' hs => by
    refine ⟨?_, ?_, ?_, ?_⟩ <;> (rw [hs.cell _ _ (by simp), World.cell?_alloc_new]; rfl)
  have hsz : w.heap.size < (w.alloc (.cells #[.int .i64 r.addr, .int .i64 r.len, .int .i64 r.hop, .int .i64 r.from_] 50)).heap.size := by simp
  generalize w.alloc (.cells #[.int .i64 r.addr, .int .i64 r.len, .int .i64 r.hop, .int .i64 r.from_] 50) = W at *
  generalize hs0 : w.heap.size = s0 at *
  have Hs0 := hide hs0
  clear hs0
  go_loopw [5] (fun t w' => ∃ k : Nat, k ≤ l.length ∧ t = .int .i64 k ∧ (∀ j, j < k → sameB (l.getD j rt0) r = false) ∧ Still W w') (fun t _ => l.length - (intOf t).toNat)
  case atStart => exact ⟨0, Nat.zero_le _, rfl, fun j hj => by omega, Kept.refl _ _⟩
  case round =>
    obtain ⟨k, hk, rfl, hall, hst⟩ := hrel
    have HA := hide hall
    have HS := hide hst
    have hz := hst.size
    clear hall hst
    by_cases hlt : k < l.length
    · obtain ⟨g, rfl, hg⟩ := ownsRow_some (unhide HO) (by omega)
      have hor : wr.ownsRow 0 50 4 (.slice (some ⟨g, 0, none⟩) l.length cap) l.length (l.flatMap routeCells) := ownsRow_of_block (unhide HO) (fun x hx => by
        have : g = x := by simpa [Value.ownBlock] using hx
        subst this
        rw [(unhide HS).heap (by rw [unhide Hs0] at hg; omega), (unhide HB).heap hg])
      obtain ⟨c0, c1, c2, c3⟩ := routeCell hor rfl hlt
      obtain ⟨d0, d1, d2, d3⟩ := unhide HC wr (unhide HS)
      have hk0 : (0 : Int) ≤ (k : Int) := by omega
      have hk1 : (k : Int) < (l.length : Int) := by omega
      have hgl : g < wr.heap.size := by rw [unhide Hs0] at hg; omega
      have hsl : s0 < wr.heap.size := by omega
      have EQ : Hid (l.getD k rt0 = l.getD k rt0) := rfl
      generalize hq : l.getD k rt0 = q at *
      have HQ := hide hq
      clear hor hq EQ
      cases hsm : sameB q r with
      | false =>
        have HM := hide hsm
        clear hsm
        go_wp2_with fail
        go_region_held3 (fun w' => w'.cell? ⟨g, k * 4, none⟩ = some (.int .i64 q.addr) ∧ w'.cell? ⟨g, k * 4 + 1, none⟩ = some (.int .i64 q.len) ∧ w'.cell? ⟨g, k * 4 + 2, none⟩ = some (.int .i64 q.hop) ∧ w'.cell? ⟨g, k * 4 + 3, none⟩ = some (.int .i64 q.from_) ∧ w'.cell? ⟨s0, 0, none⟩ = some (.int .i64 r.addr) ∧ w'.cell? ⟨s0, 1, none⟩ = some (.int .i64 r.len) ∧ w'.cell? ⟨s0, 2, none⟩ = some (.int .i64 r.hop) ∧ w'.cell? ⟨s0, 3, none⟩ = some (.int .i64 r.from_)) (first | go_keep | (go_split_ands; exact ⟨(hw3.cell _ _ hgl).trans c0, (hw3.cell _ _ hgl).trans c1, (hw3.cell _ _ hgl).trans c2, (hw3.cell _ _ hgl).trans c3, (hw3.cell _ _ hsl).trans d0, (hw3.cell _ _ hsl).trans d1, (hw3.cell _ _ hsl).trans d2, (hw3.cell _ _ hsl).trans d3⟩)) ((go_at_call 100; refine (same_any q r _).mono ?_; rintro e w3 ⟨rfl, hw3⟩; rw [unhide HM]))
        go_wp2
        go_roundw
        case rel => exact ⟨k + 1, by omega, by go_num, fun j hj => by
          by_cases e : j = k
          · subst e; rw [unhide HQ]; exact unhide HM
          · exact unhide HA j (by omega), Kept.trans (Kept.drew (unhide HS)) hw3⟩
        case measure => simp [intOf]; omega
      | true =>
        have HM := hide hsm
        clear hsm
        go_wp2_with fail
        go_region_held3 (fun w' => w'.cell? ⟨g, k * 4, none⟩ = some (.int .i64 q.addr) ∧ w'.cell? ⟨g, k * 4 + 1, none⟩ = some (.int .i64 q.len) ∧ w'.cell? ⟨g, k * 4 + 2, none⟩ = some (.int .i64 q.hop) ∧ w'.cell? ⟨g, k * 4 + 3, none⟩ = some (.int .i64 q.from_) ∧ w'.cell? ⟨s0, 0, none⟩ = some (.int .i64 r.addr) ∧ w'.cell? ⟨s0, 1, none⟩ = some (.int .i64 r.len) ∧ w'.cell? ⟨s0, 2, none⟩ = some (.int .i64 r.hop) ∧ w'.cell? ⟨s0, 3, none⟩ = some (.int .i64 r.from_)) (first | go_keep | (go_split_ands; exact ⟨(hw3.cell _ _ hgl).trans c0, (hw3.cell _ _ hgl).trans c1, (hw3.cell _ _ hgl).trans c2, (hw3.cell _ _ hgl).trans c3, (hw3.cell _ _ hsl).trans d0, (hw3.cell _ _ hsl).trans d1, (hw3.cell _ _ hsl).trans d2, (hw3.cell _ _ hsl).trans d3⟩)) ((go_at_call 100; refine (same_any q r _).mono ?_; rintro e w3 ⟨rfl, hw3⟩; rw [unhide HM]))
        go_wp2
        go_ret
        exact ⟨by rw [findI_some hlt (unhide HA) (by rw [unhide HQ]; exact unhide HM)]; rfl, Kept.trans (unhide HB) (Kept.trans (Kept.drew (unhide HS)) hw3)⟩
    · have hnn := findI_none (fun j hj => unhide HA j (by omega))
      have HN := hide hnn
      clear hnn
      go_wp2
      go_ret
      exact ⟨by rw [unhide HN]; rfl, Kept.trans (unhide HB) (unhide HS)⟩
end
theorem contains_is (addr len a : Int) (w : World) (y : Bool) (hy : containsB addr len a = y) (h0 : 0 ≤ addr) (h1 : addr ≤ 65535) (h2 : 0 ≤ len) (h3 : len ≤ 16) (h4 : 0 ≤ a) (h5 : a ≤ 65535) :
    Calls Tryz.prog 108 #[.int .i64 addr, .int .i64 len, .int .i64 a] w fun e w' => e = .returned (.bool y) ∧ ∃ n, w' = w.drewN n := by
  rw [← hy]
  exact containsR_any addr len a w h0 h1 h2 h3 h4 h5
set_option maxRecDepth 100000 in
set_option maxHeartbeats 4000000 in
theorem lets_any {w : World} {l : List RuleD} {v : Value} (h : w.ownsRow 0 55 5 v l.length (l.flatMap ruleCells)) (hok : ∀ u ∈ l, okRule u) (r : RouteD) (hr0 : 0 ≤ r.addr) (hr1 : r.addr ≤ 65535) :
    Calls Tryz.prog 136 #[v, .agg #[.int .i64 r.addr, .int .i64 r.len, .int .i64 r.hop, .int .i64 r.from_]] w fun e w' => e = .returned (.bool (letsB l r)) ∧ Still w w' := by
  obtain ⟨a, cap, rfl, h1, h2⟩ := ownsRow_slice h
  unfold maxLen at h2
  have HO := hide h
  have HK := hide hok
  clear h hok
  go_enter Tryz.func136, Tryz.ntmps136
  go_wp2
  have HB : Hid (Still w (w.alloc (.cells #[.int .i64 r.addr, .int .i64 r.len, .int .i64 r.hop, .int .i64 r.from_] 50))) := (Kept.refl _ _).alloc _
  have d0 : (w.alloc (.cells #[.int .i64 r.addr, .int .i64 r.len, .int .i64 r.hop, .int .i64 r.from_] 50)).cell? ⟨w.heap.size, 0, none⟩ = some (.int .i64 r.addr) := by rw [World.cell?_alloc_new]; rfl
  have d1 : (w.alloc (.cells #[.int .i64 r.addr, .int .i64 r.len, .int .i64 r.hop, .int .i64 r.from_] 50)).cell? ⟨w.heap.size, 1, none⟩ = some (.int .i64 r.len) := by rw [World.cell?_alloc_new]; rfl
  have hsz : w.heap.size < (w.alloc (.cells #[.int .i64 r.addr, .int .i64 r.len, .int .i64 r.hop, .int .i64 r.from_] 50)).heap.size := by simp
  generalize w.alloc (.cells #[.int .i64 r.addr, .int .i64 r.len, .int .i64 r.hop, .int .i64 r.from_] 50) = W at *
  generalize hs0 : w.heap.size = s0 at *
  have Hs0 := hide hs0
  clear hs0
  go_loopw [5] (fun t w' => ∃ k : Nat, k ≤ l.length ∧ t = .int .i64 k ∧ (∀ j, j < k → matchB (l.getD j ru0) r = false) ∧ Still W w') (fun t _ => l.length - (intOf t).toNat)
  case atStart => exact ⟨0, Nat.zero_le _, rfl, fun j hj => by omega, Kept.refl _ _⟩
  case round =>
    obtain ⟨k, hk, rfl, hall, hst⟩ := hrel
    have HA := hide hall
    have HST := hide hst
    have d0' := (hst.cell _ 0 hsz).trans d0
    have d1' := (hst.cell _ 1 hsz).trans d1
    clear hall hst
    by_cases hlt : k < l.length
    · obtain ⟨g, rfl, hg⟩ := ownsRow_some (unhide HO) (by omega)
      have hor : wr.ownsRow 0 55 5 (.slice (some ⟨g, 0, none⟩) l.length cap) l.length (l.flatMap ruleCells) := ownsRow_of_block (unhide HO) (fun x hx => by
        have : g = x := by simpa [Value.ownBlock] using hx
        subst this
        rw [(unhide HST).heap (by rw [unhide Hs0] at hg; omega), (unhide HB).heap hg])
      obtain ⟨c0, c1, c2, c3, c4⟩ := ruleCell hor rfl hlt
      have hu := unhide HK (l.getD k ru0) (by simp [List.getD_eq_getElem?_getD, hlt])
      obtain ⟨u0, u1, u2, u3⟩ := hu
      have hk0 : (0 : Int) ≤ (k : Int) := by omega
      have hk1 : (k : Int) < (l.length : Int) := by omega
      have hm0 : Hid (matchB (l.getD k ru0) r = (containsB (l.getD k ru0).addr (l.getD k ru0).len r.addr && (decide ((l.getD k ru0).ge ≤ r.len) && decide (r.len ≤ (l.getD k ru0).le)))) := rfl
      have HS := hide (letsB_some hlt (unhide HA))
      generalize hq : l.getD k ru0 = q at *
      have HQ := hide hq
      clear hq
      clear hor
      by_cases hb : q.ge ≤ r.len ∧ r.len ≤ q.le
      · obtain ⟨hb1, hb2⟩ := hb
        have HB1 : Hid ((decide (q.ge ≤ r.len) && decide (r.len ≤ q.le)) = true) := by show _ = _; simp [hb1, hb2]
        cases hc : containsB q.addr q.len r.addr with
        | false =>
          have HC := hide hc
          clear hc
          go_wp2_with fail
          go_quiet ((go_at_call 108; exact Calls.quiet_of (contains_is _ _ _ _ false (unhide HC) u0 u1 u2 u3 hr0 hr1)))
          have x0 : (wr.drewN nq).cell? ⟨g, k * 5, none⟩ = some (.bool q.allow) := c0
          have x3 : (wr.drewN nq).cell? ⟨g, k * 5 + 3, none⟩ = some (.int .i64 q.ge) := c3
          have x4 : (wr.drewN nq).cell? ⟨g, k * 5 + 4, none⟩ = some (.int .i64 q.le) := c4
          have y1 : (wr.drewN nq).cell? ⟨s0, 1, none⟩ = some (.int .i64 r.len) := d1'
          have HSV : Hid (Still W (wr.drewN nq)) := Kept.drewN (unhide HST) _
          clear c0 c1 c2 c3 c4 d0' d1'
          generalize wr.drewN nq = V at *
          go_wp2_with fail
          go_quiet ((go_at_call 20; exact Calls.quiet_of_same (between_yes _ _ _ _ hb1 hb2)))
          go_wp2
          go_roundw
          case rel => exact ⟨k + 1, by omega, by go_num, fun j hj => by
            by_cases e : j = k
            · subst e; rw [unhide HQ, unhide hm0, unhide HC]; rfl
            · exact unhide HA j (by omega), Kept.drewN (unhide HSV) _⟩
          case measure => simp [intOf]; omega
        | true =>
          have HC := hide hc
          clear hc
          go_wp2_with fail
          go_quiet ((go_at_call 108; exact Calls.quiet_of (contains_is _ _ _ _ true (unhide HC) u0 u1 u2 u3 hr0 hr1)))
          have x0 : (wr.drewN nq).cell? ⟨g, k * 5, none⟩ = some (.bool q.allow) := c0
          have x3 : (wr.drewN nq).cell? ⟨g, k * 5 + 3, none⟩ = some (.int .i64 q.ge) := c3
          have x4 : (wr.drewN nq).cell? ⟨g, k * 5 + 4, none⟩ = some (.int .i64 q.le) := c4
          have y1 : (wr.drewN nq).cell? ⟨s0, 1, none⟩ = some (.int .i64 r.len) := d1'
          have HSV : Hid (Still W (wr.drewN nq)) := Kept.drewN (unhide HST) _
          clear c0 c1 c2 c3 c4 d0' d1'
          generalize wr.drewN nq = V at *
          go_wp2_with fail
          go_quiet ((go_at_call 20; exact Calls.quiet_of_same (between_yes _ _ _ _ hb1 hb2)))
          go_wp2
          go_ret
          exact ⟨by rw [unhide HS (by rw [unhide hm0, unhide HC, unhide HB1]; rfl)]; rfl, Kept.trans (unhide HB) (Kept.drewN (unhide HSV) _)⟩
      · have HB1 : Hid ((decide (q.ge ≤ r.len) && decide (r.len ≤ q.le)) = false) := by
          show _ = _
          simp only [Bool.and_eq_false_iff, decide_eq_false_iff_not]
          omega
        have HBN : Hid (r.len < q.ge ∨ q.le < r.len) := by show _ ∨ _; omega
        clear hb
        cases hc : containsB q.addr q.len r.addr
        all_goals
          have HC := hide hc
          clear hc
          go_wp2_with fail
          go_quiet ((go_at_call 108; exact Calls.quiet_of (contains_is _ _ _ _ _ (unhide HC) u0 u1 u2 u3 hr0 hr1)))
          have x0 : (wr.drewN nq).cell? ⟨g, k * 5, none⟩ = some (.bool q.allow) := c0
          have x3 : (wr.drewN nq).cell? ⟨g, k * 5 + 3, none⟩ = some (.int .i64 q.ge) := c3
          have x4 : (wr.drewN nq).cell? ⟨g, k * 5 + 4, none⟩ = some (.int .i64 q.le) := c4
          have y1 : (wr.drewN nq).cell? ⟨s0, 1, none⟩ = some (.int .i64 r.len) := d1'
          have HSV : Hid (Still W (wr.drewN nq)) := Kept.drewN (unhide HST) _
          clear c0 c1 c2 c3 c4 d0' d1'
          generalize wr.drewN nq = V at *
          go_wp2_with fail
          go_quiet ((go_at_call 20; exact Calls.quiet_of_same (between_no _ _ _ _ (unhide HBN))))
          go_wp2
          go_roundw
          case rel => exact ⟨k + 1, by omega, by go_num, fun j hj => by
            by_cases e : j = k
            · subst e; rw [unhide HQ, unhide hm0, unhide HB1, Bool.and_false]
            · exact unhide HA j (by omega), Kept.drewN (unhide HSV) _⟩
          case measure => simp [intOf]; omega
    · have hnn := letsB_none (r := r) (fun j hj => unhide HA j (by omega))
      have HN := hide hnn
      clear hnn
      have hd : ((l.length : Int) == 0) = decide (l.length = 0) := by
        rw [Bool.eq_iff_iff]
        simp
      go_wp2
      go_ret
      exact ⟨ret_bool (by rw [unhide HN]; simp), Kept.trans (unhide HB) (unhide HST)⟩
section
attribute [local go_sem ↓] Go.wp_at_zero Go.wp_at_succ
set_option maxHeartbeats 2000000 in
theorem offer_no {w : World} {O : Nat → Nat × Nat × Nat} {e b : Nat} {r : RefS} (h : RefRep w O e b r) (hf : RefWf r) (t u : Nat) (ht : t < r.nl) (hu : u < r.nl) (x : RouteD) (hno : t = u ∨ (r.life t).gone = true ∨ (r.life u).gone = true) :
    Calls Tryz.prog 133 #[.pointer (some ⟨b, 0, none⟩), .int .i64 t, .int .i64 u, .agg #[.int .i64 x.addr, .int .i64 x.len, .int .i64 x.hop, .int .i64 x.from_]] w fun en w' => en = .returned (.bool false) ∧ Still w w' := by
  obtain ⟨lv, tv, ov, rv, ln, h⟩ := h
  have hb := h.lt
  obtain ⟨_, c1, _, _⟩ := h.cells
  obtain ⟨a, cap, rfl, h1, h2, h3⟩ := h.livesAt
  obtain ⟨g, rfl⟩ := h3 t ht
  have hg : g < w.heap.size := ownsRow_lt h.lives rfl
  have t6 : w.cell? ⟨g, t * 7 + 6, none⟩ = some (.bool (r.life t).gone) := h.lifeCell ht 6 (by omega)
  have u6 : w.cell? ⟨g, u * 7 + 6, none⟩ = some (.bool (r.life u).gone) := h.lifeCell hu 6 (by omega)
  have hn := hf.nt
  have hl := hf.nl
  unfold maxLen at h2
  clear h h3 hf
  by_cases htu : t = u
  · have e1 : ((t : Int) == (u : Int)) = true := by simp [htu]
    clear hno htu
    go_enter Tryz.func133, Tryz.ntmps133
    go_wp2
    go_ret
    exact ⟨rfl, (Kept.refl _ _).alloc _⟩
  · have e1 : ((t : Int) == (u : Int)) = false := by rw [beq_eq_false_iff_ne]; omega
    cases hgt : (r.life t).gone with
    | true =>
      rw [hgt] at t6
      clear hno htu hgt
      go_enter Tryz.func133, Tryz.ntmps133
      go_wp2
      go_ret
      exact ⟨rfl, (Kept.refl _ _).alloc _⟩
    | false =>
      have hgu : (r.life u).gone = true := by
        rcases hno with hh | hh | hh
        · exact absurd hh htu
        · rw [hgt] at hh; cases hh
        · exact hh
      rw [hgt] at t6
      rw [hgu] at u6
      clear hno htu hgt hgu
      go_enter Tryz.func133, Tryz.ntmps133
      go_wp2
      go_ret
      exact ⟨rfl, (Kept.refl _ _).alloc _⟩
set_option maxRecDepth 100000 in
set_option maxHeartbeats 4000000 in
theorem offer_yes {w : World} {O : Nat → Nat × Nat × Nat} {e b : Nat} {r : RefS} (h : RefRep w O e b r) (hf : RefWf r) (htb : RefTab r) (t u : Nat) (ht : t < r.nl) (hu : u < r.nl) (x : RouteD) (hx : okRoute x) (htu : t ≠ u) (hgt : (r.life t).gone = false) (hgu : (r.life u).gone = false) :
    Calls Tryz.prog 133 #[.pointer (some ⟨b, 0, none⟩), .int .i64 t, .int .i64 u, .agg #[.int .i64 x.addr, .int .i64 x.len, .int .i64 x.hop, .int .i64 x.from_]] w fun en w' => en = .returned (.bool (commonB (r.life u).gives (r.life t).takes && letsB (r.life t).rules x && decide (findI (r.life t).own x < 0))) ∧ Still w w' := by
  obtain ⟨lv, tv, ov, rv, ln, h⟩ := h
  have hb := h.lt
  obtain ⟨_, c1, _, _⟩ := h.cells
  obtain ⟨a, cap, rfl, h1, h2, h3⟩ := h.livesAt
  obtain ⟨g, rfl⟩ := h3 t ht
  have hg : g < w.heap.size := ownsRow_lt h.lives rfl
  have t6 : w.cell? ⟨g, t * 7 + 6, none⟩ = some (.bool (r.life t).gone) := h.lifeCell ht 6 (by omega)
  have u6 : w.cell? ⟨g, u * 7 + 6, none⟩ = some (.bool (r.life u).gone) := h.lifeCell hu 6 (by omega)
  have t3 : w.cell? ⟨g, t * 7 + 3, none⟩ = some (.int .i64 (r.life t).takes) := h.lifeCell ht 3 (by omega)
  have t4 : w.cell? ⟨g, t * 7 + 4, none⟩ = some (ov t) := h.lifeCell ht 4 (by omega)
  have t5 : w.cell? ⟨g, t * 7 + 5, none⟩ = some (rv t) := h.lifeCell ht 5 (by omega)
  have u2 : w.cell? ⟨g, u * 7 + 2, none⟩ = some (.int .i64 (r.life u).gives) := h.lifeCell hu 2 (by omega)
  rw [hgt] at t6
  rw [hgu] at u6
  have hro := h.owns t ht
  have hrr := h.rules t ht
  obtain ⟨oa, oc, oe, ol1, ol2⟩ := ownsRow_slice hro
  obtain ⟨ra, rc, re, rl1, rl2⟩ := ownsRow_slice hrr
  rw [oe] at t4 hro
  rw [re] at t5 hrr
  have hn := hf.nt
  have hl := hf.nl
  have hgv := htb.gives u hu
  have htk := htb.takes t ht
  have HRL := hide (htb.rules t ht)
  unfold maxLen at h2
  have e1 : ((t : Int) == (u : Int)) = false := by rw [beq_eq_false_iff_ne]; omega
  have HRO := hide hro
  have HRR := hide hrr
  have ht0 : (0 : Int) ≤ (t : Int) := by omega
  have ht1 : (t : Int) < (r.nl : Int) := by omega
  have hu0 : (0 : Int) ≤ (u : Int) := by omega
  have hu1 : (u : Int) < (r.nl : Int) := by omega
  have hxa0 := hx.a0
  have hxa1 := hx.a1
  clear h h3 hf htb hgt hgu htu oe re hro hrr
  have hs0 : Still w (w.alloc (.cells #[.int .i64 x.addr, .int .i64 x.len, .int .i64 x.hop, .int .i64 x.from_] 50)) := (Kept.refl _ _).alloc _
  have HB := hide hs0
  go_enter Tryz.func133, Tryz.ntmps133
  go_wp2_with fail
  have d0 : (w.alloc (.cells #[.int .i64 x.addr, .int .i64 x.len, .int .i64 x.hop, .int .i64 x.from_] 50)).cell? ⟨w.heap.size, 0, none⟩ = some (.int .i64 x.addr) := by rw [World.cell?_alloc_new]; rfl
  have d1 : (w.alloc (.cells #[.int .i64 x.addr, .int .i64 x.len, .int .i64 x.hop, .int .i64 x.from_] 50)).cell? ⟨w.heap.size, 1, none⟩ = some (.int .i64 x.len) := by rw [World.cell?_alloc_new]; rfl
  have d2 : (w.alloc (.cells #[.int .i64 x.addr, .int .i64 x.len, .int .i64 x.hop, .int .i64 x.from_] 50)).cell? ⟨w.heap.size, 2, none⟩ = some (.int .i64 x.hop) := by rw [World.cell?_alloc_new]; rfl
  have d3 : (w.alloc (.cells #[.int .i64 x.addr, .int .i64 x.len, .int .i64 x.hop, .int .i64 x.from_] 50)).cell? ⟨w.heap.size, 3, none⟩ = some (.int .i64 x.from_) := by rw [World.cell?_alloc_new]; rfl
  have hsz : w.heap.size < (w.alloc (.cells #[.int .i64 x.addr, .int .i64 x.len, .int .i64 x.hop, .int .i64 x.from_] 50)).heap.size := by simp
  have c1' := (hs0.cell _ 1 hb).trans c1
  have t3' := (hs0.cell _ _ hg).trans t3
  have t4' := (hs0.cell _ _ hg).trans t4
  have t5' := (hs0.cell _ _ hg).trans t5
  have u2' := (hs0.cell _ _ hg).trans u2
  clear c1 t3 t4 t5 u2 t6 u6 hs0
  generalize w.alloc (.cells #[.int .i64 x.addr, .int .i64 x.len, .int .i64 x.hop, .int .i64 x.from_] 50) = W at *
  generalize hse : w.heap.size = s0 at *
  have Hse := hide hse
  clear hse
  go_quiet ((go_at_call 135; exact Calls.quiet_of_same (common_any _ _ _ (by omega) (by omega) (by omega) (by omega))))
  have HV : Hid (Still W (W.drewN nq)) := (Kept.refl _ _).drewN _
  have c1v : (W.drewN nq).cell? ⟨b, 1, none⟩ = _ := c1'
  have t4v : (W.drewN nq).cell? ⟨g, t * 7 + 4, none⟩ = _ := t4'
  have t5v : (W.drewN nq).cell? ⟨g, t * 7 + 5, none⟩ = _ := t5'
  have d0v : (W.drewN nq).cell? ⟨s0, 0, none⟩ = _ := d0
  have d1v : (W.drewN nq).cell? ⟨s0, 1, none⟩ = _ := d1
  have d2v : (W.drewN nq).cell? ⟨s0, 2, none⟩ = _ := d2
  have d3v : (W.drewN nq).cell? ⟨s0, 3, none⟩ = _ := d3
  have szv : s0 < (W.drewN nq).heap.size := hsz
  clear c1' t4' t5' d0 d1 d2 d3 t3' u2'
  generalize W.drewN nq = V at *
  have hVs : b < V.heap.size := by omega
  have gVs : g < V.heap.size := by omega
  generalize hcm : commonB (r.life u).gives (r.life t).takes = cm at *
  have HCM := hide hcm
  clear hcm
  go_wp2_with fail
  have HRV : Hid (V.drew.ownsRow 0 55 5 (.slice ra (r.life t).rules.length rc) (r.life t).rules.length ((r.life t).rules.flatMap ruleCells)) := ownsRow_of_block (unhide HRR) (fun y hy => by
    have := ownsRow_lt (unhide HRR) hy
    have h1 := (unhide HV).heap (k := y) (by have := (unhide HB).size; omega)
    have h2 := (unhide HB).heap this
    exact h1.trans h2)
  go_region_held3 (fun w' => w'.cell? ⟨b, 1, none⟩ = some (.slice (some ⟨g, 0, none⟩) r.nl cap) ∧ w'.cell? ⟨g, t * 7 + 5, none⟩ = some (.slice ra (r.life t).rules.length rc) ∧ w'.cell? ⟨s0, 0, none⟩ = some (.int .i64 x.addr) ∧ w'.cell? ⟨s0, 1, none⟩ = some (.int .i64 x.len) ∧ w'.cell? ⟨s0, 2, none⟩ = some (.int .i64 x.hop) ∧ w'.cell? ⟨s0, 3, none⟩ = some (.int .i64 x.from_)) (first | go_keep | (go_split_ands; exact ⟨(hw3.cell _ _ hVs).trans c1v, (hw3.cell _ _ gVs).trans t5v, (hw3.cell _ _ szv).trans d0v, (hw3.cell _ _ szv).trans d1v, (hw3.cell _ _ szv).trans d2v, (hw3.cell _ _ szv).trans d3v⟩)) ((go_at_call 136; refine (lets_any (unhide HRV) (unhide HRL) x hxa0 hxa1).mono ?_; rintro e w3 ⟨rfl, hw3⟩))
  have hw3' : Still V w3 := Kept.trans ((Kept.refl _ _).drew) hw3
  have c1x := (hw3'.cell _ 1 hVs).trans c1v
  have t4x := (hw3'.cell _ _ gVs).trans t4v
  have d0x := (hw3'.cell _ 0 szv).trans d0v
  have d1x := (hw3'.cell _ 1 szv).trans d1v
  have d2x := (hw3'.cell _ 2 szv).trans d2v
  have d3x := (hw3'.cell _ 3 szv).trans d3v
  have sz3 := hw3'.size
  have HRX : Hid (w3.drew.ownsRow 0 50 4 (.slice oa (r.life t).own.length oc) (r.life t).own.length ((r.life t).own.flatMap routeCells)) := ownsRow_of_block (unhide HRO) (fun y hy => by
    have h0 := ownsRow_lt (unhide HRO) hy
    have h1 := (unhide HV).heap (k := y) (by have := (unhide HB).size; omega)
    have h2 := (unhide HB).heap h0
    have h3 := hw3'.heap (k := y) (by have z1 := (unhide HB).size; have z2 := (unhide HV).size; omega)
    exact h3.trans (h1.trans h2))
  have HW3 : Hid (Still w w3) := Kept.trans (Kept.trans (unhide HB) (unhide HV)) hw3'
  have hbx : b < w3.heap.size := by omega
  have gbx : g < w3.heap.size := by omega
  have szx : s0 < w3.heap.size := by omega
  clear hw3 hw3' c1v t4v t5v d0v d1v d2v d3v HRV
  generalize hlt : letsB (r.life t).rules x = lt at *
  have HLT := hide hlt
  clear hlt
  go_wp2_with fail
  go_region_held3 (fun w' => w'.cell? ⟨b, 1, none⟩ = some (.slice (some ⟨g, 0, none⟩) r.nl cap) ∧ w'.cell? ⟨g, t * 7 + 4, none⟩ = some (.slice oa (r.life t).own.length oc) ∧ w'.cell? ⟨s0, 0, none⟩ = some (.int .i64 x.addr) ∧ w'.cell? ⟨s0, 1, none⟩ = some (.int .i64 x.len) ∧ w'.cell? ⟨s0, 2, none⟩ = some (.int .i64 x.hop) ∧ w'.cell? ⟨s0, 3, none⟩ = some (.int .i64 x.from_)) (first | go_keep | (go_split_ands; exact ⟨(hw4.cell _ _ hbx).trans c1x, (hw4.cell _ _ gbx).trans t4x, (hw4.cell _ _ szx).trans d0x, (hw4.cell _ _ szx).trans d1x, (hw4.cell _ _ szx).trans d2x, (hw4.cell _ _ szx).trans d3x⟩)) ((go_at_call 64; refine (find_any (unhide HRX) x).mono ?_; rintro e w4 ⟨rfl, hw4⟩))
  have HW4 : Hid (Still w w4) := Kept.trans (Kept.drew (unhide HW3)) hw4
  clear hw4 c1x t4x d0x d1x d2x d3x
  generalize hfi : findI (r.life t).own x = fi at *
  have HFI := hide hfi
  clear hfi
  cases cm
  all_goals cases lt
  all_goals
    go_wp2
    go_ret
    exact ⟨by rw [unhide HCM, unhide HLT, unhide HFI]; rfl, unhide HW4⟩
theorem offer_any {w : World} {O : Nat → Nat × Nat × Nat} {e b : Nat} {r : RefS} (h : RefRep w O e b r) (hf : RefWf r) (htb : RefTab r) (t u : Nat) (ht : t < r.nl) (hu : u < r.nl) (x : RouteD) (hx : okRoute x) :
    Calls Tryz.prog 133 #[.pointer (some ⟨b, 0, none⟩), .int .i64 t, .int .i64 u, .agg #[.int .i64 x.addr, .int .i64 x.len, .int .i64 x.hop, .int .i64 x.from_]] w fun en w' => en = .returned (.bool (offerB r t u x)) ∧ Still w w' := by
  by_cases hno : t = u ∨ (r.life t).gone = true ∨ (r.life u).gone = true
  · have e1 : offerB r t u x = false := by
      unfold offerB
      rcases hno with hh | hh | hh <;> simp [hh]
    rw [e1]
    exact offer_no h hf t u ht hu x hno
  · have h1 : t ≠ u := fun hh => hno (.inl hh)
    have h2 : (r.life t).gone = false := by
      cases hh : (r.life t).gone with
      | true => exact absurd (.inr (.inl hh)) hno
      | false => rfl
    have h3 : (r.life u).gone = false := by
      cases hh : (r.life u).gone with
      | true => exact absurd (.inr (.inr hh)) hno
      | false => rfl
    have e1 : offerB r t u x = (commonB (r.life u).gives (r.life t).takes && letsB (r.life t).rules x && decide (findI (r.life t).own x < 0)) := by
      unfold offerB
      simp [h1, h2, h3]
    rw [e1]
    exact offer_yes h hf htb t u ht hu x hx h1 h2 h3
end
end Go.Proofs.YtgndledehlilkaaGreat
