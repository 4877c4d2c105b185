/-
  Walks: districtref: between, has, dead, living, Alive, may.
-/
import Derived.Test.YtgndledehlilkaaGreatPure
import Derived.Test.YtgndledehlilkaaGreatRef
import Derived.WalkLawsBesides
import Derived.BigQuiet
import Derived.Deep.QuietTactic
namespace Go.Proofs.YtgndledehlilkaaGreat
open Go.RowKit
set_option maxHeartbeats 400000 in
theorem between_yes (n lo hi : Int) (w : World) (h1 : lo ≤ n) (h2 : n ≤ hi) :
    Calls Tryz.prog 20 #[.int .i64 n, .int .i64 lo, .int .i64 hi] w fun e w' => e = .returned (.bool true) ∧ w' = w := by
  have h3 : decide (n ≤ hi) = true := by simpa using h2
  go_enter Tryz.func20, Tryz.ntmps20
  go_wp2
  go_ret
  exact ⟨rfl, rfl⟩
set_option maxHeartbeats 400000 in
theorem between_no (n lo hi : Int) (w : World) (h : n < lo ∨ hi < n) :
    Calls Tryz.prog 20 #[.int .i64 n, .int .i64 lo, .int .i64 hi] w fun e w' => e = .returned (.bool false) ∧ w' = w := by
  by_cases h1 : n < lo
  · go_enter Tryz.func20, Tryz.ntmps20
    go_wp2
    go_ret
    exact ⟨rfl, rfl⟩
  · have h3 : decide (n ≤ hi) = false := by simp; omega
    go_enter Tryz.func20, Tryz.ntmps20
    go_wp2
    go_ret
    exact ⟨rfl, rfl⟩
set_option maxHeartbeats 400000 in
theorem has_any (n m : Int) (w : World) (h0 : 0 ≤ n) (h1 : n ≤ 1000000) (h2 : 1 ≤ m) (h3 : m ≤ 1000) :
    Calls Tryz.prog 57 #[.int .i64 n, .int .i64 m] w fun e w' => e = .returned (.bool (hasB n m)) ∧ w' = w := by
  have h4 : 0 ≤ n / m := Int.ediv_nonneg h0 (by omega)
  have h5 : n / m ≤ n := Int.ediv_le_self m h0
  go_enter Tryz.func57, Tryz.ntmps57
  go_wp2
  go_ret
  exact ⟨rfl, rfl⟩
set_option maxHeartbeats 400000 in
theorem dead_any {w : World} {O : Nat → Nat × Nat × Nat} {e b : Nat} {r : RefS} (h : RefRep w O e b r) (hf : RefWf r) (n : Int) (h1 : 1 ≤ n) (h2 : n ≤ r.nt) :
    Calls Tryz.prog 94 #[.pointer (some ⟨b, 0, none⟩), .int .i64 n] w fun e w' => e = .returned (.bool (r.tok (n - 1).toNat).revoked) ∧ w' = w := by
  obtain ⟨k, rfl⟩ : ∃ k : Nat, n = (k : Int) + 1 := ⟨(n - 1).toNat, by omega⟩
  have hk : k < r.nt := by omega
  rw [show ((k : Int) + 1 - 1).toNat = k from by omega]
  obtain ⟨lv, tv, ov, rv, ln, h⟩ := h
  obtain ⟨c0, c1, c2, _⟩ := h.cells
  obtain ⟨a, cap, rfl, h1, h2, h3⟩ := h.toksAt
  obtain ⟨g, rfl⟩ := h3 k hk
  have t3 : w.cell? ⟨g, k * 4 + 3, none⟩ = some (.bool (r.tok k).revoked) := h.tokCell hk 3 (by omega)
  have hn := hf.nt
  unfold maxLen at h2
  clear h h3 hf c0 c1
  go_enter Tryz.func94, Tryz.ntmps94
  go_wp2
  go_ret
  exact ⟨rfl, rfl⟩
set_option maxHeartbeats 1000000 in
theorem living_any {w : World} {O : Nat → Nat × Nat × Nat} {e b : Nat} {r : RefS} (h : RefRep w O e b r) (hf : RefWf r) (no : Int) :
    Calls Tryz.prog 51 #[.pointer (some ⟨b, 0, none⟩), .int .i64 no] w fun e w' => ∃ q : Int, e = .returned (.int .i64 q) ∧ livesAs r no q ∧ w' = w := by
  obtain ⟨lv, tv, ov, rv, ln, h⟩ := h
  obtain ⟨c0, c1, c2, _⟩ := h.cells
  obtain ⟨a, cap, rfl, h1, h2, h3⟩ := h.livesAt
  have hn := hf.nt
  have hl := hf.nl
  unfold maxLen at h2
  clear hf c0 c2
  go_enter Tryz.func51, Tryz.ntmps51
  go_wp2
  go_loop [5] (fun t => ∃ k : Nat, k ≤ r.nl ∧ t = .int .i64 k ∧ ∀ i, i < k → (r.life i).gone = true ∨ (r.life i).no ≠ no) (fun t => r.nl - (intOf t).toNat)
  case atStart => exact ⟨0, Nat.zero_le _, rfl, fun i hi => by omega⟩
  case round =>
    obtain ⟨k, hk, rfl, hr⟩ := hrel
    have HR := hide hr
    clear hr
    by_cases hlt : k < r.nl
    · obtain ⟨g, rfl⟩ := h3 k hlt
      have t6 : w.cell? ⟨g, k * 7 + 6, none⟩ = some (.bool (r.life k).gone) := h.lifeCell hlt 6 (by omega)
      have t0 : w.cell? ⟨g, k * 7, none⟩ = some (.int .i64 (r.life k).no) := h.lifeCell hlt 0 (by omega)
      clear h h3
      cases hg : (r.life k).gone with
      | true =>
        rw [hg] at t6
        have HG := hide hg
        clear hg
        go_wp2
        go_round
        case rel => exact ⟨k + 1, by omega, by go_num, fun i hi => by
          by_cases ei : i = k
          · subst ei; exact .inl (unhide HG)
          · exact unhide HR i (by omega)⟩
        case measure => simp [intOf]; omega
      | false =>
        rw [hg] at t6
        have HG := hide hg
        clear hg
        by_cases hno : (r.life k).no = no
        · have hd : ((r.life k).no == no) = true := by simpa using hno
          have HN := hide hno
          clear hno
          go_wp2
          go_ret
          exact ⟨k, rfl, .inl ⟨k, rfl, hlt, unhide HG, unhide HN⟩, rfl⟩
        · have hd : ((r.life k).no == no) = false := by simpa using hno
          have HN := hide hno
          clear hno
          go_wp2
          go_round
          case rel => exact ⟨k + 1, by omega, by go_num, fun i hi => by
            by_cases ei : i = k
            · subst ei; exact .inr (unhide HN)
            · exact unhide HR i (by omega)⟩
          case measure => simp [intOf]; omega
    · clear h h3
      go_wp2
      go_ret
      exact ⟨-1, rfl, .inr ⟨rfl, fun i hi => unhide HR i (by omega)⟩, rfl⟩
set_option maxHeartbeats 1000000 in
theorem alive_no {w : World} {O : Nat → Nat × Nat × Nat} {e b : Nat} {r : RefS} (h : RefRep w O e b r) (_hf : RefWf r) (n : Int) (hn : n < 1 ∨ (r.nt : Int) < n) :
    Calls Tryz.prog 55 #[.pointer (some ⟨b, 0, none⟩), .int .i64 n] w fun e w' => e = .returned (.bool false) ∧ Still w w' := by
  obtain ⟨lv, tv, ov, rv, ln, h⟩ := h
  obtain ⟨c0, c1, c2, _⟩ := h.cells
  obtain ⟨a, cap, rfl, h1, h2, h3⟩ := h.toksAt
  clear h h3
  go_enter Tryz.func55, Tryz.ntmps55
  go_wp2_with (go_at_call 20; refine (between_no _ _ _ _ hn).mono ?_; rintro e w' ⟨rfl, rfl⟩)
  go_ret
  exact ⟨rfl, Kept.refl _ _⟩
end Go.Proofs.YtgndledehlilkaaGreat
