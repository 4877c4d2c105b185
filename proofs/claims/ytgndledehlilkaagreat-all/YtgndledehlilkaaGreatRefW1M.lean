import Derived.Test.YtgndledehlilkaaGreatPure
import Derived.Test.YtgndledehlilkaaGreatRef
import Derived.WalkLawsBesides
import Derived.BigQuiet
import Derived.Deep.QuietTactic
namespace Go.Proofs.YtgndledehlilkaaGreat
open Go.RowKit
set_option maxHeartbeats 400000 in
theorem between_yes (n lo hi : Int) (w : World) (h1 : lo ≤ n) (h2 : n ≤ hi) :
    Calls Tryz.prog 20 #[.int .i64 n, .int .i64 lo, .int .i64 hi] w fun e w' => e = .returned (.bool true) ∧ w' = w := by
  have h3 : decide (n ≤ hi) = true := by simpa using h2
  go_enter Tryz.func20, Tryz.ntmps20
  go_wp2
  go_ret
  exact ⟨rfl, rfl⟩
set_option maxHeartbeats 400000 in
theorem between_no (n lo hi : Int) (w : World) (h : n < lo ∨ hi < n) :
    Calls Tryz.prog 20 #[.int .i64 n, .int .i64 lo, .int .i64 hi] w fun e w' => e = .returned (.bool false) ∧ w' = w := by
  by_cases h1 : n < lo
  · go_enter Tryz.func20, Tryz.ntmps20
    go_wp2
    go_ret
    exact ⟨rfl, rfl⟩
  · have h3 : decide (n ≤ hi) = false := by simp; omega
    go_enter Tryz.func20, Tryz.ntmps20
    go_wp2
    go_ret
    exact ⟨rfl, rfl⟩
set_option maxHeartbeats 400000 in
theorem has_any (n m : Int) (w : World) (h0 : 0 ≤ n) (h1 : n ≤ 1000000) (h2 : 1 ≤ m) (h3 : m ≤ 1000) :
    Calls Tryz.prog 57 #[.int .i64 n, .int .i64 m] w fun e w' => e = .returned (.bool (hasB n m)) ∧ w' = w := by
  have h4 : 0 ≤ n / m := Int.ediv_nonneg h0 (by omega)
  have h5 : n / m ≤ n := Int.ediv_le_self m h0
  go_enter Tryz.func57, Tryz.ntmps57
  go_wp2
  go_ret
  exact ⟨rfl, rfl⟩
set_option maxHeartbeats 400000 in
theorem dead_any {w : World} {O : Nat → Nat × Nat × Nat} {e b : Nat} {r : RefS} (h : RefRep w O e b r) (hf : RefWf r) (n : Int) (h1 : 1 ≤ n) (h2 : n ≤ r.nt) :
    Calls Tryz.prog 94 #[.pointer (some ⟨b, 0, none⟩), .int .i64 n] w fun e w' => e = .returned (.bool (r.tok (n - 1).toNat).revoked) ∧ w' = w := by
  obtain ⟨k, rfl⟩ : ∃ k : Nat, n = (k : Int) + 1 := ⟨(n - 1).toNat, by omega⟩
  have hk : k < r.nt := by omega
  rw [show ((k : Int) + 1 - 1).toNat = k from by omega]
  obtain ⟨lv, tv, ov, rv, ln, h⟩ := h
  obtain ⟨c0, c1, c2, _⟩ := h.cells
  obtain ⟨a, cap, rfl, h1, h2, h3⟩ := h.toksAt
  obtain ⟨g, rfl⟩ := h3 k hk
  have t3 : w.cell? ⟨g, k * 4 + 3, none⟩ = some (.bool (r.tok k).revoked) := h.tokCell hk 3 (by omega)
  have hn := hf.nt
  unfold maxLen at h2
  clear h h3 hf c0 c1
  go_enter Tryz.func94, Tryz.ntmps94
  go_wp2
  go_ret
  exact ⟨rfl, rfl⟩
set_option maxHeartbeats 1000000 in
theorem living_any {w : World} {O : Nat → Nat × Nat × Nat} {e b : Nat} {r : RefS} (h : RefRep w O e b r) (hf : RefWf r) (no : Int) :
    Calls Tryz.prog 51 #[.pointer (some ⟨b, 0, none⟩), .int .i64 no] w fun e w' => ∃ q : Int, e = .returned (.int .i64 q) ∧ livesAs r no q ∧ w' = w := by
  obtain ⟨lv, tv, ov, rv, ln, h⟩ := h
  obtain ⟨c0, c1, c2, _⟩ := h.cells
  obtain ⟨a, cap, rfl, h1, h2, h3⟩ := h.livesAt
  have hn := hf.nt
  have hl := hf.nl
  unfold maxLen at h2
  clear hf c0 c2
  go_enter Tryz.func51, Tryz.ntmps51
  go_wp2
  go_loop [5] (fun t => ∃ k : Nat, k ≤ r.nl ∧ t = .int .i64 k ∧ ∀ i, i < k → (r.life i).gone = true ∨ (r.life i).no ≠ no) (fun t => r.nl - (intOf t).toNat)
  case atStart => exact ⟨0, Nat.zero_le _, rfl, fun i hi => by omega⟩
  case round =>
    obtain ⟨k, hk, rfl, hr⟩ := hrel
    have HR := hide hr
    clear hr
    by_cases hlt : k < r.nl
    · obtain ⟨g, rfl⟩ := h3 k hlt
      have t6 : w.cell? ⟨g, k * 7 + 6, none⟩ = some (.bool (r.life k).gone) := h.lifeCell hlt 6 (by omega)
      have t0 : w.cell? ⟨g, k * 7, none⟩ = some (.int .i64 (r.life k).no) := h.lifeCell hlt 0 (by omega)
      clear h h3
      cases hg : (r.life k).gone with
      | true =>
        rw [hg] at t6
        have HG := hide hg
        clear hg
        go_wp2
        go_round
        case rel => exact ⟨k + 1, by omega, by go_num, fun i hi => by
          by_cases ei : i = k
          · subst ei; exact .inl (unhide HG)
          · exact unhide HR i (by omega)⟩
        case measure => simp [intOf]; omega
      | false =>
        rw [hg] at t6
        have HG := hide hg
        clear hg
        by_cases hno : (r.life k).no = no
        · have hd : ((r.life k).no == no) = true := by simpa using hno
          have HN := hide hno
          clear hno
          go_wp2
          go_ret
          exact ⟨k, rfl, .inl ⟨k, rfl, hlt, unhide HG, unhide HN⟩, rfl⟩
        · have hd : ((r.life k).no == no) = false := by simpa using hno
          have HN := hide hno
          clear hno
          go_wp2
          go_round
          case rel => exact ⟨k + 1, by omega, by go_num, fun i hi => by
            by_cases ei : i = k
            · subst ei; exact .inr (unhide HN)
            · exact unhide HR i (by omega)⟩
          case measure => simp [intOf]; omega
    · clear h h3
      go_wp2
      go_ret
      exact ⟨-1, rfl, .inr ⟨rfl, fun i hi => unhide HR i (by omega)⟩, rfl⟩
set_option maxHeartbeats 1000000 in
theorem alive_no {w : World} {O : Nat → Nat × Nat × Nat} {e b : Nat} {r : RefS} (h : RefRep w O e b r) (_hf : RefWf r) (n : Int) (hn : n < 1 ∨ (r.nt : Int) < n) :
    Calls Tryz.prog 55 #[.pointer (some ⟨b, 0, none⟩), .int .i64 n] w fun e w' => e = .returned (.bool false) ∧ Still w w' := by
  obtain ⟨lv, tv, ov, rv, ln, h⟩ := h
  obtain ⟨c0, c1, c2, _⟩ := h.cells
  obtain ⟨a, cap, rfl, h1, h2, h3⟩ := h.toksAt
  clear h h3
  go_enter Tryz.func55, Tryz.ntmps55
  go_wp2_with (go_at_call 20; refine (between_no _ _ _ _ hn).mono ?_; rintro e w' ⟨rfl, rfl⟩)
  go_ret
  exact ⟨rfl, Kept.refl _ _⟩
theorem lineCell {w : World} {l : List Nat} {g cap : Nat} (h : w.ownsRow 0 3 1 (.slice (some ⟨g, 0, none⟩) l.length cap) l.length (lineCells l)) {i : Nat} (hi : i < l.length) : w.cell? ⟨g, i, none⟩ = some (.int .i64 ((l.getD i 0 : Nat) : Int)) := by
  rw [h.cellAt i (by omega)]
  simp [lineCells, hi]
theorem ret_bool {a b : Bool} (h : a = b) : Ending.returned (.bool a) = .returned (.bool b) := by rw [h]
theorem ret_int {a b : Int} (h : a = b) : Ending.returned (.int .i64 a) = .returned (.int .i64 b) := by rw [h]
set_option maxHeartbeats 1000000 in
theorem alive_yes {w : World} {O : Nat → Nat × Nat × Nat} {e b : Nat} {r : RefS} (h : RefRep w O e b r) (hf : RefWf r) (k : Nat) (hk : k < r.nt) :
    Calls Tryz.prog 55 #[.pointer (some ⟨b, 0, none⟩), .int .i64 ((k : Int) + 1)] w fun e w' => e = .returned (.bool (aliveR r k)) ∧ Still w w' := by
  obtain ⟨lv, tv, ov, rv, ln, h⟩ := h
  have hR : RefRep w O e b r := ⟨lv, tv, ov, rv, ln, h⟩
  obtain ⟨c0, c1, c2, _⟩ := h.cells
  obtain ⟨a, cap, rfl, h1, h2, h3⟩ := h.toksAt
  obtain ⟨g, rfl⟩ := h3 k hk
  have t0 : w.cell? ⟨g, k * 4, none⟩ = some (.int .i64 ((r.tok k).life : Int)) := h.tokCell hk 0 (by omega)
  have t1 : w.cell? ⟨g, k * 4 + 1, none⟩ = some (.int .i64 (r.tok k).rights) := h.tokCell hk 1 (by omega)
  have t2 : w.cell? ⟨g, k * 4 + 2, none⟩ = some (ln k) := h.tokCell hk 2 (by omega)
  have t3 : w.cell? ⟨g, k * 4 + 3, none⟩ = some (.bool (r.tok k).revoked) := h.tokCell hk 3 (by omega)
  have hlf := hf.life k hk
  obtain ⟨a', cap', rfl, h1', h2', h3'⟩ := h.livesAt
  obtain ⟨g', rfl⟩ := h3' _ hlf
  have l6 : w.cell? ⟨g', (r.tok k).life * 7 + 6, none⟩ = some (.bool (r.life (r.tok k).life).gone) := h.lifeCell hlf 6 (by omega)
  have hll := h.lines k hk
  obtain ⟨al, capl, el, hl1, hl2⟩ := ownsRow_slice hll
  rw [el] at t2 hll
  have hlen := hf.lineLen k hk
  have b0 := h.lt
  have b1 : g' < w.heap.size := ownsRow_lt h.lives rfl
  have hn := hf.nt
  have hl := hf.nl
  unfold maxLen at h2 h2' hl2
  have HR := hide hR
  have HF := hide hf
  have HL := hide hll
  clear h3 h3' hR h hf c0 el hll
  go_enter Tryz.func55, Tryz.ntmps55
  go_wp2_with (go_at_call 20; refine (between_yes _ _ _ _ (by omega) (by omega)).mono ?_; rintro e w' ⟨rfl, hw⟩; replace hw := hw.symm; subst hw)
  cases hg : (r.life (r.tok k).life).gone
  all_goals
    rw [hg] at l6
    have HG := hide hg
    clear hg
    go_quiet (fail)
    go_wp2
    have HW : Hid (RefRep ((w.alloc (Obj.cells #[Value.int IntKind.i64 ↑(r.tok k).life, Value.int IntKind.i64 (r.tok k).rights, Value.slice al (r.tok k).line.length capl, Value.bool (r.tok k).revoked] 104)).drewN nq) O e b r) := (unhide HR).still (((Kept.refl _ _).alloc _).drewN _)
    go_loop [7, 8] (fun t i => ∃ j : Nat, j ≤ (r.tok k).line.length ∧ i = .int .i64 j ∧ t = .bool (anyRev r ((r.life (r.tok k).life).gone || (r.tok k).revoked) (r.tok k).line j)) (fun _ i => (r.tok k).line.length - (intOf i).toNat)
    case atStart => exact ⟨0, Nat.zero_le _, rfl, by rw [anyRev_zero, unhide HG]; rfl⟩
    case round =>
      obtain ⟨j, hj, rfl, rfl⟩ := hrel
      by_cases hlt : j < (r.tok k).line.length
      · obtain ⟨gl, el, hgl⟩ := ownsRow_some (unhide HL) (by omega)
        subst el
        have lc := lineCell (unhide HL) hlt
        have hx := (unhide HF).line k hk ((r.tok k).line.getD j 0) (by simp [List.getD_eq_getElem?_getD, hlt])
        have hs := hide (anyRev_succ r ((r.life (r.tok k).life).gone || (r.tok k).revoked) (r.tok k).line hlt)
        generalize (r.tok k).line.getD j 0 = m at *
        cases hy : anyRev r ((r.life (r.tok k).life).gone || (r.tok k).revoked) (r.tok k).line j
        all_goals
          have HY := hide hy
          clear hy
          go_wp2_with (go_at_call 94; refine (dead_any (unhide HW) (unhide HF) _ (by omega) (by omega)).mono ?_; rintro e w' ⟨rfl, hw⟩; replace hw := hw.symm; subst hw)
          go_round
          case rel => exact ⟨j + 1, by omega, by go_num, by rw [unhide hs, unhide HY]; simp⟩
          case measure => simp [intOf]; omega
      · go_wp2
        go_ret
        exact ⟨ret_bool (anyRev_all r k (by omega)), ((Kept.refl _ _).alloc _).drewN _⟩
theorem alive_any {w : World} {O : Nat → Nat × Nat × Nat} {e b : Nat} {r : RefS} (h : RefRep w O e b r) (hf : RefWf r) (n : Int) :
    Calls Tryz.prog 55 #[.pointer (some ⟨b, 0, none⟩), .int .i64 n] w fun e w' => e = .returned (.bool (aliveI r n)) ∧ Still w w' := by
  by_cases hn : 1 ≤ n ∧ n ≤ r.nt
  · obtain ⟨k, rfl⟩ : ∃ k : Nat, n = (k : Int) + 1 := ⟨(n - 1).toNat, by omega⟩
    have e1 : aliveI r ((k : Int) + 1) = aliveR r k := by
      unfold aliveI
      rw [show ((k : Int) + 1 - 1).toNat = k from by omega]
      simp
      intro hh; omega
    rw [e1]
    exact alive_yes h hf k (by omega)
  · have e1 : aliveI r n = false := by simp [aliveI, hn]
    rw [e1]
    exact alive_no h hf n (by omega)
set_option maxHeartbeats 1000000 in
theorem may_any {w : World} {O : Nat → Nat × Nat × Nat} {e b : Nat} {r : RefS} (h : RefRep w O e b r) (hf : RefWf r) (n right : Int) (hr0 : 1 ≤ right) (hr1 : right ≤ 8) :
    Calls Tryz.prog 56 #[.pointer (some ⟨b, 0, none⟩), .int .i64 n, .int .i64 right] w fun e w' => e = .returned (.int .i64 (mayI r n right)) ∧ Still w w' := by
  cases ha : aliveI r n with
  | false =>
    have hm : mayI r n right = 3 := by simp [mayI, ha]
    rw [hm]
    have HA := hide ha
    clear ha hm
    go_enter Tryz.func56, Tryz.ntmps56
    go_wp2_with (go_at_call 55; refine (alive_any h hf _).mono ?_; rintro e w' ⟨rfl, hw⟩; rw [unhide HA])
    go_ret
    exact ⟨rfl, hw⟩
  | true =>
    obtain ⟨h1, h2, h3⟩ := aliveI_bounds ha
    obtain ⟨k, rfl⟩ : ∃ k : Nat, n = (k : Int) + 1 := ⟨(n - 1).toNat, by omega⟩
    have hk : k < r.nt := by omega
    have hm : mayI r ((k : Int) + 1) right = if hasB (r.tok k).rights right then 0 else 4 := by
      unfold mayI
      rw [ha, show ((k : Int) + 1 - 1).toNat = k from by omega]; rfl
    rw [hm]
    have HA := hide ha
    have hri := hf.rights k hk
    have hn := hf.nt
    clear ha hm h1 h2 h3
    obtain ⟨lv, tv, ov, rv, ln, ht⟩ := h
    obtain ⟨a, cap, rfl, h1, h2, h3⟩ := ht.toksAt
    obtain ⟨g, rfl⟩ := h3 k hk
    unfold maxLen at h2
    have HT := hide ht
    clear ht h3
    cases hb : hasB (r.tok k).rights right
    all_goals
      have HB := hide hb
      clear hb
      go_enter Tryz.func56, Tryz.ntmps56
      go_wp2_with fail
      refine (alive_any ⟨_, _, _, _, _, unhide HT⟩ hf _).mono ?_
      rintro e w1 ⟨rfl, hw⟩
      rw [unhide HA]
      have ht1 := (unhide HT).still hw
      obtain ⟨_, _, c2, _⟩ := ht1.cells
      have t1 : w1.cell? ⟨g, k * 4 + 1, none⟩ = some (.int .i64 (r.tok k).rights) := ht1.tokCell hk 1 (by omega)
      clear ht1
      go_wp2_with (go_at_call 57; refine (has_any _ _ _ (by omega) (by omega) (by omega) (by omega)).mono ?_; rintro e w' ⟨rfl, hw'⟩; replace hw' := hw'.symm; subst hw'; rw [unhide HB])
      go_ret
      exact ⟨rfl, hw⟩
end Go.Proofs.YtgndledehlilkaaGreat
