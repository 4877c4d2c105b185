/-
  Walks: districtref: power, Prefix, Contains, same, less, find, common.
-/
import Derived.Test.YtgndledehlilkaaGreatPure
import Derived.Test.YtgndledehlilkaaGreatRefW6
namespace Go.Proofs.YtgndledehlilkaaGreat
open Go.RowKit
set_option maxHeartbeats 400000 in
theorem power_any (n : Int) (w : World) (h0 : 0 ≤ n) (h1 : n ≤ 16) :
    Calls Tryz.prog 99 #[.int .i64 n] w fun e w' => e = .returned (.int .i64 (pw n.toNat)) ∧ w' = w := by
  obtain ⟨k, rfl⟩ : ∃ k : Nat, n = (k : Int) := ⟨n.toNat, by omega⟩
  rw [Int.toNat_natCast]
  go_enter Tryz.func99, Tryz.ntmps99
  go_wp2
  go_loop [3, 4] (fun p i => ∃ j : Nat, j ≤ k ∧ i = .int .i64 j ∧ p = .int .i64 (pw j)) (fun _ i => k - (intOf i).toNat)
  case atStart => exact ⟨0, Nat.zero_le _, rfl, rfl⟩
  case round =>
    obtain ⟨j, hj, rfl, rfl⟩ := hrel
    have hb := pw_le (j := j) (by omega)
    have E := hide (pw_succ j)
    by_cases hlt : j < k
    · generalize pw j = p at *
      go_wp2
      go_round
      case rel => exact ⟨j + 1, by omega, by go_num, by rw [unhide E]⟩
      case measure => simp [intOf]; omega
    · obtain rfl : j = k := by omega
      go_wp2
      go_ret
      exact ⟨rfl, rfl⟩
set_option maxHeartbeats 400000 in
theorem prefix_any (addr len : Int) (w : World) :
    Calls Tryz.prog 63 #[.int .i64 addr, .int .i64 len] w fun e w' => e = .returned (.bool (isPfx addr len)) ∧ w' = w := by
  by_cases ha : 0 ≤ addr ∧ addr ≤ 65535
  · by_cases hl : 0 ≤ len ∧ len ≤ 16
    · have e1 : isPfx addr len = (addr % pw (16 - len).toNat == 0) := by
        unfold isPfx
        rw [show decide (0 ≤ addr ∧ addr ≤ 65535 ∧ 0 ≤ len ∧ len ≤ 16) = true from by simp; omega]
        rfl
      rw [e1]
      have hp := pw_le (j := (16 - len).toNat) (by omega)
      clear e1
      go_enter Tryz.func63, Tryz.ntmps63
      go_wp2_with fail
      refine (between_yes _ _ _ _ (by omega) (by omega)).mono ?_
      rintro e w' ⟨rfl, hw⟩
      replace hw := hw.symm
      subst hw
      go_wp2_with fail
      refine (between_yes _ _ _ _ (by omega) (by omega)).mono ?_
      rintro e w' ⟨rfl, hw⟩
      replace hw := hw.symm
      subst hw
      go_wp2_with fail
      refine (power_any _ _ (by omega) (by omega)).mono ?_
      rintro e w' ⟨rfl, hw⟩
      replace hw := hw.symm
      subst hw
      generalize hpe : pw (16 - len).toNat = p at *
      have HPE := hide hpe
      clear hpe
      go_wp2
      go_ret
      exact ⟨by rw [unhide HPE]; rfl, rfl⟩
    · have e1 : isPfx addr len = false := by
        unfold isPfx
        rw [show decide (0 ≤ addr ∧ addr ≤ 65535 ∧ 0 ≤ len ∧ len ≤ 16) = false from by simp; omega]
        rfl
      rw [e1]
      have HL : Hid (len < 0 ∨ 16 < len) := by show len < 0 ∨ 16 < len; omega
      clear e1 hl
      go_enter Tryz.func63, Tryz.ntmps63
      go_wp2_with fail
      refine (between_yes _ _ _ _ (by omega) (by omega)).mono ?_
      rintro e w' ⟨rfl, hw⟩
      replace hw := hw.symm
      subst hw
      go_wp2_with fail
      refine (between_no _ _ _ _ (unhide HL)).mono ?_
      rintro e w' ⟨rfl, hw⟩
      replace hw := hw.symm
      subst hw
      go_wp2
      go_ret
      exact ⟨rfl, rfl⟩
  · have e1 : isPfx addr len = false := by
      unfold isPfx
      rw [show decide (0 ≤ addr ∧ addr ≤ 65535 ∧ 0 ≤ len ∧ len ≤ 16) = false from by simp; omega]
      rfl
    rw [e1]
    have HA : Hid (addr < 0 ∨ 65535 < addr) := by show addr < 0 ∨ 65535 < addr; omega
    clear e1 ha
    by_cases hl : 0 ≤ len ∧ len ≤ 16
    · go_enter Tryz.func63, Tryz.ntmps63
      go_wp2_with fail
      refine (between_no _ _ _ _ (unhide HA)).mono ?_
      rintro e w' ⟨rfl, hw⟩
      replace hw := hw.symm
      subst hw
      go_wp2_with fail
      refine (between_yes _ _ _ _ (by omega) (by omega)).mono ?_
      rintro e w' ⟨rfl, hw⟩
      replace hw := hw.symm
      subst hw
      go_wp2
      go_ret
      exact ⟨rfl, rfl⟩
    · have HL : Hid (len < 0 ∨ 16 < len) := by show len < 0 ∨ 16 < len; omega
      clear hl
      go_enter Tryz.func63, Tryz.ntmps63
      go_wp2_with fail
      refine (between_no _ _ _ _ (unhide HA)).mono ?_
      rintro e w' ⟨rfl, hw⟩
      replace hw := hw.symm
      subst hw
      go_wp2_with fail
      refine (between_no _ _ _ _ (unhide HL)).mono ?_
      rintro e w' ⟨rfl, hw⟩
      replace hw := hw.symm
      subst hw
      go_wp2
      go_ret
      exact ⟨rfl, rfl⟩
set_option maxHeartbeats 400000 in
theorem containsR_any (addr len a : Int) (w : World) (h0 : 0 ≤ addr) (h1 : addr ≤ 65535) (h2 : 0 ≤ len) (h3 : len ≤ 16) (h4 : 0 ≤ a) (h5 : a ≤ 65535) :
    Calls Tryz.prog 108 #[.int .i64 addr, .int .i64 len, .int .i64 a] w fun e w' => e = .returned (.bool (containsB addr len a)) ∧ ∃ n, w' = w.drewN n := by
  unfold containsB
  have hp := pw_le (j := (16 - len).toNat) (by omega)
  go_enter Tryz.func108, Tryz.ntmps108
  go_wp2_with fail
  refine (power_any _ _ (by omega) (by omega)).mono ?_
  rintro e w' ⟨rfl, hw⟩
  replace hw := hw.symm
  subst hw
  generalize hpe : pw (16 - len).toNat = p at *
  have HPE := hide hpe
  clear hpe
  have h6 : (p == 0) = false := by rw [beq_eq_false_iff_ne]; omega
  go_wp2_with fail
  go_quiet (fail)
  go_wp2
  go_ret
  exact ⟨by rw [unhide HPE]; rfl, nq, rfl⟩
set_option maxHeartbeats 400000 in
theorem same_any (r q : RouteD) (w : World) :
    Calls Tryz.prog 100 #[.agg #[.int .i64 r.addr, .int .i64 r.len, .int .i64 r.hop, .int .i64 r.from_], .agg #[.int .i64 q.addr, .int .i64 q.len, .int .i64 q.hop, .int .i64 q.from_]] w fun e w' => e = .returned (.bool (sameB r q)) ∧ Still w w' := by
  cases h1 : (r.addr == q.addr)
  · have e1 : sameB r q = false := by simp [sameB, h1]
    rw [e1]
    clear e1
    go_enter Tryz.func100, Tryz.ntmps100
    go_wp2
    go_ret
    exact ⟨rfl, ((Kept.refl _ _).alloc _).alloc _⟩
  · have e1 : sameB r q = (r.len == q.len) := by simp [sameB, h1]
    rw [e1]
    clear e1
    go_enter Tryz.func100, Tryz.ntmps100
    go_wp2
    go_ret
    exact ⟨rfl, ((Kept.refl _ _).alloc _).alloc _⟩
set_option maxHeartbeats 400000 in
theorem less_any (r q : RouteD) (w : World) :
    Calls Tryz.prog 127 #[.agg #[.int .i64 r.addr, .int .i64 r.len, .int .i64 r.hop, .int .i64 r.from_], .agg #[.int .i64 q.addr, .int .i64 q.len, .int .i64 q.hop, .int .i64 q.from_]] w fun e w' => e = .returned (.bool (lessB r q)) ∧ Still w w' := by
  by_cases h : r.addr = q.addr
  · have e1 : lessB r q = decide (r.len < q.len) := by simp [lessB, h]
    have h1 : (r.addr != q.addr) = false := by simp [h]
    rw [e1]
    clear e1 h
    go_enter Tryz.func127, Tryz.ntmps127
    go_wp2
    go_ret
    exact ⟨rfl, ((Kept.refl _ _).alloc _).alloc _⟩
  · have e1 : lessB r q = decide (r.addr < q.addr) := by simp [lessB, h]
    have h1 : (r.addr != q.addr) = true := by simp [h]
    rw [e1]
    clear e1 h
    go_enter Tryz.func127, Tryz.ntmps127
    go_wp2
    go_ret
    exact ⟨rfl, ((Kept.refl _ _).alloc _).alloc _⟩
set_option maxHeartbeats 1000000 in
theorem common_any (a b : Int) (w : World) (h0 : 0 ≤ a) (h1 : a ≤ 255) (h2 : 0 ≤ b) (h3 : b ≤ 255) :
    Calls Tryz.prog 135 #[.int .i64 a, .int .i64 b] w fun e w' => e = .returned (.bool (commonB a b)) ∧ w' = w := by
  go_enter Tryz.func135, Tryz.ntmps135
  go_wp2
  go_loop [5] (fun p => ∃ j : Nat, j ≤ 8 ∧ p = .int .i64 (pw j) ∧ commonTo a b j = false) (fun p => (256 - intOf p).toNat)
  case atStart => exact ⟨0, by omega, rfl, rfl⟩
  case round =>
    obtain ⟨j, hj, rfl, hc⟩ := hrel
    have HC := hide hc
    clear hc
    by_cases hj8 : j < 8
    · have hb : 1 ≤ pw j ∧ pw j ≤ 128 := by
        have h0 : ∀ k : Fin 8, 1 ≤ pw k.val ∧ pw k.val ≤ 128 := by decide +kernel
        exact h0 ⟨j, hj8⟩
      have E1 : Hid (commonTo a b (j + 1) = (commonTo a b j || (hasB a (pw j) && hasB b (pw j)))) := rfl
      have E2 := hide (pw_succ j)
      have EC : Hid (hasB a (pw j) = true → hasB b (pw j) = true → commonB a b = true) := commonTo_of hj8
      generalize pw j = p at *
      by_cases hbb : hasB a p = true ∧ hasB b p = true
      · obtain ⟨hb1, hb2⟩ := hbb
        have HB1 := hide hb1
        have HB2 := hide hb2
        clear hb1 hb2
        go_wp2_with fail
        refine (has_any _ _ _ (by omega) (by omega) (by omega) (by omega)).mono ?_
        rintro en w3 ⟨rfl, hww⟩
        replace hww := hww.symm
        subst hww
        rw [unhide HB1]
        go_wp2_with fail
        refine (has_any _ _ _ (by omega) (by omega) (by omega) (by omega)).mono ?_
        rintro en w3 ⟨rfl, hww⟩
        replace hww := hww.symm
        subst hww
        rw [unhide HB2]
        go_wp2
        go_ret
        exact ⟨by rw [unhide EC (unhide HB1) (unhide HB2)]; rfl, rfl⟩
      · cases hb1 : hasB a p
        all_goals cases hb2 : hasB b p
        case true.true => exact absurd ⟨hb1, hb2⟩ hbb
        all_goals
          clear hbb
          have HB1 := hide hb1
          have HB2 := hide hb2
          clear hb1 hb2
          go_wp2_with fail
          refine (has_any _ _ _ (by omega) (by omega) (by omega) (by omega)).mono ?_
          rintro en w3 ⟨rfl, hww⟩
          replace hww := hww.symm
          subst hww
          rw [unhide HB1]
          go_wp2_with fail
          refine (has_any _ _ _ (by omega) (by omega) (by omega) (by omega)).mono ?_
          rintro en w3 ⟨rfl, hww⟩
          replace hww := hww.symm
          subst hww
          rw [unhide HB2]
          go_wp2
          go_round
          case rel => exact ⟨j + 1, by omega, by rw [unhide E2], by rw [unhide E1, unhide HC, unhide HB1, unhide HB2]; rfl⟩
          case measure => simp [intOf]; omega
    · obtain rfl : j = 8 := by omega
      have e8 : pw 8 = 256 := rfl
      rw [e8]
      clear e8
      have HD : Hid (commonB a b = false) := unhide HC
      go_wp2
      go_ret
      exact ⟨by rw [unhide HD]; rfl, rfl⟩
end Go.Proofs.YtgndledehlilkaaGreat
