/-
  Walks: package prefix.
-/
import Derived.Test.YtgndledehlilkaaPrT3
namespace Go.Proofs.Ytgndledehlilkaa
open Go.RowKit

def headF (addr len : Int) : Int := addr / pw (16 - len).toNat * pw (16 - len).toNat
set_option maxHeartbeats 400000 in
theorem head_any (addr len : Int) (w : World) (ha : 0 ≤ addr ∧ addr ≤ 65535) (hl : 0 ≤ len ∧ len ≤ 16) :
    Calls Try.prog 60 #[.int .i64 addr, .int .i64 len] w fun e w' => e = .returned (.int .i64 (headF addr len)) ∧ w' = w := by
  obtain ⟨a1, a2⟩ := ha
  obtain ⟨l1, l2⟩ := hl
  have hp := pw_le (j := (16 - len).toNat) (by omega)
  have e1 : wrap64 (addr / pw (16 - len).toNat * pw (16 - len).toNat) = headF addr len := by
    unfold headF
    generalize pw (16 - len).toNat = p at *
    have h1 : addr / p * p ≤ addr := by have := Int.mul_ediv_add_emod addr p; have := Int.emod_nonneg addr (b := p) (by omega); rw [Int.mul_comm]; omega
    have h2 : 0 ≤ addr / p * p := Int.mul_nonneg (Int.ediv_nonneg a1 (by omega)) (by omega)
    unfold wrap64
    omega
  have E1 := hide e1
  have h16 : (0 : Int) ≤ 16 - len := by omega
  have h64 : 16 - len ≤ 64 := by omega
  unfold pw at *
  clear e1
  go_enter Try.func60, Try.ntmps60
  go_wp2
  go_ret
  exact ⟨by rw [← unhide E1]; rfl, rfl⟩
theorem head_eq {addr len : Int} : (headF addr len == addr) = (addr % pw (16 - len).toNat == 0) := by
  unfold headF
  have := Int.mul_ediv_add_emod addr (pw (16 - len).toNat)
  rw [Int.mul_comm] at this
  rw [Bool.eq_iff_iff, beq_iff_eq, beq_iff_eq]
  omega
set_option maxHeartbeats 400000 in
theorem isAddr_any (a : Int) (w : World) :
    Calls Try.prog 45 #[.int .i64 a] w fun e w' => e = .returned (.bool (okAddr a)) ∧ w' = w := by
  by_cases h1 : 0 ≤ a
  · by_cases h2 : a ≤ 65535
    · have e1 : okAddr a = true := (okAddr_iff a).2 ⟨h1, h2⟩
      rw [e1]
      have d1 : decide (0 ≤ a) = true := by simpa using h1
      have d2 : decide (a ≤ 65535) = true := by simpa using h2
      clear e1
      go_enter Try.func45, Try.ntmps45
      go_wp2
      go_ret
      exact ⟨by simp [*], rfl⟩
    · have e1 : okAddr a = false := by rw [← Bool.not_eq_true, okAddr_iff]; omega
      rw [e1]
      have d1 : decide (0 ≤ a) = true := by simpa using h1
      have d2 : decide (a ≤ 65535) = false := by simpa using h2
      clear e1
      go_enter Try.func45, Try.ntmps45
      go_wp2
      go_ret
      exact ⟨by simp [*], rfl⟩
  · have e1 : okAddr a = false := by rw [← Bool.not_eq_true, okAddr_iff]; omega
    rw [e1]
    have d1 : decide (0 ≤ a) = false := by simpa using h1
    clear e1
    go_enter Try.func45, Try.ntmps45
    go_wp2
    go_ret
    exact ⟨by simp [*], rfl⟩
theorem isPfx_not {addr len : Int} (h : ¬ (0 ≤ addr ∧ addr ≤ 65535 ∧ 0 ≤ len ∧ len ≤ 16)) : isPfx addr len = false := by
  unfold isPfx
  rw [show decide (0 ≤ addr ∧ addr ≤ 65535 ∧ 0 ≤ len ∧ len ≤ 16) = false from by simpa using h]
  rfl
set_option maxHeartbeats 400000 in
theorem is_any (addr len : Int) (w : World) :
    Calls Try.prog 41 #[.int .i64 addr, .int .i64 len] w fun e w' => e = .returned (.bool (isPfx addr len)) ∧ w' = w := by
  by_cases ha : 0 ≤ addr ∧ addr ≤ 65535
  · have HK := hide ((okAddr_iff addr).2 ha)
    by_cases hl : 0 ≤ len ∧ len ≤ 16
    · have e1 : isPfx addr len = (headF addr len == addr) := by
        rw [head_eq]
        unfold isPfx
        rw [show decide (0 ≤ addr ∧ addr ≤ 65535 ∧ 0 ≤ len ∧ len ≤ 16) = true from by simp; omega]
        rfl
      rw [e1]
      have E := hide e1
      have HA := hide ha
      have HL := hide hl
      have d3 : ¬ len < 0 := by omega
      have d4 : decide (16 < len) = false := by simp; omega
      clear e1 ha hl
      go_enter Try.func41, Try.ntmps41
      go_wp2_with fail
      refine (isAddr_any _ _).mono ?_
      rintro e w' ⟨rfl, hw⟩
      replace hw := hw.symm
      subst hw
      rw [unhide HK]
      go_wp2_with (go_at_call 60; refine (head_any _ _ _ (unhide HA) (unhide HL)).mono ?_; rintro e w' ⟨rfl, hw⟩; replace hw := hw.symm; subst hw)
      go_ret
      exact ⟨rfl, rfl⟩
    · rw [isPfx_not (by omega)]
      by_cases h3 : len < 0
      · clear ha hl
        go_enter Try.func41, Try.ntmps41
        go_wp2_with fail
        refine (isAddr_any _ _).mono ?_
        rintro e w' ⟨rfl, hw⟩
        replace hw := hw.symm
        subst hw
        rw [unhide HK]
        go_wp2
        go_ret
        exact ⟨rfl, rfl⟩
      · have d4 : decide (16 < len) = true := by simp; omega
        clear ha hl
        go_enter Try.func41, Try.ntmps41
        go_wp2_with fail
        refine (isAddr_any _ _).mono ?_
        rintro e w' ⟨rfl, hw⟩
        replace hw := hw.symm
        subst hw
        rw [unhide HK]
        go_wp2
        go_ret
        exact ⟨rfl, rfl⟩
  · rw [isPfx_not (by omega)]
    have hk : okAddr addr = false := by rw [← Bool.not_eq_true, okAddr_iff]; exact ha
    have HK := hide hk
    clear ha hk
    go_enter Try.func41, Try.ntmps41
    go_wp2_with fail
    refine (isAddr_any _ _).mono ?_
    rintro e w' ⟨rfl, hw⟩
    replace hw := hw.symm
    subst hw
    rw [unhide HK]
    go_wp2
    go_ret
    exact ⟨rfl, rfl⟩
theorem head_contains {addr len a : Int} (h : isPfx addr len = true) : (headF a len == addr) = containsB addr len a := by
  unfold isPfx at h
  rw [Bool.and_eq_true, decide_eq_true_eq, beq_iff_eq] at h
  unfold headF containsB
  have hp := pw_le (j := (16 - len).toNat) (by omega)
  have h2 := h.2
  generalize pw (16 - len).toNat = p at *
  have h1 := Int.mul_ediv_add_emod addr p
  rw [h2, Int.mul_comm] at h1
  rw [Bool.eq_iff_iff, beq_iff_eq, beq_iff_eq]
  constructor
  · intro e
    rw [← e, Int.mul_ediv_cancel _ (by omega)]
  · intro e
    rw [← e]
    omega
set_option maxHeartbeats 400000 in
theorem contains_any (addr len a : Int) (w : World) (hp : isPfx addr len = true) (ha : 0 ≤ a ∧ a ≤ 65535) :
    Calls Try.prog 63 #[.int .i64 addr, .int .i64 len, .int .i64 a] w fun e w' => e = .returned (.bool (containsB addr len a)) ∧ w' = w := by
  have e1 := head_contains (a := a) hp
  rw [← e1]
  have hl : 0 ≤ len ∧ len ≤ 16 := by obtain ⟨_, _, c, d⟩ := isPfx_ok hp; exact ⟨c, d⟩
  have HP := hide hp
  have HA := hide ha
  have HL := hide hl
  clear e1 hp ha hl
  go_enter Try.func63, Try.ntmps63
  go_wp2_with fail
  refine (is_any _ _ _).mono ?_
  rintro e w' ⟨rfl, hw⟩
  replace hw := hw.symm
  subst hw
  rw [unhide HP]
  go_wp2_with (go_at_call 60; refine (head_any _ _ _ (unhide HA) (unhide HL)).mono ?_; rintro e w' ⟨rfl, hw⟩; replace hw := hw.symm; subst hw)
  go_ret
  exact ⟨rfl, rfl⟩
def befB (x : RouteD) (addr len : Int) : Bool := if x.addr = addr then decide (x.len < len) else decide (x.addr < addr)
set_option maxHeartbeats 400000 in
theorem before_any (x : RouteD) (addr len : Int) (w : World) :
    Calls Try.prog 67 #[.int .i64 x.addr, .int .i64 x.len, .int .i64 addr, .int .i64 len] w fun e w' => e = .returned (.bool (befB x addr len)) ∧ w' = w := by
  obtain ⟨a, l, hop, fr⟩ := x
  by_cases h : a = addr
  · have e1 : befB ⟨a, l, hop, fr⟩ addr len = decide (l < len) := by unfold befB; rw [if_pos h]
    rw [e1]
    have d1 : (a != addr) = false := by simpa using h
    clear e1 h
    go_enter Try.func67, Try.ntmps67
    go_wp2
    go_ret
    exact ⟨rfl, rfl⟩
  · have e1 : befB ⟨a, l, hop, fr⟩ addr len = decide (a < addr) := by unfold befB; rw [if_neg h]
    rw [e1]
    have d1 : (a != addr) = true := by simpa using h
    clear e1 h
    go_enter Try.func67, Try.ntmps67
    go_wp2
    go_ret
    exact ⟨rfl, rfl⟩
end Go.Proofs.Ytgndledehlilkaa
