/-
  Walks: tokens: wasGiven, alive, check, madeOutOf, add, First, EndAll.
-/
import Derived.Test.YtgndledehlilkaaPrA
namespace Go.Proofs.Ytgndledehlilkaa
open Go.RowKit

def wasG (p : ProgS) (t : Int) : Bool := decide (1 ≤ t) && decide (t ≤ p.given)
theorem wasG_bounds {p : ProgS} {t : Int} (h : wasG p t = true) : 1 ≤ t ∧ t ≤ p.given := by
  simp only [wasG, Bool.and_eq_true, decide_eq_true_eq] at h
  exact h
theorem wasG_not {p : ProgS} {t : Int} (h : wasG p t = false) : t < 1 ∨ (p.given : Int) < t := by
  simp only [wasG, Bool.and_eq_false_iff, decide_eq_false_iff_not] at h
  omega
set_option maxHeartbeats 400000 in
theorem wasGiven_any {w : World} {b : Nat} {p : ProgS} (h : XAt w b p) (t : Int) :
    Calls Try.prog 65 #[.pointer (some ⟨b, 2249, none⟩), .int .i64 t] w fun e w' => e = .returned (.bool (wasG p t)) ∧ w' = w := by
  have c9 := h.given
  clear h
  cases hw : wasG p t with
  | true =>
    obtain ⟨h1, h2⟩ := wasG_bounds hw
    have h3 : decide (t ≤ (p.given : Int)) = true := by simpa using h2
    clear hw
    go_enter Try.func65, Try.ntmps65
    go_wp2
    go_ret
    exact ⟨rfl, rfl⟩
  | false =>
    have hn := wasG_not hw
    clear hw
    by_cases h1 : t < 1
    · go_enter Try.func65, Try.ntmps65
      go_wp2
      go_ret
      exact ⟨rfl, rfl⟩
    · have h3 : decide (t ≤ (p.given : Int)) = false := by simp; omega
      go_enter Try.func65, Try.ntmps65
      go_wp2
      go_ret
      exact ⟨rfl, rfl⟩

/-- Up the line, with fuel: has none of them ended? -/
def aliveP (p : ProgS) : Nat → Nat → Bool
  | 0, _ => true
  | f + 1, t => if t = 0 then true else (!p.ended (t - 1) && aliveP p f (p.parent (t - 1)))
theorem aliveP_zero (p : ProgS) (f : Nat) : aliveP p f 0 = true := by cases f <;> rfl
theorem aliveP_fuel {p : ProgS} (hf : ∀ k, k < p.given → p.parent k ≤ k) : ∀ f g t, t ≤ f → t ≤ g → t ≤ p.given → aliveP p f t = aliveP p g t := by
  intro f
  induction f with
  | zero => intro g t h1 h2 h3; obtain rfl : t = 0 := (by omega); rw [aliveP_zero, aliveP_zero]
  | succ f ih =>
    intro g t h1 h2 h3
    cases g with
    | zero => obtain rfl : t = 0 := (by omega); rw [aliveP_zero, aliveP_zero]
    | succ g =>
      by_cases e : t = 0
      · subst e; rw [aliveP_zero, aliveP_zero]
      · simp only [aliveP, if_neg e]
        have := hf (t - 1) (by omega)
        rw [ih g (p.parent (t - 1)) (by omega) (by omega) (by omega)]
theorem aliveP_succ {p : ProgS} (hf : ∀ k, k < p.given → p.parent k ≤ k) {t : Nat} (ht : t < p.given) : aliveP p (t + 1) (t + 1) = (!p.ended t && aliveP p (p.parent t) (p.parent t)) := by
  have := hf t ht
  simp only [aliveP, Nat.add_sub_cancel, if_neg (Nat.succ_ne_zero t)]
  rw [aliveP_fuel hf t (p.parent t) (p.parent t) (by omega) (by omega) (by omega)]
def aliveX (p : ProgS) (t : Int) : Bool := wasG p t && aliveP p t.toNat t.toNat
theorem ret_bool' {a b : Bool} (h : a = b) : Ending.returned (.bool a) = .returned (.bool b) := by rw [h]
set_option maxHeartbeats 1000000 in
theorem aliveX_any {w : World} {b : Nat} {p : ProgS} (h : XAt w b p) (hf : ProgWf p) (t : Int) :
    Calls Try.prog 54 #[.pointer (some ⟨b, 2249, none⟩), .int .i64 t] w fun e w' => e = .returned (.bool (aliveX p t)) ∧ w' = w := by
  cases hw : wasG p t with
  | false =>
    have e1 : aliveX p t = false := by simp [aliveX, hw]
    rw [e1]
    have HW := hide hw
    clear hw e1
    go_enter Try.func54, Try.ntmps54
    go_wp2_with (go_at_call 65; refine (wasGiven_any h _).mono ?_; rintro e w' ⟨rfl, hww⟩; replace hww := hww.symm; subst hww; rw [unhide HW])
    go_ret
    exact ⟨rfl, rfl⟩
  | true =>
    obtain ⟨h1, h2⟩ := wasG_bounds hw
    obtain ⟨k, rfl⟩ : ∃ k : Nat, t = (k : Int) := ⟨t.toNat, by omega⟩
    have e1 : aliveX p (k : Int) = aliveP p k k := by simp [aliveX, hw]
    rw [e1]
    have hg := hf.given
    have HW := hide hw
    have HX := hide h
    clear hw e1
    go_enter Try.func54, Try.ntmps54
    go_wp2_with (go_at_call 65; refine (wasGiven_any h _).mono ?_; rintro e w' ⟨rfl, hww⟩; replace hww := hww.symm; subst hww; rw [unhide HW])
    clear h
    go_loop [5] (fun s => ∃ m : Nat, m ≤ p.given ∧ s = .int .i64 m ∧ aliveP p m m = aliveP p k k) (fun s => (intOf s).toNat)
    case atStart => exact ⟨k, by omega, rfl, rfl⟩
    case round =>
      obtain ⟨m, hm, rfl, heq⟩ := hrel
      cases m with
      | zero =>
        have HQ : Hid (true = aliveP p k k) := by rw [aliveP_zero] at heq; exact heq
        clear heq
        go_wp2
        go_ret
        exact ⟨ret_bool' (unhide HQ), rfl⟩
      | succ m =>
        have hmg : m < p.given := by omega
        rw [aliveP_succ hf.parent hmg] at heq
        have e3 := (unhide HX).ended m (by omega)
        have e2 := (unhide HX).parent m (by omega)
        have hpm := hf.parent m hmg
        have hc : ((m + 1 : Nat) : Int) = (m : Int) + 1 := by omega
        rw [hc]
        cases he : p.ended m with
        | true =>
          rw [he] at heq e3
          have HQ : Hid (false = aliveP p k k) := heq
          clear heq he
          go_wp2
          go_ret
          exact ⟨ret_bool' (unhide HQ), rfl⟩
        | false =>
          rw [he] at heq e3
          have HQ : Hid (aliveP p (p.parent m) (p.parent m) = aliveP p k k) := heq
          clear heq he
          go_wp2
          go_round
          case rel => exact ⟨p.parent m, by omega, rfl, unhide HQ⟩
          case measure => simp [intOf]; omega

/-- Has a all of r? -/
def okRights (a r : Int) : Bool := bits BinOp.and IntKind.i64 a r == r
def checkX (p : ProgS) (t r : Int) : Int := if aliveX p t then (if okRights (p.rights (t - 1).toNat) r then 0 else 4) else 3
theorem aliveX_bounds {p : ProgS} {t : Int} (h : aliveX p t = true) : 1 ≤ t ∧ t ≤ p.given := by
  simp only [aliveX, Bool.and_eq_true] at h
  exact wasG_bounds h.1
theorem checkX_cases (p : ProgS) (t r : Int) : checkX p t r = 0 ∨ checkX p t r = 3 ∨ checkX p t r = 4 := by
  unfold checkX
  split
  · split <;> simp
  · simp
theorem checkX_bounds {p : ProgS} {t r : Int} (h : checkX p t r = 0) : 1 ≤ t ∧ t ≤ p.given := by
  unfold checkX at h
  split at h
  · rename_i ha
    exact aliveX_bounds ha
  · omega
set_option maxHeartbeats 1000000 in
theorem check_no {w : World} {b : Nat} {p : ProgS} (h : XAt w b p) (hf : ProgWf p) {t r c : Int} (hc : checkX p t r = c) (hc0 : c ≠ 0) :
    Calls Try.prog 37 #[.pointer (some ⟨b, 2249, none⟩), .int .i64 t, .int .i64 r] w fun e w' => e = .returned (.tuple #[.int .i64 0, .int .i64 c]) ∧ w' = w := by
  cases ha : aliveX p t with
  | false =>
    have e1 : c = 3 := by rw [← hc]; simp [checkX, ha]
    subst e1
    have HA := hide ha
    clear ha hc hc0
    go_enter Try.func37, Try.ntmps37
    go_wp2_with (go_at_call 54; refine (aliveX_any h hf _).mono ?_; rintro e w' ⟨rfl, hww⟩; replace hww := hww.symm; subst hww; rw [unhide HA])
    go_ret2
    exact ⟨rfl, rfl⟩
  | true =>
    obtain ⟨h1, h2⟩ := aliveX_bounds ha
    obtain ⟨k, rfl⟩ : ∃ k : Nat, t = (k : Int) + 1 := ⟨(t - 1).toNat, by omega⟩
    have hg := hf.given
    have c1 := h.rights k (by omega)
    cases ho : okRights (p.rights k) r with
    | true =>
      refine absurd ?_ hc0
      rw [← hc]
      unfold checkX
      rw [ha, show ((k : Int) + 1 - 1).toNat = k from by omega, ho]; rfl
    | false =>
      have e1 : c = 4 := by
        rw [← hc]
        unfold checkX
        rw [ha, show ((k : Int) + 1 - 1).toNat = k from by omega, ho]; rfl
      have ho' : (bits BinOp.and IntKind.i64 (p.rights k) r != r) = true := by unfold okRights at ho; simpa using ho
      subst e1
      have HA := hide ha
      clear ha ho hc hc0
      go_enter Try.func37, Try.ntmps37
      go_wp2_with (go_at_call 54; refine (aliveX_any h hf _).mono ?_; rintro e w' ⟨rfl, hww⟩; replace hww := hww.symm; subst hww; rw [unhide HA])
      go_ret2
      exact ⟨rfl, rfl⟩
set_option maxHeartbeats 1000000 in
theorem check_yes {w : World} {b : Nat} {p : ProgS} (h : XAt w b p) (hf : ProgWf p) {t r : Int} (hc : checkX p t r = 0) :
    Calls Try.prog 37 #[.pointer (some ⟨b, 2249, none⟩), .int .i64 t, .int .i64 r] w fun e w' => e = .returned (.tuple #[.int .i64 (p.tenant (t - 1).toNat), .int .i64 0]) ∧ w' = w := by
  cases ha : aliveX p t with
  | false => unfold checkX at hc; rw [ha] at hc; simp at hc
  | true =>
    obtain ⟨h1, h2⟩ := aliveX_bounds ha
    obtain ⟨k, rfl⟩ : ∃ k : Nat, t = (k : Int) + 1 := ⟨(t - 1).toNat, by omega⟩
    have hg := hf.given
    have c1 := h.rights k (by omega)
    have c0 := h.tenant k (by omega)
    have e0 : ((k : Int) + 1 - 1).toNat = k := by omega
    rw [e0]
    cases ho : okRights (p.rights k) r with
    | true =>
      have ho' : (bits BinOp.and IntKind.i64 (p.rights k) r != r) = false := by unfold okRights at ho; simp at ho; simp [ho]
      have HA := hide ha
      clear ha ho hc e0
      go_enter Try.func37, Try.ntmps37
      go_wp2_with (go_at_call 54; refine (aliveX_any h hf _).mono ?_; rintro e w' ⟨rfl, hww⟩; replace hww := hww.symm; subst hww; rw [unhide HA])
      go_ret2
      exact ⟨rfl, rfl⟩
    | false =>
      unfold checkX at hc
      rw [ha, e0, ho] at hc
      simp at hc

/-- Up the line, with fuel, as long as the number is above the token's: does it come to the token? -/
def outOf (p : ProgS) (token : Nat) : Nat → Nat → Bool
  | 0, t => decide (t = token)
  | f + 1, t => if token < t then outOf p token f (p.parent (t - 1)) else decide (t = token)
theorem outOf_fuel {p : ProgS} (hf : ∀ k, k < p.given → p.parent k ≤ k) {token : Nat} (h1 : 1 ≤ token) : ∀ f g t, t ≤ f → t ≤ g → t ≤ p.given → outOf p token f t = outOf p token g t := by
  intro f
  induction f with
  | zero =>
    intro g t a1 a2 a3
    obtain rfl : t = 0 := by omega
    cases g with
    | zero => rfl
    | succ g => simp [outOf]
  | succ f ih =>
    intro g t a1 a2 a3
    cases g with
    | zero =>
      obtain rfl : t = 0 := by omega
      simp [outOf]
    | succ g =>
      simp only [outOf]
      split
      · have := hf (t - 1) (by omega)
        rw [ih g (p.parent (t - 1)) (by omega) (by omega) (by omega)]
      · rfl
def madeX (p : ProgS) (which : Int) (token : Nat) : Bool := wasG p which && outOf p token (p.parent (which - 1).toNat) (p.parent (which - 1).toNat)
set_option maxHeartbeats 1000000 in
theorem made_any {w : World} {b : Nat} {p : ProgS} (h : XAt w b p) (hf : ProgWf p) (which : Int) (token : Nat) (ht : 1 ≤ token) :
    Calls Try.prog 56 #[.pointer (some ⟨b, 2249, none⟩), .int .i64 which, .int .i64 (token : Int)] w fun e w' => e = .returned (.bool (madeX p which token)) ∧ w' = w := by
  cases hw : wasG p which with
  | false =>
    have e1 : madeX p which token = false := by simp [madeX, hw]
    rw [e1]
    have HW := hide hw
    clear hw e1
    go_enter Try.func56, Try.ntmps56
    go_wp2_with (go_at_call 65; refine (wasGiven_any h _).mono ?_; rintro e w' ⟨rfl, hww⟩; replace hww := hww.symm; subst hww; rw [unhide HW])
    go_ret
    exact ⟨rfl, rfl⟩
  | true =>
    obtain ⟨h1, h2⟩ := wasG_bounds hw
    obtain ⟨k, rfl⟩ : ∃ k : Nat, which = (k : Int) + 1 := ⟨(which - 1).toNat, by omega⟩
    have hk : k < p.given := by omega
    have e1 : madeX p ((k : Int) + 1) token = outOf p token (p.parent k) (p.parent k) := by
      unfold madeX
      rw [hw, show ((k : Int) + 1 - 1).toNat = k from by omega]; rfl
    rw [e1]
    have hg := hf.given
    have hpk := hf.parent k hk
    have e2 := h.parent k (by omega)
    have HW := hide hw
    have HX := hide h
    clear hw e1
    go_enter Try.func56, Try.ntmps56
    go_wp2_with (go_at_call 65; refine (wasGiven_any h _).mono ?_; rintro e w' ⟨rfl, hww⟩; replace hww := hww.symm; subst hww; rw [unhide HW])
    clear h
    go_loop [7] (fun s => ∃ m : Nat, m ≤ p.given ∧ s = .int .i64 m ∧ outOf p token m m = outOf p token (p.parent k) (p.parent k)) (fun s => (intOf s).toNat)
    case atStart => exact ⟨p.parent k, by omega, rfl, rfl⟩
    case round =>
      obtain ⟨m, hm, rfl, heq⟩ := hrel
      by_cases hlt : token < m
      · obtain ⟨m, rfl⟩ : ∃ m' : Nat, m = m' + 1 := ⟨m - 1, by omega⟩
        have hmg : m < p.given := by omega
        have hpm := hf.parent m hmg
        have hE : outOf p token (m + 1) (m + 1) = outOf p token (p.parent m) (p.parent m) := by
          simp only [outOf, if_pos hlt, Nat.add_sub_cancel]
          exact outOf_fuel hf.parent ht _ _ _ (by omega) (by omega) (by omega)
        rw [hE] at heq
        have HQ := hide heq
        have c2 := (unhide HX).parent m (by omega)
        have hc : ((m + 1 : Nat) : Int) = (m : Int) + 1 := by omega
        rw [hc]
        clear heq hE
        go_wp2
        go_round
        case rel => exact ⟨p.parent m, by omega, rfl, unhide HQ⟩
        case measure => simp [intOf]; omega
      · have hE : outOf p token m m = ((m : Int) == (token : Int)) := by
          have h0 : outOf p token m m = decide (m = token) := by
            cases m with
            | zero => rfl
            | succ m => simp only [outOf, if_neg hlt]
          rw [h0, Bool.eq_iff_iff]
          simp only [decide_eq_true_eq, beq_iff_eq]
          omega
        rw [hE] at heq
        have HQ := hide heq
        clear heq hE
        go_wp2
        go_ret
        exact ⟨ret_bool' (unhide HQ), rfl⟩
end Go.Proofs.Ytgndledehlilkaa
