import Derived.Test.YtgndledehlilkabPrA
import Derived.RegionTactic
import Derived.KernelRfl
namespace Go.Proofs.Ytgndledehlilkab
open Go.RowKit

def wasG (p : ProgS) (t : Int) : Bool := decide (1 ≤ t) && decide (t ≤ p.given)
theorem wasG_bounds {p : ProgS} {t : Int} (h : wasG p t = true) : 1 ≤ t ∧ t ≤ p.given := by
  simp only [wasG, Bool.and_eq_true, decide_eq_true_eq] at h
  exact h
theorem wasG_not {p : ProgS} {t : Int} (h : wasG p t = false) : t < 1 ∨ (p.given : Int) < t := by
  simp only [wasG, Bool.and_eq_false_iff, decide_eq_false_iff_not] at h
  omega
set_option maxHeartbeats 400000 in
theorem wasGiven_any {w : World} {b : Nat} {p : ProgS} (h : XAt w b p) (t : Int) :
    Calls Try.prog 77 #[.pointer (some ⟨b, 2249, none⟩), .int .i64 t] w fun e w' => e = .returned (.bool (wasG p t)) ∧ w' = w := by
  have c9 := h.given
  clear h
  cases hw : wasG p t with
  | true =>
    obtain ⟨h1, h2⟩ := wasG_bounds hw
    have h3 : decide (t ≤ (p.given : Int)) = true := by simpa using h2
    clear hw
    go_enter Try.func77, Try.ntmps77
    go_wp2
    go_ret
    exact ⟨rfl, rfl⟩
  | false =>
    have hn := wasG_not hw
    clear hw
    by_cases h1 : t < 1
    · go_enter Try.func77, Try.ntmps77
      go_wp2
      go_ret
      exact ⟨rfl, rfl⟩
    · have h3 : decide (t ≤ (p.given : Int)) = false := by simp; omega
      go_enter Try.func77, Try.ntmps77
      go_wp2
      go_ret
      exact ⟨rfl, rfl⟩

/-- Up the line, with fuel: has none of them ended? -/
def aliveP (p : ProgS) : Nat → Nat → Bool
  | 0, _ => true
  | f + 1, t => if t = 0 then true else (!p.ended (t - 1) && aliveP p f (p.parent (t - 1)))
theorem aliveP_zero (p : ProgS) (f : Nat) : aliveP p f 0 = true := by cases f <;> rfl
theorem aliveP_fuel {p : ProgS} (hf : ∀ k, k < p.given → p.parent k ≤ k) : ∀ f g t, t ≤ f → t ≤ g → t ≤ p.given → aliveP p f t = aliveP p g t := by
  intro f
  induction f with
  | zero => intro g t h1 h2 h3; obtain rfl : t = 0 := (by omega); rw [aliveP_zero, aliveP_zero]
  | succ f ih =>
    intro g t h1 h2 h3
    cases g with
    | zero => obtain rfl : t = 0 := (by omega); rw [aliveP_zero, aliveP_zero]
    | succ g =>
      by_cases e : t = 0
      · subst e; rw [aliveP_zero, aliveP_zero]
      · simp only [aliveP, if_neg e]
        have := hf (t - 1) (by omega)
        rw [ih g (p.parent (t - 1)) (by omega) (by omega) (by omega)]
theorem aliveP_succ {p : ProgS} (hf : ∀ k, k < p.given → p.parent k ≤ k) {t : Nat} (ht : t < p.given) : aliveP p (t + 1) (t + 1) = (!p.ended t && aliveP p (p.parent t) (p.parent t)) := by
  have := hf t ht
  simp only [aliveP, Nat.add_sub_cancel, if_neg (Nat.succ_ne_zero t)]
  rw [aliveP_fuel hf t (p.parent t) (p.parent t) (by omega) (by omega) (by omega)]
def aliveX (p : ProgS) (t : Int) : Bool := wasG p t && aliveP p t.toNat t.toNat
theorem ret_bool' {a b : Bool} (h : a = b) : Ending.returned (.bool a) = .returned (.bool b) := by rw [h]
set_option maxHeartbeats 1000000 in
theorem aliveX_any {w : World} {b : Nat} {p : ProgS} (h : XAt w b p) (hf : ProgWf p) (t : Int) :
    Calls Try.prog 59 #[.pointer (some ⟨b, 2249, none⟩), .int .i64 t] w fun e w' => e = .returned (.bool (aliveX p t)) ∧ w' = w := by
  cases hw : wasG p t with
  | false =>
    have e1 : aliveX p t = false := by simp [aliveX, hw]
    rw [e1]
    have HW := hide hw
    clear hw e1
    go_enter Try.func59, Try.ntmps59
    go_wp2_with (go_at_call 77; refine (wasGiven_any h _).mono ?_; rintro e w' ⟨rfl, hww⟩; replace hww := hww.symm; subst hww; rw [unhide HW])
    go_ret
    exact ⟨rfl, rfl⟩
  | true =>
    obtain ⟨h1, h2⟩ := wasG_bounds hw
    obtain ⟨k, rfl⟩ : ∃ k : Nat, t = (k : Int) := ⟨t.toNat, by omega⟩
    have e1 : aliveX p (k : Int) = aliveP p k k := by simp [aliveX, hw]
    rw [e1]
    have hg := hf.given
    have HW := hide hw
    have HX := hide h
    clear hw e1
    go_enter Try.func59, Try.ntmps59
    go_wp2_with (go_at_call 77; refine (wasGiven_any h _).mono ?_; rintro e w' ⟨rfl, hww⟩; replace hww := hww.symm; subst hww; rw [unhide HW])
    clear h
    go_loop [5] (fun s => ∃ m : Nat, m ≤ p.given ∧ s = .int .i64 m ∧ aliveP p m m = aliveP p k k) (fun s => (intOf s).toNat)
    case atStart => exact ⟨k, by omega, rfl, rfl⟩
    case round =>
      obtain ⟨m, hm, rfl, heq⟩ := hrel
      cases m with
      | zero =>
        have HQ : Hid (true = aliveP p k k) := by rw [aliveP_zero] at heq; exact heq
        clear heq
        go_wp2
        go_ret
        exact ⟨ret_bool' (unhide HQ), rfl⟩
      | succ m =>
        have hmg : m < p.given := by omega
        rw [aliveP_succ hf.parent hmg] at heq
        have e3 := (unhide HX).ended m (by omega)
        have e2 := (unhide HX).parent m (by omega)
        have hpm := hf.parent m hmg
        have hc : ((m + 1 : Nat) : Int) = (m : Int) + 1 := by omega
        rw [hc]
        cases he : p.ended m with
        | true =>
          rw [he] at heq e3
          have HQ : Hid (false = aliveP p k k) := heq
          clear heq he
          go_wp2
          go_ret
          exact ⟨ret_bool' (unhide HQ), rfl⟩
        | false =>
          rw [he] at heq e3
          have HQ : Hid (aliveP p (p.parent m) (p.parent m) = aliveP p k k) := heq
          clear heq he
          go_wp2
          go_round
          case rel => exact ⟨p.parent m, by omega, rfl, unhide HQ⟩
          case measure => simp [intOf]; omega

/-- Has a all of r? -/
def okRights (a r : Int) : Bool := bits BinOp.and IntKind.i64 a r == r
def checkX (p : ProgS) (t r : Int) : Int := if aliveX p t then (if okRights (p.rights (t - 1).toNat) r then 0 else 4) else 3
theorem aliveX_bounds {p : ProgS} {t : Int} (h : aliveX p t = true) : 1 ≤ t ∧ t ≤ p.given := by
  simp only [aliveX, Bool.and_eq_true] at h
  exact wasG_bounds h.1
theorem checkX_cases (p : ProgS) (t r : Int) : checkX p t r = 0 ∨ checkX p t r = 3 ∨ checkX p t r = 4 := by
  unfold checkX
  split
  · split <;> simp
  · simp
theorem checkX_bounds {p : ProgS} {t r : Int} (h : checkX p t r = 0) : 1 ≤ t ∧ t ≤ p.given := by
  unfold checkX at h
  split at h
  · rename_i ha
    exact aliveX_bounds ha
  · omega
set_option maxHeartbeats 1000000 in
theorem check_no {w : World} {b : Nat} {p : ProgS} (h : XAt w b p) (hf : ProgWf p) {t r c : Int} (hc : checkX p t r = c) (hc0 : c ≠ 0) :
    Calls Try.prog 43 #[.pointer (some ⟨b, 2249, none⟩), .int .i64 t, .int .i64 r] w fun e w' => e = .returned (.tuple #[.int .i64 0, .int .i64 c]) ∧ w' = w := by
  cases ha : aliveX p t with
  | false =>
    have e1 : c = 3 := by rw [← hc]; simp [checkX, ha]
    subst e1
    have HA := hide ha
    clear ha hc hc0
    go_enter Try.func43, Try.ntmps43
    go_wp2_with (go_at_call 59; refine (aliveX_any h hf _).mono ?_; rintro e w' ⟨rfl, hww⟩; replace hww := hww.symm; subst hww; rw [unhide HA])
    go_ret2
    exact ⟨rfl, rfl⟩
  | true =>
    obtain ⟨h1, h2⟩ := aliveX_bounds ha
    obtain ⟨k, rfl⟩ : ∃ k : Nat, t = (k : Int) + 1 := ⟨(t - 1).toNat, by omega⟩
    have hg := hf.given
    have c1 := h.rights k (by omega)
    cases ho : okRights (p.rights k) r with
    | true =>
      refine absurd ?_ hc0
      rw [← hc]
      unfold checkX
      rw [ha, show ((k : Int) + 1 - 1).toNat = k from by omega, ho]; rfl
    | false =>
      have e1 : c = 4 := by
        rw [← hc]
        unfold checkX
        rw [ha, show ((k : Int) + 1 - 1).toNat = k from by omega, ho]; rfl
      have ho' : (bits BinOp.and IntKind.i64 (p.rights k) r != r) = true := by unfold okRights at ho; simpa using ho
      subst e1
      have HA := hide ha
      clear ha ho hc hc0
      go_enter Try.func43, Try.ntmps43
      go_wp2_with (go_at_call 59; refine (aliveX_any h hf _).mono ?_; rintro e w' ⟨rfl, hww⟩; replace hww := hww.symm; subst hww; rw [unhide HA])
      go_ret2
      exact ⟨rfl, rfl⟩
set_option maxHeartbeats 1000000 in
theorem check_yes {w : World} {b : Nat} {p : ProgS} (h : XAt w b p) (hf : ProgWf p) {t r : Int} (hc : checkX p t r = 0) :
    Calls Try.prog 43 #[.pointer (some ⟨b, 2249, none⟩), .int .i64 t, .int .i64 r] w fun e w' => e = .returned (.tuple #[.int .i64 (p.tenant (t - 1).toNat), .int .i64 0]) ∧ w' = w := by
  cases ha : aliveX p t with
  | false => unfold checkX at hc; rw [ha] at hc; simp at hc
  | true =>
    obtain ⟨h1, h2⟩ := aliveX_bounds ha
    obtain ⟨k, rfl⟩ : ∃ k : Nat, t = (k : Int) + 1 := ⟨(t - 1).toNat, by omega⟩
    have hg := hf.given
    have c1 := h.rights k (by omega)
    have c0 := h.tenant k (by omega)
    have e0 : ((k : Int) + 1 - 1).toNat = k := by omega
    rw [e0]
    cases ho : okRights (p.rights k) r with
    | true =>
      have ho' : (bits BinOp.and IntKind.i64 (p.rights k) r != r) = false := by unfold okRights at ho; simp at ho; simp [ho]
      have HA := hide ha
      clear ha ho hc e0
      go_enter Try.func43, Try.ntmps43
      go_wp2_with (go_at_call 59; refine (aliveX_any h hf _).mono ?_; rintro e w' ⟨rfl, hww⟩; replace hww := hww.symm; subst hww; rw [unhide HA])
      go_ret2
      exact ⟨rfl, rfl⟩
    | false =>
      unfold checkX at hc
      rw [ha, e0, ho] at hc
      simp at hc

/-- Up the line, with fuel, as long as the number is above the token's: does it come to the token? -/
def outOf (p : ProgS) (token : Nat) : Nat → Nat → Bool
  | 0, t => decide (t = token)
  | f + 1, t => if token < t then outOf p token f (p.parent (t - 1)) else decide (t = token)
theorem outOf_fuel {p : ProgS} (hf : ∀ k, k < p.given → p.parent k ≤ k) {token : Nat} (h1 : 1 ≤ token) : ∀ f g t, t ≤ f → t ≤ g → t ≤ p.given → outOf p token f t = outOf p token g t := by
  intro f
  induction f with
  | zero =>
    intro g t a1 a2 a3
    obtain rfl : t = 0 := by omega
    cases g with
    | zero => rfl
    | succ g => simp [outOf]
  | succ f ih =>
    intro g t a1 a2 a3
    cases g with
    | zero =>
      obtain rfl : t = 0 := by omega
      simp [outOf]
    | succ g =>
      simp only [outOf]
      split
      · have := hf (t - 1) (by omega)
        rw [ih g (p.parent (t - 1)) (by omega) (by omega) (by omega)]
      · rfl
def madeX (p : ProgS) (which : Int) (token : Nat) : Bool := wasG p which && outOf p token (p.parent (which - 1).toNat) (p.parent (which - 1).toNat)
set_option maxHeartbeats 1000000 in
theorem made_any {w : World} {b : Nat} {p : ProgS} (h : XAt w b p) (hf : ProgWf p) (which : Int) (token : Nat) (ht : 1 ≤ token) :
    Calls Try.prog 70 #[.pointer (some ⟨b, 2249, none⟩), .int .i64 which, .int .i64 (token : Int)] w fun e w' => e = .returned (.bool (madeX p which token)) ∧ w' = w := by
  cases hw : wasG p which with
  | false =>
    have e1 : madeX p which token = false := by simp [madeX, hw]
    rw [e1]
    have HW := hide hw
    clear hw e1
    go_enter Try.func70, Try.ntmps70
    go_wp2_with (go_at_call 77; refine (wasGiven_any h _).mono ?_; rintro e w' ⟨rfl, hww⟩; replace hww := hww.symm; subst hww; rw [unhide HW])
    go_ret
    exact ⟨rfl, rfl⟩
  | true =>
    obtain ⟨h1, h2⟩ := wasG_bounds hw
    obtain ⟨k, rfl⟩ : ∃ k : Nat, which = (k : Int) + 1 := ⟨(which - 1).toNat, by omega⟩
    have hk : k < p.given := by omega
    have e1 : madeX p ((k : Int) + 1) token = outOf p token (p.parent k) (p.parent k) := by
      unfold madeX
      rw [hw, show ((k : Int) + 1 - 1).toNat = k from by omega]; rfl
    rw [e1]
    have hg := hf.given
    have hpk := hf.parent k hk
    have e2 := h.parent k (by omega)
    have HW := hide hw
    have HX := hide h
    clear hw e1
    go_enter Try.func70, Try.ntmps70
    go_wp2_with (go_at_call 77; refine (wasGiven_any h _).mono ?_; rintro e w' ⟨rfl, hww⟩; replace hww := hww.symm; subst hww; rw [unhide HW])
    clear h
    go_loop [7] (fun s => ∃ m : Nat, m ≤ p.given ∧ s = .int .i64 m ∧ outOf p token m m = outOf p token (p.parent k) (p.parent k)) (fun s => (intOf s).toNat)
    case atStart => exact ⟨p.parent k, by omega, rfl, rfl⟩
    case round =>
      obtain ⟨m, hm, rfl, heq⟩ := hrel
      by_cases hlt : token < m
      · obtain ⟨m, rfl⟩ : ∃ m' : Nat, m = m' + 1 := ⟨m - 1, by omega⟩
        have hmg : m < p.given := by omega
        have hpm := hf.parent m hmg
        have hE : outOf p token (m + 1) (m + 1) = outOf p token (p.parent m) (p.parent m) := by
          simp only [outOf, if_pos hlt, Nat.add_sub_cancel]
          exact outOf_fuel hf.parent ht _ _ _ (by omega) (by omega) (by omega)
        rw [hE] at heq
        have HQ := hide heq
        have c2 := (unhide HX).parent m (by omega)
        have hc : ((m + 1 : Nat) : Int) = (m : Int) + 1 := by omega
        rw [hc]
        clear heq hE
        go_wp2
        go_round
        case rel => exact ⟨p.parent m, by omega, rfl, unhide HQ⟩
        case measure => simp [intOf]; omega
      · have hE : outOf p token m m = ((m : Int) == (token : Int)) := by
          have h0 : outOf p token m m = decide (m = token) := by
            cases m with
            | zero => rfl
            | succ m => simp only [outOf, if_neg hlt]
          rw [h0, Bool.eq_iff_iff]
          simp only [decide_eq_true_eq, beq_iff_eq]
          omega
        rw [hE] at heq
        have HQ := hide heq
        clear heq hE
        go_wp2
        go_ret
        exact ⟨ret_bool' (unhide HQ), rfl⟩

theorem Kept.setAt {a w : World} {b : Nat} (h : Kept (· = b) a w) (j : Nat) (u : Value) : Kept (· = b) a (w.setCell ⟨b, j, none⟩ u) := Kept.setCell h (p := ⟨b, j, none⟩) (.inl rfl) u
def addS (p : ProgS) (t r : Int) (q : Nat) : ProgS :=
  { p with given := p.given + 1, tenant := upd p.tenant p.given t, rights := upd p.rights p.given r, parent := upd p.parent p.given q, ended := upd p.ended p.given false }
set_option maxHeartbeats 1000000 in
theorem add_yes {w : World} {b : Nat} {p : ProgS} (h : XAt w b p) (t r : Int) (q : Nat) (qi : Int) (hqi : qi = (q : Int)) (hk : p.given < 100) :
    Calls Try.prog 60 #[.pointer (some ⟨b, 2249, none⟩), .agg #[.int .i64 t, .int .i64 r, .int .i64 qi, .bool false]] w fun e w' =>
      e = .returned (.tuple #[.int .i64 ((p.given : Int) + 1), .int .i64 0]) ∧ XAt w' b (addS p t r q) ∧ Kept (· = b) w w' := by
  subst hqi
  have c9 := h.given
  have fz := h.fz
  have hb := h.lt
  have t0 := h.tenant _ hk
  have t1 := h.rights _ hk
  have t2 := h.parent _ hk
  have t3 := h.ended _ hk
  have hg0 : (0 : Int) ≤ (p.given : Int) := by omega
  have hg1 : (p.given : Int) < 100 := by omega
  have HX := hide h
  clear h
  go_enter Try.func60, Try.ntmps60
  go_wp2
  go_region
  go_wp2
  go_ret2
  refine ⟨rfl, ?_, ?_⟩
  · have x1 := ((((unhide HX).setTenant hk t).setRights hk r).setParent hk q).setEnded hk false
    have x2 := x1.setGiven (p.given + 1)
    rw [show ((p.given + 1 : Nat) : Int) = (p.given : Int) + 1 from by omega] at x2
    exact x2.still ((Kept.refl _ _).alloc _).drew
  · refine Kept.drew (Kept.alloc ?_ _)
    exact (((((Kept.refl (· = b) w).setAt _ _).setAt _ _).setAt _ _).setAt _ _).setAt _ _
set_option maxHeartbeats 1000000 in
theorem add_no {w : World} {b : Nat} {p : ProgS} (h : XAt w b p) (v0 v1 v2 v3 : Value) (hk : 100 ≤ p.given) :
    Calls Try.prog 60 #[.pointer (some ⟨b, 2249, none⟩), .agg #[v0, v1, v2, v3]] w fun e w' =>
      e = .returned (.tuple #[.int .i64 0, .int .i64 7]) ∧ XAt w' b p ∧ Kept (· = b) w w' := by
  have c9 := h.given
  have hb := h.lt
  have hg0 : (100 : Int) ≤ (p.given : Int) := by omega
  have HX := hide h
  clear h
  go_enter Try.func60, Try.ntmps60
  go_wp2
  go_ret2
  exact ⟨rfl, (unhide HX).still ((Kept.refl _ _).alloc _), (Kept.refl _ _).alloc _⟩
set_option maxHeartbeats 1000000 in
theorem first_yes {w : World} {b : Nat} {p : ProgS} (h : XAt w b p) (t : Int) (hk : p.given < 100) :
    Calls Try.prog 47 #[.pointer (some ⟨b, 2249, none⟩), .int .i64 t] w fun e w' =>
      e = .returned (.tuple #[.int .i64 ((p.given : Int) + 1), .int .i64 0]) ∧ XAt w' b (addS p t 15 0) ∧ Kept (· = b) w w' := by
  go_enter Try.func47, Try.ntmps47
  go_wp2_with (go_at_call 60; refine (add_yes h t 15 0 0 rfl hk).mono ?_; rintro e w' ⟨rfl, hx, hw⟩)
  go_ret2
  exact ⟨rfl, hx, hw⟩
set_option maxHeartbeats 1000000 in
theorem first_no {w : World} {b : Nat} {p : ProgS} (h : XAt w b p) (t : Int) (hk : 100 ≤ p.given) :
    Calls Try.prog 47 #[.pointer (some ⟨b, 2249, none⟩), .int .i64 t] w fun e w' =>
      e = .returned (.tuple #[.int .i64 0, .int .i64 7]) ∧ XAt w' b p ∧ Kept (· = b) w w' := by
  go_enter Try.func47, Try.ntmps47
  go_wp2_with (go_at_call 60; refine (add_no h _ _ _ _ hk).mono ?_; rintro e w' ⟨rfl, hx, hw⟩)
  go_ret2
  exact ⟨rfl, hx, hw⟩

def endTo (p : ProgS) (t : Int) (n : Nat) : ProgS := { p with ended := fun j => p.ended j || (decide (j < n) && decide (p.tenant j = t)) }
theorem endTo_zero (p : ProgS) (t : Int) : endTo p t 0 = p := by
  unfold endTo
  simp
theorem endTo_hit (p : ProgS) (t : Int) (n : Nat) (h : p.tenant n = t) : { endTo p t n with ended := upd (endTo p t n).ended n true } = endTo p t (n + 1) := by
  unfold endTo
  simp only [ProgS.mk.injEq, true_and]
  funext j
  unfold upd
  by_cases e : j = n
  · subst e; simp [h]
  · have : decide (j < n + 1) = decide (j < n) := by rw [decide_eq_decide]; omega
    simp [e, this]
theorem endTo_miss (p : ProgS) (t : Int) (n : Nat) (h : ¬ p.tenant n = t) : endTo p t n = endTo p t (n + 1) := by
  unfold endTo
  simp only [ProgS.mk.injEq, true_and]
  funext j
  by_cases e : j = n
  · subst e; simp [h]
  · have : decide (j < n + 1) = decide (j < n) := by rw [decide_eq_decide]; omega
    simp [this]
set_option maxHeartbeats 2000000 in
theorem endAll_any {w : World} {b : Nat} {p : ProgS} (h : XAt w b p) (hf : ProgWf p) (t : Int) :
    Calls Try.prog 42 #[.pointer (some ⟨b, 2249, none⟩), .int .i64 t] w fun e w' =>
      e = .returned (.tuple #[]) ∧ XAt w' b (endTo p t p.given) ∧ Kept (· = b) w w' := by
  have hg := hf.given
  have HX := hide h
  clear h
  go_enter Try.func42, Try.ntmps42
  go_wp2
  go_loopw [4] (fun s w' => ∃ k : Nat, k ≤ p.given ∧ s = .int .i64 k ∧ XAt w' b (endTo p t k) ∧ Kept (· = b) w w') (fun s _ => p.given - (intOf s).toNat)
  case atStart => exact ⟨0, Nat.zero_le _, rfl, by rw [endTo_zero]; exact unhide HX, Kept.refl _ _⟩
  case round =>
    obtain ⟨k, hk, rfl, hx, hw⟩ := hrel
    have c9 : wr.cell? ⟨b, 2249, none⟩ = some (.int .i64 (p.given : Int)) := hx.given
    by_cases hlt : k < p.given
    · have c0 : wr.cell? ⟨b, 2250 + k * 4, none⟩ = some (.int .i64 (p.tenant k)) := hx.tenant k (by omega)
      have c3 : wr.cell? ⟨b, 2250 + k * 4 + 3, none⟩ = some (.bool ((endTo p t k).ended k)) := hx.ended k (by omega)
      have fz := hx.fz
      have H1 := hide hx
      have H2 := hide hw
      clear hx hw
      by_cases he : p.tenant k = t
      · have hd : (p.tenant k == t) = true := by simpa using he
        have HE := hide he
        clear he
        go_wp2
        go_roundw
        case rel => exact ⟨k + 1, by omega, by go_num, by rw [← endTo_hit p t k (unhide HE)]; exact (unhide H1).setEnded (by omega) true, (unhide H2).setCell (.inl rfl) _⟩
        case measure => simp [intOf]; omega
      · have hd : (p.tenant k == t) = false := by simpa using he
        have HE := hide he
        clear he
        go_wp2
        go_roundw
        case rel => exact ⟨k + 1, by omega, by go_num, by rw [← endTo_miss p t k (unhide HE)]; exact unhide H1, unhide H2⟩
        case measure => simp [intOf]; omega
    · obtain rfl : k = p.given := by omega
      have H1 := hide hx
      have H2 := hide hw
      clear hx hw
      go_wp2
      go_end0
      exact ⟨rfl, unhide H1, unhide H2⟩

def freeX (p : ProgS) (n : Nat) : Prop := n ≤ 8 ∧ (n < 8 → p.quota n ≤ 0) ∧ ∀ j, j < n → 0 < p.quota j
set_option maxHeartbeats 1000000 in
theorem freeNumber_any {w : World} {b : Nat} {p : ProgS} (h : XAt w b p) :
    Calls Try.prog 45 #[.pointer (some ⟨b, 0, none⟩)] w fun e w' => ∃ n : Nat, freeX p n ∧ e = .returned (.int .i64 n) ∧ w' = w := by
  have HX := hide h
  clear h
  go_enter Try.func45, Try.ntmps45
  go_wp2
  go_loop [3] (fun s => ∃ k : Nat, k ≤ 8 ∧ s = .int .i64 k ∧ ∀ j, j < k → 0 < p.quota j) (fun s => 8 - (intOf s).toNat)
  case atStart => exact ⟨0, Nat.zero_le _, rfl, fun j hj => by omega⟩
  case round =>
    obtain ⟨k, hk, rfl, hall⟩ := hrel
    have HA := hide hall
    clear hall
    by_cases hlt : k < 8
    · have c := (unhide HX).quota k hlt
      by_cases hq : 0 < p.quota k
      · have hd : decide (0 < p.quota k) = true := by simpa using hq
        go_wp2
        go_round
        case rel => exact ⟨k + 1, by omega, by go_num, fun j hj => by
          by_cases ej : j = k
          · subst ej; exact hq
          · exact unhide HA j (by omega)⟩
        case measure => simp [intOf]; omega
      · have hd : decide (0 < p.quota k) = false := by simpa using hq
        go_wp2
        go_ret
        exact ⟨k, ⟨hk, fun _ => by omega, unhide HA⟩, rfl, rfl⟩
    · go_wp2
      go_ret
      exact ⟨k, ⟨hk, fun hh => absurd hh hlt, unhide HA⟩, rfl, rfl⟩
def qsum (p : ProgS) : Nat → Int
  | 0 => 0
  | n + 1 => qsum p n + p.quota n
theorem qsum_le {p : ProgS} (hf : ProgWf p) (n : Nat) (hn : n ≤ 8) : 0 ≤ qsum p n ∧ qsum p n ≤ 64 * n := by
  induction n with
  | zero => simp [qsum]
  | succ n ih =>
    have := ih (by omega)
    have := hf.quota n (by omega)
    simp only [qsum]
    omega
set_option maxHeartbeats 1000000 in
theorem quotas_any {w : World} {b : Nat} {p : ProgS} (h : XAt w b p) (hf : ProgWf p) :
    Calls Try.prog 46 #[.pointer (some ⟨b, 0, none⟩)] w fun e w' => e = .returned (.int .i64 (qsum p 8)) ∧ w' = w := by
  have HX := hide h
  clear h
  go_enter Try.func46, Try.ntmps46
  go_wp2
  go_loop [3, 4] (fun s i => ∃ k : Nat, k ≤ 8 ∧ i = .int .i64 k ∧ s = .int .i64 (qsum p k)) (fun _ i => 8 - (intOf i).toNat)
  case atStart => exact ⟨0, Nat.zero_le _, rfl, rfl⟩
  case round =>
    obtain ⟨k, hk, rfl, rfl⟩ := hrel
    by_cases hlt : k < 8
    · have c := (unhide HX).quota k hlt
      have hq := hf.quota k hlt
      have hs := qsum_le hf k (by omega)
      have E1 : Hid (qsum p (k + 1) = qsum p k + p.quota k) := rfl
      go_wp2
      go_round
      case rel => exact ⟨k + 1, by omega, by go_num, by rw [unhide E1]⟩
      case measure => simp [intOf]; omega
    · obtain rfl : k = 8 := by omega
      go_wp2
      go_ret
      exact ⟨rfl, rfl⟩
def isT (p : ProgS) (n : Int) : Bool := decide (0 ≤ n ∧ n < 8) && decide (0 < p.quota n.toNat)
set_option maxHeartbeats 1000000 in
theorem isTenant_any {w : World} {b : Nat} {p : ProgS} (h : XAt w b p) (n : Int) :
    Calls Try.prog 41 #[.pointer (some ⟨b, 0, none⟩), .int .i64 n] w fun e w' => e = .returned (.bool (isT p n)) ∧ w' = w := by
  by_cases h1 : 0 ≤ n ∧ n < 8
  · obtain ⟨k, rfl⟩ : ∃ k : Nat, n = (k : Int) := ⟨n.toNat, by omega⟩
    have c := h.quota k (by omega)
    have e1 : isT p (k : Int) = decide (0 < p.quota k) := by simp [isT, h1]
    rw [e1]
    clear h e1
    have h2 : (k : Int) < 8 := by omega
    have h3 : decide ((k : Int) < 8) = true := by simpa using h2
    clear h1
    go_enter Try.func41, Try.ntmps41
    go_wp2
    go_ret
    exact ⟨rfl, rfl⟩
  · have e1 : isT p n = false := by simp [isT, h1]
    rw [e1]
    clear h e1
    by_cases h2 : n < 0
    · have h3 : decide (0 ≤ n) = false := by simpa using h2
      clear h1
      go_enter Try.func41, Try.ntmps41
      go_wp2
      go_ret
      exact ⟨rfl, rfl⟩
    · have h3 : decide (n < 8) = false := by simp; omega
      have h4 : decide (0 ≤ n) = true := by simp; omega
      clear h1
      go_enter Try.func41, Try.ntmps41
      go_wp2
      go_ret
      exact ⟨rfl, rfl⟩

def deriveX (p : ProgS) (t rights : Int) : Int :=
  if aliveX p t then (if rights < 0 ∨ 15 < rights then 2 else if okRights (p.rights (t - 1).toNat) (bits BinOp.or IntKind.i64 rights 8) then (if 100 ≤ p.given then 7 else 0) else 4) else 3
def deriveXPost (w : World) (b : Nat) (p : ProgS) (t rights : Int) (en : Ending) (w' : World) : Prop :=
  (deriveX p t rights ≠ 0 ∧ en = .returned (.tuple #[.int .i64 0, .int .i64 (deriveX p t rights)]) ∧ XAt w' b p ∧ Kept (· = b) w w') ∨
  (deriveX p t rights = 0 ∧ en = .returned (.tuple #[.int .i64 ((p.given : Int) + 1), .int .i64 0]) ∧ XAt w' b (addS p (p.tenant (t - 1).toNat) rights t.toNat) ∧ Kept (· = b) w w')
set_option maxHeartbeats 2000000 in
theorem bookDerive_any {w : World} {b : Nat} {p : ProgS} (h : XAt w b p) (hf : ProgWf p) (t rights : Int) :
    Calls Try.prog 27 #[.pointer (some ⟨b, 2249, none⟩), .int .i64 t, .int .i64 rights] w fun en w' => deriveXPost w b p t rights en w' := by
  cases ha : aliveX p t with
  | false =>
    have e1 : deriveX p t rights = 3 := by unfold deriveX; rw [ha]; rfl
    have HA := hide ha
    have H1 := hide e1
    clear ha e1
    go_enter Try.func27, Try.ntmps27
    go_wp2_with (go_at_call 59; refine (aliveX_any h hf _).mono ?_; rintro e w' ⟨rfl, hww⟩; replace hww := hww.symm; subst hww; rw [unhide HA])
    go_ret2
    exact Or.inl ⟨by rw [unhide H1]; omega, by rw [unhide H1]; rfl, h, Kept.refl _ _⟩
  | true =>
    obtain ⟨h1, h2⟩ := aliveX_bounds ha
    obtain ⟨k, rfl⟩ : ∃ k : Nat, t = (k : Int) + 1 := ⟨(t - 1).toNat, by omega⟩
    have hk : k < p.given := by omega
    have e0 : ((k : Int) + 1 - 1).toNat = k := by omega
    have hg := hf.given
    have c0 := h.tenant k (by omega)
    have HA := hide ha
    by_cases hr : rights < 0 ∨ 15 < rights
    · have e1 : deriveX p ((k : Int) + 1) rights = 2 := by unfold deriveX; rw [ha, if_pos rfl, if_pos hr]
      have H1 := hide e1
      clear ha e1 e0
      by_cases hr0 : rights < 0
      · clear hr
        go_enter Try.func27, Try.ntmps27
        go_wp2_with (go_at_call 59; refine (aliveX_any h hf _).mono ?_; rintro e w' ⟨rfl, hww⟩; replace hww := hww.symm; subst hww; rw [unhide HA])
        go_ret2
        exact Or.inl ⟨by rw [unhide H1]; omega, by rw [unhide H1]; rfl, h, Kept.refl _ _⟩
      · have hr1 : decide (15 < rights) = true := by simp; omega
        clear hr
        go_enter Try.func27, Try.ntmps27
        go_wp2_with (go_at_call 59; refine (aliveX_any h hf _).mono ?_; rintro e w' ⟨rfl, hww⟩; replace hww := hww.symm; subst hww; rw [unhide HA])
        go_ret2
        exact Or.inl ⟨by rw [unhide H1]; omega, by rw [unhide H1]; rfl, h, Kept.refl _ _⟩
    · have hr0 : ¬ rights < 0 := by omega
      have hr1 : decide (15 < rights) = false := by simp; omega
      cases ho : okRights (p.rights k) (bits BinOp.or IntKind.i64 rights 8) with
      | false =>
        have e1 : deriveX p ((k : Int) + 1) rights = 4 := by unfold deriveX; rw [ha, if_pos rfl, if_neg hr, e0, ho]; rfl
        have e2 : checkX p ((k : Int) + 1) (bits BinOp.or IntKind.i64 rights 8) = 4 := by unfold checkX; rw [ha, if_pos rfl, e0, ho]; rfl
        have H1 := hide e1
        have H2 := hide e2
        clear ha e1 e2 e0 hr ho
        go_enter Try.func27, Try.ntmps27
        go_wp2_with fail
        refine (aliveX_any h hf _).mono ?_
        rintro e w' ⟨rfl, hww⟩
        replace hww := hww.symm
        subst hww
        rw [unhide HA]
        go_wp2_with fail
        refine (check_no h hf (unhide H2) (by omega)).mono ?_
        rintro e w' ⟨rfl, hww⟩
        replace hww := hww.symm
        subst hww
        go_wp2
        go_ret2
        exact Or.inl ⟨by rw [unhide H1]; omega, by rw [unhide H1]; rfl, h, Kept.refl _ _⟩
      | true =>
        have e1 : deriveX p ((k : Int) + 1) rights = if 100 ≤ p.given then 7 else 0 := by unfold deriveX; rw [ha, if_pos rfl, if_neg hr, e0, ho, if_pos rfl]
        have e2 : checkX p ((k : Int) + 1) (bits BinOp.or IntKind.i64 rights 8) = 0 := by unfold checkX; rw [ha, if_pos rfl, e0, ho]; rfl
        have H2 := hide e2
        by_cases h100 : 100 ≤ p.given
        · rw [if_pos h100] at e1
          have H1 := hide e1
          clear ha e1 e2 e0 hr ho
          go_enter Try.func27, Try.ntmps27
          go_wp2_with fail
          refine (aliveX_any h hf _).mono ?_
          rintro e w' ⟨rfl, hww⟩
          replace hww := hww.symm
          subst hww
          rw [unhide HA]
          go_wp2_with fail
          refine (check_yes h hf (unhide H2)).mono ?_
          rintro e w' ⟨rfl, hww⟩
          replace hww := hww.symm
          subst hww
          go_wp2_with (go_at_call 60; refine (add_no h _ _ _ _ h100).mono ?_; rintro e w' ⟨rfl, hx, hw⟩)
          go_ret2
          exact Or.inl ⟨by rw [unhide H1]; omega, by rw [unhide H1]; rfl, hx, hw⟩
        · rw [if_neg h100] at e1
          have H1 := hide e1
          have E0 := hide e0
          clear ha e1 e2 e0 hr ho
          go_enter Try.func27, Try.ntmps27
          go_wp2_with fail
          refine (aliveX_any h hf _).mono ?_
          rintro e w' ⟨rfl, hww⟩
          replace hww := hww.symm
          subst hww
          rw [unhide HA]
          go_wp2_with fail
          refine (check_yes h hf (unhide H2)).mono ?_
          rintro e w' ⟨rfl, hww⟩
          replace hww := hww.symm
          subst hww
          go_wp2_with (go_at_call 60; refine (add_yes h _ _ (k + 1) _ (by omega) (by omega)).mono ?_; rintro e w' ⟨rfl, hx, hw⟩)
          go_ret2
          exact Or.inr ⟨unhide H1, rfl, by rw [unhide E0, show ((k : Int) + 1).toNat = k + 1 from by omega]; exact hx, hw⟩

def revokeX (p : ProgS) (t which : Int) : Int := if checkX p t 8 = 0 then (if madeX p which t.toNat then 0 else 4) else checkX p t 8
def revokedX (p : ProgS) (t which : Int) : ProgS := if revokeX p t which = 0 then { p with ended := upd p.ended (which - 1).toNat true } else p
set_option maxHeartbeats 2000000 in
theorem bookRevoke_any {w : World} {b : Nat} {p : ProgS} (h : XAt w b p) (hf : ProgWf p) (t which : Int) :
    Calls Try.prog 40 #[.pointer (some ⟨b, 2249, none⟩), .int .i64 t, .int .i64 which] w fun en w' =>
      en = .returned (.int .i64 (revokeX p t which)) ∧ XAt w' b (revokedX p t which) ∧ Kept (· = b) w w' := by
  by_cases hc : checkX p t 8 = 0
  · obtain ⟨h1, h2⟩ := checkX_bounds hc
    obtain ⟨k, rfl⟩ : ∃ k : Nat, t = (k : Int) := ⟨t.toNat, by omega⟩
    have HC := hide hc
    cases hm : madeX p which k with
    | true =>
      have e1 : revokeX p (k : Int) which = 0 := by unfold revokeX; rw [if_pos hc, Int.toNat_natCast, hm]; rfl
      have e2 : revokedX p (k : Int) which = { p with ended := upd p.ended (which - 1).toNat true } := by unfold revokedX; rw [if_pos e1]
      rw [e1, e2]
      have hw : wasG p which = true := by
        cases hh : wasG p which with
        | true => rfl
        | false => simp [madeX, hh] at hm
      obtain ⟨h3, h4⟩ := wasG_bounds hw
      obtain ⟨m, rfl⟩ : ∃ m : Nat, which = (m : Int) + 1 := ⟨(which - 1).toNat, by omega⟩
      have hg := hf.given
      have c3 := h.ended m (by omega)
      have fz := h.fz
      have e0 : ((m : Int) + 1 - 1).toNat = m := by omega
      rw [e0]
      have HM := hide hm
      clear hc e1 e2 hw hm e0
      go_enter Try.func40, Try.ntmps40
      go_wp2_with fail
      refine (check_yes h hf (unhide HC)).mono ?_
      rintro e w' ⟨rfl, hww⟩
      replace hww := hww.symm
      subst hww
      go_wp2_with fail
      refine (made_any h hf _ k (by omega)).mono ?_
      rintro e w' ⟨rfl, hww⟩
      replace hww := hww.symm
      subst hww
      rw [unhide HM]
      go_wp2
      go_ret
      exact ⟨rfl, h.setEnded (by omega) true, Kept.setAt (Kept.refl _ _) _ _⟩
    | false =>
      have e1 : revokeX p (k : Int) which = 4 := by unfold revokeX; rw [if_pos hc, Int.toNat_natCast, hm]; rfl
      have e2 : revokedX p (k : Int) which = p := by unfold revokedX; rw [e1]; rfl
      rw [e1, e2]
      have HM := hide hm
      clear hc e1 e2 hm
      go_enter Try.func40, Try.ntmps40
      go_wp2_with fail
      refine (check_yes h hf (unhide HC)).mono ?_
      rintro e w' ⟨rfl, hww⟩
      replace hww := hww.symm
      subst hww
      go_wp2_with fail
      refine (made_any h hf _ k (by omega)).mono ?_
      rintro e w' ⟨rfl, hww⟩
      replace hww := hww.symm
      subst hww
      rw [unhide HM]
      go_wp2
      go_ret
      exact ⟨rfl, h, Kept.refl _ _⟩
  · have e1 : revokeX p t which = checkX p t 8 := by unfold revokeX; rw [if_neg hc]
    have e2 : revokedX p t which = p := by unfold revokedX; rw [e1, if_neg hc]
    rw [e1, e2]
    have hcs := checkX_cases p t 8
    clear e1 e2
    generalize hx : checkX p t 8 = c at *
    have hne : (c != 0) = true := by simpa using hc
    have Hx := hide hx
    have HC := hide hc
    clear hx hc
    go_enter Try.func40, Try.ntmps40
    go_wp2_with fail
    refine (check_no h hf (unhide Hx) (unhide HC)).mono ?_
    rintro e w' ⟨rfl, hww⟩
    replace hww := hww.symm
    subst hww
    go_wp2
    go_ret
    exact ⟨rfl, h, Kept.refl _ _⟩

set_option maxHeartbeats 1000000 in
theorem engDerive_any {w : World} {b : Nat} {p : ProgS} (h : XAt w b p) (hf : ProgWf p) (t rights : Int) :
    Calls Try.prog 7 #[.pointer (some ⟨b, 0, none⟩), .int .i64 t, .int .i64 rights] w fun en w' => deriveXPost w b p t rights en w' := by
  have hb := h.lt
  go_enter Try.func7, Try.ntmps7
  go_wp2_with fail
  refine (bookDerive_any h hf _ _).mono ?_
  rintro e w1 hp
  rcases hp with ⟨h1, rfl, h3⟩ | ⟨h1, rfl, h3⟩
  · have HP : Hid (deriveXPost w b p t rights (.returned (.tuple #[.int .i64 0, .int .i64 (deriveX p t rights)])) w1) := Or.inl ⟨h1, rfl, h3⟩
    clear h1 h3
    go_wp2
    go_ret2
    exact unhide HP
  · have HP : Hid (deriveXPost w b p t rights (.returned (.tuple #[.int .i64 ((p.given : Int) + 1), .int .i64 0])) w1) := Or.inr ⟨h1, rfl, h3⟩
    clear h1 h3
    go_wp2
    go_ret2
    exact unhide HP
set_option maxHeartbeats 1000000 in
theorem engRevoke_any {w : World} {b : Nat} {p : ProgS} (h : XAt w b p) (hf : ProgWf p) (t which : Int) :
    Calls Try.prog 13 #[.pointer (some ⟨b, 0, none⟩), .int .i64 t, .int .i64 which] w fun en w' =>
      en = .returned (.int .i64 (revokeX p t which)) ∧ XAt w' b (revokedX p t which) ∧ Kept (· = b) w w' := by
  go_enter Try.func13, Try.ntmps13
  go_wp2_with fail
  refine (bookRevoke_any h hf _ _).mono ?_
  rintro e w1 ⟨rfl, hx, hw⟩
  go_wp2
  go_ret
  exact ⟨rfl, hx, hw⟩
end Go.Proofs.Ytgndledehlilkab
