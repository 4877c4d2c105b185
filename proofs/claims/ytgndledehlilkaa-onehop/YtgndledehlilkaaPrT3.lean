/-
  Walks: tokens: Derive, Revoke; district: New, Create, Drop, Derive, Revoke.
-/
import Derived.Test.YtgndledehlilkaaPrT2
import Derived.KernelRfl
namespace Go.Proofs.Ytgndledehlilkaa
open Go.RowKit

def deriveX (p : ProgS) (t rights : Int) : Int :=
  if aliveX p t then (if rights < 0 ∨ 15 < rights then 2 else if okRights (p.rights (t - 1).toNat) (bits BinOp.or IntKind.i64 rights 8) then (if 100 ≤ p.given then 7 else 0) else 4) else 3
def deriveXPost (w : World) (b : Nat) (p : ProgS) (t rights : Int) (en : Ending) (w' : World) : Prop :=
  (deriveX p t rights ≠ 0 ∧ en = .returned (.tuple #[.int .i64 0, .int .i64 (deriveX p t rights)]) ∧ XAt w' b p ∧ Kept (· = b) w w') ∨
  (deriveX p t rights = 0 ∧ en = .returned (.tuple #[.int .i64 ((p.given : Int) + 1), .int .i64 0]) ∧ XAt w' b (addS p (p.tenant (t - 1).toNat) rights t.toNat) ∧ Kept (· = b) w w')
set_option maxHeartbeats 2000000 in
theorem bookDerive_any {w : World} {b : Nat} {p : ProgS} (h : XAt w b p) (hf : ProgWf p) (t rights : Int) :
    Calls Try.prog 35 #[.pointer (some ⟨b, 2249, none⟩), .int .i64 t, .int .i64 rights] w fun en w' => deriveXPost w b p t rights en w' := by
  cases ha : aliveX p t with
  | false =>
    have e1 : deriveX p t rights = 3 := by unfold deriveX; rw [ha]; rfl
    have HA := hide ha
    have H1 := hide e1
    clear ha e1
    go_enter Try.func35, Try.ntmps35
    go_wp2_with (go_at_call 54; refine (aliveX_any h hf _).mono ?_; rintro e w' ⟨rfl, hww⟩; replace hww := hww.symm; subst hww; rw [unhide HA])
    go_ret2
    exact Or.inl ⟨by rw [unhide H1]; omega, by rw [unhide H1]; rfl, h, Kept.refl _ _⟩
  | true =>
    obtain ⟨h1, h2⟩ := aliveX_bounds ha
    obtain ⟨k, rfl⟩ : ∃ k : Nat, t = (k : Int) + 1 := ⟨(t - 1).toNat, by omega⟩
    have hk : k < p.given := by omega
    have e0 : ((k : Int) + 1 - 1).toNat = k := by omega
    have hg := hf.given
    have c0 := h.tenant k (by omega)
    have HA := hide ha
    by_cases hr : rights < 0 ∨ 15 < rights
    · have e1 : deriveX p ((k : Int) + 1) rights = 2 := by unfold deriveX; rw [ha, if_pos rfl, if_pos hr]
      have H1 := hide e1
      clear ha e1 e0
      by_cases hr0 : rights < 0
      · clear hr
        go_enter Try.func35, Try.ntmps35
        go_wp2_with (go_at_call 54; refine (aliveX_any h hf _).mono ?_; rintro e w' ⟨rfl, hww⟩; replace hww := hww.symm; subst hww; rw [unhide HA])
        go_ret2
        exact Or.inl ⟨by rw [unhide H1]; omega, by rw [unhide H1]; rfl, h, Kept.refl _ _⟩
      · have hr1 : decide (15 < rights) = true := by simp; omega
        clear hr
        go_enter Try.func35, Try.ntmps35
        go_wp2_with (go_at_call 54; refine (aliveX_any h hf _).mono ?_; rintro e w' ⟨rfl, hww⟩; replace hww := hww.symm; subst hww; rw [unhide HA])
        go_ret2
        exact Or.inl ⟨by rw [unhide H1]; omega, by rw [unhide H1]; rfl, h, Kept.refl _ _⟩
    · have hr0 : ¬ rights < 0 := by omega
      have hr1 : decide (15 < rights) = false := by simp; omega
      cases ho : okRights (p.rights k) (bits BinOp.or IntKind.i64 rights 8) with
      | false =>
        have e1 : deriveX p ((k : Int) + 1) rights = 4 := by unfold deriveX; rw [ha, if_pos rfl, if_neg hr, e0, ho]; rfl
        have e2 : checkX p ((k : Int) + 1) (bits BinOp.or IntKind.i64 rights 8) = 4 := by unfold checkX; rw [ha, if_pos rfl, e0, ho]; rfl
        have H1 := hide e1
        have H2 := hide e2
        clear ha e1 e2 e0 hr ho
        go_enter Try.func35, Try.ntmps35
        go_wp2_with fail
        refine (aliveX_any h hf _).mono ?_
        rintro e w' ⟨rfl, hww⟩
        replace hww := hww.symm
        subst hww
        rw [unhide HA]
        go_wp2_with fail
        refine (check_no h hf (unhide H2) (by omega)).mono ?_
        rintro e w' ⟨rfl, hww⟩
        replace hww := hww.symm
        subst hww
        go_wp2
        go_ret2
        exact Or.inl ⟨by rw [unhide H1]; omega, by rw [unhide H1]; rfl, h, Kept.refl _ _⟩
      | true =>
        have e1 : deriveX p ((k : Int) + 1) rights = if 100 ≤ p.given then 7 else 0 := by unfold deriveX; rw [ha, if_pos rfl, if_neg hr, e0, ho, if_pos rfl]
        have e2 : checkX p ((k : Int) + 1) (bits BinOp.or IntKind.i64 rights 8) = 0 := by unfold checkX; rw [ha, if_pos rfl, e0, ho]; rfl
        have H2 := hide e2
        by_cases h100 : 100 ≤ p.given
        · rw [if_pos h100] at e1
          have H1 := hide e1
          clear ha e1 e2 e0 hr ho
          go_enter Try.func35, Try.ntmps35
          go_wp2_with fail
          refine (aliveX_any h hf _).mono ?_
          rintro e w' ⟨rfl, hww⟩
          replace hww := hww.symm
          subst hww
          rw [unhide HA]
          go_wp2_with fail
          refine (check_yes h hf (unhide H2)).mono ?_
          rintro e w' ⟨rfl, hww⟩
          replace hww := hww.symm
          subst hww
          go_wp2_with (go_at_call 55; refine (add_no h _ _ _ _ h100).mono ?_; rintro e w' ⟨rfl, hx, hw⟩)
          go_ret2
          exact Or.inl ⟨by rw [unhide H1]; omega, by rw [unhide H1]; rfl, hx, hw⟩
        · rw [if_neg h100] at e1
          have H1 := hide e1
          have E0 := hide e0
          clear ha e1 e2 e0 hr ho
          go_enter Try.func35, Try.ntmps35
          go_wp2_with fail
          refine (aliveX_any h hf _).mono ?_
          rintro e w' ⟨rfl, hww⟩
          replace hww := hww.symm
          subst hww
          rw [unhide HA]
          go_wp2_with fail
          refine (check_yes h hf (unhide H2)).mono ?_
          rintro e w' ⟨rfl, hww⟩
          replace hww := hww.symm
          subst hww
          go_wp2_with (go_at_call 55; refine (add_yes h _ _ (k + 1) _ (by omega) (by omega)).mono ?_; rintro e w' ⟨rfl, hx, hw⟩)
          go_ret2
          exact Or.inr ⟨unhide H1, rfl, by rw [unhide E0, show ((k : Int) + 1).toNat = k + 1 from by omega]; exact hx, hw⟩

def revokeX (p : ProgS) (t which : Int) : Int := if checkX p t 8 = 0 then (if madeX p which t.toNat then 0 else 4) else checkX p t 8
def revokedX (p : ProgS) (t which : Int) : ProgS := if revokeX p t which = 0 then { p with ended := upd p.ended (which - 1).toNat true } else p
set_option maxHeartbeats 2000000 in
theorem bookRevoke_any {w : World} {b : Nat} {p : ProgS} (h : XAt w b p) (hf : ProgWf p) (t which : Int) :
    Calls Try.prog 36 #[.pointer (some ⟨b, 2249, none⟩), .int .i64 t, .int .i64 which] w fun en w' =>
      en = .returned (.int .i64 (revokeX p t which)) ∧ XAt w' b (revokedX p t which) ∧ Kept (· = b) w w' := by
  by_cases hc : checkX p t 8 = 0
  · obtain ⟨h1, h2⟩ := checkX_bounds hc
    obtain ⟨k, rfl⟩ : ∃ k : Nat, t = (k : Int) := ⟨t.toNat, by omega⟩
    have HC := hide hc
    cases hm : madeX p which k with
    | true =>
      have e1 : revokeX p (k : Int) which = 0 := by unfold revokeX; rw [if_pos hc, Int.toNat_natCast, hm]; rfl
      have e2 : revokedX p (k : Int) which = { p with ended := upd p.ended (which - 1).toNat true } := by unfold revokedX; rw [if_pos e1]
      rw [e1, e2]
      have hw : wasG p which = true := by
        cases hh : wasG p which with
        | true => rfl
        | false => simp [madeX, hh] at hm
      obtain ⟨h3, h4⟩ := wasG_bounds hw
      obtain ⟨m, rfl⟩ : ∃ m : Nat, which = (m : Int) + 1 := ⟨(which - 1).toNat, by omega⟩
      have hg := hf.given
      have c3 := h.ended m (by omega)
      have fz := h.fz
      have e0 : ((m : Int) + 1 - 1).toNat = m := by omega
      rw [e0]
      have HM := hide hm
      clear hc e1 e2 hw hm e0
      go_enter Try.func36, Try.ntmps36
      go_wp2_with fail
      refine (check_yes h hf (unhide HC)).mono ?_
      rintro e w' ⟨rfl, hww⟩
      replace hww := hww.symm
      subst hww
      go_wp2_with fail
      refine (made_any h hf _ k (by omega)).mono ?_
      rintro e w' ⟨rfl, hww⟩
      replace hww := hww.symm
      subst hww
      rw [unhide HM]
      go_wp2
      go_ret
      exact ⟨rfl, h.setEnded (by omega) true, Kept.setAt (Kept.refl _ _) _ _⟩
    | false =>
      have e1 : revokeX p (k : Int) which = 4 := by unfold revokeX; rw [if_pos hc, Int.toNat_natCast, hm]; rfl
      have e2 : revokedX p (k : Int) which = p := by unfold revokedX; rw [e1]; rfl
      rw [e1, e2]
      have HM := hide hm
      clear hc e1 e2 hm
      go_enter Try.func36, Try.ntmps36
      go_wp2_with fail
      refine (check_yes h hf (unhide HC)).mono ?_
      rintro e w' ⟨rfl, hww⟩
      replace hww := hww.symm
      subst hww
      go_wp2_with fail
      refine (made_any h hf _ k (by omega)).mono ?_
      rintro e w' ⟨rfl, hww⟩
      replace hww := hww.symm
      subst hww
      rw [unhide HM]
      go_wp2
      go_ret
      exact ⟨rfl, h, Kept.refl _ _⟩
  · have e1 : revokeX p t which = checkX p t 8 := by unfold revokeX; rw [if_neg hc]
    have e2 : revokedX p t which = p := by unfold revokedX; rw [e1, if_neg hc]
    rw [e1, e2]
    have hcs := checkX_cases p t 8
    clear e1 e2
    generalize hx : checkX p t 8 = c at *
    have hne : (c != 0) = true := by simpa using hc
    have Hx := hide hx
    have HC := hide hc
    clear hx hc
    go_enter Try.func36, Try.ntmps36
    go_wp2_with fail
    refine (check_no h hf (unhide Hx) (unhide HC)).mono ?_
    rintro e w' ⟨rfl, hww⟩
    replace hww := hww.symm
    subst hww
    go_wp2
    go_ret
    exact ⟨rfl, h, Kept.refl _ _⟩

set_option maxHeartbeats 1000000 in
theorem engDerive_any {w : World} {b : Nat} {p : ProgS} (h : XAt w b p) (hf : ProgWf p) (t rights : Int) :
    Calls Try.prog 14 #[.pointer (some ⟨b, 0, none⟩), .int .i64 t, .int .i64 rights] w fun en w' => deriveXPost w b p t rights en w' := by
  have hb := h.lt
  go_enter Try.func14, Try.ntmps14
  go_wp2_with fail
  refine (bookDerive_any h hf _ _).mono ?_
  rintro e w1 hp
  rcases hp with ⟨h1, rfl, h3⟩ | ⟨h1, rfl, h3⟩
  · have HP : Hid (deriveXPost w b p t rights (.returned (.tuple #[.int .i64 0, .int .i64 (deriveX p t rights)])) w1) := Or.inl ⟨h1, rfl, h3⟩
    clear h1 h3
    go_wp2
    go_ret2
    exact unhide HP
  · have HP : Hid (deriveXPost w b p t rights (.returned (.tuple #[.int .i64 ((p.given : Int) + 1), .int .i64 0])) w1) := Or.inr ⟨h1, rfl, h3⟩
    clear h1 h3
    go_wp2
    go_ret2
    exact unhide HP
set_option maxHeartbeats 1000000 in
theorem engRevoke_any {w : World} {b : Nat} {p : ProgS} (h : XAt w b p) (hf : ProgWf p) (t which : Int) :
    Calls Try.prog 15 #[.pointer (some ⟨b, 0, none⟩), .int .i64 t, .int .i64 which] w fun en w' =>
      en = .returned (.int .i64 (revokeX p t which)) ∧ XAt w' b (revokedX p t which) ∧ Kept (· = b) w w' := by
  go_enter Try.func15, Try.ntmps15
  go_wp2_with fail
  refine (bookRevoke_any h hf _ _).mono ?_
  rintro e w1 ⟨rfl, hx, hw⟩
  go_wp2
  go_ret
  exact ⟨rfl, hx, hw⟩
end Go.Proofs.Ytgndledehlilkaa
