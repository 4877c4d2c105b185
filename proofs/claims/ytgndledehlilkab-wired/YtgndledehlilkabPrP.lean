/-
  Walks: district: Remove, Share, Filter.
-/
import Derived.Test.YtgndledehlilkabPrO
namespace Go.Proofs.Ytgndledehlilkab
open Go.RowKit

section
variable {w : World} {b : Nat} {p : ProgS}
set_option maxHeartbeats 1000000 in
theorem remove_no (h : XAt w b p) (hf : ProgWf p) {n c : Int} (addr len : Int) (hc : checkX p n 2 = c) (hc0 : c ≠ 0) :
    Calls Try.prog 33 #[.pointer (some ⟨b, 0, none⟩), .int .i64 n, .int .i64 addr, .int .i64 len] w fun en w' => en = .returned (.int .i64 c) ∧ w' = w := by
  have hne : (c != 0) = true := by simpa using hc0
  have HC := hide hc
  have HC0 := hide hc0
  clear hc hc0
  go_enter Try.func33, Try.ntmps33
  go_wp2_with (go_at_call 43; refine (check_no h hf (unhide HC) (unhide HC0)).mono ?_; rintro e w' ⟨rfl, hww⟩; replace hww := hww.symm; subst hww)
  go_ret
  exact ⟨rfl, rfl⟩
set_option maxHeartbeats 1000000 in
theorem remove_arg (h : XAt w b p) (hf : ProgWf p) {n : Int} (addr len : Int) (hc : checkX p n 2 = 0) (hbad : isPfx addr len = false) :
    Calls Try.prog 33 #[.pointer (some ⟨b, 0, none⟩), .int .i64 n, .int .i64 addr, .int .i64 len] w fun en w' => en = .returned (.int .i64 2) ∧ w' = w := by
  have HC := hide hc
  have HP := hide hbad
  clear hc hbad
  go_enter Try.func33, Try.ntmps33
  go_wp2_with fail
  refine (check_yes h hf (unhide HC)).mono ?_
  rintro e w' ⟨rfl, hww⟩
  replace hww := hww.symm
  subst hww
  go_wp2_with fail
  refine (is_any _ _ _).mono ?_
  rintro e w' ⟨rfl, hww⟩
  replace hww := hww.symm
  subst hww
  rw [unhide HP]
  go_wp2
  go_ret
  exact ⟨rfl, rfl⟩
set_option maxHeartbeats 2000000 in
theorem remove_del (h : XAt w b p) (hf : ProgWf p) (hk : ProgOk p) {n : Int} {t : Nat} (addr len : Int) (hc : checkX p n 2 = 0) (htn : p.tenant (n - 1).toNat = (t : Int)) (ht : t < 8) (hp : isPfx addr len = true) :
    Calls Try.prog 33 #[.pointer (some ⟨b, 0, none⟩), .int .i64 n, .int .i64 addr, .int .i64 len] w fun en w' => Kept (· = b) w w' ∧
      ((hasP (p.own t) (pfxRoute addr len) = true ∧ en = .returned (.int .i64 0) ∧ XAt w' b { p with own := upd p.own t (delL (p.own t) (pfxRoute addr len)) }) ∨
       (hasP (p.own t) (pfxRoute addr len) = false ∧ en = .returned (.int .i64 9) ∧ XAt w' b p)) := by
  obtain ⟨pa, pb, pc, pd⟩ := isPfx_ok hp
  have hx : okRoute (pfxRoute addr len) := ⟨pa, pb, pc, pd, by show (0 : Int) ≤ 0; omega, by show (0 : Int) ≤ 255; omega, by show (0 : Int) ≤ 0; omega, by show (0 : Int) < 8; omega, isPfx_mod hp⟩
  have HC := hide hc
  have HP := hide hp
  have HXR := hide hx
  have HX := hide h
  have hb := h.lt
  have ht0 : (0 : Int) ≤ (t : Int) := by omega
  have ht8 : (t : Int) < 8 := by omega
  have HTN := hide htn
  have HPF := hide (removeL_fn (h.ow t ht) (hk.sorted t ht) (hk.route t ht) hx)
  clear hc hp hx htn
  go_enter Try.func33, Try.ntmps33
  go_wp2_with fail
  refine (check_yes h hf (unhide HC)).mono ?_
  rintro e w' ⟨rfl, hww⟩
  replace hww := hww.symm
  subst hww
  rw [unhide HTN]
  go_wp2_with fail
  refine (is_any _ _ _).mono ?_
  rintro e w' ⟨rfl, hww⟩
  replace hww := hww.symm
  subst hww
  rw [unhide HP]
  clear h
  go_wp2_with fail
  refine (unhide HPF).mono ?_
  rintro e w5 ⟨hwi, hc5⟩
  have hst : Still w w := Kept.refl _ _
  rcases hc5 with ⟨h1, rfl, h3⟩ | ⟨h1, rfl, h3⟩
  · have hxx := ((unhide HX).ownAt hst ht hwi h3).1
    rw [upd_self] at hxx
    have H1 := hide h1
    have HXX := hide hxx
    have HK := hide hwi.kept
    clear h1 h3 hwi hxx
    go_wp2
    go_ret
    exact ⟨unhide HK, .inr ⟨unhide H1, rfl, unhide HXX⟩⟩
  · have hxx := ((unhide HX).ownAt hst ht hwi h3).1
    have H1 := hide h1
    have HXX := hide hxx
    have HK := hide hwi.kept
    clear h1 h3 hwi hxx
    go_wp2
    go_ret
    exact ⟨unhide HK, .inl ⟨unhide H1, rfl, unhide HXX⟩⟩
set_option maxHeartbeats 1000000 in
theorem share_no (h : XAt w b p) (hf : ProgWf p) {n c : Int} (g k : Int) (hc : checkX p n 4 = c) (hc0 : c ≠ 0) :
    Calls Try.prog 34 #[.pointer (some ⟨b, 0, none⟩), .int .i64 n, .int .i64 g, .int .i64 k] w fun en w' => en = .returned (.int .i64 c) ∧ w' = w := by
  have hne : (c != 0) = true := by simpa using hc0
  have HC := hide hc
  have HC0 := hide hc0
  clear hc hc0
  go_enter Try.func34, Try.ntmps34
  go_wp2_with (go_at_call 43; refine (check_no h hf (unhide HC) (unhide HC0)).mono ?_; rintro e w' ⟨rfl, hww⟩; replace hww := hww.symm; subst hww)
  go_ret
  exact ⟨rfl, rfl⟩
set_option maxHeartbeats 1000000 in
theorem share_arg (h : XAt w b p) (hf : ProgWf p) {n : Int} (g k : Int) (hc : checkX p n 4 = 0) (hbad : (okMask g && okMask k) = false) :
    Calls Try.prog 34 #[.pointer (some ⟨b, 0, none⟩), .int .i64 n, .int .i64 g, .int .i64 k] w fun en w' => en = .returned (.int .i64 2) ∧ w' = w := by
  have hb4 : g < 0 ∨ 255 < g ∨ k < 0 ∨ 255 < k := by
    by_cases a1 : 0 ≤ g ∧ g ≤ 255
    · by_cases a2 : 0 ≤ k ∧ k ≤ 255
      · rw [(okMask_iff g).2 a1, (okMask_iff k).2 a2] at hbad
        simp at hbad
      · omega
    · omega
  have HC := hide hc
  clear hc hbad
  by_cases h1 : g < 0
  · clear hb4
    go_enter Try.func34, Try.ntmps34
    go_wp2_with (go_at_call 43; refine (check_yes h hf (unhide HC)).mono ?_; rintro e w' ⟨rfl, hww⟩; replace hww := hww.symm; subst hww)
    go_ret
    exact ⟨rfl, rfl⟩
  · by_cases h2 : 255 < g
    · have d2 : decide (255 < g) = true := by simpa using h2
      clear hb4
      go_enter Try.func34, Try.ntmps34
      go_wp2_with (go_at_call 43; refine (check_yes h hf (unhide HC)).mono ?_; rintro e w' ⟨rfl, hww⟩; replace hww := hww.symm; subst hww)
      go_ret
      exact ⟨rfl, rfl⟩
    · have d2 : decide (255 < g) = false := by simpa using h2
      by_cases h3 : k < 0
      · clear hb4
        go_enter Try.func34, Try.ntmps34
        go_wp2_with (go_at_call 43; refine (check_yes h hf (unhide HC)).mono ?_; rintro e w' ⟨rfl, hww⟩; replace hww := hww.symm; subst hww)
        go_ret
        exact ⟨rfl, rfl⟩
      · have d4 : decide (255 < k) = true := by simp; omega
        clear hb4
        go_enter Try.func34, Try.ntmps34
        go_wp2_with (go_at_call 43; refine (check_yes h hf (unhide HC)).mono ?_; rintro e w' ⟨rfl, hww⟩; replace hww := hww.symm; subst hww)
        go_ret
        exact ⟨rfl, rfl⟩
set_option maxHeartbeats 2000000 in
theorem share_set (h : XAt w b p) (hf : ProgWf p) {n : Int} {t : Nat} (g k : Int) (hc : checkX p n 4 = 0) (htn : p.tenant (n - 1).toNat = (t : Int)) (ht : t < 8) (hgood : (okMask g && okMask k) = true) :
    Calls Try.prog 34 #[.pointer (some ⟨b, 0, none⟩), .int .i64 n, .int .i64 g, .int .i64 k] w fun en w' => Kept (· = b) w w' ∧ en = .returned (.int .i64 0) ∧ XAt w' b { p with gives := upd p.gives t g, takes := upd p.takes t k } := by
  rw [Bool.and_eq_true, okMask_iff, okMask_iff] at hgood
  have HC := hide hc
  have HX := hide h
  have d1 : ¬ g < 0 := by omega
  have d2 : decide (255 < g) = false := by simp; omega
  have d3 : ¬ k < 0 := by omega
  have d4 : decide (255 < k) = false := by simp; omega
  have ht0 : (0 : Int) ≤ (t : Int) := by omega
  have ht8 : (t : Int) < 8 := by omega
  have HTN := hide htn
  have c1 := h.gives t ht
  have c2 := h.takes t ht
  have fz := h.fz
  have hb := h.lt
  clear hc htn hgood
  go_enter Try.func34, Try.ntmps34
  go_wp2_with fail
  refine (check_yes h hf (unhide HC)).mono ?_
  rintro e w' ⟨rfl, hww⟩
  replace hww := hww.symm
  subst hww
  rw [unhide HTN]
  clear h
  go_wp2
  go_ret
  exact ⟨Kept.setAt (Kept.setAt (Kept.refl _ _) _ _) _ _, rfl, ((unhide HX).setGives ht g).setTakes ht k⟩
end
end Go.Proofs.Ytgndledehlilkab
