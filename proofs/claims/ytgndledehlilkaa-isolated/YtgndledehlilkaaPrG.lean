/-
  Walks: package filter: isRule, matches, LetsIn.
-/
import Derived.Test.YtgndledehlilkaaPrBM
import Derived.Test.YtgndledehlilkaaRulesIn
namespace Go.Proofs.Ytgndledehlilkaa
open Go.RowKit

def ruleV (u : RuleD) : Value := .agg #[.bool u.allow, .int .i64 u.addr, .int .i64 u.len, .int .i64 u.ge, .int .i64 u.le]
theorem ruleB_eq (u : RuleD) : ruleB u = (!(decide (u.ge < u.len)) && (!(decide (u.le < u.ge)) && (!(decide (16 < u.le)) && isPfx u.addr u.len))) := by
  unfold ruleB
  rw [Bool.eq_iff_iff]
  simp only [Bool.and_eq_true, Bool.not_eq_true', decide_eq_true_eq, decide_eq_false_iff_not]
  constructor
  · rintro ⟨⟨⟨a, b⟩, c⟩, d⟩; exact ⟨by omega, by omega, by omega, a⟩
  · rintro ⟨a, b, c, d⟩; exact ⟨⟨⟨d, by omega⟩, by omega⟩, by omega⟩
set_option maxHeartbeats 1000000 in
theorem isRule_any (u : RuleD) (w : World) :
    Calls Try.prog 64 #[.agg #[.bool u.allow, .int .i64 u.addr, .int .i64 u.len, .int .i64 u.ge, .int .i64 u.le]] w fun e w' => e = .returned (.bool (ruleB u)) ∧ Still w w' := by
  rw [ruleB_eq]
  obtain ⟨al, ad, ln, ge, le⟩ := u
  cases h1 : decide (ge < ln) with
  | true =>
    go_enter Try.func64, Try.ntmps64
    go_wp2
    go_ret
    exact ⟨rfl, (Kept.refl _ _).alloc _⟩
  | false =>
    cases h2 : decide (le < ge) with
    | true =>
      go_enter Try.func64, Try.ntmps64
      go_wp2
      go_ret
      exact ⟨rfl, (Kept.refl _ _).alloc _⟩
    | false =>
      cases h3 : decide (16 < le) with
      | true =>
        go_enter Try.func64, Try.ntmps64
        go_wp2
        go_ret
        exact ⟨rfl, (Kept.refl _ _).alloc _⟩
      | false =>
        go_enter Try.func64, Try.ntmps64
        go_wp2_with (go_at_call 41; refine (is_any _ _ _).mono ?_; rintro e w' ⟨rfl, hw⟩; replace hw := hw.symm; subst hw)
        go_ret
        exact ⟨rfl, (Kept.refl _ _).alloc _⟩
theorem matchB_eq (u : RuleD) (r : RouteD) : matchB u r = (!(decide (r.len < u.ge)) && (!(decide (u.le < r.len)) && containsB u.addr u.len r.addr)) := by
  unfold matchB
  rw [Bool.eq_iff_iff]
  simp only [Bool.and_eq_true, Bool.not_eq_true', decide_eq_true_eq, decide_eq_false_iff_not]
  constructor
  · rintro ⟨a, b, c⟩; exact ⟨by omega, by omega, a⟩
  · rintro ⟨a, b, c⟩; exact ⟨c, by omega, by omega⟩
set_option maxHeartbeats 1000000 in
theorem matches_any (u : RuleD) (r : RouteD) (w : World) (hp : isPfx u.addr u.len = true) (ha : 0 ≤ r.addr ∧ r.addr ≤ 65535) :
    Calls Try.prog 71 #[.agg #[.bool u.allow, .int .i64 u.addr, .int .i64 u.len, .int .i64 u.ge, .int .i64 u.le], .int .i64 r.addr, .int .i64 r.len] w fun e w' => e = .returned (.bool (matchB u r)) ∧ Still w w' := by
  rw [matchB_eq]
  obtain ⟨al, ad, ln, ge, le⟩ := u
  obtain ⟨ra, rl, rh, rf⟩ := r
  have HP := hide hp
  have HA := hide ha
  clear hp ha
  cases h1 : decide (rl < ge) with
  | true =>
    go_enter Try.func71, Try.ntmps71
    go_wp2
    go_ret
    exact ⟨rfl, (Kept.refl _ _).alloc _⟩
  | false =>
    cases h2 : decide (le < rl) with
    | true =>
      go_enter Try.func71, Try.ntmps71
      go_wp2
      go_ret
      exact ⟨rfl, (Kept.refl _ _).alloc _⟩
    | false =>
      go_enter Try.func71, Try.ntmps71
      go_wp2_with (go_at_call 63; refine (contains_any _ _ _ _ (unhide HP) (unhide HA)).mono ?_; rintro e w' ⟨rfl, hw⟩; replace hw := hw.symm; subst hw)
      go_ret
      exact ⟨rfl, (Kept.refl _ _).alloc _⟩
set_option maxHeartbeats 1000000 in
theorem letsIn_any {w : World} {b o : Nat} {R : List RuleD} (h : RAt w b o R.length (padR R)) (hp : ∀ u ∈ R, ruleB u = true) (r : RouteD) (ha : 0 ≤ r.addr ∧ r.addr ≤ 65535) :
    Calls Try.prog 70 #[.pointer (some ⟨b, o, none⟩), .int .i64 r.addr, .int .i64 r.len] w fun e w' => e = .returned (.bool (letsB R r)) ∧ Still w w' := by
  have hm := h.most
  have HX := hide h
  have hb := h.lt
  have HA := hide ha
  have HP := hide hp
  clear h ha hp
  go_enter Try.func70, Try.ntmps70
  go_wp2
  go_loopw [7] (fun s w' => ∃ k : Nat, k ≤ R.length ∧ s = .int .i64 k ∧ (∀ j, j < k → matchB (R.getD j ru0) r = false) ∧ Still w w') (fun s _ => R.length - (intOf s).toNat)
  case atStart => exact ⟨0, Nat.zero_le _, rfl, fun j hj => absurd hj (Nat.not_lt_zero _), Kept.refl _ _⟩
  case round =>
    obtain ⟨k, hk, rfl, hall, hw⟩ := hrel
    have hx := (unhide HX).still hw
    have hbr : b < wr.heap.size := hx.lt
    have c := hx.cnt
    have HA2 := hide hall
    have HW := hide hw
    clear hall hw
    by_cases hlt : k < R.length
    · have c0 := hx.allow k (by omega)
      have c1 := hx.addr k (by omega)
      have c2 := hx.len k (by omega)
      have c3 := hx.ge k (by omega)
      have c4 := hx.le k (by omega)
      have hpk : isPfx (padR R k).addr (padR R k).len = true := by
        have h1 := unhide HP (padR R k) (by unfold padR; simp [List.getD_eq_getElem?_getD, hlt])
        unfold ruleB at h1
        simp only [Bool.and_eq_true] at h1
        exact h1.1.1.1
      have HPK := hide hpk
      clear hx hpk
      cases hbf : matchB (R.getD k ru0) r with
      | true =>
        have hres := letsB_some hlt (unhide HA2) hbf
        have hbf' : matchB (padR R k) r = true := hbf
        have hres' : letsB R r = (padR R k).allow := hres
        have HB := hide hbf'
        have HR := hide hres'
        clear hbf hres hbf' hres'
        generalize padR R k = u at *
        go_wp2_with fail
        refine (matches_any _ r _ (unhide HPK) (unhide HA)).mono ?_
        rintro e w2 ⟨rfl, hs2⟩
        rw [unhide HB]
        have c0' := (hs2.cell b _ hbr).trans c0
        have HS2 := hide hs2
        clear hs2
        go_wp2
        go_ret
        exact ⟨by rw [unhide HR]; rfl, (unhide HW).trans (unhide HS2)⟩
      | false =>
        have hbf' : matchB (padR R k) r = false := hbf
        have HB := hide hbf'
        have HB2 := hide hbf
        clear hbf hbf'
        generalize padR R k = u at *
        go_wp2_with fail
        refine (matches_any _ r _ (unhide HPK) (unhide HA)).mono ?_
        rintro e w2 ⟨rfl, hs2⟩
        rw [unhide HB]
        have HS2 := hide hs2
        clear hs2
        go_wp2
        go_roundw
        case rel => exact ⟨k + 1, by omega, by go_num, fun j hj => by
          by_cases ej : j = k
          · subst ej; exact unhide HB2
          · exact unhide HA2 j (by omega), (unhide HW).trans (unhide HS2)⟩
        case measure => simp [intOf]; omega
    · obtain rfl : k = R.length := by omega
      have hres := letsB_none (unhide HA2)
      have hd : decide (R.length = 0) = ((R.length : Int) == 0) := by rw [Bool.eq_iff_iff]; simp
      rw [hd] at hres
      have HR := hide hres
      clear hx hres hd
      go_wp2
      go_ret
      exact ⟨by rw [unhide HR]; rfl, unhide HW⟩
end Go.Proofs.Ytgndledehlilkaa
