/-
  Walks: tokens: add, First, EndAll; district: freeNumber, quotas, isTenant.
-/
import Derived.Test.YtgndledehlilkaaPrT1
import Derived.RegionTactic
namespace Go.Proofs.Ytgndledehlilkaa
open Go.RowKit

theorem Kept.setAt {a w : World} {b : Nat} (h : Kept (· = b) a w) (j : Nat) (u : Value) : Kept (· = b) a (w.setCell ⟨b, j, none⟩ u) := Kept.setCell h (p := ⟨b, j, none⟩) (.inl rfl) u
def addS (p : ProgS) (t r : Int) (q : Nat) : ProgS :=
  { p with given := p.given + 1, tenant := upd p.tenant p.given t, rights := upd p.rights p.given r, parent := upd p.parent p.given q, ended := upd p.ended p.given false }
set_option maxHeartbeats 1000000 in
theorem add_yes {w : World} {b : Nat} {p : ProgS} (h : XAt w b p) (t r : Int) (q : Nat) (qi : Int) (hqi : qi = (q : Int)) (hk : p.given < 100) :
    Calls Try.prog 55 #[.pointer (some ⟨b, 2249, none⟩), .agg #[.int .i64 t, .int .i64 r, .int .i64 qi, .bool false]] w fun e w' =>
      e = .returned (.tuple #[.int .i64 ((p.given : Int) + 1), .int .i64 0]) ∧ XAt w' b (addS p t r q) ∧ Kept (· = b) w w' := by
  subst hqi
  have c9 := h.given
  have fz := h.fz
  have hb := h.lt
  have t0 := h.tenant _ hk
  have t1 := h.rights _ hk
  have t2 := h.parent _ hk
  have t3 := h.ended _ hk
  have hg0 : (0 : Int) ≤ (p.given : Int) := by omega
  have hg1 : (p.given : Int) < 100 := by omega
  have HX := hide h
  clear h
  go_enter Try.func55, Try.ntmps55
  go_wp2
  go_region
  go_wp2
  go_ret2
  refine ⟨rfl, ?_, ?_⟩
  · have x1 := ((((unhide HX).setTenant hk t).setRights hk r).setParent hk q).setEnded hk false
    have x2 := x1.setGiven (p.given + 1)
    rw [show ((p.given + 1 : Nat) : Int) = (p.given : Int) + 1 from by omega] at x2
    exact x2.still ((Kept.refl _ _).alloc _).drew
  · refine Kept.drew (Kept.alloc ?_ _)
    exact (((((Kept.refl (· = b) w).setAt _ _).setAt _ _).setAt _ _).setAt _ _).setAt _ _
set_option maxHeartbeats 1000000 in
theorem add_no {w : World} {b : Nat} {p : ProgS} (h : XAt w b p) (v0 v1 v2 v3 : Value) (hk : 100 ≤ p.given) :
    Calls Try.prog 55 #[.pointer (some ⟨b, 2249, none⟩), .agg #[v0, v1, v2, v3]] w fun e w' =>
      e = .returned (.tuple #[.int .i64 0, .int .i64 7]) ∧ XAt w' b p ∧ Kept (· = b) w w' := by
  have c9 := h.given
  have hb := h.lt
  have hg0 : (100 : Int) ≤ (p.given : Int) := by omega
  have HX := hide h
  clear h
  go_enter Try.func55, Try.ntmps55
  go_wp2
  go_ret2
  exact ⟨rfl, (unhide HX).still ((Kept.refl _ _).alloc _), (Kept.refl _ _).alloc _⟩
set_option maxHeartbeats 1000000 in
theorem first_yes {w : World} {b : Nat} {p : ProgS} (h : XAt w b p) (t : Int) (hk : p.given < 100) :
    Calls Try.prog 49 #[.pointer (some ⟨b, 2249, none⟩), .int .i64 t] w fun e w' =>
      e = .returned (.tuple #[.int .i64 ((p.given : Int) + 1), .int .i64 0]) ∧ XAt w' b (addS p t 15 0) ∧ Kept (· = b) w w' := by
  go_enter Try.func49, Try.ntmps49
  go_wp2_with (go_at_call 55; refine (add_yes h t 15 0 0 rfl hk).mono ?_; rintro e w' ⟨rfl, hx, hw⟩)
  go_ret2
  exact ⟨rfl, hx, hw⟩
set_option maxHeartbeats 1000000 in
theorem first_no {w : World} {b : Nat} {p : ProgS} (h : XAt w b p) (t : Int) (hk : 100 ≤ p.given) :
    Calls Try.prog 49 #[.pointer (some ⟨b, 2249, none⟩), .int .i64 t] w fun e w' =>
      e = .returned (.tuple #[.int .i64 0, .int .i64 7]) ∧ XAt w' b p ∧ Kept (· = b) w w' := by
  go_enter Try.func49, Try.ntmps49
  go_wp2_with (go_at_call 55; refine (add_no h _ _ _ _ hk).mono ?_; rintro e w' ⟨rfl, hx, hw⟩)
  go_ret2
  exact ⟨rfl, hx, hw⟩

def endTo (p : ProgS) (t : Int) (n : Nat) : ProgS := { p with ended := fun j => p.ended j || (decide (j < n) && decide (p.tenant j = t)) }
theorem endTo_zero (p : ProgS) (t : Int) : endTo p t 0 = p := by
  unfold endTo
  simp
theorem endTo_hit (p : ProgS) (t : Int) (n : Nat) (h : p.tenant n = t) : { endTo p t n with ended := upd (endTo p t n).ended n true } = endTo p t (n + 1) := by
  unfold endTo
  simp only [ProgS.mk.injEq, true_and]
  funext j
  unfold upd
  by_cases e : j = n
  · subst e; simp [h]
  · have : decide (j < n + 1) = decide (j < n) := by rw [decide_eq_decide]; omega
    simp [e, this]
theorem endTo_miss (p : ProgS) (t : Int) (n : Nat) (h : ¬ p.tenant n = t) : endTo p t n = endTo p t (n + 1) := by
  unfold endTo
  simp only [ProgS.mk.injEq, true_and]
  funext j
  by_cases e : j = n
  · subst e; simp [h]
  · have : decide (j < n + 1) = decide (j < n) := by rw [decide_eq_decide]; omega
    simp [this]
set_option maxHeartbeats 2000000 in
theorem endAll_any {w : World} {b : Nat} {p : ProgS} (h : XAt w b p) (hf : ProgWf p) (t : Int) :
    Calls Try.prog 51 #[.pointer (some ⟨b, 2249, none⟩), .int .i64 t] w fun e w' =>
      e = .returned (.tuple #[]) ∧ XAt w' b (endTo p t p.given) ∧ Kept (· = b) w w' := by
  have hg := hf.given
  have HX := hide h
  clear h
  go_enter Try.func51, Try.ntmps51
  go_wp2
  go_loopw [4] (fun s w' => ∃ k : Nat, k ≤ p.given ∧ s = .int .i64 k ∧ XAt w' b (endTo p t k) ∧ Kept (· = b) w w') (fun s _ => p.given - (intOf s).toNat)
  case atStart => exact ⟨0, Nat.zero_le _, rfl, by rw [endTo_zero]; exact unhide HX, Kept.refl _ _⟩
  case round =>
    obtain ⟨k, hk, rfl, hx, hw⟩ := hrel
    have c9 : wr.cell? ⟨b, 2249, none⟩ = some (.int .i64 (p.given : Int)) := hx.given
    by_cases hlt : k < p.given
    · have c0 : wr.cell? ⟨b, 2250 + k * 4, none⟩ = some (.int .i64 (p.tenant k)) := hx.tenant k (by omega)
      have c3 : wr.cell? ⟨b, 2250 + k * 4 + 3, none⟩ = some (.bool ((endTo p t k).ended k)) := hx.ended k (by omega)
      have fz := hx.fz
      have H1 := hide hx
      have H2 := hide hw
      clear hx hw
      by_cases he : p.tenant k = t
      · have hd : (p.tenant k == t) = true := by simpa using he
        have HE := hide he
        clear he
        go_wp2
        go_roundw
        case rel => exact ⟨k + 1, by omega, by go_num, by rw [← endTo_hit p t k (unhide HE)]; exact (unhide H1).setEnded (by omega) true, (unhide H2).setCell (.inl rfl) _⟩
        case measure => simp [intOf]; omega
      · have hd : (p.tenant k == t) = false := by simpa using he
        have HE := hide he
        clear he
        go_wp2
        go_roundw
        case rel => exact ⟨k + 1, by omega, by go_num, by rw [← endTo_miss p t k (unhide HE)]; exact unhide H1, unhide H2⟩
        case measure => simp [intOf]; omega
    · obtain rfl : k = p.given := by omega
      have H1 := hide hx
      have H2 := hide hw
      clear hx hw
      go_wp2
      go_end0
      exact ⟨rfl, unhide H1, unhide H2⟩

def freeX (p : ProgS) (n : Nat) : Prop := n ≤ 8 ∧ (n < 8 → p.quota n ≤ 0) ∧ ∀ j, j < n → 0 < p.quota j
set_option maxHeartbeats 1000000 in
theorem freeNumber_any {w : World} {b : Nat} {p : ProgS} (h : XAt w b p) :
    Calls Try.prog 47 #[.pointer (some ⟨b, 0, none⟩)] w fun e w' => ∃ n : Nat, freeX p n ∧ e = .returned (.int .i64 n) ∧ w' = w := by
  have HX := hide h
  clear h
  go_enter Try.func47, Try.ntmps47
  go_wp2
  go_loop [3] (fun s => ∃ k : Nat, k ≤ 8 ∧ s = .int .i64 k ∧ ∀ j, j < k → 0 < p.quota j) (fun s => 8 - (intOf s).toNat)
  case atStart => exact ⟨0, Nat.zero_le _, rfl, fun j hj => by omega⟩
  case round =>
    obtain ⟨k, hk, rfl, hall⟩ := hrel
    have HA := hide hall
    clear hall
    by_cases hlt : k < 8
    · have c := (unhide HX).quota k hlt
      by_cases hq : 0 < p.quota k
      · have hd : decide (0 < p.quota k) = true := by simpa using hq
        go_wp2
        go_round
        case rel => exact ⟨k + 1, by omega, by go_num, fun j hj => by
          by_cases ej : j = k
          · subst ej; exact hq
          · exact unhide HA j (by omega)⟩
        case measure => simp [intOf]; omega
      · have hd : decide (0 < p.quota k) = false := by simpa using hq
        go_wp2
        go_ret
        exact ⟨k, ⟨hk, fun _ => by omega, unhide HA⟩, rfl, rfl⟩
    · go_wp2
      go_ret
      exact ⟨k, ⟨hk, fun hh => absurd hh hlt, unhide HA⟩, rfl, rfl⟩
def qsum (p : ProgS) : Nat → Int
  | 0 => 0
  | n + 1 => qsum p n + p.quota n
theorem qsum_le {p : ProgS} (hf : ProgWf p) (n : Nat) (hn : n ≤ 8) : 0 ≤ qsum p n ∧ qsum p n ≤ 64 * n := by
  induction n with
  | zero => simp [qsum]
  | succ n ih =>
    have := ih (by omega)
    have := hf.quota n (by omega)
    simp only [qsum]
    omega
set_option maxHeartbeats 1000000 in
theorem quotas_any {w : World} {b : Nat} {p : ProgS} (h : XAt w b p) (hf : ProgWf p) :
    Calls Try.prog 48 #[.pointer (some ⟨b, 0, none⟩)] w fun e w' => e = .returned (.int .i64 (qsum p 8)) ∧ w' = w := by
  have HX := hide h
  clear h
  go_enter Try.func48, Try.ntmps48
  go_wp2
  go_loop [3, 4] (fun s i => ∃ k : Nat, k ≤ 8 ∧ i = .int .i64 k ∧ s = .int .i64 (qsum p k)) (fun _ i => 8 - (intOf i).toNat)
  case atStart => exact ⟨0, Nat.zero_le _, rfl, rfl⟩
  case round =>
    obtain ⟨k, hk, rfl, rfl⟩ := hrel
    by_cases hlt : k < 8
    · have c := (unhide HX).quota k hlt
      have hq := hf.quota k hlt
      have hs := qsum_le hf k (by omega)
      have E1 : Hid (qsum p (k + 1) = qsum p k + p.quota k) := rfl
      go_wp2
      go_round
      case rel => exact ⟨k + 1, by omega, by go_num, by rw [unhide E1]⟩
      case measure => simp [intOf]; omega
    · obtain rfl : k = 8 := by omega
      go_wp2
      go_ret
      exact ⟨rfl, rfl⟩
def isT (p : ProgS) (n : Int) : Bool := decide (0 ≤ n ∧ n < 8) && decide (0 < p.quota n.toNat)
set_option maxHeartbeats 1000000 in
theorem isTenant_any {w : World} {b : Nat} {p : ProgS} (h : XAt w b p) (n : Int) :
    Calls Try.prog 50 #[.pointer (some ⟨b, 0, none⟩), .int .i64 n] w fun e w' => e = .returned (.bool (isT p n)) ∧ w' = w := by
  by_cases h1 : 0 ≤ n ∧ n < 8
  · obtain ⟨k, rfl⟩ : ∃ k : Nat, n = (k : Int) := ⟨n.toNat, by omega⟩
    have c := h.quota k (by omega)
    have e1 : isT p (k : Int) = decide (0 < p.quota k) := by simp [isT, h1]
    rw [e1]
    clear h e1
    have h2 : (k : Int) < 8 := by omega
    have h3 : decide ((k : Int) < 8) = true := by simpa using h2
    clear h1
    go_enter Try.func50, Try.ntmps50
    go_wp2
    go_ret
    exact ⟨rfl, rfl⟩
  · have e1 : isT p n = false := by simp [isT, h1]
    rw [e1]
    clear h e1
    by_cases h2 : n < 0
    · have h3 : decide (0 ≤ n) = false := by simpa using h2
      clear h1
      go_enter Try.func50, Try.ntmps50
      go_wp2
      go_ret
      exact ⟨rfl, rfl⟩
    · have h3 : decide (n < 8) = false := by simp; omega
      have h4 : decide (0 ≤ n) = true := by simp; omega
      clear h1
      go_enter Try.func50, Try.ntmps50
      go_wp2
      go_ret
      exact ⟨rfl, rfl⟩
end Go.Proofs.Ytgndledehlilkaa
