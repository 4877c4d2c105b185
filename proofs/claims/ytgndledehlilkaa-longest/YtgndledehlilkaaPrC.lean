/-
  Walks: package routes: Len, At, place, standsAt, Has.
-/
import Derived.Test.YtgndledehlilkaaPrB
namespace Go.Proofs.Ytgndledehlilkaa
open Go.RowKit

section
variable {w : World} {b o n : Nat} {f : Nat → RouteD}
set_option maxHeartbeats 400000 in
theorem len_any (h : LAt w b o n f) : Calls Try.prog 57 #[.pointer (some ⟨b, o, none⟩)] w fun e w' => e = .returned (.int .i64 (n : Int)) ∧ w' = w := by
  have c := h.cnt
  clear h
  go_enter Try.func57, Try.ntmps57
  go_wp2
  go_ret
  exact ⟨rfl, rfl⟩
set_option maxHeartbeats 400000 in
theorem at_any (h : LAt w b o n f) {k : Nat} (hk : k < n) :
    Calls Try.prog 59 #[.pointer (some ⟨b, o, none⟩), .int .i64 (k : Int)] w fun e w' => e = .returned (.agg #[.int .i64 (f k).addr, .int .i64 (f k).len, .int .i64 (f k).hop, .int .i64 (f k).from_]) ∧ Still w w' := by
  have hm := h.most
  have c := h.cnt
  have c0 := h.addr k (by omega)
  have c1 := h.len k (by omega)
  have c2 := h.hop k (by omega)
  have c3 := h.frm k (by omega)
  have hb := h.lt
  have d1 : decide ((n : Int) ≤ (k : Int)) = false := by simp; omega
  clear h
  generalize f k = x at *
  go_enter Try.func59, Try.ntmps59
  go_wp2
  refine bodyPost_ret (v := .agg #[.int .i64 x.addr, .int .i64 x.len, .int .i64 x.hop, .int .i64 x.from_]) ?_ rfl ?_
  · simp [results, Try.results59, go_sem]
  · exact ⟨rfl, (Kept.refl _ _).alloc _⟩
/-- The place of a prefix. -/
def IsPl (f : Nat → RouteD) (n : Nat) (addr len : Int) (i : Nat) : Prop := i ≤ n ∧ (∀ j, j < i → befB (f j) addr len = true) ∧ (i < n → befB (f i) addr len = false)
set_option maxHeartbeats 1000000 in
theorem place_any (h : LAt w b o n f) (addr len : Int) :
    Calls Try.prog 61 #[.pointer (some ⟨b, o, none⟩), .int .i64 addr, .int .i64 len] w fun e w' => ∃ i : Nat, IsPl f n addr len i ∧ e = .returned (.int .i64 (i : Int)) ∧ Still w w' := by
  have hm := h.most
  have HX := hide h
  have hb := h.lt
  clear h
  go_enter Try.func61, Try.ntmps61
  go_wp2
  go_loopw [7] (fun s w' => ∃ k : Nat, k ≤ n ∧ s = .int .i64 k ∧ (∀ j, j < k → befB (f j) addr len = true) ∧ Still w w') (fun s _ => n - (intOf s).toNat)
  case atStart => exact ⟨0, Nat.zero_le _, rfl, fun j hj => absurd hj (Nat.not_lt_zero _), Kept.refl _ _⟩
  case round =>
    obtain ⟨k, hk, rfl, hall, hw⟩ := hrel
    have hx := (unhide HX).still hw
    have hbr : b < wr.heap.size := hx.lt
    have c := hx.cnt
    have HA := hide hall
    have HW := hide hw
    clear hall hw
    by_cases hlt : k < n
    · have c0 := hx.addr k (by omega)
      have c1 := hx.len k (by omega)
      clear hx
      have d1 : decide ((k : Int) < (n : Int)) = true := by simp; omega
      cases hbf : befB (f k) addr len with
      | true =>
        have HB := hide hbf
        clear hbf
        go_wp2_with fail
        go_quiet ((go_at_call 67; exact Calls.quiet_of_same (before_any _ _ _ _)))
        rw [unhide HB]
        go_wp2
        go_roundw
        case rel => exact ⟨k + 1, by omega, by go_num, fun j hj => by
          by_cases ej : j = k
          · subst ej; exact unhide HB
          · exact unhide HA j (by omega), (unhide HW).drewN _⟩
        case measure => simp [intOf]; omega
      | false =>
        have HB := hide hbf
        clear hbf
        go_wp2_with fail
        go_quiet ((go_at_call 67; exact Calls.quiet_of_same (before_any _ _ _ _)))
        rw [unhide HB]
        go_wp2
        go_ret
        exact ⟨k, ⟨hk, unhide HA, fun _ => unhide HB⟩, rfl, (unhide HW).drewN _⟩
    · clear hx
      have d1 : decide ((k : Int) < (n : Int)) = false := by simp; omega
      go_wp2_with fail
      go_quiet (fail)
      go_wp2
      go_ret
      exact ⟨k, ⟨hk, unhide HA, fun hh => absurd hh hlt⟩, rfl, (unhide HW).drewN _⟩
def stB (f : Nat → RouteD) (n k : Nat) (addr len : Int) : Bool := decide (k < n) && ((f k).addr == addr && (f k).len == len)
set_option maxHeartbeats 1000000 in
theorem stands_any (h : LAt w b o n f) (k : Nat) (addr len : Int) :
    Calls Try.prog 62 #[.pointer (some ⟨b, o, none⟩), .int .i64 (k : Int), .int .i64 addr, .int .i64 len] w fun e w' => e = .returned (.bool (stB f n k addr len)) ∧ w' = w := by
  have hm := h.most
  have c := h.cnt
  by_cases hlt : k < n
  · have c0 := h.addr k (by omega)
    have c1 := h.len k (by omega)
    have e1 : stB f n k addr len = ((f k).addr == addr && (f k).len == len) := by unfold stB; rw [show decide (k < n) = true from by simpa using hlt]; rfl
    rw [e1]
    have d1 : decide ((k : Int) < (n : Int)) = true := by simp; omega
    clear h e1
    generalize f k = x at *
    cases ha : ((x.addr == addr) : Bool) with
    | true =>
      go_enter Try.func62, Try.ntmps62
      go_wp2
      go_ret
      exact ⟨rfl, rfl⟩
    | false =>
      go_enter Try.func62, Try.ntmps62
      go_wp2
      go_ret
      exact ⟨rfl, rfl⟩
  · have e1 : stB f n k addr len = false := by unfold stB; rw [show decide (k < n) = false from by simpa using hlt]; rfl
    rw [e1]
    have d1 : decide ((k : Int) < (n : Int)) = false := by simp; omega
    clear h e1
    go_enter Try.func62, Try.ntmps62
    go_wp2
    go_ret
    exact ⟨rfl, rfl⟩
set_option maxHeartbeats 1000000 in
theorem hasL_any (h : LAt w b o n f) (addr len : Int) :
    Calls Try.prog 68 #[.pointer (some ⟨b, o, none⟩), .int .i64 addr, .int .i64 len] w fun e w' => ∃ i : Nat, IsPl f n addr len i ∧ e = .returned (.bool (stB f n i addr len)) ∧ Still w w' := by
  have HX := hide h
  go_enter Try.func68, Try.ntmps68
  go_wp2_with fail
  refine (place_any h _ _).mono ?_
  rintro e w1 ⟨i, hi, rfl, hs⟩
  clear h
  have HI := hide hi
  have HS := hide hs
  clear hi hs
  go_wp2_with (go_at_call 62; refine (stands_any ((unhide HX).still (unhide HS)) _ _ _).mono ?_; rintro e w' ⟨rfl, hw⟩; replace hw := hw.symm; subst hw)
  go_ret
  exact ⟨i, unhide HI, rfl, unhide HS⟩
end
end Go.Proofs.Ytgndledehlilkaa
