/-
  Walks: package wire: reading the bytes of requests.
-/
import Derived.Test.YtgndledehlilkabDoP
import Derived.Laws.BitsLemmas
namespace Go.Proofs.Ytgndledehlilkab
open Go.RowKit

theorem wrap_u8i {x : Int} (h0 : 0 ≤ x) (h1 : x ≤ 255) : IntKind.i64.wrap x = x := by
  unfold IntKind.wrap; simp [IntKind.bits, IntKind.signed]; omega
set_option maxHeartbeats 400000 in
theorem byte_any {w : World} {a : Option Addr} {n c : Nat} {S : List Int} (h : BytesIn w (.slice a n c) S) (k : Int) (hk : 0 ≤ k) (hk2 : k ≤ 1000000) :
    Calls Try.prog 19 #[.slice a n c, .int .i64 k] w fun en w' => en = .returned (.int .i64 (fB S k.toNat)) ∧ w' = w := by
  obtain ⟨a', c', e, hl⟩ := h.slice
  simp only [Value.slice.injEq] at e
  obtain ⟨rfl, rfl, rfl⟩ := e
  obtain ⟨b0, b1⟩ := fB_ok h.1 k.toNat
  by_cases hlt : k < S.length
  · obtain ⟨bs, off, rfl, _, hc⟩ := h.at (k := k.toNat) (by omega)
    have hw := wrap_u8i b0 b1
    clear h
    generalize fB S k.toNat = x at *
    go_enter Try.func19, Try.ntmps19
    go_wp2
    go_ret
    exact ⟨rfl, rfl⟩
  · have e0 : fB S k.toNat = 0 := fB_out (by omega)
    rw [e0]
    clear h e0 b0 b1
    go_enter Try.func19, Try.ntmps19
    go_wp2
    go_ret
    exact ⟨rfl, rfl⟩

theorem i64_or8 {x y : Int} (hx0 : 0 ≤ x) (hx1 : x ≤ 255) (hy0 : 0 ≤ y) (hy1 : y ≤ 255) : bits .or .i64 (x * 256) y = 256 * x + y := by
  rw [bits_join .i64 63 (by decide) (fun n h0 h1 => by rw [IntKind.wrap_i64]; omega) 8 (x * 256) y (by omega) (by omega) (by omega) (by omega) (by omega) (by omega)]
  omega
set_option maxHeartbeats 400000 in
theorem word_any {w : World} {a : Option Addr} {n c : Nat} {S : List Int} (h : BytesIn w (.slice a n c) S) (k : Int) (hk : 0 ≤ k) (hk2 : k ≤ 100000) :
    Calls Try.prog 51 #[.slice a n c, .int .i64 k] w fun en w' => en = .returned (.int .i64 (fW S k.toNat)) ∧ w' = w := by
  have H := hide h
  obtain ⟨b0, b1⟩ := fB_ok h.1 k.toNat
  obtain ⟨b2, b3⟩ := fB_ok h.1 (k.toNat + 1)
  have e1 : fW S k.toNat = 256 * fB S k.toNat + fB S (k.toNat + 1) := rfl
  have e2 : (k + 1).toNat = k.toNat + 1 := by omega
  have ho := i64_or8 b0 b1 b2 b3
  rw [e1]
  clear h e1
  go_enter Try.func51, Try.ntmps51
  go_wp2_with (go_at_call 19; refine (byte_any (unhide H) _ (by omega) (by omega)).mono ?_; rintro e w' ⟨rfl, hw⟩; replace hw := hw.symm; subst hw)
  go_ret
  exact ⟨rfl, rfl⟩
set_option maxHeartbeats 400000 in
theorem flag_any {w : World} {a : Option Addr} {n c : Nat} {S : List Int} (h : BytesIn w (.slice a n c) S) (k : Int) (hk : 0 ≤ k) (hk2 : k ≤ 100000) :
    Calls Try.prog 54 #[.slice a n c, .int .i64 k] w fun en w' => en = .returned (.bool (fB S k.toNat == 1)) ∧ w' = w := by
  have H := hide h
  clear h
  go_enter Try.func54, Try.ntmps54
  go_wp2_with (go_at_call 19; refine (byte_any (unhide H) _ (by omega) (by omega)).mono ?_; rintro e w' ⟨rfl, hw⟩; replace hw := hw.symm; subst hw)
  go_ret
  exact ⟨rfl, rfl⟩
set_option maxHeartbeats 1000000 in
theorem size_any {w : World} {a : Option Addr} {n c : Nat} {S : List Int} (h : BytesIn w (.slice a n c) S) :
    Calls Try.prog 48 #[.slice a n c] w fun en w' => en = .returned (.int .i64 (sizeB S)) ∧ w' = w := by
  have H := hide h
  obtain ⟨b0, b1⟩ := fB_ok h.1 3
  clear h
  unfold sizeB
  have hx : ∃ x, fB S 0 = x := ⟨_, rfl⟩
  obtain ⟨x, hx⟩ := hx
  rw [hx]
  rcases (by omega : x = 1 ∨ x = 2 ∨ x = 3 ∨ x = 4 ∨ x = 5 ∨ x = 6 ∨ x = 7 ∨ x = 8 ∨ x = 9 ∨ x = 10 ∨ x = 11 ∨ x = 12 ∨ (x ≠ 1 ∧ x ≠ 2 ∧ x ≠ 3 ∧ x ≠ 4 ∧ x ≠ 5 ∧ x ≠ 6 ∧ x ≠ 7 ∧ x ≠ 8 ∧ x ≠ 9 ∧ x ≠ 10 ∧ x ≠ 11 ∧ x ≠ 12)) with rfl | rfl | rfl | rfl | rfl | rfl | rfl | rfl | rfl | rfl | rfl | rfl | ⟨n1, n2, n3, n4, n5, n6, n7, n8, n9, n10, n11, n12⟩
  case inr.inr.inr.inr.inr.inr.inr.inr.inr.inr.inr.inr =>
    rw [if_neg (by omega), if_neg (by omega), if_neg (by omega), if_neg (by omega), if_neg (by omega), if_neg (by omega), if_neg (by omega)]
    rw [← beq_eq_false_iff_ne] at n1 n2 n3 n4 n5 n6 n7 n8 n9 n10 n11 n12
    go_enter Try.func48, Try.ntmps48
    go_wp2_with (go_at_call 19; refine (byte_any (unhide H) _ (by omega) (by omega)).mono ?_; rintro e w' ⟨rfl, hw⟩; replace hw := hw.symm; subst hw)
    go_ret
    exact ⟨rfl, rfl⟩
  all_goals
    simp only [Int.reduceEq, or_true, or_false, if_true, if_false, or_self]
    go_enter Try.func48, Try.ntmps48
    go_wp2_with (go_at_call 19; refine (byte_any (unhide H) _ (by omega) (by omega)).mono ?_; rintro e w' ⟨rfl, hw⟩; replace hw := hw.symm; subst hw)
    go_ret
    exact ⟨rfl, rfl⟩
set_option maxHeartbeats 1000000 in
theorem flagsFit_any {w : World} {a : Option Addr} {n c : Nat} {S : List Int} (h : BytesIn w (.slice a n c) S) :
    Calls Try.prog 49 #[.slice a n c] w fun en w' => en = .returned (.bool (flagsB S)) ∧ w' = w := by
  have H := hide h
  obtain ⟨b0, b1⟩ := fB_ok h.1 3
  clear h
  unfold flagsB
  by_cases h10 : fB S 0 = 10
  · rw [if_pos h10]
    go_enter Try.func49, Try.ntmps49
    go_wp2_with (go_at_call 19; refine (byte_any (unhide H) _ (by omega) (by omega)).mono ?_; rintro e w' ⟨rfl, hw⟩; replace hw := hw.symm; subst hw)
    go_ret
    exact ⟨rfl, rfl⟩
  · rw [if_neg h10]
    by_cases h8 : fB S 0 = 8
    · rw [if_pos h8]
      clear h10
      obtain ⟨N3, hN3⟩ : ∃ m : Nat, fB S 3 = (m : Int) := ⟨(fB S 3).toNat, by omega⟩
      rw [hN3] at b0 b1
      have e3 : (fB S 3).toNat = N3 := by omega
      rw [e3]
      clear e3
      go_enter Try.func49, Try.ntmps49
      go_wp2_with (go_at_call 19; refine (byte_any (unhide H) _ (by omega) (by omega)).mono ?_; rintro e w' ⟨rfl, hw⟩; replace hw := hw.symm; subst hw)
      go_loopw [3] (fun t w' => ∃ i : Nat, i ≤ N3 ∧ t = .int .i64 i ∧ flagsTo S i = true ∧ w' = w) (fun t _ => N3 - (intOf t).toNat)
      case atStart => exact ⟨0, Nat.zero_le _, rfl, flagsTo_zero S, rfl⟩
      case round =>
        obtain ⟨i, hi, rfl, hf, rfl⟩ := hrel
        have HF := hide hf
        clear hf
        by_cases hlt : i < N3
        · have hsu := hide (flagsTo_succ S i)
          have ek : (4 + 6 * (i : Int)).toNat = 4 + 6 * i := by omega
          by_cases hy : fB S (4 + 6 * i) ≤ 1
          · have HY := hide hy
            go_wp2_with (go_at_call 19; refine (byte_any (unhide H) _ (by omega) (by omega)).mono ?_; rintro e w' ⟨rfl, hw⟩; replace hw := hw.symm; subst hw)
            go_roundw
            case rel => exact ⟨i + 1, by omega, by go_num, by rw [unhide hsu, unhide HF, decide_eq_true (unhide HY)]; rfl, trivial⟩
            case measure => simp [intOf]; omega
          · have hfin : flagsTo S N3 = false := flagsTo_mono (k := i + 1) (by omega) (by rw [unhide hsu, unhide HF, decide_eq_false hy]; rfl)
            have HFI := hide hfin
            clear hfin
            go_wp2_with (go_at_call 19; refine (byte_any (unhide H) _ (by omega) (by omega)).mono ?_; rintro e w' ⟨rfl, hw⟩; replace hw := hw.symm; subst hw)
            go_ret
            exact ⟨by rw [unhide HFI]; rfl, rfl⟩
        · obtain rfl : i = N3 := by omega
          go_wp2_with (go_at_call 19; refine (byte_any (unhide H) _ (by omega) (by omega)).mono ?_; rintro e w' ⟨rfl, hw⟩; replace hw := hw.symm; subst hw)
          go_ret
          exact ⟨by rw [unhide HF]; rfl, rfl⟩
    · rw [if_neg h8]
      rw [← ne_eq, ← beq_eq_false_iff_ne] at h8 h10
      go_enter Try.func49, Try.ntmps49
      go_wp2_with (go_at_call 19; refine (byte_any (unhide H) _ (by omega) (by omega)).mono ?_; rintro e w' ⟨rfl, hw⟩; replace hw := hw.symm; subst hw)
      go_ret
      exact ⟨rfl, rfl⟩
set_option maxHeartbeats 400000 in
theorem isRequest_any {w : World} {a : Option Addr} {n c : Nat} {S : List Int} (h : BytesIn w (.slice a n c) S) :
    Calls Try.prog 17 #[.slice a n c] w fun en w' => en = .returned (.bool (isReq S)) ∧ w' = w := by
  obtain ⟨a', c', e, hl⟩ := h.slice
  simp only [Value.slice.injEq] at e
  obtain ⟨rfl, rfl, rfl⟩ := e
  have er : isReq S = (((S.length : Int) == sizeB S) && flagsB S) := rfl
  rw [er]
  have HS := hide (size_any h)
  have HF := hide (flagsFit_any h)
  clear er h
  generalize sizeB S = z at *
  generalize flagsB S = fl at *
  cases hq : ((S.length : Int) == z)
  all_goals
    go_enter Try.func17, Try.ntmps17
    go_wp2_with fail
    refine (unhide HS).mono ?_
    rintro en w1 ⟨rfl, hw⟩
    replace hw := hw.symm
    subst hw
    go_wp2_with (go_at_call 49; refine (unhide HF).mono ?_; rintro e w' ⟨rfl, hw⟩; replace hw := hw.symm; subst hw)
    go_ret
    exact ⟨rfl, rfl⟩
end Go.Proofs.Ytgndledehlilkab
