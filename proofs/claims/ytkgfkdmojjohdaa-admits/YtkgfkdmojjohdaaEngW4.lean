/-
  Walks: district: New, Create.
-/
import Derived.Test.YtkgfkdmojjohdaaEngW3
namespace Go.Proofs.Ytkgfkdmojjohdaa
open Go.RowKit

def newP (room : Int) : ProgS := ⟨room, fun _ => 0, 0, fun _ => 0, fun _ => 0, fun _ => 0, fun _ => false⟩
def entry0 : List Value := [.int .i64 0, .int .i64 0, .int .i64 0, .bool false]
theorem zeroCells_eq : Try.zeroCells63 = (List.replicate 10 (Value.int .i64 0) ++ enc 100 (fun _ => entry0)).toArray := by kernel_rfl
theorem zero_low (n : Int) {i : Nat} (h0 : i ≠ 0) (h : i < 10) : (Try.zeroCells63.setIfInBounds 0 (.int .i64 n))[i]? = some (.int .i64 0) := by
  rw [Array.getElem?_setIfInBounds_ne (Ne.symm h0), zeroCells_eq]
  simp only [List.getElem?_toArray]
  rw [List.getElem?_append_left (by simpa using h), List.getElem?_replicate, if_pos h]
theorem zero_high (n : Int) {k j : Nat} (hk : k < 100) (hj : j < 4) : (Try.zeroCells63.setIfInBounds 0 (.int .i64 n))[10 + k * 4 + j]? = entry0[j]? := by
  rw [Array.getElem?_setIfInBounds_ne (by omega), zeroCells_eq]
  simp only [List.getElem?_toArray]
  rw [List.getElem?_append_right (by simp; omega)]
  rw [show 10 + k * 4 + j - (List.replicate 10 (Value.int .i64 0)).length = k * 4 + j from by simp; omega]
  exact enc_at (fun _ _ => rfl) hk hj
theorem zero_zero (n : Int) : (Try.zeroCells63.setIfInBounds 0 (.int .i64 n))[0]? = some (.int .i64 n) := by
  simp
theorem newP_at (n : Int) (w : World) : XAt (w.alloc (.cells (Try.zeroCells63.setIfInBounds 0 (.int .i64 n)) 63)) w.heap.size (newP n) := by
  refine ⟨by simp, fun j => World.frozen?_alloc_new _ _ _ _, ?_, ?_, ?_, ?_, ?_, ?_, ?_⟩
  · rw [World.cell?_alloc_new]; exact zero_zero n
  · intro i hi; rw [World.cell?_alloc_new]; exact zero_low n (by omega) (by omega)
  · rw [World.cell?_alloc_new]; exact zero_low n (by omega) (by omega)
  · intro k hk; rw [World.cell?_alloc_new]; exact zero_high n hk (j := 0) (by omega)
  · intro k hk; rw [World.cell?_alloc_new]; exact zero_high n hk (j := 1) (by omega)
  · intro k hk; rw [World.cell?_alloc_new]; exact zero_high n hk (j := 2) (by omega)
  · intro k hk; rw [World.cell?_alloc_new]; exact zero_high n hk (j := 3) (by omega)
set_option maxHeartbeats 400000 in
theorem engNew_yes (n : Int) (w : World) (h1 : 1 ≤ n) (h2 : n ≤ 64) :
    Calls Try.prog 7 #[.int .i64 n] w fun e w' => e = .returned (.tuple #[.pointer (some ⟨w.heap.size, 0, none⟩), .int .i64 0]) ∧ XAt w' w.heap.size (newP n) ∧ Still w w' ∧ w'.heap.size = w.heap.size + 1 := by
  have h3 : decide (64 < n) = false := by simp; omega
  have HX := hide (newP_at n w)
  go_enter Try.func7, Try.ntmps7
  go_wp2
  go_ret2
  exact ⟨rfl, unhide HX, (Kept.refl _ _).alloc _, by simp⟩
set_option maxHeartbeats 400000 in
theorem engNew_no (n : Int) (w : World) (h : n < 1 ∨ 64 < n) :
    Calls Try.prog 7 #[.int .i64 n] w fun e w' => e = .returned (.tuple #[.pointer none, .int .i64 2]) ∧ w' = w := by
  by_cases h1 : n < 1
  · clear h
    go_enter Try.func7, Try.ntmps7
    go_wp2
    go_ret2
    exact ⟨rfl, rfl⟩
  · have h3 : decide (64 < n) = true := by simp; omega
    clear h
    go_enter Try.func7, Try.ntmps7
    go_wp2
    go_ret2
    exact ⟨rfl, rfl⟩

def createX (p : ProgS) (n : Nat) (quota : Int) : Int :=
  if quota < 1 ∨ 64 < quota then 2 else if 8 ≤ n then 5 else if p.room < qsum p 8 + quota then 6 else if 100 ≤ p.given then 7 else 0
def createXS (p : ProgS) (n : Nat) (quota : Int) : ProgS := { addS p n 15 0 with quota := upd p.quota n quota }
def createXPost (w : World) (b : Nat) (p : ProgS) (quota : Int) (en : Ending) (w' : World) : Prop := ∃ n : Nat, freeX p n ∧
  ((createX p n quota ≠ 0 ∧ en = .returned (.tuple #[.int .i64 0, .int .i64 0, .int .i64 (createX p n quota)]) ∧ XAt w' b p ∧ Kept (· = b) w w') ∨
  (createX p n quota = 0 ∧ en = .returned (.tuple #[.int .i64 n, .int .i64 ((p.given : Int) + 1), .int .i64 0]) ∧ XAt w' b (createXS p n quota) ∧ Kept (· = b) w w'))
theorem free_exists (p : ProgS) : ∃ n, freeX p n := by
  have key : ∀ m, m ≤ 8 → (∃ n, freeX p n) ∨ ∀ j, j < m → 0 < p.quota j := by
    intro m
    induction m with
    | zero => intro _; right; intro j hj; omega
    | succ m ih =>
      intro hm
      rcases ih (by omega) with h | h
      · exact Or.inl h
      · by_cases hq : 0 < p.quota m
        · right
          intro j hj
          by_cases e : j = m
          · subst e; exact hq
          · exact h j (by omega)
        · exact Or.inl ⟨m, by omega, fun _ => by omega, h⟩
  rcases key 8 (Nat.le_refl _) with h | h
  · exact h
  · exact ⟨8, Nat.le_refl _, fun hh => absurd hh (by omega), h⟩
set_option maxHeartbeats 2000000 in
theorem engCreate_any {w : World} {b : Nat} {p : ProgS} (h : XAt w b p) (hf : ProgWf p) (quota : Int) :
    Calls Try.prog 17 #[.pointer (some ⟨b, 0, none⟩), .int .i64 quota] w fun en w' => createXPost w b p quota en w' := by
  by_cases hq : quota < 1 ∨ 64 < quota
  · obtain ⟨n, hn⟩ := free_exists p
    have e1 : createX p n quota = 2 := by unfold createX; rw [if_pos hq]
    have HP : Hid (createXPost w b p quota (.returned (.tuple #[.int .i64 0, .int .i64 0, .int .i64 2])) w) := ⟨n, hn, Or.inl ⟨by rw [e1]; omega, by rw [e1], h, Kept.refl _ _⟩⟩
    clear e1 hn
    by_cases h1 : quota < 1
    · clear hq
      go_enter Try.func17, Try.ntmps17
      go_wp2
      go_ret3
      exact unhide HP
    · have h3 : decide (64 < quota) = true := by simp; omega
      clear hq
      go_enter Try.func17, Try.ntmps17
      go_wp2
      go_ret3
      exact unhide HP
  · have h1 : ¬ quota < 1 := by omega
    have h3 : decide (64 < quota) = false := by simp; omega
    have hq1 : 1 ≤ quota := by omega
    have hq2 : quota ≤ 64 := by omega
    have HQ := hide hq
    clear hq
    have hs := qsum_le hf 8 (Nat.le_refl _)
    have hrm := hf.room
    go_enter Try.func17, Try.ntmps17
    go_wp2_with fail
    refine (freeNumber_any h).mono ?_
    rintro e w' ⟨n, hn, rfl, hww⟩
    replace hww := hww.symm
    subst hww
    have HN := hide hn
    have hn8 := hn.1
    clear hn
    by_cases hn1 : 8 ≤ n
    · have e1 : createX p n quota = 5 := by unfold createX; rw [if_neg (unhide HQ), if_pos hn1]
      have HP : Hid (createXPost w b p quota (.returned (.tuple #[.int .i64 0, .int .i64 0, .int .i64 5])) w) := ⟨n, unhide HN, Or.inl ⟨by rw [e1]; omega, by rw [e1], h, Kept.refl _ _⟩⟩
      clear e1
      go_wp2
      go_ret3
      exact unhide HP
    · have c0 := h.room
      have hb := h.lt
      go_wp2_with fail
      go_quiet ((go_at_call 45; exact Calls.quiet_of_same (quotas_any (h.still ((Kept.refl _ _).drewN _)) hf)))
      by_cases hs6 : p.room < qsum p 8 + quota
      · have e1 : createX p n quota = 6 := by unfold createX; rw [if_neg (unhide HQ), if_neg hn1, if_pos hs6]
        have HP : Hid (createXPost w b p quota (.returned (.tuple #[.int .i64 0, .int .i64 0, .int .i64 6])) (w.drewN nq)) := ⟨n, unhide HN, Or.inl ⟨by rw [e1]; omega, by rw [e1], h.still ((Kept.refl _ _).drewN _), (Kept.refl _ _).drewN _⟩⟩
        clear e1
        go_wp2
        go_ret3
        exact unhide HP
      · have hx : XAt (w.drewN nq) b p := h.still ((Kept.refl _ _).drewN _)
        have hk : Kept (· = b) w (w.drewN nq) := (Kept.refl _ _).drewN _
        have HX := hide hx
        have HK := hide hk
        clear hx hk h
        generalize w.drewN nq = W at *
        by_cases h100 : 100 ≤ p.given
        · have e1 : createX p n quota = 7 := by unfold createX; rw [if_neg (unhide HQ), if_neg hn1, if_neg hs6, if_pos h100]
          have E1 := hide e1
          clear e1
          go_wp2_with (go_at_call 46; refine (first_no (unhide HX) _ h100).mono ?_; rintro e w' ⟨rfl, hx2, hw2⟩)
          go_ret3
          exact ⟨n, unhide HN, Or.inl ⟨by rw [unhide E1]; omega, by rw [unhide E1]; rfl, hx2, Kept.trans (unhide HK) hw2⟩⟩
        · have e1 : createX p n quota = 0 := by unfold createX; rw [if_neg (unhide HQ), if_neg hn1, if_neg hs6, if_neg h100]
          have E1 := hide e1
          clear e1
          go_wp2_with (go_at_call 46; refine (first_yes (unhide HX) _ (by omega)).mono ?_; rintro e w' ⟨rfl, hx2, hw2⟩; have cq := hx2.quota n (by omega); have fz := hx2.fz)
          go_ret3
          exact ⟨n, unhide HN, Or.inr ⟨unhide E1, rfl, hx2.setQuota (by omega) quota, Kept.setAt (Kept.trans (unhide HK) hw2) _ _⟩⟩
end Go.Proofs.Ytkgfkdmojjohdaa
