/-
  Walks: district: Create, New.
-/
import Derived.Test.YtgndledehlilkabPrS
namespace Go.Proofs.Ytgndledehlilkab
open Go.RowKit

def newP (room : Int) : ProgS := ⟨room, fun _ => 0, fun _ => 0, fun _ => 0, fun _ => [], fun _ => [], 0, fun _ => 0, fun _ => 0, fun _ => 0, fun _ => false⟩
def entry0 : List Value := [.int .i64 0, .int .i64 0, .int .i64 0, .bool false]
def engCells (n : Int) : List Value := [.int .i64 n] ++ (enc 8 (fun _ => memCells 0) ++ ([.int .i64 0] ++ enc 100 (fun _ => entry0)))
theorem zeroEng : Try.zeroCells71 = (engCells 0).toArray := by kernel_rfl
theorem zeroEng_set (n : Int) : Try.zeroCells71.setIfInBounds 0 (.int .i64 n) = (engCells n).toArray := by
  rw [zeroEng]
  simp [engCells]
theorem enc_range {w : World} {b o n s : Nat} {f : Nat → List Value} (h : w.rangeAt b o (enc n f)) (hs : ∀ i, i < n → (f i).length = s) {i : Nat} (hi : i < n) : w.rangeAt b (o + i * s) (f i) := by
  intro j v hv
  have hj : j < s := by have := (List.getElem?_eq_some_iff.1 hv).1; rw [hs i hi] at this; exact this
  have := h (i * s + j) v (by rw [enc_at hs hi hj]; exact hv)
  rw [← Nat.add_assoc] at this
  exact this
theorem newP_at (n : Int) (w : World) : XAt (w.alloc (.cells (Try.zeroCells71.setIfInBounds 0 (.int .i64 n)) 71)) w.heap.size (newP n) := by
  rw [zeroEng_set]
  have hr : (w.alloc (.cells (engCells n).toArray 71)).rangeAt w.heap.size 0 (engCells n) := by
    intro j v hv
    rw [World.cell?_alloc_new, Nat.zero_add]
    simpa using hv
  have hl : w.heap.size < (w.alloc (.cells (engCells n).toArray 71)).heap.size := by simp
  have hf : ∀ j, (w.alloc (.cells (engCells n).toArray 71)).frozen? ⟨w.heap.size, j, none⟩ = false := fun j => World.frozen?_alloc_new _ _ _ _
  generalize w.alloc (.cells (engCells n).toArray 71) = w' at *
  generalize w.heap.size = s at *
  unfold engCells at hr
  obtain ⟨r0, r1⟩ := rangeAt_append hr
  obtain ⟨r2, r3⟩ := rangeAt_append r1
  have hm : ∀ i, i < 8 → (memCells 0).length = 281 := fun _ _ => memCells_len 0
  rw [enc_length hm] at r3
  obtain ⟨r4, r5⟩ := rangeAt_append r3
  simp only [List.length_cons, List.length_nil, Nat.zero_add] at r2 r4 r5
  have he : ∀ i, i < 100 → entry0.length = 4 := fun _ _ => rfl
  have ep : padR [] = fun _ => ru0 := by funext j; simp [padR]
  have eq : pad [] = fun _ => rt0 := by funext j; simp [pad]
  have key : ∀ i, i < 8 → w'.rangeAt s (1 + i * 281) [.int .i64 0, .int .i64 0, .int .i64 0] ∧ w'.rangeAt s (1 + i * 281 + 3) (rulesCells 0 (fun _ => ru0)) ∧ w'.rangeAt s (1 + i * 281 + 24) (listCells 0 (fun _ => rt0)) := fun i hi => by
    have h0 := enc_range r2 hm hi
    unfold memCells at h0
    obtain ⟨a1, a2⟩ := rangeAt_append h0
    obtain ⟨a3, a4⟩ := rangeAt_append a2
    rw [rulesCells_len] at a4
    exact ⟨a1, a3, a4⟩
  have key2 : ∀ i, i < 100 → w'.rangeAt s (2250 + i * 4) entry0 := fun i hi => enc_range r5 he hi
  refine ⟨hl, hf, r0 0 _ rfl, ?_, ?_, ?_, ?_, ?_, r4 0 _ rfl, ?_, ?_, ?_, ?_⟩
  · intro i hi; exact (key i hi).1 0 _ rfl
  · intro i hi; exact (key i hi).1 1 _ rfl
  · intro i hi; exact (key i hi).1 2 _ rfl
  · intro i hi; show RAt w' s (1 + i * 281 + 3) 0 (padR []); rw [ep]; exact RAt.ofRange hl hf (Nat.zero_le _) (key i hi).2.1
  · intro i hi; show LAt w' s (1 + i * 281 + 24) 0 (pad []); rw [eq]; exact LAt.ofRange hl hf (Nat.zero_le _) (key i hi).2.2
  · intro i hi; exact key2 i hi 0 _ rfl
  · intro i hi; exact key2 i hi 1 _ rfl
  · intro i hi; exact key2 i hi 2 _ rfl
  · intro i hi; exact key2 i hi 3 _ rfl
set_option maxHeartbeats 400000 in
theorem engNew_yes (n : Int) (w : World) (h1 : 1 ≤ n) (h2 : n ≤ 64) :
    Calls Try.prog 5 #[.int .i64 n] w fun e w' => e = .returned (.tuple #[.pointer (some ⟨w.heap.size, 0, none⟩), .int .i64 0]) ∧ XAt w' w.heap.size (newP n) ∧ Still w w' ∧ w'.heap.size = w.heap.size + 1 := by
  have h3 : decide (64 < n) = false := by simp; omega
  have HX := hide (newP_at n w)
  go_enter Try.func5, Try.ntmps5
  go_wp2
  go_ret2
  exact ⟨rfl, unhide HX, (Kept.refl _ _).alloc _, by simp⟩
set_option maxHeartbeats 400000 in
theorem engNew_no (n : Int) (w : World) (h : n < 1 ∨ 64 < n) :
    Calls Try.prog 5 #[.int .i64 n] w fun e w' => e = .returned (.tuple #[.pointer none, .int .i64 2]) ∧ w' = w := by
  by_cases h1 : n < 1
  · clear h
    go_enter Try.func5, Try.ntmps5
    go_wp2
    go_ret2
    exact ⟨rfl, rfl⟩
  · have h3 : decide (64 < n) = true := by simp; omega
    clear h
    go_enter Try.func5, Try.ntmps5
    go_wp2
    go_ret2
    exact ⟨rfl, rfl⟩

def createX (p : ProgS) (n : Nat) (quota : Int) : Int :=
  if quota < 1 ∨ 64 < quota then 2 else if 8 ≤ n then 5 else if p.room < qsum p 8 + quota then 6 else if 100 ≤ p.given then 7 else 0
def createXS (p : ProgS) (n : Nat) (quota : Int) : ProgS := clrX (addS p n 15 0) n quota
def createXPost (w : World) (b : Nat) (p : ProgS) (quota : Int) (en : Ending) (w' : World) : Prop := ∃ n : Nat, freeX p n ∧
  ((createX p n quota ≠ 0 ∧ en = .returned (.tuple #[.int .i64 0, .int .i64 0, .int .i64 (createX p n quota)]) ∧ XAt w' b p ∧ Kept (· = b) w w') ∨
  (createX p n quota = 0 ∧ en = .returned (.tuple #[.int .i64 n, .int .i64 ((p.given : Int) + 1), .int .i64 0]) ∧ XAt w' b (createXS p n quota) ∧ Kept (· = b) w w'))
theorem free_exists (p : ProgS) : ∃ n, freeX p n := by
  have key : ∀ m, m ≤ 8 → (∃ n, freeX p n) ∨ ∀ j, j < m → 0 < p.quota j := by
    intro m
    induction m with
    | zero => intro _; right; intro j hj; omega
    | succ m ih =>
      intro hm
      rcases ih (by omega) with h | h
      · exact Or.inl h
      · by_cases hq : 0 < p.quota m
        · right
          intro j hj
          by_cases e : j = m
          · subst e; exact hq
          · exact h j (by omega)
        · exact Or.inl ⟨m, by omega, fun _ => by omega, h⟩
  rcases key 8 (Nat.le_refl _) with h | h
  · exact h
  · exact ⟨8, Nat.le_refl _, fun hh => absurd hh (by omega), h⟩
set_option maxHeartbeats 2000000 in
theorem engCreate_any {w : World} {b : Nat} {p : ProgS} (h : XAt w b p) (hf : ProgWf p) (quota : Int) :
    Calls Try.prog 16 #[.pointer (some ⟨b, 0, none⟩), .int .i64 quota] w fun en w' => createXPost w b p quota en w' := by
  by_cases hq : quota < 1 ∨ 64 < quota
  · obtain ⟨n, hn⟩ := free_exists p
    have e1 : createX p n quota = 2 := by unfold createX; rw [if_pos hq]
    have HP : Hid (createXPost w b p quota (.returned (.tuple #[.int .i64 0, .int .i64 0, .int .i64 2])) w) := ⟨n, hn, Or.inl ⟨by rw [e1]; omega, by rw [e1], h, Kept.refl _ _⟩⟩
    clear e1 hn
    by_cases h1 : quota < 1
    · clear hq
      go_enter Try.func16, Try.ntmps16
      go_wp2
      go_ret3
      exact unhide HP
    · have h3 : decide (64 < quota) = true := by simp; omega
      clear hq
      go_enter Try.func16, Try.ntmps16
      go_wp2
      go_ret3
      exact unhide HP
  · have h1 : ¬ quota < 1 := by omega
    have h3 : decide (64 < quota) = false := by simp; omega
    have hq1 : 1 ≤ quota := by omega
    have hq2 : quota ≤ 64 := by omega
    have HQ := hide hq
    clear hq
    have hs := qsum_le hf 8 (Nat.le_refl _)
    have hrm := hf.room
    go_enter Try.func16, Try.ntmps16
    go_wp2_with fail
    refine (freeNumber_any h).mono ?_
    rintro e w' ⟨n, hn, rfl, hww⟩
    replace hww := hww.symm
    subst hww
    have HN := hide hn
    have hn8 := hn.1
    clear hn
    by_cases hn1 : 8 ≤ n
    · have e1 : createX p n quota = 5 := by unfold createX; rw [if_neg (unhide HQ), if_pos hn1]
      have HP : Hid (createXPost w b p quota (.returned (.tuple #[.int .i64 0, .int .i64 0, .int .i64 5])) w) := ⟨n, unhide HN, Or.inl ⟨by rw [e1]; omega, by rw [e1], h, Kept.refl _ _⟩⟩
      clear e1
      go_wp2
      go_ret3
      exact unhide HP
    · have c0 := h.room
      have hb := h.lt
      go_wp2_with fail
      go_quiet ((go_at_call 46; exact Calls.quiet_of_same (quotas_any (h.still ((Kept.refl _ _).drewN _)) hf)))
      by_cases hs6 : p.room < qsum p 8 + quota
      · have e1 : createX p n quota = 6 := by unfold createX; rw [if_neg (unhide HQ), if_neg hn1, if_pos hs6]
        have HP : Hid (createXPost w b p quota (.returned (.tuple #[.int .i64 0, .int .i64 0, .int .i64 6])) (w.drewN nq)) := ⟨n, unhide HN, Or.inl ⟨by rw [e1]; omega, by rw [e1], h.still ((Kept.refl _ _).drewN _), (Kept.refl _ _).drewN _⟩⟩
        clear e1
        go_wp2
        go_ret3
        exact unhide HP
      · have hx : XAt (w.drewN nq) b p := h.still ((Kept.refl _ _).drewN _)
        have hk : Kept (· = b) w (w.drewN nq) := (Kept.refl _ _).drewN _
        have HX := hide hx
        have HK := hide hk
        clear hx hk h
        generalize w.drewN nq = W at *
        by_cases h100 : 100 ≤ p.given
        · have e1 : createX p n quota = 7 := by unfold createX; rw [if_neg (unhide HQ), if_neg hn1, if_neg hs6, if_pos h100]
          have E1 := hide e1
          clear e1
          go_wp2_with (go_at_call 47; refine (first_no (unhide HX) _ h100).mono ?_; rintro e w' ⟨rfl, hx2, hw2⟩)
          go_ret3
          exact ⟨n, unhide HN, Or.inl ⟨by rw [unhide E1]; omega, by rw [unhide E1]; rfl, hx2, Kept.trans (unhide HK) hw2⟩⟩
        · have e1 : createX p n quota = 0 := by unfold createX; rw [if_neg (unhide HQ), if_neg hn1, if_neg hs6, if_neg h100]
          have E1 := hide e1
          clear e1
          go_wp2_with fail
          refine (first_yes (unhide HX) _ (by omega)).mono ?_
          rintro e w' ⟨rfl, hx2, hw2⟩
          obtain ⟨hx3, hk3⟩ := hx2.memSet (show n < 8 by omega) quota
          have hth : w'.there b (1 + n * 281) (memCells quota).toArray.size := by rw [List.size_toArray, memCells_len]; exact hx2.memThere (by omega)
          have hzm := zeroMem_set quota
          have hi := infoMem' quota
          have ho := memCells_one quota
          have b2 := hx2.lt
          have HX3 := hide hx3
          have HK3 := hide (Kept.trans (Kept.trans (unhide HK) hw2) hk3)
          have HTH := hide hth
          clear hx2 hw2 hx3 hk3 hth
          generalize memCells quota = cs at *
          go_wp2_with (refine wpList_store_mid rfl 63 _ _ rfl _ _ cs.toArray rfl (by rw [← hzm]; rfl) (unhide HTH) hi ho (unhide ?_))
          refine hide ?_
          generalize w'.setCells b (1 + n * 281) cs.toArray.toList = Y at *
          go_wp2
          go_ret3
          exact ⟨n, unhide HN, Or.inr ⟨unhide E1, rfl, unhide HX3, unhide HK3⟩⟩
end Go.Proofs.Ytgndledehlilkab
