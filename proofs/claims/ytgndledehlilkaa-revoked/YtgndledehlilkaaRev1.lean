/-
  Revoked: what is the case, as plain data.
-/
import Derived.Test.YtgndledehlilkaaKeepP
namespace Go.Proofs.Ytgndledehlilkaa
open Go.RowKit

/-- The j-th token of the line. -/
def lineN (j : Nat) : Nat := if j = 0 then 1 else j + 2
def anc (j : Nat) : List Nat := (List.range j).map lineN
theorem lineN_pos (j : Nat) : 1 ≤ lineN j ∧ lineN j ≤ j + 2 := by unfold lineN; split <;> omega
theorem lineN_inj {i j : Nat} (h : lineN i = lineN j) : i = j := by
  unfold lineN at h
  split at h <;> split at h <;> omega
theorem lineN_not2 (j : Nat) : lineN j ≠ 2 := by unfold lineN; split <;> omega
theorem anc_succ (j : Nat) : anc (j + 1) = anc j ++ [lineN j] := by simp [anc, List.range_succ]
theorem mem_anc {m j : Nat} : m ∈ anc j ↔ ∃ i, i < j ∧ lineN i = m := by simp [anc]
theorem lineN_mem {i j : Nat} : lineN i ∈ anc j ↔ i < j := by
  rw [mem_anc]
  constructor
  · rintro ⟨k, hk, e⟩
    rw [lineN_inj e] at hk
    exact hk
  · intro h; exact ⟨i, h, rfl⟩
/-- The tokens: the tenants' first ones, then the line. -/
def tokL (k : Nat) : Tok := if k = 0 then ⟨0, 15, [], false⟩ else if k = 1 then ⟨1, 15, [], false⟩ else ⟨0, 15, anc (k - 1), false⟩
theorem tokL_line (j : Nat) : tokL (lineN j - 1) = ⟨0, 15, anc j, false⟩ := by
  unfold lineN
  by_cases h : j = 0
  · subst h; rfl
  · rw [if_neg h]
    unfold tokL
    rw [if_neg (by omega), if_neg (by omega)]
    rw [show j + 2 - 1 - 1 = j from by omega]
theorem tokL_revoked (k : Nat) : (tokL k).revoked = false := by
  unfold tokL
  split
  · rfl
  · split <;> rfl
def revLife : Nat → Life := fun j => ⟨j, ([5, 5] : List Int).getD j 0, 0, 0, [], [], false⟩
/-- Behind i tokens of the line. -/
def lineR (i : Nat) : RefS := ⟨64, 2, revLife, i + 2, tokL⟩
theorem lineR_zero : begT [5, 5] tokL 2 = lineR 0 := rfl
theorem hasB_15 : hasB 15 1 = true ∧ hasB 15 2 = true ∧ hasB 15 4 = true ∧ hasB 15 8 = true := by decide
theorem lineR_alive {i j : Nat} (hj : j ≤ i) : aliveI (lineR i) (lineN j : Int) = true := by
  have hp := lineN_pos j
  unfold aliveI aliveR
  rw [show ((lineN j : Int) - 1).toNat = lineN j - 1 from by omega]
  have e1 : (lineR i).tok (lineN j - 1) = ⟨0, 15, anc j, false⟩ := tokL_line j
  rw [e1]
  have e2 : ((lineR i).life 0).gone = false := rfl
  simp only
  rw [e2]
  have e3 : ((anc j).any fun n => ((lineR i).tok (n - 1)).revoked) = false := by
    rw [List.any_eq_false]
    intro n _
    show ¬ (tokL (n - 1)).revoked = true
    rw [tokL_revoked]
    simp
  rw [e3]
  have e4 : decide (1 ≤ (lineN j : Int) ∧ (lineN j : Int) ≤ ((lineR i).nt : Int)) = true := by
    rw [decide_eq_true_eq]
    show 1 ≤ (lineN j : Int) ∧ (lineN j : Int) ≤ ((i + 2 : Nat) : Int)
    omega
  rw [e4]
  rfl
theorem lacks_ok : lacks 15 15 = false ∧ lacks 15 9 = false ∧ lacks 15 0 = false := by decide
/-- One token more. -/
theorem lineR_derive {i : Nat} (hi : i + 2 < 100) : deriveR (lineR i) (lineN i) 15 = 0 ∧ deriveA (lineR i) (lineN i) 15 = (i : Int) + 3 ∧ derivedR (lineR i) (lineN i) 15 = lineR (i + 1) := by
  have hp := lineN_pos i
  have ha := lineR_alive (i := i) (j := i) (Nat.le_refl _)
  have e1 : (lineR i).tok ((lineN i : Int) - 1).toNat = ⟨0, 15, anc i, false⟩ := by
    rw [show ((lineN i : Int) - 1).toNat = lineN i - 1 from by omega]; exact tokL_line i
  have e0 : deriveR (lineR i) (lineN i) 15 = 0 := by
    unfold deriveR
    rw [ha, if_pos rfl, if_neg (by omega), e1]
    simp only
    rw [lacks_ok.1, if_neg (by simp), if_neg (by show ¬ 100 ≤ i + 2; omega)]
  refine ⟨e0, ?_, ?_⟩
  · unfold deriveA
    rw [if_pos e0]
    show (((i + 2 : Nat) : Int)) + 1 = (i : Int) + 3
    omega
  · unfold derivedR
    rw [if_pos e0]
    unfold deriveS
    rw [e1]
    unfold lineR
    simp only [RefS.mk.injEq, true_and]
    funext k
    unfold upd
    split
    · rename_i e
      subst e
      have : tokL (i + 2) = ⟨0, 15, anc (i + 1), false⟩ := by
        have := tokL_line (i + 1)
        unfold lineN at this
        rw [if_neg (by omega), show i + 1 + 2 - 1 = i + 2 from by omega] at this
        exact this
      rw [this, anc_succ]
      rw [show ((lineN i : Int) - 1).toNat + 1 = lineN i from by omega]
    · rfl
/-- .. and one beside the line. -/
def sideR (n b : Nat) : RefS := deriveS (lineR n) (lineN b - 1) 9
theorem sideR_is {n b : Nat} (hb : b ≤ n) (hn : n + 2 < 100) : deriveR (lineR n) (lineN b) 9 = 0 ∧ deriveA (lineR n) (lineN b) 9 = (n : Int) + 3 ∧ derivedR (lineR n) (lineN b) 9 = sideR n b := by
  have hp := lineN_pos b
  have ha := lineR_alive (i := n) (j := b) hb
  have e1 : (lineR n).tok ((lineN b : Int) - 1).toNat = ⟨0, 15, anc b, false⟩ := by
    rw [show ((lineN b : Int) - 1).toNat = lineN b - 1 from by omega]; exact tokL_line b
  have e0 : deriveR (lineR n) (lineN b) 9 = 0 := by
    unfold deriveR
    rw [ha, if_pos rfl, if_neg (by omega), e1]
    simp only
    rw [lacks_ok.2.1, if_neg (by simp), if_neg (by show ¬ 100 ≤ n + 2; omega)]
  refine ⟨e0, ?_, ?_⟩
  · unfold deriveA
    rw [if_pos e0]
    show (((n + 2 : Nat) : Int)) + 1 = (n : Int) + 3
    omega
  · unfold derivedR
    rw [if_pos e0]
    unfold sideR
    rw [show ((lineN b : Int) - 1).toNat = lineN b - 1 from by omega]
/-- The tokens now; 'd': the one of the line that has been revoked, if any; 'own': the first tenant's routes. -/
def tokS (n b : Nat) (d : Option Nat) (k : Nat) : Tok := if k = n + 2 then ⟨0, 9, anc (b + 1), false⟩ else if d = some k then { tokL k with revoked := true } else tokL k
def revL0 (own : List RouteD) : Life := ⟨0, 5, 0, 0, own, [], false⟩
def revR (n b : Nat) (d : Option Nat) (own : List RouteD) : RefS := ⟨64, 2, upd revLife 0 (revL0 own), n + 3, tokS n b d⟩
theorem sideR_eq {n b : Nat} (_hb : b ≤ n) : sideR n b = revR n b none [] := by
  unfold sideR deriveS revR
  have e1 : (lineR n).tok (lineN b - 1) = ⟨0, 15, anc b, false⟩ := tokL_line b
  have hp := lineN_pos b
  rw [e1]
  simp only [lineR, RefS.mk.injEq, true_and]
  refine ⟨?_, ?_⟩
  · funext j
    unfold upd
    split
    · rename_i e; subst e; rfl
    · rfl
  · funext k
    unfold upd tokS
    split
    · rw [anc_succ, show lineN b - 1 + 1 = lineN b from by omega]
    · rw [if_neg (by simp)]
section
variable {n b : Nat} {d : Option Nat} {own : List RouteD}
theorem tokS_line (j : Nat) (hj : j ≤ n) : tokS n b d (lineN j - 1) = if d = some (lineN j - 1) then ⟨0, 15, anc j, true⟩ else ⟨0, 15, anc j, false⟩ := by
  have hp := lineN_pos j
  unfold tokS
  have hne : lineN j - 1 ≠ n + 2 := by unfold lineN; split <;> omega
  rw [if_neg hne, tokL_line]
theorem tokS_side : tokS n b d (n + 2) = ⟨0, 9, anc (b + 1), false⟩ := by unfold tokS; rw [if_pos rfl]
theorem anc_any {j k : Nat} (hj : j ≤ n + 1) (hk : k ≤ n) : ((anc j).any fun m => (tokS n b (some (lineN k - 1)) (m - 1)).revoked) = decide (k < j) := by
  rw [Bool.eq_iff_iff, List.any_eq_true, decide_eq_true_eq]
  constructor
  · rintro ⟨m, hm, hr⟩
    obtain ⟨i, hi, rfl⟩ := mem_anc.1 hm
    rw [tokS_line i (by omega)] at hr
    by_cases e : some (lineN k - 1) = some (lineN i - 1)
    · have e2 : lineN k - 1 = lineN i - 1 := by simpa using e
      have := lineN_pos k
      have := lineN_pos i
      have : lineN k = lineN i := by omega
      rw [lineN_inj this]
      exact hi
    · rw [if_neg e] at hr; simp at hr
  · intro h
    exact ⟨lineN k, lineN_mem.2 h, by rw [tokS_line k hk, if_pos rfl]⟩
theorem anc_none {j : Nat} (hj : j ≤ n + 1) : ((anc j).any fun m => (tokS n b none (m - 1)).revoked) = false := by
  rw [List.any_eq_false]
  intro m hm
  obtain ⟨i, hi, rfl⟩ := mem_anc.1 hm
  rw [tokS_line i (by omega), if_neg (by simp)]
  simp
theorem rev_life : ((revR n b d own).life 0).gone = false := by show (upd revLife 0 _ 0).gone = false; rw [upd_same]; rfl
theorem may_line0 {j : Nat} (hj : j ≤ n) {right : Int} (hr : hasB 15 right = true) : mayI (revR n b none own) (lineN j) right = 0 ∧ lifeOf (revR n b none own) (lineN j) = 0 := by
  have hp := lineN_pos j
  have e0 : ((lineN j : Int) - 1).toNat = lineN j - 1 := by omega
  have e1 : (revR n b none own).tok (lineN j - 1) = ⟨0, 15, anc j, false⟩ := by show tokS n b none _ = _; rw [tokS_line j hj, if_neg (by simp)]
  refine ⟨?_, by unfold lifeOf; rw [e0, e1]⟩
  unfold mayI aliveI aliveR
  rw [e0, e1]
  simp only
  rw [rev_life, hr]
  have e3 : ((anc j).any fun m => ((revR n b none own).tok (m - 1)).revoked) = false := anc_none (by omega)
  have e4 : decide (1 ≤ (lineN j : Int) ∧ (lineN j : Int) ≤ ((revR n b none own).nt : Int)) = true := by
    rw [decide_eq_true_eq]
    show 1 ≤ (lineN j : Int) ∧ (lineN j : Int) ≤ ((n + 3 : Nat) : Int)
    omega
  rw [e3, e4]
  rfl
/-- Behind the revoking. -/
theorem may_line {j k : Nat} (hj : j ≤ n) (hk : k ≤ n) {right : Int} (hr : hasB 15 right = true) : mayI (revR n b (some (lineN k - 1)) own) (lineN j) right = (if k ≤ j then 3 else 0) ∧ lifeOf (revR n b (some (lineN k - 1)) own) (lineN j) = 0 := by
  have hp := lineN_pos j
  have hpk := lineN_pos k
  have e0 : ((lineN j : Int) - 1).toNat = lineN j - 1 := by omega
  have e4 : decide (1 ≤ (lineN j : Int) ∧ (lineN j : Int) ≤ ((revR n b (some (lineN k - 1)) own).nt : Int)) = true := by
    rw [decide_eq_true_eq]
    show 1 ≤ (lineN j : Int) ∧ (lineN j : Int) ≤ ((n + 3 : Nat) : Int)
    omega
  have e3 : ((anc j).any fun m => ((revR n b (some (lineN k - 1)) own).tok (m - 1)).revoked) = decide (k < j) := anc_any (by omega) hk
  have e1 : (revR n b (some (lineN k - 1)) own).tok (lineN j - 1) = if (some (lineN k - 1)) = some (lineN j - 1) then ⟨0, 15, anc j, true⟩ else ⟨0, 15, anc j, false⟩ := tokS_line j hj
  by_cases e : k = j
  · subst e
    rw [if_pos rfl] at e1
    refine ⟨?_, by unfold lifeOf; rw [e0, e1]⟩
    unfold mayI aliveI aliveR
    rw [e0, e1]
    simp
  · have hne : ¬ (some (lineN k - 1)) = some (lineN j - 1) := fun hh => by
      have e2 : lineN k - 1 = lineN j - 1 := by simpa using hh
      exact e (lineN_inj (by omega))
    rw [if_neg hne] at e1
    refine ⟨?_, by unfold lifeOf; rw [e0, e1]⟩
    unfold mayI aliveI aliveR
    rw [e0, e1]
    simp only
    rw [rev_life, hr, e3, e4]
    by_cases hlt : k < j
    · rw [show decide (k < j) = true from by simpa using hlt, if_pos (show k ≤ j by omega)]
      rfl
    · rw [show decide (k < j) = false from by simpa using hlt, if_neg (show ¬ k ≤ j by omega)]
      rfl
theorem rights9 : hasB 9 1 = true ∧ hasB 9 2 = false := by decide
/-- The one beside. -/
theorem may_side {k : Nat} (hb : b ≤ n) (hk : k ≤ n) : mayI (revR n b (some (lineN k - 1)) own) ((n : Int) + 3) 1 = (if k ≤ b then 3 else 0) ∧ mayI (revR n b (some (lineN k - 1)) own) ((n : Int) + 3) 2 = (if k ≤ b then 3 else 4) := by
  have e0 : ((n : Int) + 3 - 1).toNat = n + 2 := by omega
  have e1 : (revR n b (some (lineN k - 1)) own).tok (n + 2) = ⟨0, 9, anc (b + 1), false⟩ := tokS_side
  have e4 : decide (1 ≤ (n : Int) + 3 ∧ (n : Int) + 3 ≤ ((revR n b (some (lineN k - 1)) own).nt : Int)) = true := by
    rw [decide_eq_true_eq]
    show 1 ≤ (n : Int) + 3 ∧ (n : Int) + 3 ≤ ((n + 3 : Nat) : Int)
    omega
  have e3 : ((anc (b + 1)).any fun m => ((revR n b (some (lineN k - 1)) own).tok (m - 1)).revoked) = decide (k < b + 1) := anc_any (by omega) hk
  unfold mayI aliveI aliveR
  rw [e0, e1]
  simp only
  rw [rev_life, rights9.1, rights9.2, e3, e4]
  by_cases hlt : k ≤ b
  · rw [if_pos hlt, if_pos hlt]
    have : decide (k < b + 1) = true := by simp; omega
    rw [this]
    simp
  · rw [if_neg hlt, if_neg hlt]
    have : decide (k < b + 1) = false := by simp; omega
    rw [this]
    simp
/-- Revoke upwards, of itself, and downwards. -/
theorem rev_up {k : Nat} (hk1 : 1 ≤ k) (hk : k ≤ n) : revokeR (revR n b none []) (lineN k) (lineN (k - 1)) = 4 ∧ revokeR (revR n b none []) (lineN k) (lineN k) = 4 ∧ revokeR (revR n b none []) 1 (lineN k) = 0 := by
  have hpk := lineN_pos k
  have hpk1 := lineN_pos (k - 1)
  have key : ∀ {i j : Nat}, i ≤ n → j ≤ n → revokeR (revR n b none []) (lineN i) (lineN j) = if i < j then 0 else 4 := by
    intro i j hi hj
    have hpi := lineN_pos i
    have hpj := lineN_pos j
    unfold revokeR
    rw [if_pos (may_line0 hi hasB_15.2.2.2).1, if_pos (by show 1 ≤ (lineN j : Int) ∧ (lineN j : Int) ≤ ((n + 3 : Nat) : Int); omega)]
    rw [show ((lineN j : Int) - 1).toNat = lineN j - 1 from by omega]
    have e1 : (revR n b none []).tok (lineN j - 1) = ⟨0, 15, anc j, false⟩ := by show tokS n b none _ = _; rw [tokS_line j hj, if_neg (by simp)]
    rw [e1]
    simp only
    have e2 : lineHas (anc j) (lineN i : Int) = decide (i < j) := by
      unfold lineHas
      rw [Bool.eq_iff_iff, List.any_eq_true, decide_eq_true_eq]
      constructor
      · rintro ⟨m, hm, he⟩
        have he' : m = lineN i := by have : (m : Int) = (lineN i : Int) := of_decide_eq_true he; omega
        subst he'
        exact lineN_mem.1 hm
      · intro hh; exact ⟨lineN i, lineN_mem.2 hh, by simp⟩
    rw [e2]
    unfold revErr
    by_cases hh : i < j
    · simp [hh]
    · simp [hh]
  refine ⟨by rw [key hk (by omega), if_neg (by omega)], by rw [key hk hk, if_neg (by omega)], ?_⟩
  have := key (i := 0) (j := k) (by omega) hk
  rw [if_pos (by omega)] at this
  exact this
theorem rev_done {k : Nat} (hk1 : 1 ≤ k) (hk : k ≤ n) : revokedR (revR n b none []) 1 (lineN k) = revR n b (some (lineN k - 1)) [] := by
  have hpk := lineN_pos k
  unfold revokedR
  rw [if_pos (rev_up (b := b) hk1 hk).2.2]
  unfold revokeS revR
  simp only [RefS.mk.injEq, true_and]
  rw [show ((lineN k : Int) - 1).toNat = lineN k - 1 from by omega]
  have hne : lineN k - 1 ≠ n + 2 := by unfold lineN; split <;> omega
  funext m
  unfold upd tokS
  by_cases e : m = lineN k - 1
  · subst e
    rw [if_pos rfl, if_neg hne, if_neg hne, if_pos rfl, if_neg (by simp)]
  · rw [if_neg e]
    by_cases e2 : m = n + 2
    · rw [if_pos e2, if_pos e2]
    · rw [if_neg e2, if_neg e2, if_neg (by simp), if_neg (by simpa using fun h => e h.symm)]
theorem rev_keep (r : RefS) {t which : Int} (h : revokeR r t which = 4) : revokedR r t which = r := by unfold revokedR; rw [if_neg (by omega)]
def zeroX : RouteD := ⟨0, 0, 1, 0⟩
/-- Insert of the route for all. -/
theorem rev_insert {j k : Nat} (hj : j ≤ n) (hk : k ≤ n) (hown : own = [] ∨ own = [zeroX]) : insertR (revR n b (some (lineN k - 1)) own) (lineN j) 0 0 1 = (if k ≤ j then 3 else 0) ∧ insertedR (revR n b (some (lineN k - 1)) own) (lineN j) 0 0 1 = if k ≤ j then revR n b (some (lineN k - 1)) own else revR n b (some (lineN k - 1)) [zeroX] := by
  obtain ⟨m1, m2⟩ := may_line (n := n) (b := b) (own := own) hj hk hasB_15.2.1
  by_cases hkj : k ≤ j
  · rw [if_pos hkj] at m1
    have e0 : insertR (revR n b (some (lineN k - 1)) own) (lineN j) 0 0 1 = 3 := by
      unfold insertR
      rw [if_neg (by rw [m1]; omega), m1]
    rw [if_pos hkj, if_pos hkj]
    refine ⟨e0, ?_⟩
    unfold insertedR
    rw [if_neg (by rw [e0]; omega)]
  · rw [if_neg hkj] at m1
    have hg : (isPfx 0 0 && okMask 1) = true := by decide
    have hl0 : (revR n b (some (lineN k - 1)) own).life 0 = revL0 own := upd_same revLife 0 (revL0 own)
    have hnr : newRoute (revR n b (some (lineN k - 1)) own) (lineN j) 0 0 1 = zeroX := by unfold newRoute; rw [m2, hl0]; rfl
    have e0 : insertR (revR n b (some (lineN k - 1)) own) (lineN j) 0 0 1 = 0 := by
      unfold insertR
      rw [if_pos m1, hg, if_pos rfl, m2, hnr, hl0]
      unfold insIn
      rcases hown with rfl | rfl
      · decide
      · decide
    rw [if_neg hkj, if_neg hkj]
    refine ⟨e0, ?_⟩
    unfold insertedR
    rw [if_pos e0, m2, hnr, hl0]
    have e1 : insOwn (revL0 own).own zeroX = [zeroX] := by
      rcases hown with rfl | rfl <;> rfl
    rw [e1]
    unfold ownS revR
    simp only [RefS.mk.injEq, true_and, and_true]
    rw [upd_upd]
    rfl
theorem rev_last {k : Nat} (hk1 : 1 ≤ k) (hk : k ≤ n) (hn : n + 3 < 100) : deriveR (revR n b (some (lineN k - 1)) own) 1 0 = 0 ∧ deriveA (revR n b (some (lineN k - 1)) own) 1 0 = (n : Int) + 4 := by
  obtain ⟨m1, m2⟩ := may_line (n := n) (b := b) (own := own) (j := 0) (by omega) hk hasB_15.2.2.2
  rw [if_neg (by omega)] at m1
  obtain ⟨ha, _, _⟩ := mayI_zero m1
  have ha' : aliveI (revR n b (some (lineN k - 1)) own) 1 = true := ha
  have hpk := lineN_pos k
  have e1 : (revR n b (some (lineN k - 1)) own).tok 0 = ⟨0, 15, [], false⟩ := by
    have := tokS_line (n := n) (b := b) (d := some (lineN k - 1)) 0 (by omega)
    rw [if_neg (by
      intro hh
      have e2 : lineN k - 1 = lineN 0 - 1 := by simpa using hh
      have : lineN 0 = 1 := rfl
      have := lineN_inj (i := k) (j := 0) (by omega)
      omega)] at this
    exact this
  have e0 : deriveR (revR n b (some (lineN k - 1)) own) 1 0 = 0 := by
    unfold deriveR
    rw [ha', if_pos rfl, if_neg (by omega)]
    have : ((1 : Int) - 1).toNat = 0 := rfl
    rw [this, e1]
    simp only
    rw [lacks_ok.2.2, if_neg (by simp), if_neg (by show ¬ 100 ≤ n + 3; omega)]
  refine ⟨e0, ?_⟩
  unfold deriveA
  rw [if_pos e0]
  show (((n + 3 : Nat) : Int)) + 1 = (n : Int) + 4
  omega
end
end Go.Proofs.Ytgndledehlilkaa
