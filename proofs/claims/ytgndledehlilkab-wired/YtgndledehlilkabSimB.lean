/-
  The two engines stay side by side.
-/
import Derived.Test.YtgndledehlilkabSimA
namespace Go.Proofs.Ytgndledehlilkab
open Go.RowKit

section
variable {p : ProgS} {r : RefS}
theorem newSim {room : Int} (h1 : 1 ≤ room) (h2 : room ≤ 64) (lf : Nat → Life) (tk : Nat → Tok) : Sim (newP room) ⟨room, 0, lf, 0, tk⟩ := by
  refine ⟨⟨⟨h1, h2⟩, fun i _ => ⟨Int.le_refl _, by simp [newP]⟩, Nat.zero_le _, ?_, ?_⟩, ⟨Nat.zero_le _, Nat.le_refl _, ⟨h1, h2⟩, ?_, ?_, ?_, ?_, ?_, ?_⟩, rfl, rfl, ?_, ?_, ?_, ?_, ?_, ?_, ?_, ?_, ?_, ?_⟩
  · intro k hk; exact absurd hk (Nat.not_lt_zero _)
  · intro k hk; exact absurd hk (Nat.not_lt_zero _)
  · intro k hk; exact absurd hk (Nat.not_lt_zero _)
  · intro k hk; exact absurd hk (Nat.not_lt_zero _)
  · intro k hk; exact absurd hk (Nat.not_lt_zero _)
  · intro k hk; exact absurd hk (Nat.not_lt_zero _)
  · intro k hk; exact absurd hk (Nat.not_lt_zero _)
  · intro k hk; exact absurd hk (Nat.not_lt_zero _)
  · intro k hk; exact absurd hk (Nat.not_lt_zero _)
  · intro k hk; exact absurd hk (Nat.not_lt_zero _)
  · intro k hk; exact absurd hk (Nat.not_lt_zero _)
  · intro k hk; exact absurd hk (Nat.not_lt_zero _)
  · intro k m hk; exact absurd hk (Nat.not_lt_zero _)
  · intro k hk; exact absurd hk (Nat.not_lt_zero _)
  · intro j _ _; rfl
  · rfl
  · rfl
  · intro i j hi; exact absurd hi (Nat.not_lt_zero _)

theorem Sim.createS (h : Sim p r) {n : Nat} (hx : freeX p n) (hr : freeR r n) {quota : Int} (h0 : createR r quota = 0) : Sim (createXS p n quota) (createS r n quota) := by
  have hq : ¬ (quota < 1 ∨ 64 < quota) := fun hq => by unfold createR at h0; rw [if_pos hq] at h0; omega
  unfold createR at h0
  rw [if_neg hq] at h0
  have hc8 : ¬ 8 ≤ liveCount r r.nl := fun hc => by rw [if_pos hc] at h0; omega
  rw [if_neg hc8] at h0
  have hs : ¬ r.room < quota + liveSum r r.nl := fun hc => by rw [if_pos hc] at h0; omega
  rw [if_neg hs] at h0
  have h100 : ¬ 100 ≤ r.nt := fun hc => by rw [if_pos hc] at h0; omega
  clear h0
  have hn8 : n < 8 := by
    rcases Nat.lt_or_ge n 8 with hl | hg
    · exact hl
    · exact absurd ((h.full hx).1 hg) hc8
  have hq0 : p.quota n = 0 := h.quotaF n hn8 hr
  have hg := h.given
  have hnl := h.wr.nl
  refine ⟨⟨h.wp.room, ?_, ?_, ?_, ?_⟩, ⟨?_, ?_, h.wr.room, ?_, ?_, ?_, ?_, ?_, ?_⟩, h.room, ?_, ?_, ?_, ?_, ?_, ?_, ?_, ?_, ?_, ?_, ?_⟩
  · intro i hi
    show 0 ≤ upd p.quota n quota i ∧ upd p.quota n quota i ≤ 64
    by_cases e : i = n
    · subst e; rw [upd_same]; omega
    · rw [upd_other _ _ e]; exact h.wp.quota i hi
  · show p.given + 1 ≤ 100
    omega
  · intro k hk
    have hk' : k < p.given + 1 := hk
    show 0 ≤ upd p.rights p.given 15 k ∧ upd p.rights p.given 15 k ≤ 15
    by_cases e : k = p.given
    · subst e; rw [upd_same]; omega
    · rw [upd_other _ _ e]; exact h.wp.rights k (by omega)
  · intro k hk
    have hk' : k < p.given + 1 := hk
    show upd p.parent p.given 0 k ≤ k
    by_cases e : k = p.given
    · subst e; rw [upd_same]; omega
    · rw [upd_other _ _ e]; exact h.wp.parent k (by omega)
  · show r.nt + 1 ≤ 100
    omega
  · show r.nl + 1 ≤ r.nt + 1
    omega
  · intro i hi
    have hi' : i < r.nl + 1 := hi
    show 1 ≤ (upd r.life r.nl _ i).quota ∧ (upd r.life r.nl _ i).quota ≤ 64
    by_cases e : i = r.nl
    · subst e; rw [upd_same]; show 1 ≤ quota ∧ quota ≤ 64; omega
    · rw [upd_other _ _ e]; exact h.wr.quota i (by omega)
  · intro i hi
    have hi' : i < r.nl + 1 := hi
    show 0 ≤ (upd r.life r.nl _ i).no ∧ (upd r.life r.nl _ i).no < 8
    by_cases e : i = r.nl
    · subst e; rw [upd_same]; show 0 ≤ (n : Int) ∧ (n : Int) < 8; omega
    · rw [upd_other _ _ e]; exact h.wr.no i (by omega)
  · intro k hk
    have hk' : k < r.nt + 1 := hk
    show (upd r.tok r.nt _ k).life < r.nl + 1
    by_cases e : k = r.nt
    · subst e; rw [upd_same]; show r.nl < r.nl + 1; omega
    · rw [upd_other _ _ e]; have := h.wr.life k (by omega); omega
  · intro k hk
    have hk' : k < r.nt + 1 := hk
    show 0 ≤ (upd r.tok r.nt _ k).rights ∧ (upd r.tok r.nt _ k).rights ≤ 15
    by_cases e : k = r.nt
    · subst e; rw [upd_same]; show (0 : Int) ≤ 15 ∧ (15 : Int) ≤ 15; omega
    · rw [upd_other _ _ e]; exact h.wr.rights k (by omega)
  · intro k hk
    have hk' : k < r.nt + 1 := hk
    show ∀ m ∈ (upd r.tok r.nt _ k).line, 1 ≤ m ∧ m ≤ k
    by_cases e : k = r.nt
    · subst e; rw [upd_same]; intro m hm; cases hm
    · rw [upd_other _ _ e]; exact h.wr.line k (by omega)
  · intro k hk
    have hk' : k < r.nt + 1 := hk
    show (upd r.tok r.nt _ k).line.length ≤ k
    by_cases e : k = r.nt
    · subst e; rw [upd_same]; exact Nat.zero_le _
    · rw [upd_other _ _ e]; exact h.wr.lineLen k (by omega)
  · show p.given + 1 = r.nt + 1
    omega
  · intro k hk
    have hk' : k < r.nt + 1 := hk
    show upd p.rights p.given 15 k = (upd r.tok r.nt _ k).rights
    rw [hg]
    by_cases e : k = r.nt
    · subst e; rw [upd_same, upd_same]
    · rw [upd_other _ _ e, upd_other _ _ e]; exact h.rights k (by omega)
  · intro k hk
    have hk' : k < r.nt + 1 := hk
    show upd p.tenant p.given n k = (upd r.life r.nl _ (upd r.tok r.nt _ k).life).no
    rw [hg]
    by_cases e : k = r.nt
    · subst e; rw [upd_same, upd_same, upd_same]
    · rw [upd_other _ _ e, upd_other _ _ e, upd_other _ _ (by have := h.wr.life k (by omega); omega)]; exact h.tenant k (by omega)
  · intro k hk
    have hk' : k < r.nt + 1 := hk
    show upd p.ended p.given false k = ((upd r.tok r.nt _ k).revoked || (upd r.life r.nl _ (upd r.tok r.nt _ k).life).gone)
    rw [hg]
    by_cases e : k = r.nt
    · subst e; rw [upd_same, upd_same, upd_same]; rfl
    · rw [upd_other _ _ e, upd_other _ _ e, upd_other _ _ (by have := h.wr.life k (by omega); omega)]; exact h.ended k (by omega)
  · intro k hk hp
    have hk' : k < r.nt + 1 := hk
    have hp' : upd p.parent p.given 0 k = 0 := hp
    show (upd r.tok r.nt _ k).line = []
    rw [hg] at hp'
    by_cases e : k = r.nt
    · subst e; rw [upd_same]
    · rw [upd_other _ _ e] at hp' ⊢; exact h.parent0 k (by omega) hp'
  · intro k m hk hp
    have hk' : k < r.nt + 1 := hk
    have hp' : upd p.parent p.given 0 k = m + 1 := hp
    rw [hg] at hp'
    by_cases e : k = r.nt
    · subst e; rw [upd_same] at hp'; omega
    · rw [upd_other _ _ e] at hp'
      obtain ⟨a, c, d⟩ := h.parentS k m (by omega) hp'
      have e2 : m ≠ r.nt := by omega
      show m < k ∧ (upd r.tok r.nt _ k).line = (upd r.tok r.nt _ m).line ++ [m + 1] ∧ (upd r.tok r.nt _ k).life = (upd r.tok r.nt _ m).life
      rw [upd_other _ _ e, upd_other _ _ e2]
      exact ⟨a, c, d⟩
  · intro i hi hgo
    have hi' : i < r.nl + 1 := hi
    have hgo' : (upd r.life r.nl ⟨n, quota, 0, 0, [], [], false⟩ i).gone = false := hgo
    show upd p.quota n quota (upd r.life r.nl ⟨n, quota, 0, 0, [], [], false⟩ i).no.toNat = (upd r.life r.nl ⟨n, quota, 0, 0, [], [], false⟩ i).quota
    by_cases e : i = r.nl
    · subst e; rw [upd_same]; show upd p.quota n quota (n : Int).toNat = quota; rw [Int.toNat_natCast, upd_same]
    · rw [upd_other _ _ e] at hgo' ⊢
      rw [upd_other]
      · exact h.quotaL i (by omega) hgo'
      · intro hh
        have hno := h.wr.no i (by omega)
        rcases hr i (by omega) with hx1 | hx1
        · rw [hgo'] at hx1; cases hx1
        · exact hx1 (by omega)
  · intro j hj hfr
    have hfr' : ∀ i, i < r.nl + 1 → (upd r.life r.nl ⟨n, quota, 0, 0, [], [], false⟩ i).gone = true ∨ (upd r.life r.nl ⟨n, quota, 0, 0, [], [], false⟩ i).no ≠ j := hfr
    show upd p.quota n quota j = 0
    have hjn : j ≠ n := by
      rintro rfl
      rcases hfr' r.nl (by omega) with hh | hh
      · rw [upd_same] at hh; cases hh
      · rw [upd_same] at hh; exact hh rfl
    rw [upd_other _ _ hjn]
    refine h.quotaF j hj (fun i hi => ?_)
    have := hfr' i (by omega)
    rwa [upd_other _ _ (by omega)] at this
  · rw [liveCount_eq]
    have e1 : sumF (fun i => lifeC ((Go.Proofs.Ytgndledehlilkab.createS r n quota).life i)) (r.nl + 1) = sumF (fun i => lifeC (r.life i)) r.nl + 1 := by
      show sumF (fun i => lifeC (upd r.life r.nl ⟨n, quota, 0, 0, [], [], false⟩ i)) r.nl + lifeC (upd r.life r.nl ⟨n, quota, 0, 0, [], [], false⟩ r.nl) = _
      rw [upd_same, sumF_congr (g := fun i => lifeC (r.life i)) (fun i hi => by rw [upd_other _ _ (by omega)])]
      rfl
    show sumF (fun i => lifeC ((Go.Proofs.Ytgndledehlilkab.createS r n quota).life i)) (r.nl + 1) = taken (createXS p n quota) 8
    rw [e1, ← liveCount_eq, h.count]
    have e2 : (fun j => pos ((createXS p n quota).quota j)) = upd (fun j => pos (p.quota j)) n (pos quota) := by
      funext j
      show pos (upd p.quota n quota j) = _
      unfold upd
      split <;> rfl
    unfold taken
    rw [e2, sumF_upd _ _ hn8, hq0]
    have : pos quota = 1 := by unfold pos; rw [if_pos (by omega)]
    rw [this]
    have : pos 0 = 0 := rfl
    rw [this]
    omega
  · rw [liveSum_eq, qsum_eq]
    have e1 : sumF (fun i => lifeQ ((Go.Proofs.Ytgndledehlilkab.createS r n quota).life i)) (r.nl + 1) = sumF (fun i => lifeQ (r.life i)) r.nl + quota := by
      show sumF (fun i => lifeQ (upd r.life r.nl ⟨n, quota, 0, 0, [], [], false⟩ i)) r.nl + lifeQ (upd r.life r.nl ⟨n, quota, 0, 0, [], [], false⟩ r.nl) = _
      rw [upd_same, sumF_congr (g := fun i => lifeQ (r.life i)) (fun i hi => by rw [upd_other _ _ (by omega)])]
      rfl
    show sumF (fun i => lifeQ ((Go.Proofs.Ytgndledehlilkab.createS r n quota).life i)) (r.nl + 1) = sumF (upd p.quota n quota) 8
    rw [e1, ← liveSum_eq, h.sum, qsum_eq, sumF_upd _ _ hn8, hq0]
    omega
  · intro i j hi hj hgi hgj hno
    have hi' : i < r.nl + 1 := hi
    have hj' : j < r.nl + 1 := hj
    have hgi' : (upd r.life r.nl ⟨n, quota, 0, 0, [], [], false⟩ i).gone = false := hgi
    have hgj' : (upd r.life r.nl ⟨n, quota, 0, 0, [], [], false⟩ j).gone = false := hgj
    have hno' : (upd r.life r.nl ⟨n, quota, 0, 0, [], [], false⟩ i).no = (upd r.life r.nl ⟨n, quota, 0, 0, [], [], false⟩ j).no := hno
    by_cases ei : i = r.nl
    · by_cases ej : j = r.nl
      · omega
      · subst ei
        rw [upd_same, upd_other _ _ ej] at hno'
        rw [upd_other _ _ ej] at hgj'
        rcases hr j (by omega) with hh | hh
        · rw [hgj'] at hh; cases hh
        · exact absurd hno'.symm hh
    · by_cases ej : j = r.nl
      · subst ej
        rw [upd_same, upd_other _ _ ei] at hno'
        rw [upd_other _ _ ei] at hgi'
        rcases hr i (by omega) with hh | hh
        · rw [hgi'] at hh; cases hh
        · exact absurd hno' hh
      · rw [upd_other _ _ ei, upd_other _ _ ej] at hno'
        rw [upd_other _ _ ei] at hgi'
        rw [upd_other _ _ ej] at hgj'
        exact h.uniq i j (by omega) (by omega) hgi' hgj' hno'
end
end Go.Proofs.Ytgndledehlilkab
