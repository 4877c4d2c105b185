/-
  The two engines stay side by side: Drop, Derive, Revoke.
-/
import Derived.Test.YtgndledehlilkabSimB
namespace Go.Proofs.Ytgndledehlilkab
open Go.RowKit

section
variable {p : ProgS} {r : RefS}
theorem Sim.dropS (h : Sim p r) {i : Nat} (hi : i < r.nl) (hgi : (r.life i).gone = false) : Sim (dropX p (r.life i).no) (dropS r i) := by
  have hno := h.wr.no i hi
  have hqi := h.wr.quota i hi
  have hq := h.quotaL i hi hgi
  obtain ⟨n, hn⟩ : ∃ n : Nat, (r.life i).no = (n : Int) := ⟨(r.life i).no.toNat, by omega⟩
  have hn8 : n < 8 := by omega
  rw [hn] at hq ⊢
  rw [Int.toNat_natCast] at hq
  have hg := h.given
  have lno : ∀ k, (upd r.life i { r.life i with gone := true, own := [] } k).no = (r.life k).no := fun k => by
    by_cases e : k = i
    · subst e; rw [upd_same]
    · rw [upd_other _ _ e]
  have lqu : ∀ k, (upd r.life i { r.life i with gone := true, own := [] } k).quota = (r.life k).quota := fun k => by
    by_cases e : k = i
    · subst e; rw [upd_same]
    · rw [upd_other _ _ e]
  have lgo : ∀ k, (upd r.life i { r.life i with gone := true, own := [] } k).gone = false → k ≠ i ∧ (r.life k).gone = false := fun k hk => by
    by_cases e : k = i
    · subst e; rw [upd_same] at hk; cases hk
    · rw [upd_other _ _ e] at hk; exact ⟨e, hk⟩
  have hqd : (dropX p (n : Int)).quota = upd p.quota n 0 := by
    show upd p.quota (n : Int).toNat 0 = _
    rw [Int.toNat_natCast]
  refine ⟨⟨h.wp.room, ?_, h.wp.given, h.wp.rights, h.wp.parent⟩, ⟨h.wr.nt, h.wr.nl, h.wr.room, ?_, ?_, h.wr.life, h.wr.rights, h.wr.line, h.wr.lineLen⟩, h.room, h.given, h.rights, ?_, ?_, h.parent0, h.parentS, ?_, ?_, ?_, ?_, ?_⟩
  · intro j hj
    rw [hqd]
    by_cases e : j = n
    · subst e; rw [upd_same]; omega
    · rw [upd_other _ _ e]; exact h.wp.quota j hj
  · intro k hk
    show 1 ≤ (upd r.life i _ k).quota ∧ (upd r.life i _ k).quota ≤ 64
    rw [lqu]; exact h.wr.quota k hk
  · intro k hk
    show 0 ≤ (upd r.life i _ k).no ∧ (upd r.life i _ k).no < 8
    rw [lno]; exact h.wr.no k hk
  · intro k hk
    show p.tenant k = (upd r.life i _ (r.tok k).life).no
    rw [lno]; exact h.tenant k hk
  · intro k hk
    show (p.ended k || (decide (k < p.given) && decide (p.tenant k = (n : Int)))) = ((r.tok k).revoked || (upd r.life i _ (r.tok k).life).gone)
    have hkg : k < p.given := by rw [hg]; exact hk
    rw [h.ended k hk, h.tenant k hk]
    by_cases e : (r.tok k).life = i
    · rw [e, upd_same, hn]
      simp [hkg]
    · rw [upd_other _ _ e]
      by_cases e2 : (r.life (r.tok k).life).no = (n : Int)
      · cases hgl : (r.life (r.tok k).life).gone with
        | true => simp
        | false => exact absurd (h.uniq _ _ (h.wr.life k hk) hi hgl hgi (by rw [e2, hn])) e
      · simp [e2]
  · intro k hk hgk
    obtain ⟨e, hgk'⟩ := lgo k hgk
    show (dropX p (n : Int)).quota (upd r.life i _ k).no.toNat = (upd r.life i _ k).quota
    rw [hqd, lno, lqu, upd_other]
    · exact h.quotaL k hk hgk'
    · intro hh
      have h2 := h.wr.no k hk
      exact e (h.uniq k i hk hi hgk' hgi (by rw [hn]; omega))
  · intro j hj hfr
    have hfr' : ∀ k, k < r.nl → (upd r.life i { r.life i with gone := true, own := [] } k).gone = true ∨ (upd r.life i { r.life i with gone := true, own := [] } k).no ≠ j := hfr
    rw [hqd]
    by_cases e : j = n
    · subst e; rw [upd_same]
    · rw [upd_other _ _ e]
      refine h.quotaF j hj (fun k hk => ?_)
      have := hfr' k hk
      by_cases e2 : k = i
      · subst e2; right; rw [hn]; omega
      · rwa [upd_other _ _ e2] at this
  · rw [liveCount_eq]
    have e1 : (fun k => lifeC ((Go.Proofs.Ytgndledehlilkab.dropS r i).life k)) = upd (fun k => lifeC (r.life k)) i 0 := by
      funext k
      show lifeC (upd r.life i _ k) = _
      unfold upd
      split <;> rfl
    show sumF (fun k => lifeC ((Go.Proofs.Ytgndledehlilkab.dropS r i).life k)) r.nl = taken (dropX p (n : Int)) 8
    rw [e1, sumF_upd _ _ hi, ← liveCount_eq, h.count]
    have e2 : (fun j => pos ((dropX p (n : Int)).quota j)) = upd (fun j => pos (p.quota j)) n 0 := by
      rw [hqd]
      funext j
      unfold upd
      split <;> rfl
    unfold taken
    rw [e2, sumF_upd _ _ hn8]
    have e3 : lifeC (r.life i) = 1 := by unfold lifeC; rw [hgi]; rfl
    have e4 : pos (p.quota n) = 1 := by unfold pos; rw [if_pos (by omega)]
    rw [e3, e4]
  · rw [liveSum_eq, qsum_eq, hqd]
    have e1 : (fun k => lifeQ ((Go.Proofs.Ytgndledehlilkab.dropS r i).life k)) = upd (fun k => lifeQ (r.life k)) i 0 := by
      funext k
      show lifeQ (upd r.life i _ k) = _
      unfold upd
      split <;> rfl
    show sumF (fun k => lifeQ ((Go.Proofs.Ytgndledehlilkab.dropS r i).life k)) r.nl = _
    rw [e1, sumF_upd _ _ hi, ← liveSum_eq, h.sum, qsum_eq, sumF_upd _ _ hn8]
    have e3 : lifeQ (r.life i) = (r.life i).quota := by unfold lifeQ; rw [hgi]; rfl
    rw [e3, hq]
  · intro k j hk hj hgk hgj hno2
    obtain ⟨_, hgk'⟩ := lgo k hgk
    obtain ⟨_, hgj'⟩ := lgo j hgj
    have hno3 : (upd r.life i { r.life i with gone := true, own := [] } k).no = (upd r.life i { r.life i with gone := true, own := [] } j).no := hno2
    rw [lno, lno] at hno3
    exact h.uniq k j hk hj hgk' hgj' hno3

theorem Sim.deriveS (h : Sim p r) {k : Nat} (hk : k < r.nt) {rights : Int} (hr0 : 0 ≤ rights) (hr1 : rights ≤ 15) (h100 : r.nt < 100) (hal : aliveR r k = true) : Sim (addS p (p.tenant k) rights (k + 1)) (deriveS r k rights) := by
  have hg := h.given
  have hnl := h.wr.nl
  refine ⟨⟨h.wp.room, h.wp.quota, ?_, ?_, ?_⟩, ⟨?_, ?_, h.wr.room, h.wr.quota, h.wr.no, ?_, ?_, ?_, ?_⟩, h.room, ?_, ?_, ?_, ?_, ?_, ?_, h.quotaL, h.quotaF, by rw [liveCount_eq]; have := h.count; rw [liveCount_eq] at this; exact this, by rw [liveSum_eq, qsum_eq]; have := h.sum; rw [liveSum_eq, qsum_eq] at this; exact this, h.uniq⟩
  · show p.given + 1 ≤ 100
    omega
  · intro j hj
    have hj' : j < p.given + 1 := hj
    show 0 ≤ upd p.rights p.given rights j ∧ upd p.rights p.given rights j ≤ 15
    by_cases e : j = p.given
    · subst e; rw [upd_same]; omega
    · rw [upd_other _ _ e]; exact h.wp.rights j (by omega)
  · intro j hj
    have hj' : j < p.given + 1 := hj
    show upd p.parent p.given (k + 1) j ≤ j
    by_cases e : j = p.given
    · subst e; rw [upd_same]; omega
    · rw [upd_other _ _ e]; exact h.wp.parent j (by omega)
  · show r.nt + 1 ≤ 100
    omega
  · show r.nl ≤ r.nt + 1
    omega
  · intro j hj
    have hj' : j < r.nt + 1 := hj
    show (upd r.tok r.nt _ j).life < r.nl
    by_cases e : j = r.nt
    · subst e; rw [upd_same]; exact h.wr.life k hk
    · rw [upd_other _ _ e]; exact h.wr.life j (by omega)
  · intro j hj
    have hj' : j < r.nt + 1 := hj
    show 0 ≤ (upd r.tok r.nt _ j).rights ∧ (upd r.tok r.nt _ j).rights ≤ 15
    by_cases e : j = r.nt
    · subst e; rw [upd_same]; exact ⟨hr0, hr1⟩
    · rw [upd_other _ _ e]; exact h.wr.rights j (by omega)
  · intro j hj
    have hj' : j < r.nt + 1 := hj
    show ∀ m ∈ (upd r.tok r.nt _ j).line, 1 ≤ m ∧ m ≤ j
    by_cases e : j = r.nt
    · subst e; rw [upd_same]
      intro m hm
      have hm' : m ∈ (r.tok k).line ++ [k + 1] := hm
      rw [List.mem_append] at hm'
      rcases hm' with hm' | hm'
      · have := h.wr.line k hk m hm'; omega
      · simp at hm'; omega
    · rw [upd_other _ _ e]; exact h.wr.line j (by omega)
  · intro j hj
    have hj' : j < r.nt + 1 := hj
    show (upd r.tok r.nt _ j).line.length ≤ j
    by_cases e : j = r.nt
    · subst e; rw [upd_same]
      show ((r.tok k).line ++ [k + 1]).length ≤ r.nt
      have := h.wr.lineLen k hk
      simp; omega
    · rw [upd_other _ _ e]; exact h.wr.lineLen j (by omega)
  · show p.given + 1 = r.nt + 1
    omega
  · intro j hj
    have hj' : j < r.nt + 1 := hj
    show upd p.rights p.given rights j = (upd r.tok r.nt _ j).rights
    rw [hg]
    by_cases e : j = r.nt
    · subst e; rw [upd_same, upd_same]
    · rw [upd_other _ _ e, upd_other _ _ e]; exact h.rights j (by omega)
  · intro j hj
    have hj' : j < r.nt + 1 := hj
    show upd p.tenant p.given (p.tenant k) j = (r.life (upd r.tok r.nt _ j).life).no
    rw [hg]
    by_cases e : j = r.nt
    · subst e; rw [upd_same, upd_same]; exact h.tenant k hk
    · rw [upd_other _ _ e, upd_other _ _ e]; exact h.tenant j (by omega)
  · intro j hj
    have hj' : j < r.nt + 1 := hj
    show upd p.ended p.given false j = ((upd r.tok r.nt _ j).revoked || (r.life (upd r.tok r.nt _ j).life).gone)
    rw [hg]
    by_cases e : j = r.nt
    · subst e; rw [upd_same, upd_same]
      show false = (false || (r.life (r.tok k).life).gone)
      unfold aliveR at hal
      cases hgo : (r.life (r.tok k).life).gone with
      | true => rw [hgo] at hal; simp at hal
      | false => rfl
    · rw [upd_other _ _ e, upd_other _ _ e]; exact h.ended j (by omega)
  · intro j hj hp
    have hj' : j < r.nt + 1 := hj
    have hp' : upd p.parent p.given (k + 1) j = 0 := hp
    show (upd r.tok r.nt _ j).line = []
    rw [hg] at hp'
    by_cases e : j = r.nt
    · subst e; rw [upd_same] at hp'; omega
    · rw [upd_other _ _ e] at hp' ⊢; exact h.parent0 j (by omega) hp'
  · intro j m hj hp
    have hj' : j < r.nt + 1 := hj
    have hp' : upd p.parent p.given (k + 1) j = m + 1 := hp
    rw [hg] at hp'
    by_cases e : j = r.nt
    · subst e
      rw [upd_same] at hp'
      obtain rfl : m = k := by omega
      have e2 : m ≠ r.nt := by omega
      show m < r.nt ∧ (upd r.tok r.nt _ r.nt).line = (upd r.tok r.nt _ m).line ++ [m + 1] ∧ (upd r.tok r.nt _ r.nt).life = (upd r.tok r.nt _ m).life
      rw [upd_same, upd_other _ _ e2]
      exact ⟨hk, rfl, rfl⟩
    · rw [upd_other _ _ e] at hp'
      obtain ⟨a, c, d⟩ := h.parentS j m (by omega) hp'
      have e2 : m ≠ r.nt := by omega
      show m < j ∧ (upd r.tok r.nt _ j).line = (upd r.tok r.nt _ m).line ++ [m + 1] ∧ (upd r.tok r.nt _ j).life = (upd r.tok r.nt _ m).life
      rw [upd_other _ _ e, upd_other _ _ e2]
      exact ⟨a, c, d⟩
theorem Sim.revokeS (h : Sim p r) {j : Nat} (_hj : j < r.nt) : Sim { p with ended := upd p.ended j true } (revokeS r j) := by
  have tl : ∀ k, (upd r.tok j { r.tok j with revoked := true } k).life = (r.tok k).life := fun k => by
    by_cases e : k = j
    · subst e; rw [upd_same]
    · rw [upd_other _ _ e]
  have tr : ∀ k, (upd r.tok j { r.tok j with revoked := true } k).rights = (r.tok k).rights := fun k => by
    by_cases e : k = j
    · subst e; rw [upd_same]
    · rw [upd_other _ _ e]
  have tn : ∀ k, (upd r.tok j { r.tok j with revoked := true } k).line = (r.tok k).line := fun k => by
    by_cases e : k = j
    · subst e; rw [upd_same]
    · rw [upd_other _ _ e]
  refine ⟨⟨h.wp.room, h.wp.quota, h.wp.given, h.wp.rights, h.wp.parent⟩, ⟨h.wr.nt, h.wr.nl, h.wr.room, h.wr.quota, h.wr.no, ?_, ?_, ?_, ?_⟩, h.room, h.given, ?_, ?_, ?_, ?_, ?_, h.quotaL, h.quotaF, by rw [liveCount_eq]; have := h.count; rw [liveCount_eq] at this; exact this, by rw [liveSum_eq, qsum_eq]; have := h.sum; rw [liveSum_eq, qsum_eq] at this; exact this, h.uniq⟩
  · intro k hk
    show (upd r.tok j _ k).life < r.nl
    rw [tl]; exact h.wr.life k hk
  · intro k hk
    show 0 ≤ (upd r.tok j _ k).rights ∧ (upd r.tok j _ k).rights ≤ 15
    rw [tr]; exact h.wr.rights k hk
  · intro k hk
    show ∀ m ∈ (upd r.tok j _ k).line, 1 ≤ m ∧ m ≤ k
    rw [tn]; exact h.wr.line k hk
  · intro k hk
    show (upd r.tok j _ k).line.length ≤ k
    rw [tn]; exact h.wr.lineLen k hk
  · intro k hk
    show p.rights k = (upd r.tok j _ k).rights
    rw [tr]; exact h.rights k hk
  · intro k hk
    show p.tenant k = (r.life (upd r.tok j _ k).life).no
    rw [tl]; exact h.tenant k hk
  · intro k hk
    show upd p.ended j true k = ((upd r.tok j _ k).revoked || (r.life (upd r.tok j _ k).life).gone)
    rw [tl]
    by_cases e : k = j
    · subst e; rw [upd_same, upd_same]; simp
    · rw [upd_other _ _ e, upd_other _ _ e]; exact h.ended k hk
  · intro k hk hp
    show (upd r.tok j _ k).line = []
    rw [tn]; exact h.parent0 k hk hp
  · intro k m hk hp
    show m < k ∧ (upd r.tok j _ k).line = (upd r.tok j _ m).line ++ [m + 1] ∧ (upd r.tok j _ k).life = (upd r.tok j _ m).life
    rw [tn, tn, tl, tl]
    exact h.parentS k m hk hp
end
end Go.Proofs.Ytgndledehlilkab
