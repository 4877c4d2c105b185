/-
  Wired: the two engines' one state, as plain data: begun, a token more, steps, the end.
-/
import Derived.Test.YtgndledehlilkabWirN
namespace Go.Proofs.Ytgndledehlilkab
open Go.RowKit

/-- What is the case throughout the steps. -/
structure At4 (r : RefS) : Prop where
  nl : r.nl = 3
  nt : r.nt = 4
  t0 : r.tok 0 = ⟨0, 15, [], false⟩
  t1 : r.tok 1 = ⟨1, 15, [], false⟩
  t3 : r.tok 3 = ⟨0, 9, [1], false⟩
  live : ∀ i, i < 3 → (r.life i).gone = false
  no : ∀ i : Nat, i < 3 → (r.life i).no = (i : Int)
/-- .. ahead of the fourth token. -/
theorem derive4 (Q : List Int) : deriveR (begF Q 3) 1 9 = 0 ∧ deriveA (begF Q 3) 1 9 = 4 ∧ At4 (derivedR (begF Q 3) 1 9) := by
  have e : deriveR (begF Q 3) 1 9 = 0 := by rfl
  refine ⟨e, ?_, ?_⟩
  · unfold deriveA; rw [if_pos e]; rfl
  · unfold derivedR; rw [if_pos e]
    exact ⟨rfl, rfl, rfl, rfl, rfl, fun _ _ => rfl, fun _ _ => rfl⟩
theorem At4.turn {r : RefS} (h : At4 r) {l : Nat} {L : Life} (h1 : L.no = (r.life l).no) (h2 : L.gone = (r.life l).gone) : At4 { r with life := upd r.life l L } := by
  refine ⟨h.nl, h.nt, h.t0, h.t1, h.t3, fun i hi => ?_, fun i hi => ?_⟩
  · show (upd r.life l L i).gone = false
    by_cases e : i = l
    · subst e; rw [upd_same, h2]; exact h.live i hi
    · rw [upd_other _ _ e]; exact h.live i hi
  · show (upd r.life l L i).no = (i : Int)
    by_cases e : i = l
    · subst e; rw [upd_same, h1]; exact h.no i hi
    · rw [upd_other _ _ e]; exact h.no i hi
theorem At4.play {r : RefS} (h : At4 r) (n : Int) (o : OpD) (mk : Int) : At4 (playS r n o mk) := by
  unfold playS
  split
  · unfold insertedR
    split
    · exact h.turn rfl rfl
    · exact h
  · split
    · unfold removedR
      split
      · exact h.turn rfl rfl
      · exact h
    · split
      · unfold sharedR
        split
        · exact h.turn rfl rfl
        · exact h
      · split
        · unfold filteredR
          split
          · exact h.turn rfl rfl
          · exact h
        · exact h
/-- The end: the fourth token is revoked, a tenant is dropped, its token tells nothing. -/
theorem At4.ends {r : RefS} (h : At4 r) (hk : RefOk r) : ∃ r2 r3, revokeR r 1 4 = 0 ∧ revokedR r 1 4 = r2 ∧ dropR r2 1 = 0 ∧ droppedS r2 1 = r3 ∧ mayI r3 2 1 = 3 ∧ countF r3 2 = ⟨0, 0, 0, 0⟩ := by
  have e1 : revokeR r 1 4 = 0 := by
    have m : mayI r 1 8 = 0 := by
      unfold mayI aliveI aliveR
      show (if (decide ((1 : Int) ≤ 1 ∧ (1 : Int) ≤ r.nt) && !((r.life (r.tok 0).life).gone || (r.tok 0).revoked || (r.tok 0).line.any fun n => (r.tok (n - 1)).revoked)) = true then (if hasB (r.tok 0).rights 8 = true then (0 : Int) else 4) else 3) = 0
      rw [h.t0, h.nt]
      show (if (decide ((1 : Int) ≤ 1 ∧ (1 : Int) ≤ (4 : Nat)) && !((r.life 0).gone || false || false)) = true then (0 : Int) else 3) = 0
      rw [h.live 0 (by omega)]
      rfl
    unfold revokeR
    rw [if_pos m, h.nt]
    show revErr (lineHas (r.tok 3).line 1) = 0
    rw [h.t3]
    rfl
  have e2 : revokedR r 1 4 = revokeS r 3 := by unfold revokedR; rw [if_pos e1]; rfl
  have hok2 : RefOk (revokeS r 3) := by rw [← e2]; exact hk.revoked 1 4
  have g1 : ((revokeS r 3).life 1).gone = false := h.live 1 (by omega)
  have n1 : ((revokeS r 3).life 1).no = 1 := h.no 1 (by omega)
  have hl : 1 < (revokeS r 3).nl := by show 1 < r.nl; rw [h.nl]; omega
  have u : usedB (revokeS r 3) 1 = true := usedB_true.2 ⟨1, hl, g1, n1⟩
  have e3 : dropR (revokeS r 3) 1 = 0 := by unfold dropR; rw [if_pos u]
  have e4 : droppedS (revokeS r 3) 1 = dropS (revokeS r 3) 1 := by
    unfold droppedS
    rw [if_pos u]
    have := lifeNo_is hok2.own hl g1
    rw [n1] at this
    rw [this]
  have e5 : mayI (dropS (revokeS r 3) 1) 2 1 = 3 := by
    unfold mayI aliveI aliveR
    have t : (dropS (revokeS r 3) 1).tok 1 = ⟨1, 15, [], false⟩ := by
      refine Eq.trans ?_ h.t1
      exact upd_other (i := 3) (j := 1) r.tok { r.tok 3 with revoked := true } (by omega)
    show (if (decide _ && !(((dropS (revokeS r 3) 1).life ((dropS (revokeS r 3) 1).tok 1).life).gone || _ || _)) = true then _ else (3 : Int)) = 3
    rw [t]
    have g : ((dropS (revokeS r 3) 1).life 1).gone = true := by
      unfold dropS
      simp only [upd_same]
    rw [g]
    simp
  refine ⟨_, _, e1, e2, e3, e4, e5, ?_⟩
  unfold countF
  rw [if_neg (by rw [e5]; decide)]
/-- The first requests. -/
theorem do_create (r : RefS) (q : Int) : doB r [1, q] = ansB (createR r q) [loB (createA r q).1, hiB (createA r q).2, loB (createA r q).2] ∧ doS r [1, q] = createdR r q := by
  have hq : isReq [1, q] = true := by rfl
  refine ⟨?_, ?_⟩
  · unfold doB; rw [hq]; rfl
  · unfold doS; rw [hq]; rfl
theorem do_derive (r : RefS) : doB r [3, 0, 1, 9] = ansB (deriveR r 1 9) [hiB (deriveA r 1 9), loB (deriveA r 1 9)] ∧ doS r [3, 0, 1, 9] = derivedR r 1 9 := by
  have hq : isReq [3, 0, 1, 9] = true := by rfl
  refine ⟨?_, ?_⟩
  · unfold doB; rw [hq]; rfl
  · unfold doS; rw [hq]; rfl
theorem do_revoke (r : RefS) : doB r [4, 0, 1, 0, 4] = ansB (revokeR r 1 4) [] ∧ doS r [4, 0, 1, 0, 4] = revokedR r 1 4 := by
  have hq : isReq [4, 0, 1, 0, 4] = true := by rfl
  refine ⟨?_, ?_⟩
  · unfold doB; rw [hq]; rfl
  · unfold doS; rw [hq]; rfl
theorem do_drop (r : RefS) : doB r [2, 1] = ansB (dropR r 1) [] ∧ doS r [2, 1] = droppedS r 1 := by
  have hq : isReq [2, 1] = true := by rfl
  refine ⟨?_, ?_⟩
  · unfold doB; rw [hq]; rfl
  · unfold doS; rw [hq]; rfl
theorem do_count (r : RefS) : doB r [12, 0, 2] = ansB (mayI r 2 1) (sumsB (countF r 2)) ∧ doS r [12, 0, 2] = r := by
  have hq : isReq [12, 0, 2] = true := by rfl
  refine ⟨?_, ?_⟩
  · unfold doB; rw [hq]; rfl
  · unfold doS; rw [hq]; rfl
/-- The tenants, one after another. -/
theorem do_first {i : Nat} {q : Int} (hi : i < 3) (hq : ([5, 3, 2] : List Int).getD i 0 = q) : doB (begF [5, 3, 2] i) [1, q] = [0, (i : Int), 0, (i : Int) + 1] ∧ doS (begF [5, 3, 2] i) [1, q] = begF [5, 3, 2] (i + 1) := by
  obtain ⟨d1, d2⟩ := do_create (begF [5, 3, 2] i) q
  obtain ⟨e1, e2, e3⟩ := begF_create (Q := [5, 3, 2]) (T := fun j => ⟨j, 15, [], false⟩) (fun _ _ => rfl) (by
    intro j hj
    have hj' : j < 3 := hj
    rcases (by omega : j = 0 ∨ j = 1 ∨ j = 2) with rfl | rfl | rfl <;> decide) (by decide) (by decide) (i := i) hi
  rw [hq] at e1 e2 e3
  rw [d1, d2]
  have e1' : createR (begF [5, 3, 2] i) q = 0 := e1
  have e2' : createA (begF [5, 3, 2] i) q = ((i : Int), (i : Int) + 1) := e2
  have e3' : createdR (begF [5, 3, 2] i) q = begF [5, 3, 2] (i + 1) := e3
  rw [e1', e2', e3']
  refine ⟨?_, rfl⟩
  rcases (by omega : i = 0 ∨ i = 1 ∨ i = 2) with rfl | rfl | rfl <;> rfl
end Go.Proofs.Ytgndledehlilkab
