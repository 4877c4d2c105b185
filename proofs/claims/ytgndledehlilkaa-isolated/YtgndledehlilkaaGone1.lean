/-
  Gone: what is the case, as plain data.
-/
import Derived.Test.YtgndledehlilkaaKeep4
import Derived.Test.YtgndledehlilkaaOnes
namespace Go.Proofs.Ytgndledehlilkaa
open Go.RowKit

def ofT (M : List RouteD) (t : Nat) : List RouteD := M.filter fun x => decide (x.from_ = (t : Int))
def quotaG (i : Nat) : Int := ([10, 30, 24] : List Int).getD i 0
def lifeG (m : Nat) (M : List RouteD) (i : Nat) : Life := ⟨i, quotaG i, if i < m then 1 else 0, if i < m then 1 else 0, ofT M i, [], false⟩
def tokG (rg : Int) (k : Nat) : Tok := if k < 3 then ⟨k, 15, [], false⟩ else ⟨0, rg, [1], false⟩
/-- Behind m shares, and the routes M. -/
def gR (rg : Int) (nt m : Nat) (M : List RouteD) : RefS := ⟨64, 3, lifeG m M, nt, tokG rg⟩
theorem tokG_first (rg : Int) : ∀ j, j < ([10, 30, 24] : List Int).length → tokG rg j = ⟨j, 15, [], false⟩ := by
  intro j hj
  have hj' : j < 3 := hj
  unfold tokG
  rw [if_pos hj']
theorem gR_zero (rg : Int) : begT [10, 30, 24] (tokG rg) 3 = gR rg 3 0 [] := by
  unfold begT gR
  simp only [RefS.mk.injEq, true_and, and_true]
  funext j
  unfold lifeG ofT quotaG
  simp
theorem gR_firsts (rg : Int) {nt m : Nat} (M : List RouteD) (h : 3 ≤ nt) : Firsts (gR rg nt m M) 3 := ⟨h, fun i hi => by show tokG rg i = _; unfold tokG; rw [if_pos hi], fun _ _ => rfl⟩
theorem lacks_le {rg : Int} (h0 : 0 ≤ rg) (h1 : rg ≤ 15) : lacks 15 rg = false := by
  have : rg = 0 ∨ rg = 1 ∨ rg = 2 ∨ rg = 3 ∨ rg = 4 ∨ rg = 5 ∨ rg = 6 ∨ rg = 7 ∨ rg = 8 ∨ rg = 9 ∨ rg = 10 ∨ rg = 11 ∨ rg = 12 ∨ rg = 13 ∨ rg = 14 ∨ rg = 15 := by omega
  rcases this with rfl | rfl | rfl | rfl | rfl | rfl | rfl | rfl | rfl | rfl | rfl | rfl | rfl | rfl | rfl | rfl <;> decide
/-- One token more. -/
theorem gR_derive {rg : Int} (h0 : 0 ≤ rg) (h1 : rg ≤ 15) : deriveR (gR rg 3 0 []) 1 rg = 0 ∧ deriveA (gR rg 3 0 []) 1 rg = 4 ∧ derivedR (gR rg 3 0 []) 1 rg = gR rg 4 0 [] := by
  have e1 : (gR rg 3 0 []).tok ((1 : Int) - 1).toNat = ⟨0, 15, [], false⟩ := rfl
  have ha : aliveI (gR rg 3 0 []) 1 = true := rfl
  have e0 : deriveR (gR rg 3 0 []) 1 rg = 0 := by
    unfold deriveR
    rw [ha, if_pos rfl, if_neg (by omega), e1]
    simp only
    rw [lacks_le h0 h1, if_neg (by simp), if_neg (by show ¬ 100 ≤ 3; omega)]
  refine ⟨e0, ?_, ?_⟩
  · unfold deriveA
    rw [if_pos e0]
    rfl
  · unfold derivedR
    rw [if_pos e0]
    unfold deriveS
    rw [e1]
    unfold gR
    simp only [RefS.mk.injEq, true_and]
    funext k
    unfold upd
    split
    · rename_i e
      subst e
      rfl
    · rfl
/-- A share. -/
theorem gR_share (rg : Int) {m : Nat} (hm : m < 3) (M : List RouteD) : shareR (gR rg 4 m M) ((m : Int) + 1) 1 1 = 0 ∧ sharedR (gR rg 4 m M) ((m : Int) + 1) 1 1 = gR rg 4 (m + 1) M := by
  obtain ⟨h1, h2, _⟩ := (gR_firsts rg (m := m) M (show 3 ≤ 4 by omega)).share hm (g := 1) (k := 1) (by omega) (by omega)
  refine ⟨h1, h2.trans ?_⟩
  unfold shareS gR
  simp only [RefS.mk.injEq, true_and, and_true]
  funext j
  unfold upd
  by_cases e : j = m
  · subst e
    rw [if_pos rfl]
    unfold lifeG
    rw [if_pos (show j < j + 1 by omega)]
  · rw [if_neg e]
    unfold lifeG
    by_cases h : j < m
    · rw [if_pos h, if_pos (show j < m + 1 by omega)]
    · rw [if_neg h, if_neg (show ¬ j < m + 1 by omega)]
theorem quotaG_ge {t : Nat} (h : t < 3) : 10 ≤ quotaG t := by
  have : t = 0 ∨ t = 1 ∨ t = 2 := by omega
  rcases this with rfl | rfl | rfl <;> decide
theorem cnt_app (L M : List RouteD) (t : Int) : cnt (L ++ M) t = cnt L t + cnt M t := by
  unfold cnt
  rw [List.filter_append, List.length_append]
theorem ofT_snoc (M : List RouteD) (x : RouteD) (t j : Nat) (h : x.from_ = (t : Int)) : ofT (M ++ [x]) j = if j = t then ofT M j ++ [x] else ofT M j := by
  unfold ofT
  rw [List.filter_append]
  by_cases e : j = t
  · subst e
    rw [if_pos rfl]
    simp [h]
  · rw [if_neg e]
    have : ¬ (t : Int) = (j : Int) := by omega
    simp [h, this]
/-- An own route more. -/
theorem gR_insert {rg : Int} {M : List RouteD} {x : RouteD} (h : OkOnes (M ++ [x])) : ∃ t : Nat, t < 3 ∧ x.from_ = (t : Int) ∧ insertR (gR rg 4 3 M) ((t : Int) + 1) x.addr x.len x.hop = 0 ∧ insertedR (gR rg 4 3 M) ((t : Int) + 1) x.addr x.len x.hop = gR rg 4 3 (M ++ [x]) := by
  have hx : x ∈ M ++ [x] := by simp
  obtain ⟨t, ht, hf⟩ : ∃ t : Nat, t < 3 ∧ x.from_ = (t : Int) := by
    rcases h.who x hx with e | e | e
    · exact ⟨0, by omega, e⟩
    · exact ⟨1, by omega, e⟩
    · exact ⟨2, by omega, e⟩
  refine ⟨t, ht, hf, ?_⟩
  obtain ⟨m1, m2⟩ := (gR_firsts rg (m := 3) M (show 3 ≤ 4 by omega)).may ht (right := 2) (by decide)
  have hn : newRoute (gR rg 4 3 M) ((t : Int) + 1) x.addr x.len x.hop = x := by
    unfold newRoute
    rw [m2]
    show (⟨x.addr, x.len, x.hop, (t : Int)⟩ : RouteD) = x
    rw [← hf]
  have hown : ((gR rg 4 3 M).life t).own = ofT M t := rfl
  have hfi : findI (ofT M t) x = -1 := by
    rcases findI_cases (ofT M t) x with ⟨i, hi, _, hs⟩ | ⟨h1, _⟩
    · exfalso
      have hmem : (ofT M t).getD i rt0 ∈ ofT M t := by
        rw [List.getD_eq_getElem?_getD, List.getElem?_eq_getElem hi]
        exact List.getElem_mem hi
      generalize (ofT M t).getD i rt0 = y at *
      unfold ofT at hmem
      rw [List.mem_filter, decide_eq_true_eq] at hmem
      have := (List.pairwise_append.1 h.dist).2.2 y hmem.1 x (by simp)
      unfold sameO at this
      unfold sameB at hs
      rw [hs, hmem.2, hf] at this
      simp at this
    · exact h1
  have hlen : ((ofT M t).length : Int) < quotaG t := by
    have h1 := h.few (t : Int)
    rw [cnt_snoc, if_pos hf] at h1
    have h2 : (ofT M t).length = cnt M (t : Int) := rfl
    have := quotaG_ge ht
    omega
  have e0 : insertR (gR rg 4 3 M) ((t : Int) + 1) x.addr x.len x.hop = 0 := by
    have hi : insIn ((gR rg 4 3 M).life t) x = 0 := by
      unfold insIn
      rw [hown, hfi, if_neg (show ¬ (0 : Int) ≤ -1 by omega)]
      exact if_neg (show ¬ quotaG t ≤ ((ofT M t).length : Int) by omega)
    unfold insertR
    rw [if_pos m1, h.pfx x hx, (okMask_iff x.hop).2 (h.hop x hx), m2, hn, hi]
    rfl
  refine ⟨e0, ?_⟩
  unfold insertedR
  rw [if_pos e0, m2, hn, hown]
  unfold insOwn
  rw [hfi, if_neg (show ¬ (0 : Int) ≤ -1 by omega)]
  unfold ownS gR
  simp only [RefS.mk.injEq, true_and, and_true]
  funext j
  unfold upd lifeG
  rw [ofT_snoc M x t j hf]
  by_cases e : j = t
  · subst e
    rw [if_pos rfl, if_pos rfl]
  · rw [if_neg e, if_neg e]
theorem OkOnes.take {L : List RouteD} (h : OkOnes L) {k : Nat} (hk : k < L.length) : OkOnes (L.take k ++ [L.getD k rt0]) := by
  have e : L.take k ++ [L.getD k rt0] = L.take (k + 1) := by
    rw [List.take_add_one, List.getElem?_eq_getElem hk, show L.getD k rt0 = L[k] from by simp [List.getD_eq_getElem?_getD, hk]]
    rfl
  rw [e]
  have hs : ∀ x ∈ L.take (k + 1), x ∈ L := fun x hx => List.mem_of_mem_take hx
  refine ⟨fun x hx => h.pfx x (hs x hx), fun x hx => h.hop x (hs x hx), fun x hx => h.who x (hs x hx), h.dist.sublist (List.take_sublist _ _), fun t => ?_⟩
  have h1 := h.few t
  rw [← List.take_append_drop (k + 1) L, cnt_app] at h1
  omega
theorem take_snoc {L : List RouteD} {k : Nat} (hk : k < L.length) : L.take k ++ [L.getD k rt0] = L.take (k + 1) := by
  rw [List.take_add_one, List.getElem?_eq_getElem hk, show L.getD k rt0 = L[k] from by simp [List.getD_eq_getElem?_getD, hk]]
  rfl
/-- No room. -/
theorem gR_full (rg : Int) (M : List RouteD) : createR (gR rg 4 3 M) 1 = 6 ∧ createA (gR rg 4 3 M) 1 = (0, 0) ∧ createdR (gR rg 4 3 M) 1 = gR rg 4 3 M := by
  have e0 : createR (gR rg 4 3 M) 1 = 6 := rfl
  exact ⟨e0, by unfold createA; rw [if_neg (by rw [e0]; omega)], by unfold createdR; rw [if_neg (by rw [e0]; omega)]⟩
/-- Behind Drop. -/
def dR (rg : Int) (M : List RouteD) : RefS := dropS (gR rg 4 3 M) 0
theorem gR_drop (rg : Int) (M : List RouteD) : dropR (gR rg 4 3 M) 0 = 0 ∧ droppedS (gR rg 4 3 M) 0 = dR rg M := by
  have h : usedB (gR rg 4 3 M) 0 = true := rfl
  have h2 : lifeNo (gR rg 4 3 M) 0 = 0 := rfl
  refine ⟨?_, ?_⟩
  · unfold dropR; rw [if_pos h]
  · unfold droppedS; rw [if_pos h, h2]; rfl
theorem dR_drop (rg : Int) (M : List RouteD) : dropR (dR rg M) 0 = 5 ∧ droppedS (dR rg M) 0 = dR rg M := by
  have h : usedB (dR rg M) 0 = false := rfl
  refine ⟨?_, ?_⟩
  · unfold dropR; rw [if_neg (by rw [h]; simp)]
  · unfold droppedS; rw [if_neg (by rw [h]; simp)]
theorem dR_table2 (rg : Int) (M : List RouteD) (hk : RefOk (dR rg M)) : mayI (dR rg M) 2 1 = 0 ∧ ∀ x ∈ tableL (dR rg M) 2, x.from_ ≠ 0 := by
  have e0 : mayI (dR rg M) 2 1 = 0 := rfl
  refine ⟨e0, ?_⟩
  unfold tableL
  rw [if_pos e0]
  have e1 : lifeOf (dR rg M) 2 = 1 := rfl
  rw [e1]
  intro x hx
  obtain ⟨_, t2⟩ := tabF_is hk.tab hk.own (t := 1) (by show 1 < 3; omega)
  have hof : ∀ u : Nat, x ∈ ofT M u → x.from_ = (u : Int) := fun u hu => by
    unfold ofT at hu
    rw [List.mem_filter, decide_eq_true_eq] at hu
    exact hu.2
  rcases (t2 x).1 hx with h | h
  · have := hof 1 h
    omega
  · have h' := List.mem_of_mem_take h
    obtain ⟨_, m⟩ := offF_is hk.tab hk.own 1
    obtain ⟨u, hu, hxu, ho⟩ := ((m x).1 h').1
    obtain ⟨o1, o2, o3, _⟩ := offerB_parts ho
    have hu3 : u < 3 := hu
    have hu' : u = 0 ∨ u = 1 ∨ u = 2 := by omega
    rcases hu' with rfl | rfl | rfl
    · cases o3
    · exact absurd rfl o1
    · have := hof 2 hxu
      omega
/-- The tokens are dead. -/
theorem dR_dead (rg : Int) (M : List RouteD) : mayI (dR rg M) 1 1 = 3 ∧ deriveR (dR rg M) 1 0 = 3 ∧ deriveA (dR rg M) 1 0 = 0 ∧ derivedR (dR rg M) 1 0 = dR rg M ∧ insertR (dR rg M) 4 0 0 1 = 3 ∧ insertedR (dR rg M) 4 0 0 1 = dR rg M := by
  have e1 : deriveR (dR rg M) 1 0 = 3 := rfl
  have e2 : mayI (dR rg M) 4 2 = 3 := rfl
  have e3 : insertR (dR rg M) 4 0 0 1 = 3 := by unfold insertR; rw [if_neg (by rw [e2]; omega), e2]
  refine ⟨rfl, e1, ?_, ?_, e3, ?_⟩
  · unfold deriveA; rw [if_neg (by rw [e1]; omega)]
  · unfold derivedR; rw [if_neg (by rw [e1]; omega)]
  · unfold insertedR; rw [if_neg (by rw [e3]; omega)]
theorem dR_more (rg : Int) (M : List RouteD) : createR (dR rg M) 11 = 6 ∧ createA (dR rg M) 11 = (0, 0) ∧ createdR (dR rg M) 11 = dR rg M := by
  have e0 : createR (dR rg M) 11 = 6 := rfl
  exact ⟨e0, by unfold createA; rw [if_neg (by rw [e0]; omega)], by unfold createdR; rw [if_neg (by rw [e0]; omega)]⟩
/-- Who comes into its place. -/
def nR (rg : Int) (M : List RouteD) (q : Int) : RefS := createS (dR rg M) 0 q
theorem dR_create (rg : Int) (M : List RouteD) {q : Int} (h1 : 1 ≤ q) (h2 : q ≤ 10) : createR (dR rg M) q = 0 ∧ createA (dR rg M) q = (0, 5) ∧ createdR (dR rg M) q = nR rg M q := by
  have a1 : liveCount (dR rg M) (dR rg M).nl = 2 := rfl
  have a2 : liveSum (dR rg M) (dR rg M).nl = 54 := rfl
  have e0 : createR (dR rg M) q = 0 := by
    unfold createR
    rw [a1, a2, if_neg (by omega), if_neg (by omega), if_neg (by show ¬ (64 : Int) < _; omega), if_neg (by show ¬ 100 ≤ 4; omega)]
  have e1 : freeNo (dR rg M) = 0 := rfl
  refine ⟨e0, ?_, ?_⟩
  · unfold createA
    rw [if_pos e0, e1]
    rfl
  · unfold createdR
    rw [if_pos e0, e1]
    rfl
theorem nR_has (rg : Int) (M : List RouteD) (q : Int) (hk : RefOk (nR rg M q)) : mayI (nR rg M q) 5 1 = 0 ∧ tableL (nR rg M q) 5 = [] ∧ countF (nR rg M q) 5 = ⟨0, 0, 0, q⟩ ∧ mayI (nR rg M q) 1 1 = 3 := by
  have e0 : mayI (nR rg M q) 5 1 = 0 := rfl
  have e1 : lifeOf (nR rg M q) 5 = 3 := rfl
  have hl : (nR rg M q).life 3 = ⟨0, q, 0, 0, [], [], false⟩ := rfl
  have hoff : offF (nR rg M q) 3 = [] := by
    rw [List.eq_nil_iff_forall_not_mem]
    intro x hx
    obtain ⟨_, m⟩ := offF_is hk.tab hk.own 3
    obtain ⟨u, hu, hxu, ho⟩ := ((m x).1 hx).1
    obtain ⟨o1, o2, o3, o4, _⟩ := offerB_parts ho
    have hu3 : u < 4 := hu
    have hu' : u = 0 ∨ u = 1 ∨ u = 2 ∨ u = 3 := by omega
    rw [hl] at o4
    rcases hu' with rfl | rfl | rfl | rfl
    · cases o3
    · have : commonB ((nR rg M q).life 1).gives 0 = false := rfl
      simp only at o4
      rw [this] at o4; cases o4
    · have : commonB ((nR rg M q).life 2).gives 0 = false := rfl
      simp only at o4
      rw [this] at o4; cases o4
    · exact absurd rfl o1
  have htk : takenF (nR rg M q) 3 = [] := by unfold takenF; rw [hoff]; simp
  refine ⟨e0, ?_, ?_, rfl⟩
  · unfold tableL
    rw [if_pos e0, e1, List.eq_nil_iff_forall_not_mem]
    intro x hx
    obtain ⟨_, t2⟩ := tabF_is hk.tab hk.own (t := 3) (by show 3 < 4; omega)
    rcases (t2 x).1 hx with h | h
    · rw [hl] at h; cases h
    · rw [htk] at h; cases h
  · unfold countF
    rw [if_pos e0, e1, htk, hoff, hl]
    rfl
end Go.Proofs.Ytgndledehlilkaa
