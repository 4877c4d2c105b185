/-
  OneHop: what is the case, as plain data.
-/
import Derived.Test.YtgndledehlilkaaKeep3
namespace Go.Proofs.Ytgndledehlilkaa
open Go.RowKit

/-- The first tokens are the tenants' first ones. -/
structure Firsts (r : RefS) (N : Nat) : Prop where
  nt : N ≤ r.nt
  tok : ∀ i, i < N → r.tok i = ⟨i, 15, [], false⟩
  live : ∀ i, i < N → (r.life i).gone = false
theorem Firsts.beg (Q : List Int) (N : Nat) : Firsts (begF Q N) N := ⟨Nat.le_refl _, fun _ _ => rfl, fun _ _ => rfl⟩
section
variable {r : RefS} {N : Nat}
theorem Firsts.may (h : Firsts r N) {i : Nat} (hi : i < N) {right : Int} (hr : hasB 15 right = true) : mayI r ((i : Int) + 1) right = 0 ∧ lifeOf r ((i : Int) + 1) = i := by
  have e0 : ((i : Int) + 1 - 1).toNat = i := by omega
  have hnt := h.nt
  refine ⟨?_, ?_⟩
  · unfold mayI aliveI aliveR
    rw [e0, h.tok i hi]
    simp only
    rw [h.live i hi, hr]
    have : decide (1 ≤ (i : Int) + 1 ∧ (i : Int) + 1 ≤ (r.nt : Int)) = true := by simp; omega
    rw [this]
    rfl
  · unfold lifeOf
    rw [e0, h.tok i hi]
theorem Firsts.life (h : Firsts r N) {l : Nat} {L : Life} (hg : L.gone = false) : Firsts { r with life := upd r.life l L } N := ⟨h.nt, h.tok, fun i hi => by
  show (upd r.life l L i).gone = false
  by_cases e : i = l
  · subst e; rw [upd_same]; exact hg
  · rw [upd_other _ _ e]; exact h.live i hi⟩
/-- A first route. -/
theorem Firsts.insert1 (h : Firsts r N) {i : Nat} (hi : i < N) {addr len hop : Int} (ho : (r.life i).own = []) (hq : 1 ≤ (r.life i).quota) (hp : isPfx addr len = true) (hh : 0 ≤ hop ∧ hop ≤ 255) :
    insertR r ((i : Int) + 1) addr len hop = 0 ∧ insertedR r ((i : Int) + 1) addr len hop = ownS r i [⟨addr, len, hop, (r.life i).no⟩] ∧ Firsts (ownS r i [⟨addr, len, hop, (r.life i).no⟩]) N := by
  obtain ⟨m1, m2⟩ := h.may hi (right := 2) (by decide)
  have e0 : insertR r ((i : Int) + 1) addr len hop = 0 := by
    unfold insertR
    rw [if_pos m1, hp, (okMask_iff hop).2 hh, m2]
    unfold insIn
    rw [ho]
    have : findI [] (newRoute r ((i : Int) + 1) addr len hop) = -1 := rfl
    rw [this]
    simp
    omega
  refine ⟨e0, ?_, h.life (h.live i hi)⟩
  unfold insertedR newRoute
  rw [if_pos e0, m2, ho]
  rfl
theorem Firsts.share (h : Firsts r N) {i : Nat} (hi : i < N) {g k : Int} (hg : 0 ≤ g ∧ g ≤ 255) (hk : 0 ≤ k ∧ k ≤ 255) :
    shareR r ((i : Int) + 1) g k = 0 ∧ sharedR r ((i : Int) + 1) g k = shareS r i g k ∧ Firsts (shareS r i g k) N := by
  obtain ⟨m1, m2⟩ := h.may hi (right := 4) (by decide)
  have e0 : shareR r ((i : Int) + 1) g k = 0 := by
    unfold shareR
    rw [if_pos m1, (okMask_iff g).2 hg, (okMask_iff k).2 hk]
    rfl
  refine ⟨e0, ?_, h.life (h.live i hi)⟩
  unfold sharedR
  rw [if_pos e0, m2]
theorem Firsts.table (h : Firsts r N) {i : Nat} (hi : i < N) : mayI r ((i : Int) + 1) 1 = 0 ∧ tableL r ((i : Int) + 1) = tabF r i := by
  obtain ⟨m1, m2⟩ := h.may hi (right := 1) (by decide)
  refine ⟨m1, ?_⟩
  unfold tableL
  rw [if_pos m1, m2]
end
/-- The engine of OneHop. -/
def hopR (x y : RouteD) : RefS := shareS (shareS (shareS (ownS (ownS (begF [4, 4, 4] 3) 0 [x]) 1 [y]) 0 1 0) 1 2 1) 2 4 2
theorem hop_life0 (x y : RouteD) : (hopR x y).life 0 = ⟨0, 4, 1, 0, [x], [], false⟩ := rfl
theorem hop_life1 (x y : RouteD) : (hopR x y).life 1 = ⟨1, 4, 2, 1, [y], [], false⟩ := rfl
theorem hop_life2 (x y : RouteD) : (hopR x y).life 2 = ⟨2, 4, 4, 2, [], [], false⟩ := rfl
theorem hop_nl (x y : RouteD) : (hopR x y).nl = 3 := rfl
theorem findI_one (x y : RouteD) : findI [y] x < 0 ↔ sameB y x = false := by
  unfold findI
  cases h : sameB y x with
  | true => simp [h]
  | false => simp [h]
theorem hop_cand1 (x y z : RouteD) : Cand (hopR x y) 1 z ↔ z = x ∧ sameB y x = false := by
  constructor
  · rintro ⟨u, hu, hz, ho⟩
    obtain ⟨o1, o2, o3, o4, o5, o6⟩ := offerB_parts ho
    have hu3 : u < 3 := hu
    have hu' : u = 0 ∨ u = 1 ∨ u = 2 := by omega
    rcases hu' with rfl | rfl | rfl
    · rw [hop_life0] at hz
      rw [hop_life1] at o6
      have hzx : z = x := by simpa using hz
      subst hzx
      exact ⟨rfl, (findI_one _ _).1 o6⟩
    · exact absurd rfl o1
    · rw [hop_life2] at hz; cases hz
  · rintro ⟨rfl, hs⟩
    refine ⟨0, by show 0 < 3; omega, by rw [hop_life0]; simp, ?_⟩
    unfold offerB
    rw [hop_life0, hop_life1]
    have h1 : commonB 1 1 = true := by decide
    have h2 : letsB [] z = true := rfl
    have h3 : findI [y] z < 0 := (findI_one _ _).2 hs
    simp [h1, h2, h3]
theorem hop_cand2 (x y z : RouteD) : Cand (hopR x y) 2 z ↔ z = y := by
  constructor
  · rintro ⟨u, hu, hz, ho⟩
    obtain ⟨o1, o2, o3, o4, o5, o6⟩ := offerB_parts ho
    have hu3 : u < 3 := hu
    have hu' : u = 0 ∨ u = 1 ∨ u = 2 := by omega
    rcases hu' with rfl | rfl | rfl
    · rw [hop_life0, hop_life2] at o4
      have h1 : commonB 1 2 = false := by decide
      simp only at o4
      rw [h1] at o4
      cases o4
    · rw [hop_life1] at hz
      simpa using hz
    · exact absurd rfl o1
  · rintro rfl
    refine ⟨1, by show 1 < 3; omega, by rw [hop_life1]; simp, ?_⟩
    unfold offerB
    rw [hop_life1, hop_life2]
    have h1 : commonB 2 2 = true := by decide
    have h2 : letsB [] z = true := rfl
    have h3 : findI [] z < 0 := by unfold findI; simp
    simp [h1, h2, h3]
/-- At most one on offer. -/
theorem off_one {r : RefS} (hk : RefOk r) {t : Nat} {x : RouteD} (h : ∀ z, Cand r t z → z = x) : (offF r t).length ≤ 1 ∧ ∀ z, z ∈ offF r t ↔ Cand r t z := by
  obtain ⟨s, m⟩ := offF_is hk.tab hk.own t
  have hm : ∀ z, z ∈ offF r t ↔ Cand r t z := fun z => by
    rw [m z]
    unfold Best
    exact ⟨fun q => q.1, fun q => ⟨q, fun y hy _ => by rw [h z q, h y hy]; exact Int.le_refl _⟩⟩
  refine ⟨?_, hm⟩
  rcases hl : offF r t with _ | ⟨a, _ | ⟨b, l⟩⟩
  · simp
  · simp
  · exfalso
    have ha := h a ((hm a).1 (by rw [hl]; simp))
    have hb := h b ((hm b).1 (by rw [hl]; simp))
    rw [hl] at s
    have := (List.pairwise_cons.1 s).1 b (by simp)
    rw [ha, hb] at this
    omega
theorem hop_tab1 {x y : RouteD} (hk : RefOk (hopR x y)) (z : RouteD) : z ∈ tabF (hopR x y) 1 ↔ z = y ∨ (z = x ∧ sameB y x = false) := by
  obtain ⟨h1, h2⟩ := off_one hk (t := 1) (x := x) (fun z hz => ((hop_cand1 x y z).1 hz).1)
  obtain ⟨_, t2⟩ := tabF_is hk.tab hk.own (t := 1) (by show 1 < 3; omega)
  rw [t2 z]
  have e1 : takenF (hopR x y) 1 = offF (hopR x y) 1 := by
    unfold takenF spare
    rw [hop_life1]
    exact List.take_of_length_le (by show _ ≤ 3; omega)
  rw [e1, h2 z, hop_cand1, hop_life1]
  simp
theorem hop_tab2 {x y : RouteD} (hk : RefOk (hopR x y)) : tabF (hopR x y) 2 = [y] := by
  obtain ⟨h1, h2⟩ := off_one hk (t := 2) (x := y) (fun z hz => (hop_cand2 x y z).1 hz)
  obtain ⟨t1, t2⟩ := tabF_is hk.tab hk.own (t := 2) (by show 2 < 3; omega)
  refine sorted_ext t1 (by simp [Sorted]) fun z => ?_
  rw [t2 z]
  have e1 : takenF (hopR x y) 2 = offF (hopR x y) 2 := by
    unfold takenF spare
    rw [hop_life2]
    exact List.take_of_length_le (by show _ ≤ 4; omega)
  rw [e1, h2 z, hop_cand2, hop_life2]
  simp
theorem hop_any {x y : RouteD} (hk : RefOk (hopR x y)) (hf : x.from_ ≠ y.from_) : ((tabF (hopR x y) 1).any fun z => eqR z y) = true ∧ ((tabF (hopR x y) 1).any fun z => eqR z x) = !(x.addr == y.addr && x.len == y.len) := by
  refine ⟨List.any_eq_true.2 ⟨y, (hop_tab1 hk y).2 (.inl rfl), (eqR_iff y y).2 rfl⟩, ?_⟩
  have hs : sameB y x = (x.addr == y.addr && x.len == y.len) := by
    unfold sameB
    rw [Bool.eq_iff_iff, Bool.and_eq_true, Bool.and_eq_true]
    simp only [beq_iff_eq]
    exact ⟨fun h => ⟨h.1.symm, h.2.symm⟩, fun h => ⟨h.1.symm, h.2.symm⟩⟩
  rw [← hs]
  cases hb : sameB y x with
  | false => exact List.any_eq_true.2 ⟨x, (hop_tab1 hk x).2 (.inr ⟨rfl, hb⟩), (eqR_iff x x).2 rfl⟩
  | true =>
    show _ = false
    rw [List.any_eq_false]
    intro z hz
    rcases (hop_tab1 hk z).1 hz with h | h
    · subst h
      intro q
      exact hf (by rw [(eqR_iff z x).1 q])
    · rw [hb] at h; simp at h
end Go.Proofs.Ytgndledehlilkaa
