/-
  Held: what is the case, as plain data.
-/
import Derived.Test.YtgndledehlilkaaPlay3
import Derived.Test.YtgndledehlilkaaKeep4
namespace Go.Proofs.Ytgndledehlilkaa
open Go.RowKit

/-- What a step leaves: one life has turned, or none. -/
def OneLife (r r' : RefS) (l : Nat) : Prop := ∃ L : Life, r' = { r with life := upd r.life l L } ∧ L.no = (r.life l).no ∧ L.quota = (r.life l).quota ∧ L.gone = (r.life l).gone
theorem playS_one (r : RefS) (n : Int) (o : OpD) (mk : Int) : playS r n o mk = r ∨ OneLife r (playS r n o mk) (lifeOf r n) := by
  unfold playS
  split
  · unfold insertedR
    split
    · exact .inr ⟨_, rfl, rfl, rfl, rfl⟩
    · exact .inl rfl
  · split
    · unfold removedR
      split
      · exact .inr ⟨_, rfl, rfl, rfl, rfl⟩
      · exact .inl rfl
    · split
      · unfold sharedR
        split
        · exact .inr ⟨_, rfl, rfl, rfl, rfl⟩
        · exact .inl rfl
      · split
        · unfold filteredR
          split
          · exact .inr ⟨_, rfl, rfl, rfl, rfl⟩
          · exact .inl rfl
        · exact .inl rfl
/-- Three tenants of quotas q, with their first tokens. -/
structure Three (q : Nat → Int) (r : RefS) : Prop where
  nl : r.nl = 3
  firsts : Firsts r 3
  no : ∀ i, i < 3 → (r.life i).no = (i : Int)
  quota : ∀ i, i < 3 → (r.life i).quota = q i
theorem Three.turn {q : Nat → Int} {r r' : RefS} (h : Three q r) {l : Nat} (ho : OneLife r r' l) : Three q r' := by
  obtain ⟨L, rfl, h1, h2, h3⟩ := ho
  refine ⟨h.nl, ⟨h.firsts.nt, h.firsts.tok, fun i hi => ?_⟩, fun i hi => ?_, fun i hi => ?_⟩
  · show (upd r.life l L i).gone = false
    by_cases e : i = l
    · subst e; rw [upd_same, h3]; exact h.firsts.live i hi
    · rw [upd_other _ _ e]; exact h.firsts.live i hi
  · show (upd r.life l L i).no = _
    by_cases e : i = l
    · subst e; rw [upd_same, h1]; exact h.no i hi
    · rw [upd_other _ _ e]; exact h.no i hi
  · show (upd r.life l L i).quota = _
    by_cases e : i = l
    · subst e; rw [upd_same, h2]; exact h.quota i hi
    · rw [upd_other _ _ e]; exact h.quota i hi
theorem Three.play {q : Nat → Int} {r : RefS} (h : Three q r) (n : Int) (o : OpD) (mk : Int) : Three q (playS r n o mk) := by
  rcases playS_one r n o mk with e | e
  · rw [e]; exact h
  · exact h.turn e
def ownTo (l : List RouteD) (t : Int) : Nat → Nat
  | 0 => 0
  | k + 1 => ownTo l t k + (if (l.getD k rt0).from_ = t then 1 else 0)
theorem ownTo_is (l : List RouteD) (t : Int) : ownTo l t l.length = (l.filter fun x => decide (x.from_ = t)).length := by
  have key : ∀ k, k ≤ l.length → ownTo l t k = ((l.take k).filter fun x => decide (x.from_ = t)).length := by
    intro k
    induction k with
    | zero => intro _; rfl
    | succ k ih =>
      intro hk
      have e : l.take (k + 1) = l.take k ++ [l.getD k rt0] := by
        rw [List.take_succ_eq_append_getElem (by omega)]
        simp [List.getD_eq_getElem?_getD, show k < l.length by omega]
      show ownTo l t k + _ = _
      rw [ih (by omega), e, List.filter_append, List.length_append]
      congr 1
      by_cases h : (l.getD k rt0).from_ = t
      · rw [if_pos h]; simp only [List.filter_cons, h, decide_true, if_true]; rfl
      · rw [if_neg h]; simp only [List.filter_cons, h, decide_false]; rfl
  rw [key _ (Nat.le_refl _), List.take_length]
theorem ownTo_le (l : List RouteD) (t : Int) : ∀ k, ownTo l t k ≤ k
  | 0 => Nat.le_refl _
  | k + 1 => by
    have := ownTo_le l t k
    show ownTo l t k + _ ≤ _
    split <;> omega
section
variable {q : Nat → Int} {r : RefS}
/-- Who is not the tenant gives what the tenant has taken. -/
theorem taken_from (hk : RefOk r) {t : Nat} (ht : t < r.nl) {x : RouteD} (hx : x ∈ takenF r t) : x.from_ ≠ (r.life t).no := by
  have h2 : x ∈ offF r t := List.mem_of_mem_take hx
  obtain ⟨⟨u, hu, hxu, ho⟩, _⟩ := ((offF_is hk.tab hk.own t).2 x).1 h2
  obtain ⟨o1, o2, o3, _⟩ := offerB_parts ho
  rw [hk.own.from_ u hu x hxu]
  exact fun e => hk.own.nos t u ht hu o1 o2 o3 e.symm
theorem own_count (hk : RefOk r) {t : Nat} (ht : t < r.nl) : ((tabF r t).filter fun x => decide (x.from_ = (r.life t).no)).length = (r.life t).own.length := by
  obtain ⟨s, m⟩ := tabF_is hk.tab hk.own ht
  have hnd : ((tabF r t).filter fun x => decide (x.from_ = (r.life t).no)).Nodup := (List.Pairwise.imp (fun {a b} (h : key a < key b) e => by rw [e] at h; omega) s).filter _
  have hno : ((r.life t).own).Nodup := List.Pairwise.imp (fun {a b} (h : key a ≠ key b) (e : a = b) => h (by rw [e])) (hk.own.dist t ht)
  have hp : ((tabF r t).filter fun x => decide (x.from_ = (r.life t).no)).Perm (r.life t).own := by
    rw [List.perm_ext_iff_of_nodup hnd hno]
    intro x
    rw [List.mem_filter, m, decide_eq_true_eq]
    constructor
    · rintro ⟨h1 | h1, h2⟩
      · exact h1
      · exact absurd h2 (taken_from hk ht h1)
    · intro h1
      exact ⟨.inl h1, hk.own.from_ t ht x h1⟩
  exact hp.length_eq
/-- What counted finds. -/
theorem told_count (hk : RefOk r) (h : Three q r) {t : Nat} (ht : t < 3) :
    ∃ s : SumsD, ∃ l : List RouteD, mayI r ((t : Int) + 1) 1 = 0 ∧ countF r ((t : Int) + 1) = s ∧ tableL r ((t : Int) + 1) = l ∧ l.length ≤ 64 ∧ s.quota = q t ∧ s.own = (ownTo l (t : Int) l.length : Int) ∧ s.taken = (l.length : Int) - (ownTo l (t : Int) l.length : Int) ∧ (l.length : Int) ≤ q t ∧ 0 ≤ s.dropped ∧ (s.dropped = 0 ∨ (l.length : Int) = q t) ∧
      s.own = ((r.life t).own.length : Int) ∧ (∀ i, i + 1 < l.length → (l.getD i rt0).addr < (l.getD (i + 1) rt0).addr ∨ ((l.getD i rt0).addr = (l.getD (i + 1) rt0).addr ∧ (l.getD i rt0).len < (l.getD (i + 1) rt0).len)) ∧ (∀ x, x ∈ l ∧ x.from_ = (t : Int) ↔ x ∈ (r.life t).own) := by
  obtain ⟨m1, m2⟩ := h.firsts.may ht (right := 1) (by decide)
  have htn : t < r.nl := by rw [h.nl]; exact ht
  have hno := h.no t ht
  have hq := h.quota t ht
  have e1 : tableL r ((t : Int) + 1) = tabF r t := by unfold tableL; rw [if_pos m1, m2]
  have e2 : countF r ((t : Int) + 1) = ⟨(r.life t).own.length, (takenF r t).length, droppedR (r.life t) (offF r t), (r.life t).quota⟩ := by unfold countF; rw [if_pos m1, m2]
  have hoc := own_count hk htn
  rw [hno] at hoc
  have hlen : (tabF r t).length = (r.life t).own.length + ((offF r t).take (spare (r.life t))).length := by unfold tabF; rw [tableR_len]
  have hown := hk.tab.ownN t htn
  have hq64 := hk.wf.quota t htn
  have hsp : (spare (r.life t) : Int) = (r.life t).quota - (r.life t).own.length := by unfold spare; omega
  have htk : ((offF r t).take (spare (r.life t))).length = min (spare (r.life t)) (offF r t).length := List.length_take
  have hdr : droppedR (r.life t) (offF r t) = (((offF r t).length - min (offF r t).length (spare (r.life t)) : Nat) : Int) := rfl
  obtain ⟨s, m⟩ := tabF_is hk.tab hk.own htn
  have hok : ∀ y ∈ tabF r t, okRoute y := fun y hy => by
    rcases (m y).1 hy with h1 | h1
    · exact hk.tab.own t htn y h1
    · exact (((offF_is hk.tab hk.own t).2 y).1 (List.mem_of_mem_take h1)).1.ok hk.tab
  have htf : (takenF r t).length = ((offF r t).take (spare (r.life t))).length := rfl
  refine ⟨_, _, m1, e2, e1, ?_, hq, ?_, ?_, ?_, ?_, ?_, rfl, ?_, ?_⟩
  · omega
  · rw [ownTo_is, hoc]
  · rw [ownTo_is, hoc]
    show ((takenF r t).length : Int) = _
    rw [htf, hlen]; omega
  · omega
  · show 0 ≤ droppedR (r.life t) (offF r t)
    rw [hdr]; omega
  · show droppedR (r.life t) (offF r t) = 0 ∨ _
    rw [hdr]; omega
  · intro i hi
    have h1 : i < (tabF r t).length := by omega
    have hk1 := List.pairwise_iff_getElem.1 s i (i + 1) h1 hi (by omega)
    have g1 : (tabF r t).getD i rt0 = (tabF r t)[i] := by simp [List.getD_eq_getElem?_getD, h1]
    have g2 : (tabF r t).getD (i + 1) rt0 = (tabF r t)[i + 1] := by simp [List.getD_eq_getElem?_getD, hi]
    rw [g1, g2]
    have a1 := hok _ (List.getElem_mem h1)
    have a2 := hok _ (List.getElem_mem hi)
    have := a1.l0; have := a1.l1; have := a2.l0; have := a2.l1
    unfold key at hk1
    omega
  · intro x
    rw [m]
    constructor
    · rintro ⟨h1 | h1, h2⟩
      · exact h1
      · exact absurd (by rw [hno]; exact h2) (taken_from hk htn h1)
    · intro h1
      exact ⟨.inl h1, by rw [hk.own.from_ t htn x h1, hno]⟩
end
end Go.Proofs.Ytgndledehlilkaa
