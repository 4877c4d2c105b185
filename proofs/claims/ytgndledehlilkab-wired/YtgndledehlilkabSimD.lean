/-
  The program's lists and the document's: checks, marks, Insert, Remove, Share, Filter.
-/
import Derived.Test.YtgndledehlilkabSimC
namespace Go.Proofs.Ytgndledehlilkab
open Go.RowKit

def bit124 (a : Nat) : Bool := (okRights a 1 == hasB a 1) && (okRights a 2 == hasB a 2) && (okRights a 4 == hasB a 4)
theorem bits124 : ∀ a : Fin 16, bit124 a.val = true := by decide +kernel
theorem Sim.check124 {p : ProgS} {r : RefS} (h : Sim p r) (t : Int) : checkX p t 1 = mayI r t 1 ∧ checkX p t 2 = mayI r t 2 ∧ checkX p t 4 = mayI r t 4 := by
  unfold checkX mayI
  rw [h.alive t]
  cases ha : aliveI r t with
  | false => exact ⟨rfl, rfl, rfl⟩
  | true =>
    obtain ⟨h1, h2, _⟩ := aliveI_bounds ha
    have hk : (t - 1).toNat < r.nt := by omega
    rw [h.rights _ hk]
    have hb := h.wr.rights _ hk
    generalize (r.tok (t - 1).toNat).rights = a at *
    obtain ⟨x, rfl⟩ : ∃ x : Nat, a = x := ⟨a.toNat, by omega⟩
    have := bits124 ⟨x, by omega⟩
    simp only [bit124, Bool.and_eq_true, beq_iff_eq] at this
    rw [this.1.1, this.1.2, this.2]
    exact ⟨rfl, rfl, rfl⟩
def marksOk (a : Nat) : Bool := (List.range 256).all fun b => comP (a : Nat) (b : Nat) == commonB (a : Nat) (b : Nat)
theorem marks_all : (List.range 256).all marksOk = true := by decide +kernel
theorem comP_common {a b : Int} (ha : 0 ≤ a ∧ a ≤ 255) (hb : 0 ≤ b ∧ b ≤ 255) : comP a b = commonB a b := by
  obtain ⟨x, rfl⟩ : ∃ x : Nat, a = x := ⟨a.toNat, by omega⟩
  obtain ⟨y, rfl⟩ : ∃ y : Nat, b = y := ⟨b.toNat, by omega⟩
  have h1 := List.all_eq_true.1 marks_all x (List.mem_range.2 (by omega))
  have h2 := List.all_eq_true.1 h1 y (List.mem_range.2 (by omega))
  exact eq_of_beq h2
theorem sortR_len (l : List RouteD) : (sortR l).length = l.length := by
  unfold sortR
  exact sortTo_len l _ (Nat.le_refl _)
/-- What the two engines have of routes, side by side. -/
structure Mem (p : ProgS) (r : RefS) : Prop where
  ok : ProgOk p
  gives : ∀ i, i < r.nl → (r.life i).gone = false → p.gives (r.life i).no.toNat = (r.life i).gives
  takes : ∀ i, i < r.nl → (r.life i).gone = false → p.takes (r.life i).no.toNat = (r.life i).takes
  rules : ∀ i, i < r.nl → (r.life i).gone = false → p.rules (r.life i).no.toNat = (r.life i).rules
  own : ∀ i, i < r.nl → (r.life i).gone = false → p.own (r.life i).no.toNat = sortR (r.life i).own
  free : ∀ j : Nat, j < 8 → freeR r j → p.own j = []
  sum : qsum p 8 ≤ p.room
/-- The tenant that a token speaks of. -/
structure Of (p : ProgS) (r : RefS) (n : Int) (t : Nat) : Prop where
  t8 : t < 8
  life : lifeOf r n < r.nl
  live : (r.life (lifeOf r n)).gone = false
  no : (r.life (lifeOf r n)).no = (t : Int)
  tenant : p.tenant (n - 1).toNat = (t : Int)
theorem of_may {p : ProgS} {r : RefS} (h : Sim p r) {n right : Int} (hm : mayI r n right = 0) : ∃ t, Of p r n t := by
  obtain ⟨ha, h1, h2⟩ := mayI_zero hm
  obtain ⟨_, _, ha2⟩ := aliveI_bounds ha
  have hk : (n - 1).toNat < r.nt := by omega
  have hl := h.wr.life _ hk
  have hno := h.wr.no _ hl
  have hgo : (r.life (r.tok (n - 1).toNat).life).gone = false := by
    unfold aliveR at ha2
    cases hg : (r.life (r.tok (n - 1).toNat).life).gone with
    | false => rfl
    | true => rw [hg] at ha2; simp at ha2
  refine ⟨(r.life (r.tok (n - 1).toNat).life).no.toNat, by omega, hl, hgo, ?_, ?_⟩
  · show (r.life (r.tok (n - 1).toNat).life).no = _; omega
  · rw [h.tenant _ hk]; omega
section
variable {p : ProgS} {r : RefS}
/-- One tenant's routes and rules turn. -/
theorem Sim.lifeS (h : Sim p r) {l : Nat} (L : Life) (h1 : L.no = (r.life l).no) (h2 : L.quota = (r.life l).quota) (h3 : L.gone = (r.life l).gone) (p' : ProgS) (e1 : p'.room = p.room) (e2 : p'.quota = p.quota) (e3 : p'.given = p.given) (e4 : p'.tenant = p.tenant) (e5 : p'.rights = p.rights) (e6 : p'.parent = p.parent) (e7 : p'.ended = p.ended) :
    Sim p' { r with life := upd r.life l L } := by
  have kn : ∀ k, (upd r.life l L k).no = (r.life k).no := fun k => by
    by_cases e : k = l
    · subst e; rw [upd_same]; exact h1
    · rw [upd_other _ _ e]
  have kq : ∀ k, (upd r.life l L k).quota = (r.life k).quota := fun k => by
    by_cases e : k = l
    · subst e; rw [upd_same]; exact h2
    · rw [upd_other _ _ e]
  have kg : ∀ k, (upd r.life l L k).gone = (r.life k).gone := fun k => by
    by_cases e : k = l
    · subst e; rw [upd_same]; exact h3
    · rw [upd_other _ _ e]
  refine ⟨⟨by rw [e1]; exact h.wp.room, by rw [e2]; exact h.wp.quota, by rw [e3]; exact h.wp.given, by rw [e3, e5]; exact h.wp.rights, by rw [e3, e6]; exact h.wp.parent⟩, ⟨h.wr.nt, h.wr.nl, h.wr.room, ?_, ?_, h.wr.life, h.wr.rights, h.wr.line, h.wr.lineLen⟩, by rw [e1]; exact h.room, by rw [e3]; exact h.given, by rw [e5]; exact h.rights, ?_, ?_, by rw [e6]; exact h.parent0, by rw [e6]; exact h.parentS, ?_, ?_, ?_, ?_, ?_⟩
  · intro i hi; show 1 ≤ (upd r.life l L i).quota ∧ (upd r.life l L i).quota ≤ 64; rw [kq]; exact h.wr.quota i hi
  · intro i hi; show 0 ≤ (upd r.life l L i).no ∧ (upd r.life l L i).no < 8; rw [kn]; exact h.wr.no i hi
  · intro k hk; show p'.tenant k = (upd r.life l L (r.tok k).life).no; rw [e4, kn]; exact h.tenant k hk
  · intro k hk; show p'.ended k = ((r.tok k).revoked || (upd r.life l L (r.tok k).life).gone); rw [e7, kg]; exact h.ended k hk
  · intro i hi hg
    have hg' : (upd r.life l L i).gone = false := hg
    show p'.quota (upd r.life l L i).no.toNat = (upd r.life l L i).quota
    rw [kg] at hg'
    rw [e2, kn, kq]; exact h.quotaL i hi hg'
  · intro j hj hf
    rw [e2]
    refine h.quotaF j hj fun i hi => ?_
    have := hf i hi
    have this' : (upd r.life l L i).gone = true ∨ (upd r.life l L i).no ≠ j := this
    rw [kg, kn] at this'
    exact this'
  · have := h.count
    rw [liveCount_eq] at this ⊢
    have e : sumF (fun i => lifeC ((upd r.life l L) i)) r.nl = sumF (fun i => lifeC (r.life i)) r.nl := sumF_congr fun i _ => by unfold lifeC; rw [kg]
    show sumF (fun i => lifeC ((upd r.life l L) i)) r.nl = taken p' 8
    rw [e, this]
    unfold taken
    rw [e2]
  · have := h.sum
    rw [liveSum_eq, qsum_eq] at this ⊢
    have e : sumF (fun i => lifeQ ((upd r.life l L) i)) r.nl = sumF (fun i => lifeQ (r.life i)) r.nl := sumF_congr fun i _ => by unfold lifeQ; rw [kg, kq]
    show sumF (fun i => lifeQ ((upd r.life l L) i)) r.nl = sumF p'.quota 8
    rw [e, this, e2]
  · intro i j hi hj hgi hgj hno
    have hgi' : (upd r.life l L i).gone = false := hgi
    have hgj' : (upd r.life l L j).gone = false := hgj
    have hno' : (upd r.life l L i).no = (upd r.life l L j).no := hno
    rw [kg] at hgi' hgj'
    rw [kn, kn] at hno'
    exact h.uniq i j hi hj hgi' hgj' hno'
/-- .. and so does what the two have of routes. -/
theorem Mem.lifeS (hm : Mem p r) (h : Sim p r) {n : Int} {t : Nat} (ho : Of p r n t) (L : Life) (h1 : L.no = (r.life (lifeOf r n)).no) (h3 : L.gone = (r.life (lifeOf r n)).gone) :
    Mem { p with gives := upd p.gives t L.gives, takes := upd p.takes t L.takes, rules := upd p.rules t L.rules, own := upd p.own t (sortR L.own) } { r with life := upd r.life (lifeOf r n) L } ↔ (Sorted (sortR L.own) ∧ (∀ y ∈ sortR L.own, okRoute y) ∧ ∀ u ∈ L.rules, ruleB u = true) := by
  have hother : ∀ i, i < r.nl → i ≠ lifeOf r n → (r.life i).gone = false → (r.life i).no.toNat ≠ t := fun i hi hne hg e => by
    have hno := h.wr.no i hi
    exact hne (h.uniq i (lifeOf r n) hi ho.life hg ho.live (by rw [ho.no]; omega))
  constructor
  · intro hh
    have a := hh.ok.sorted t ho.t8
    have b := hh.ok.route t ho.t8
    have c := hh.ok.rule t ho.t8
    simp only [upd_same] at a b c
    exact ⟨a, b, c⟩
  · rintro ⟨a, b, c⟩
    have key : ∀ (P : Nat → Prop), P (lifeOf r n) → (∀ i, i < r.nl → i ≠ lifeOf r n → P i) → ∀ i, i < r.nl → P i := fun P q1 q2 i hi => by
      by_cases e : i = lifeOf r n
      · subst e; exact q1
      · exact q2 i hi e
    have hLt : L.no.toNat = t := by rw [h1, ho.no]; omega
    refine ⟨⟨?_, ?_, ?_⟩, ?_, ?_, ?_, ?_, ?_, hm.sum⟩
    · intro i hi
      show Sorted (upd p.own t (sortR L.own) i)
      by_cases e : i = t
      · subst e; rw [upd_same]; exact a
      · rw [upd_other _ _ e]; exact hm.ok.sorted i hi
    · intro i hi
      show ∀ y ∈ upd p.own t (sortR L.own) i, okRoute y
      by_cases e : i = t
      · subst e; rw [upd_same]; exact b
      · rw [upd_other _ _ e]; exact hm.ok.route i hi
    · intro i hi
      show ∀ y ∈ upd p.rules t L.rules i, ruleB y = true
      by_cases e : i = t
      · subst e; rw [upd_same]; exact c
      · rw [upd_other _ _ e]; exact hm.ok.rule i hi
    · intro i hi hg
      have hg' : (upd r.life (lifeOf r n) L i).gone = false := hg
      show upd p.gives t L.gives (upd r.life (lifeOf r n) L i).no.toNat = (upd r.life (lifeOf r n) L i).gives
      by_cases e : i = lifeOf r n
      · subst e; rw [upd_same, hLt, upd_same]
      · rw [upd_other _ _ e] at hg' ⊢; rw [upd_other _ _ (hother i hi e hg')]; exact hm.gives i hi hg'
    · intro i hi hg
      have hg' : (upd r.life (lifeOf r n) L i).gone = false := hg
      show upd p.takes t L.takes (upd r.life (lifeOf r n) L i).no.toNat = (upd r.life (lifeOf r n) L i).takes
      by_cases e : i = lifeOf r n
      · subst e; rw [upd_same, hLt, upd_same]
      · rw [upd_other _ _ e] at hg' ⊢; rw [upd_other _ _ (hother i hi e hg')]; exact hm.takes i hi hg'
    · intro i hi hg
      have hg' : (upd r.life (lifeOf r n) L i).gone = false := hg
      show upd p.rules t L.rules (upd r.life (lifeOf r n) L i).no.toNat = (upd r.life (lifeOf r n) L i).rules
      by_cases e : i = lifeOf r n
      · subst e; rw [upd_same, hLt, upd_same]
      · rw [upd_other _ _ e] at hg' ⊢; rw [upd_other _ _ (hother i hi e hg')]; exact hm.rules i hi hg'
    · intro i hi hg
      have hg' : (upd r.life (lifeOf r n) L i).gone = false := hg
      show upd p.own t (sortR L.own) (upd r.life (lifeOf r n) L i).no.toNat = sortR (upd r.life (lifeOf r n) L i).own
      by_cases e : i = lifeOf r n
      · subst e; rw [upd_same, hLt, upd_same]
      · rw [upd_other _ _ e] at hg' ⊢; rw [upd_other _ _ (hother i hi e hg')]; exact hm.own i hi hg'
    · intro j hj hf
      have hf' : ∀ i, i < r.nl → (upd r.life (lifeOf r n) L i).gone = true ∨ (upd r.life (lifeOf r n) L i).no ≠ (j : Int) := hf
      have hjt : j ≠ t := fun e => by
        rcases hf' (lifeOf r n) ho.life with hh | hh
        · rw [upd_same, h3, ho.live] at hh; simp at hh
        · rw [upd_same, h1, ho.no, e] at hh; exact hh rfl
      show upd p.own t (sortR L.own) j = []
      rw [upd_other _ _ hjt]
      refine hm.free j hj fun i hi => ?_
      have := hf' i hi
      by_cases e : i = lifeOf r n
      · subst e; rw [upd_same, h3, h1] at this; exact this
      · rw [upd_other _ _ e] at this; exact this
end
end Go.Proofs.Ytgndledehlilkab
