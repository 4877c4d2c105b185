/-
  The program's engine and the document's, side by side: what holds of the two, and that they answer the same.
-/
import Derived.Test.YtgndledehlilkabPrU
namespace Go.Proofs.Ytgndledehlilkab
open Go.RowKit

def sumF (f : Nat → Int) : Nat → Int
  | 0 => 0
  | n + 1 => sumF f n + f n
theorem sumF_congr {f g : Nat → Int} {n : Nat} (h : ∀ i, i < n → f i = g i) : sumF f n = sumF g n := by
  induction n with
  | zero => rfl
  | succ n ih => simp only [sumF]; rw [ih (fun i hi => h i (by omega)), h n (by omega)]
theorem sumF_upd (f : Nat → Int) {i n : Nat} (v : Int) (h : i < n) : sumF (upd f i v) n = sumF f n + v - f i := by
  induction n with
  | zero => omega
  | succ n ih =>
    simp only [sumF]
    by_cases e : i = n
    · subst e
      rw [upd_same, sumF_congr (g := f) (fun k hk => upd_other _ _ (by omega))]
      omega
    · rw [ih (by omega), upd_other _ _ (by omega)]
      omega
theorem qsum_eq (p : ProgS) (n : Nat) : qsum p n = sumF p.quota n := by
  induction n with
  | zero => rfl
  | succ n ih => simp only [qsum, sumF, ih]
def pos (q : Int) : Int := if 0 < q then 1 else 0
def taken (p : ProgS) (n : Nat) : Int := sumF (fun j => pos (p.quota j)) n
def lifeQ (l : Life) : Int := if l.gone then 0 else l.quota
def lifeC (l : Life) : Int := if l.gone then 0 else 1
theorem liveSum_eq (r : RefS) (n : Nat) : liveSum r n = sumF (fun i => lifeQ (r.life i)) n := by
  induction n with
  | zero => rfl
  | succ n ih => simp only [liveSum, sumF, ih, lifeQ]
theorem liveCount_eq (r : RefS) (n : Nat) : (liveCount r n : Int) = sumF (fun i => lifeC (r.life i)) n := by
  induction n with
  | zero => rfl
  | succ n ih =>
    simp only [liveCount, sumF, lifeC]
    rw [Int.natCast_add, ih]
    congr 1
    split <;> rfl

structure Sim (p : ProgS) (r : RefS) : Prop where
  wp : ProgWf p
  wr : RefWf r
  room : p.room = r.room
  given : p.given = r.nt
  rights : ∀ k, k < r.nt → p.rights k = (r.tok k).rights
  tenant : ∀ k, k < r.nt → p.tenant k = (r.life (r.tok k).life).no
  ended : ∀ k, k < r.nt → p.ended k = ((r.tok k).revoked || (r.life (r.tok k).life).gone)
  parent0 : ∀ k, k < r.nt → p.parent k = 0 → (r.tok k).line = []
  parentS : ∀ k m, k < r.nt → p.parent k = m + 1 → m < k ∧ (r.tok k).line = (r.tok m).line ++ [m + 1] ∧ (r.tok k).life = (r.tok m).life
  quotaL : ∀ i, i < r.nl → (r.life i).gone = false → p.quota (r.life i).no.toNat = (r.life i).quota
  quotaF : ∀ j : Nat, j < 8 → freeR r j → p.quota j = 0
  count : (liveCount r r.nl : Int) = taken p 8
  sum : liveSum r r.nl = qsum p 8
  uniq : ∀ i j, i < r.nl → j < r.nl → (r.life i).gone = false → (r.life j).gone = false → (r.life i).no = (r.life j).no → i = j

section
variable {p : ProgS} {r : RefS}
theorem Sim.alive1 (h : Sim p r) : ∀ k, k < r.nt → aliveP p (k + 1) (k + 1) = aliveR r k := by
  intro k
  induction k using Nat.strongRecOn with
  | ind k ih =>
    intro hk
    have hkg : k < p.given := by rw [h.given]; exact hk
    rw [aliveP_succ h.wp.parent hkg, h.ended k hk]
    cases hp : p.parent k with
    | zero =>
      rw [aliveP_zero]
      unfold aliveR
      rw [h.parent0 k hk hp]
      cases (r.tok k).revoked <;> cases (r.life (r.tok k).life).gone <;> rfl
    | succ m =>
      obtain ⟨hm, hl, hf⟩ := h.parentS k m hk hp
      rw [ih m hm (by omega)]
      unfold aliveR
      rw [hl, hf, List.any_append]
      simp only [List.any_cons, List.any_nil, Nat.add_sub_cancel, Bool.or_false]
      cases (r.tok k).revoked <;> cases (r.life (r.tok m).life).gone <;> cases (r.tok m).revoked <;> cases ((r.tok m).line.any fun n => (r.tok (n - 1)).revoked) <;> rfl
theorem Sim.alive (h : Sim p r) (t : Int) : aliveX p t = aliveI r t := by
  unfold aliveX aliveI wasG
  rw [h.given]
  by_cases hb : 1 ≤ t ∧ t ≤ r.nt
  · obtain ⟨k, rfl⟩ : ∃ k : Nat, t = (k : Int) + 1 := ⟨(t - 1).toNat, by omega⟩
    rw [show ((k : Int) + 1).toNat = k + 1 from by omega, show ((k : Int) + 1 - 1).toNat = k from by omega, h.alive1 k (by omega)]
    simp [hb.1, hb.2]
  · have : ¬ (1 ≤ t) ∨ ¬ (t ≤ r.nt) := by omega
    rcases this with hh | hh <;> simp [hh]
def bit15 (a b : Nat) : Bool := (okRights a (bits BinOp.or IntKind.i64 b 8) == !lacks a b) && (okRights a 8 == hasB a 8)
theorem bits_all : ∀ a b : Fin 16, bit15 a.val b.val = true := by decide +kernel
theorem ok_or {a b : Int} (ha : 0 ≤ a ∧ a ≤ 15) (hb : 0 ≤ b ∧ b ≤ 15) : okRights a (bits BinOp.or IntKind.i64 b 8) = !lacks a b := by
  obtain ⟨x, rfl⟩ : ∃ x : Nat, a = x := ⟨a.toNat, by omega⟩
  obtain ⟨y, rfl⟩ : ∃ y : Nat, b = y := ⟨b.toNat, by omega⟩
  have := bits_all ⟨x, by omega⟩ ⟨y, by omega⟩
  simp only [bit15, Bool.and_eq_true, beq_iff_eq] at this
  exact this.1
theorem ok_8 {a : Int} (ha : 0 ≤ a ∧ a ≤ 15) : okRights a 8 = hasB a 8 := by
  obtain ⟨x, rfl⟩ : ∃ x : Nat, a = x := ⟨a.toNat, by omega⟩
  have := bits_all ⟨x, by omega⟩ ⟨0, by omega⟩
  simp only [bit15, Bool.and_eq_true, beq_iff_eq] at this
  exact this.2
theorem Sim.check (h : Sim p r) (t : Int) : checkX p t 8 = mayI r t 8 := by
  unfold checkX mayI
  rw [h.alive t]
  cases ha : aliveI r t with
  | false => rfl
  | true =>
    obtain ⟨h1, h2, _⟩ := aliveI_bounds ha
    have hk : (t - 1).toNat < r.nt := by omega
    rw [h.rights _ hk, ok_8 (h.wr.rights _ hk)]
theorem Sim.derive (h : Sim p r) (t rights : Int) : deriveX p t rights = deriveR r t rights := by
  unfold deriveX deriveR
  rw [h.alive t]
  cases ha : aliveI r t with
  | false => rfl
  | true =>
    obtain ⟨h1, h2, _⟩ := aliveI_bounds ha
    have hk : (t - 1).toNat < r.nt := by omega
    by_cases hr : rights < 0 ∨ 15 < rights
    · simp only [if_pos hr]
    · simp only [if_neg hr, if_true]
      rw [h.rights _ hk, ok_or (h.wr.rights _ hk) (by omega), h.given]
      cases lacks (r.tok (t - 1).toNat).rights rights <;> rfl
theorem lineHas_append (l m : List Nat) (n : Int) : lineHas (l ++ m) n = (lineHas l n || lineHas m n) := by
  unfold lineHas
  rw [List.any_append]
theorem Sim.made1 (h : Sim p r) {token : Nat} (ht : 1 ≤ token) : ∀ k, k < r.nt → outOf p token (p.parent k) (p.parent k) = lineHas (r.tok k).line token := by
  intro k
  induction k using Nat.strongRecOn with
  | ind k ih =>
    intro hk
    cases hp : p.parent k with
    | zero =>
      rw [h.parent0 k hk hp]
      have : ¬ 0 = token := by omega
      simp [outOf, lineHas, this]
    | succ m =>
      obtain ⟨hm, hl, _⟩ := h.parentS k m hk hp
      rw [hl, lineHas_append]
      have e1 : lineHas [m + 1] (token : Int) = decide (m + 1 = token) := by
        simp only [lineHas, List.any_cons, List.any_nil, Bool.or_false]
        rw [decide_eq_decide]
        omega
      rw [e1]
      simp only [outOf, Nat.add_sub_cancel]
      by_cases hlt : token < m + 1
      · rw [if_pos hlt]
        have hmg : m < p.given := by rw [h.given]; omega
        have hpm := h.wp.parent m hmg
        rw [outOf_fuel h.wp.parent ht m (p.parent m) (p.parent m) (by omega) (by omega) (by omega), ih m hm (by omega)]
        have : ¬ m + 1 = token := by omega
        simp [this]
      · rw [if_neg hlt]
        have : lineHas (r.tok m).line token = false := by
          unfold lineHas
          rw [List.any_eq_false]
          intro x hx
          have := (h.wr.line m (by omega) x hx).2
          simp only [decide_eq_true_eq]
          omega
        rw [this, Bool.false_or]
theorem Sim.revoke (h : Sim p r) (t which : Int) : revokeX p t which = revokeR r t which := by
  unfold revokeX revokeR
  rw [h.check t]
  by_cases hm : mayI r t 8 = 0
  · rw [if_pos hm, if_pos hm]
    have hb : 1 ≤ t ∧ t ≤ p.given := checkX_bounds (by rw [h.check t]; exact hm)
    obtain ⟨k, rfl⟩ : ∃ k : Nat, t = (k : Int) := ⟨t.toNat, by omega⟩
    rw [Int.toNat_natCast]
    unfold madeX wasG
    rw [h.given]
    by_cases hw : 1 ≤ which ∧ which ≤ r.nt
    · rw [if_pos hw, h.made1 (by omega) _ (by omega)]
      simp only [hw.1, hw.2, decide_true, Bool.true_and, revErr]
    · rw [if_neg hw]
      have : ¬ (1 ≤ which) ∨ ¬ (which ≤ r.nt) := by omega
      rcases this with hh | hh <;> simp [hh]
  · rw [if_neg hm, if_neg hm]
theorem Sim.quotaPos (h : Sim p r) {j : Nat} (hn : ¬ freeR r j) : 0 < p.quota j := by
  have : ∃ i, i < r.nl ∧ (r.life i).gone = false ∧ (r.life i).no = j := by
    apply Classical.byContradiction
    intro hc
    apply hn
    intro i hi
    cases hg : (r.life i).gone with
    | true => exact Or.inl rfl
    | false => exact Or.inr (fun e => hc ⟨i, hi, hg, e⟩)
  obtain ⟨i, hi, hg, hno⟩ := this
  have h1 := h.quotaL i hi hg
  rw [hno, Int.toNat_natCast] at h1
  have := h.wr.quota i hi
  omega
theorem Sim.sameNo (h : Sim p r) {n m : Nat} (hx : freeX p n) (hr : freeR r m) (hall : ∀ j : Nat, j < m → ¬ freeR r j) (hm : m ≤ 8) : n = m := by
  rcases Nat.lt_trichotomy n m with hlt | heq | hgt
  · have h1 := hx.2.1 (by omega)
    have := h.quotaPos (hall n hlt)
    omega
  · exact heq
  · have h1 := hx.2.2 m hgt
    have h2 := hx.1
    have := h.quotaF m (by omega) hr
    omega
theorem taken_le (p : ProgS) (n : Nat) : 0 ≤ taken p n ∧ taken p n ≤ n := by
  induction n with
  | zero => simp [taken, sumF]
  | succ n ih =>
    unfold taken at *
    simp only [sumF, pos] at *
    split <;> omega
theorem taken_all {p : ProgS} {n : Nat} (h : ∀ j, j < n → 0 < p.quota j) : taken p n = n := by
  induction n with
  | zero => simp [taken, sumF]
  | succ n ih =>
    have h1 := ih (fun j hj => h j (by omega))
    have h2 := h n (by omega)
    unfold taken at *
    simp only [sumF, pos] at *
    rw [h1, if_pos h2]
    omega
theorem taken_lt {p : ProgS} {n k : Nat} (hk : k < n) (h : p.quota k ≤ 0) : taken p n < n := by
  induction n with
  | zero => omega
  | succ n ih =>
    have hle := taken_le p n
    by_cases e : k = n
    · subst e
      unfold taken at *
      simp only [sumF, pos] at *
      rw [if_neg (by omega)]
      omega
    · have := ih (by omega)
      unfold taken at *
      simp only [sumF, pos] at *
      split <;> omega
theorem Sim.full (h : Sim p r) {n : Nat} (hx : freeX p n) : 8 ≤ n ↔ 8 ≤ liveCount r r.nl := by
  have hc := h.count
  constructor
  · intro h8
    have : n = 8 := by have := hx.1; omega
    subst this
    have := taken_all hx.2.2
    omega
  · intro h8
    rcases Nat.lt_or_ge n 8 with hl | hg
    · have := taken_lt hl (hx.2.1 hl)
      omega
    · exact hg
theorem Sim.create (h : Sim p r) {n : Nat} (hx : freeX p n) (quota : Int) : createX p n quota = createR r quota := by
  unfold createX createR
  have hf := h.full hx
  have hs := h.sum
  by_cases hq : quota < 1 ∨ 64 < quota
  · rw [if_pos hq, if_pos hq]
  · rw [if_neg hq, if_neg hq]
    by_cases h8 : 8 ≤ n
    · rw [if_pos h8, if_pos (hf.1 h8)]
    · rw [if_neg h8, if_neg (fun hh => h8 (hf.2 hh)), h.room, h.given, hs, Int.add_comm]
theorem Sim.tenantIs (h : Sim p r) (n : Int) : isT p n = true ↔ ∃ i, i < r.nl ∧ (r.life i).gone = false ∧ (r.life i).no = n := by
  simp only [isT, Bool.and_eq_true, decide_eq_true_eq]
  constructor
  · rintro ⟨⟨h0, h8⟩, hq⟩
    obtain ⟨k, rfl⟩ : ∃ k : Nat, n = (k : Int) := ⟨n.toNat, by omega⟩
    rw [Int.toNat_natCast] at hq
    apply Classical.byContradiction
    intro hc
    have : freeR r k := fun i hi => by
      cases hg : (r.life i).gone with
      | true => exact Or.inl rfl
      | false => exact Or.inr (fun e => hc ⟨i, hi, hg, e⟩)
    have := h.quotaF k (by omega) this
    omega
  · rintro ⟨i, hi, hg, rfl⟩
    have h1 := h.quotaL i hi hg
    have h2 := h.wr.quota i hi
    have h3 := h.wr.no i hi
    exact ⟨h3, by omega⟩
end
end Go.Proofs.Ytgndledehlilkab
