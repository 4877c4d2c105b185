import Derived.Test.YtgndledehlilkaaGreatPrOM
import Derived.Test.YtgndledehlilkaaGreatEngI
namespace Go.Proofs.YtgndledehlilkaaGreat
open Go.RowKit

def sumF (f : Nat → Int) : Nat → Int
  | 0 => 0
  | n + 1 => sumF f n + f n
theorem sumF_congr {f g : Nat → Int} {n : Nat} (h : ∀ i, i < n → f i = g i) : sumF f n = sumF g n := by
  induction n with
  | zero => rfl
  | succ n ih => simp only [sumF]; rw [ih (fun i hi => h i (by omega)), h n (by omega)]
theorem sumF_upd (f : Nat → Int) {i n : Nat} (v : Int) (h : i < n) : sumF (upd f i v) n = sumF f n + v - f i := by
  induction n with
  | zero => omega
  | succ n ih =>
    simp only [sumF]
    by_cases e : i = n
    · subst e
      rw [upd_same, sumF_congr (g := f) (fun k hk => upd_other _ _ (by omega))]
      omega
    · rw [ih (by omega), upd_other _ _ (by omega)]
      omega
theorem qsum_eq (p : ProgS) (n : Nat) : qsum p n = sumF p.quota n := by
  induction n with
  | zero => rfl
  | succ n ih => simp only [qsum, sumF, ih]
def pos (q : Int) : Int := if 0 < q then 1 else 0
def taken (p : ProgS) (n : Nat) : Int := sumF (fun j => pos (p.quota j)) n
def lifeQ (l : Life) : Int := if l.gone then 0 else l.quota
def lifeC (l : Life) : Int := if l.gone then 0 else 1
theorem liveSum_eq (r : RefS) (n : Nat) : liveSum r n = sumF (fun i => lifeQ (r.life i)) n := by
  induction n with
  | zero => rfl
  | succ n ih => simp only [liveSum, sumF, ih, lifeQ]
theorem liveCount_eq (r : RefS) (n : Nat) : (liveCount r n : Int) = sumF (fun i => lifeC (r.life i)) n := by
  induction n with
  | zero => rfl
  | succ n ih =>
    simp only [liveCount, sumF, lifeC]
    rw [Int.natCast_add, ih]
    congr 1
    split <;> rfl

structure Sim (p : ProgS) (r : RefS) : Prop where
  wp : ProgWf p
  wr : RefWf r
  room : p.room = r.room
  given : p.given = r.nt
  rights : ∀ k, k < r.nt → p.rights k = (r.tok k).rights
  tenant : ∀ k, k < r.nt → p.tenant k = (r.life (r.tok k).life).no
  ended : ∀ k, k < r.nt → p.ended k = ((r.tok k).revoked || (r.life (r.tok k).life).gone)
  parent0 : ∀ k, k < r.nt → p.parent k = 0 → (r.tok k).line = []
  parentS : ∀ k m, k < r.nt → p.parent k = m + 1 → m < k ∧ (r.tok k).line = (r.tok m).line ++ [m + 1] ∧ (r.tok k).life = (r.tok m).life
  quotaL : ∀ i, i < r.nl → (r.life i).gone = false → p.quota (r.life i).no.toNat = (r.life i).quota
  quotaF : ∀ j : Nat, j < 8 → freeR r j → p.quota j = 0
  count : (liveCount r r.nl : Int) = taken p 8
  sum : liveSum r r.nl = qsum p 8
  uniq : ∀ i j, i < r.nl → j < r.nl → (r.life i).gone = false → (r.life j).gone = false → (r.life i).no = (r.life j).no → i = j

section
variable {p : ProgS} {r : RefS}
theorem Sim.alive1 (h : Sim p r) : ∀ k, k < r.nt → aliveP p (k + 1) (k + 1) = aliveR r k := by
  intro k
  induction k using Nat.strongRecOn with
  | ind k ih =>
    intro hk
    have hkg : k < p.given := by rw [h.given]; exact hk
    rw [aliveP_succ h.wp.parent hkg, h.ended k hk]
    cases hp : p.parent k with
    | zero =>
      rw [aliveP_zero]
      unfold aliveR
      rw [h.parent0 k hk hp]
      cases (r.tok k).revoked <;> cases (r.life (r.tok k).life).gone <;> rfl
    | succ m =>
      obtain ⟨hm, hl, hf⟩ := h.parentS k m hk hp
      rw [ih m hm (by omega)]
      unfold aliveR
      rw [hl, hf, List.any_append]
      simp only [List.any_cons, List.any_nil, Nat.add_sub_cancel, Bool.or_false]
      cases (r.tok k).revoked <;> cases (r.life (r.tok m).life).gone <;> cases (r.tok m).revoked <;> cases ((r.tok m).line.any fun n => (r.tok (n - 1)).revoked) <;> rfl
theorem Sim.alive (h : Sim p r) (t : Int) : aliveX p t = aliveI r t := by
  unfold aliveX aliveI wasG
  rw [h.given]
  by_cases hb : 1 ≤ t ∧ t ≤ r.nt
  · obtain ⟨k, rfl⟩ : ∃ k : Nat, t = (k : Int) + 1 := ⟨(t - 1).toNat, by omega⟩
    rw [show ((k : Int) + 1).toNat = k + 1 from by omega, show ((k : Int) + 1 - 1).toNat = k from by omega, h.alive1 k (by omega)]
    simp [hb.1, hb.2]
  · have : ¬ (1 ≤ t) ∨ ¬ (t ≤ r.nt) := by omega
    rcases this with hh | hh <;> simp [hh]
def bit15 (a b : Nat) : Bool := (okRights a (bits BinOp.or IntKind.i64 b 8) == !lacks a b) && (okRights a 8 == hasB a 8)
theorem bits_all : ∀ a b : Fin 16, bit15 a.val b.val = true := by decide +kernel
theorem ok_or {a b : Int} (ha : 0 ≤ a ∧ a ≤ 15) (hb : 0 ≤ b ∧ b ≤ 15) : okRights a (bits BinOp.or IntKind.i64 b 8) = !lacks a b := by
  obtain ⟨x, rfl⟩ : ∃ x : Nat, a = x := ⟨a.toNat, by omega⟩
  obtain ⟨y, rfl⟩ : ∃ y : Nat, b = y := ⟨b.toNat, by omega⟩
  have := bits_all ⟨x, by omega⟩ ⟨y, by omega⟩
  simp only [bit15, Bool.and_eq_true, beq_iff_eq] at this
  exact this.1
theorem ok_8 {a : Int} (ha : 0 ≤ a ∧ a ≤ 15) : okRights a 8 = hasB a 8 := by
  obtain ⟨x, rfl⟩ : ∃ x : Nat, a = x := ⟨a.toNat, by omega⟩
  have := bits_all ⟨x, by omega⟩ ⟨0, by omega⟩
  simp only [bit15, Bool.and_eq_true, beq_iff_eq] at this
  exact this.2
theorem Sim.check (h : Sim p r) (t : Int) : checkX p t 8 = mayI r t 8 := by
  unfold checkX mayI
  rw [h.alive t]
  cases ha : aliveI r t with
  | false => rfl
  | true =>
    obtain ⟨h1, h2, _⟩ := aliveI_bounds ha
    have hk : (t - 1).toNat < r.nt := by omega
    rw [h.rights _ hk, ok_8 (h.wr.rights _ hk)]
theorem Sim.derive (h : Sim p r) (t rights : Int) : deriveX p t rights = deriveR r t rights := by
  unfold deriveX deriveR
  rw [h.alive t]
  cases ha : aliveI r t with
  | false => rfl
  | true =>
    obtain ⟨h1, h2, _⟩ := aliveI_bounds ha
    have hk : (t - 1).toNat < r.nt := by omega
    by_cases hr : rights < 0 ∨ 15 < rights
    · simp only [if_pos hr]
    · simp only [if_neg hr, if_true]
      rw [h.rights _ hk, ok_or (h.wr.rights _ hk) (by omega), h.given]
      cases lacks (r.tok (t - 1).toNat).rights rights <;> rfl
theorem lineHas_append (l m : List Nat) (n : Int) : lineHas (l ++ m) n = (lineHas l n || lineHas m n) := by
  unfold lineHas
  rw [List.any_append]
theorem Sim.made1 (h : Sim p r) {token : Nat} (ht : 1 ≤ token) : ∀ k, k < r.nt → outOf p token (p.parent k) (p.parent k) = lineHas (r.tok k).line token := by
  intro k
  induction k using Nat.strongRecOn with
  | ind k ih =>
    intro hk
    cases hp : p.parent k with
    | zero =>
      rw [h.parent0 k hk hp]
      have : ¬ 0 = token := by omega
      simp [outOf, lineHas, this]
    | succ m =>
      obtain ⟨hm, hl, _⟩ := h.parentS k m hk hp
      rw [hl, lineHas_append]
      have e1 : lineHas [m + 1] (token : Int) = decide (m + 1 = token) := by
        simp only [lineHas, List.any_cons, List.any_nil, Bool.or_false]
        rw [decide_eq_decide]
        omega
      rw [e1]
      simp only [outOf, Nat.add_sub_cancel]
      by_cases hlt : token < m + 1
      · rw [if_pos hlt]
        have hmg : m < p.given := by rw [h.given]; omega
        have hpm := h.wp.parent m hmg
        rw [outOf_fuel h.wp.parent ht m (p.parent m) (p.parent m) (by omega) (by omega) (by omega), ih m hm (by omega)]
        have : ¬ m + 1 = token := by omega
        simp [this]
      · rw [if_neg hlt]
        have : lineHas (r.tok m).line token = false := by
          unfold lineHas
          rw [List.any_eq_false]
          intro x hx
          have := (h.wr.line m (by omega) x hx).2
          simp only [decide_eq_true_eq]
          omega
        rw [this, Bool.false_or]
theorem Sim.revoke (h : Sim p r) (t which : Int) : revokeX p t which = revokeR r t which := by
  unfold revokeX revokeR
  rw [h.check t]
  by_cases hm : mayI r t 8 = 0
  · rw [if_pos hm, if_pos hm]
    have hb : 1 ≤ t ∧ t ≤ p.given := checkX_bounds (by rw [h.check t]; exact hm)
    obtain ⟨k, rfl⟩ : ∃ k : Nat, t = (k : Int) := ⟨t.toNat, by omega⟩
    rw [Int.toNat_natCast]
    unfold madeX wasG
    rw [h.given]
    by_cases hw : 1 ≤ which ∧ which ≤ r.nt
    · rw [if_pos hw, h.made1 (by omega) _ (by omega)]
      simp only [hw.1, hw.2, decide_true, Bool.true_and, revErr]
    · rw [if_neg hw]
      have : ¬ (1 ≤ which) ∨ ¬ (which ≤ r.nt) := by omega
      rcases this with hh | hh <;> simp [hh]
  · rw [if_neg hm, if_neg hm]
theorem Sim.quotaPos (h : Sim p r) {j : Nat} (hn : ¬ freeR r j) : 0 < p.quota j := by
  have : ∃ i, i < r.nl ∧ (r.life i).gone = false ∧ (r.life i).no = j := by
    apply Classical.byContradiction
    intro hc
    apply hn
    intro i hi
    cases hg : (r.life i).gone with
    | true => exact Or.inl rfl
    | false => exact Or.inr (fun e => hc ⟨i, hi, hg, e⟩)
  obtain ⟨i, hi, hg, hno⟩ := this
  have h1 := h.quotaL i hi hg
  rw [hno, Int.toNat_natCast] at h1
  have := h.wr.quota i hi
  omega
theorem Sim.sameNo (h : Sim p r) {n m : Nat} (hx : freeX p n) (hr : freeR r m) (hall : ∀ j : Nat, j < m → ¬ freeR r j) (hm : m ≤ 8) : n = m := by
  rcases Nat.lt_trichotomy n m with hlt | heq | hgt
  · have h1 := hx.2.1 (by omega)
    have := h.quotaPos (hall n hlt)
    omega
  · exact heq
  · have h1 := hx.2.2 m hgt
    have h2 := hx.1
    have := h.quotaF m (by omega) hr
    omega
theorem taken_le (p : ProgS) (n : Nat) : 0 ≤ taken p n ∧ taken p n ≤ n := by
  induction n with
  | zero => simp [taken, sumF]
  | succ n ih =>
    unfold taken at *
    simp only [sumF, pos] at *
    split <;> omega
theorem taken_all {p : ProgS} {n : Nat} (h : ∀ j, j < n → 0 < p.quota j) : taken p n = n := by
  induction n with
  | zero => simp [taken, sumF]
  | succ n ih =>
    have h1 := ih (fun j hj => h j (by omega))
    have h2 := h n (by omega)
    unfold taken at *
    simp only [sumF, pos] at *
    rw [h1, if_pos h2]
    omega
theorem taken_lt {p : ProgS} {n k : Nat} (hk : k < n) (h : p.quota k ≤ 0) : taken p n < n := by
  induction n with
  | zero => omega
  | succ n ih =>
    have hle := taken_le p n
    by_cases e : k = n
    · subst e
      unfold taken at *
      simp only [sumF, pos] at *
      rw [if_neg (by omega)]
      omega
    · have := ih (by omega)
      unfold taken at *
      simp only [sumF, pos] at *
      split <;> omega
theorem Sim.full (h : Sim p r) {n : Nat} (hx : freeX p n) : 8 ≤ n ↔ 8 ≤ liveCount r r.nl := by
  have hc := h.count
  constructor
  · intro h8
    have : n = 8 := by have := hx.1; omega
    subst this
    have := taken_all hx.2.2
    omega
  · intro h8
    rcases Nat.lt_or_ge n 8 with hl | hg
    · have := taken_lt hl (hx.2.1 hl)
      omega
    · exact hg
theorem Sim.create (h : Sim p r) {n : Nat} (hx : freeX p n) (quota : Int) : createX p n quota = createR r quota := by
  unfold createX createR
  have hf := h.full hx
  have hs := h.sum
  by_cases hq : quota < 1 ∨ 64 < quota
  · rw [if_pos hq, if_pos hq]
  · rw [if_neg hq, if_neg hq]
    by_cases h8 : 8 ≤ n
    · rw [if_pos h8, if_pos (hf.1 h8)]
    · rw [if_neg h8, if_neg (fun hh => h8 (hf.2 hh)), h.room, h.given, hs, Int.add_comm]
theorem Sim.tenantIs (h : Sim p r) (n : Int) : isT p n = true ↔ ∃ i, i < r.nl ∧ (r.life i).gone = false ∧ (r.life i).no = n := by
  simp only [isT, Bool.and_eq_true, decide_eq_true_eq]
  constructor
  · rintro ⟨⟨h0, h8⟩, hq⟩
    obtain ⟨k, rfl⟩ : ∃ k : Nat, n = (k : Int) := ⟨n.toNat, by omega⟩
    rw [Int.toNat_natCast] at hq
    apply Classical.byContradiction
    intro hc
    have : freeR r k := fun i hi => by
      cases hg : (r.life i).gone with
      | true => exact Or.inl rfl
      | false => exact Or.inr (fun e => hc ⟨i, hi, hg, e⟩)
    have := h.quotaF k (by omega) this
    omega
  · rintro ⟨i, hi, hg, rfl⟩
    have h1 := h.quotaL i hi hg
    have h2 := h.wr.quota i hi
    have h3 := h.wr.no i hi
    exact ⟨h3, by omega⟩
end

section
variable {p : ProgS} {r : RefS}
theorem newSim {room : Int} (h1 : 1 ≤ room) (h2 : room ≤ 64) (lf : Nat → Life) (tk : Nat → Tok) : Sim (newP room) ⟨room, 0, lf, 0, tk⟩ := by
  refine ⟨⟨⟨h1, h2⟩, fun i _ => ⟨Int.le_refl _, by simp [newP]⟩, Nat.zero_le _, ?_, ?_⟩, ⟨Nat.zero_le _, Nat.le_refl _, ⟨h1, h2⟩, ?_, ?_, ?_, ?_, ?_, ?_⟩, rfl, rfl, ?_, ?_, ?_, ?_, ?_, ?_, ?_, ?_, ?_, ?_⟩
  · intro k hk; exact absurd hk (Nat.not_lt_zero _)
  · intro k hk; exact absurd hk (Nat.not_lt_zero _)
  · intro k hk; exact absurd hk (Nat.not_lt_zero _)
  · intro k hk; exact absurd hk (Nat.not_lt_zero _)
  · intro k hk; exact absurd hk (Nat.not_lt_zero _)
  · intro k hk; exact absurd hk (Nat.not_lt_zero _)
  · intro k hk; exact absurd hk (Nat.not_lt_zero _)
  · intro k hk; exact absurd hk (Nat.not_lt_zero _)
  · intro k hk; exact absurd hk (Nat.not_lt_zero _)
  · intro k hk; exact absurd hk (Nat.not_lt_zero _)
  · intro k hk; exact absurd hk (Nat.not_lt_zero _)
  · intro k hk; exact absurd hk (Nat.not_lt_zero _)
  · intro k m hk; exact absurd hk (Nat.not_lt_zero _)
  · intro k hk; exact absurd hk (Nat.not_lt_zero _)
  · intro j _ _; rfl
  · rfl
  · rfl
  · intro i j hi; exact absurd hi (Nat.not_lt_zero _)

theorem Sim.createS (h : Sim p r) {n : Nat} (hx : freeX p n) (hr : freeR r n) {quota : Int} (h0 : createR r quota = 0) : Sim (createXS p n quota) (createS r n quota) := by
  have hq : ¬ (quota < 1 ∨ 64 < quota) := fun hq => by unfold createR at h0; rw [if_pos hq] at h0; omega
  unfold createR at h0
  rw [if_neg hq] at h0
  have hc8 : ¬ 8 ≤ liveCount r r.nl := fun hc => by rw [if_pos hc] at h0; omega
  rw [if_neg hc8] at h0
  have hs : ¬ r.room < quota + liveSum r r.nl := fun hc => by rw [if_pos hc] at h0; omega
  rw [if_neg hs] at h0
  have h100 : ¬ 100 ≤ r.nt := fun hc => by rw [if_pos hc] at h0; omega
  clear h0
  have hn8 : n < 8 := by
    rcases Nat.lt_or_ge n 8 with hl | hg
    · exact hl
    · exact absurd ((h.full hx).1 hg) hc8
  have hq0 : p.quota n = 0 := h.quotaF n hn8 hr
  have hg := h.given
  have hnl := h.wr.nl
  refine ⟨⟨h.wp.room, ?_, ?_, ?_, ?_⟩, ⟨?_, ?_, h.wr.room, ?_, ?_, ?_, ?_, ?_, ?_⟩, h.room, ?_, ?_, ?_, ?_, ?_, ?_, ?_, ?_, ?_, ?_, ?_⟩
  · intro i hi
    show 0 ≤ upd p.quota n quota i ∧ upd p.quota n quota i ≤ 64
    by_cases e : i = n
    · subst e; rw [upd_same]; omega
    · rw [upd_other _ _ e]; exact h.wp.quota i hi
  · show p.given + 1 ≤ 100
    omega
  · intro k hk
    have hk' : k < p.given + 1 := hk
    show 0 ≤ upd p.rights p.given 15 k ∧ upd p.rights p.given 15 k ≤ 15
    by_cases e : k = p.given
    · subst e; rw [upd_same]; omega
    · rw [upd_other _ _ e]; exact h.wp.rights k (by omega)
  · intro k hk
    have hk' : k < p.given + 1 := hk
    show upd p.parent p.given 0 k ≤ k
    by_cases e : k = p.given
    · subst e; rw [upd_same]; omega
    · rw [upd_other _ _ e]; exact h.wp.parent k (by omega)
  · show r.nt + 1 ≤ 100
    omega
  · show r.nl + 1 ≤ r.nt + 1
    omega
  · intro i hi
    have hi' : i < r.nl + 1 := hi
    show 1 ≤ (upd r.life r.nl _ i).quota ∧ (upd r.life r.nl _ i).quota ≤ 64
    by_cases e : i = r.nl
    · subst e; rw [upd_same]; show 1 ≤ quota ∧ quota ≤ 64; omega
    · rw [upd_other _ _ e]; exact h.wr.quota i (by omega)
  · intro i hi
    have hi' : i < r.nl + 1 := hi
    show 0 ≤ (upd r.life r.nl _ i).no ∧ (upd r.life r.nl _ i).no < 8
    by_cases e : i = r.nl
    · subst e; rw [upd_same]; show 0 ≤ (n : Int) ∧ (n : Int) < 8; omega
    · rw [upd_other _ _ e]; exact h.wr.no i (by omega)
  · intro k hk
    have hk' : k < r.nt + 1 := hk
    show (upd r.tok r.nt _ k).life < r.nl + 1
    by_cases e : k = r.nt
    · subst e; rw [upd_same]; show r.nl < r.nl + 1; omega
    · rw [upd_other _ _ e]; have := h.wr.life k (by omega); omega
  · intro k hk
    have hk' : k < r.nt + 1 := hk
    show 0 ≤ (upd r.tok r.nt _ k).rights ∧ (upd r.tok r.nt _ k).rights ≤ 15
    by_cases e : k = r.nt
    · subst e; rw [upd_same]; show (0 : Int) ≤ 15 ∧ (15 : Int) ≤ 15; omega
    · rw [upd_other _ _ e]; exact h.wr.rights k (by omega)
  · intro k hk
    have hk' : k < r.nt + 1 := hk
    show ∀ m ∈ (upd r.tok r.nt _ k).line, 1 ≤ m ∧ m ≤ k
    by_cases e : k = r.nt
    · subst e; rw [upd_same]; intro m hm; cases hm
    · rw [upd_other _ _ e]; exact h.wr.line k (by omega)
  · intro k hk
    have hk' : k < r.nt + 1 := hk
    show (upd r.tok r.nt _ k).line.length ≤ k
    by_cases e : k = r.nt
    · subst e; rw [upd_same]; exact Nat.zero_le _
    · rw [upd_other _ _ e]; exact h.wr.lineLen k (by omega)
  · show p.given + 1 = r.nt + 1
    omega
  · intro k hk
    have hk' : k < r.nt + 1 := hk
    show upd p.rights p.given 15 k = (upd r.tok r.nt _ k).rights
    rw [hg]
    by_cases e : k = r.nt
    · subst e; rw [upd_same, upd_same]
    · rw [upd_other _ _ e, upd_other _ _ e]; exact h.rights k (by omega)
  · intro k hk
    have hk' : k < r.nt + 1 := hk
    show upd p.tenant p.given n k = (upd r.life r.nl _ (upd r.tok r.nt _ k).life).no
    rw [hg]
    by_cases e : k = r.nt
    · subst e; rw [upd_same, upd_same, upd_same]
    · rw [upd_other _ _ e, upd_other _ _ e, upd_other _ _ (by have := h.wr.life k (by omega); omega)]; exact h.tenant k (by omega)
  · intro k hk
    have hk' : k < r.nt + 1 := hk
    show upd p.ended p.given false k = ((upd r.tok r.nt _ k).revoked || (upd r.life r.nl _ (upd r.tok r.nt _ k).life).gone)
    rw [hg]
    by_cases e : k = r.nt
    · subst e; rw [upd_same, upd_same, upd_same]; rfl
    · rw [upd_other _ _ e, upd_other _ _ e, upd_other _ _ (by have := h.wr.life k (by omega); omega)]; exact h.ended k (by omega)
  · intro k hk hp
    have hk' : k < r.nt + 1 := hk
    have hp' : upd p.parent p.given 0 k = 0 := hp
    show (upd r.tok r.nt _ k).line = []
    rw [hg] at hp'
    by_cases e : k = r.nt
    · subst e; rw [upd_same]
    · rw [upd_other _ _ e] at hp' ⊢; exact h.parent0 k (by omega) hp'
  · intro k m hk hp
    have hk' : k < r.nt + 1 := hk
    have hp' : upd p.parent p.given 0 k = m + 1 := hp
    rw [hg] at hp'
    by_cases e : k = r.nt
    · subst e; rw [upd_same] at hp'; omega
    · rw [upd_other _ _ e] at hp'
      obtain ⟨a, c, d⟩ := h.parentS k m (by omega) hp'
      have e2 : m ≠ r.nt := by omega
      show m < k ∧ (upd r.tok r.nt _ k).line = (upd r.tok r.nt _ m).line ++ [m + 1] ∧ (upd r.tok r.nt _ k).life = (upd r.tok r.nt _ m).life
      rw [upd_other _ _ e, upd_other _ _ e2]
      exact ⟨a, c, d⟩
  · intro i hi hgo
    have hi' : i < r.nl + 1 := hi
    have hgo' : (upd r.life r.nl ⟨n, quota, 0, 0, [], [], false⟩ i).gone = false := hgo
    show upd p.quota n quota (upd r.life r.nl ⟨n, quota, 0, 0, [], [], false⟩ i).no.toNat = (upd r.life r.nl ⟨n, quota, 0, 0, [], [], false⟩ i).quota
    by_cases e : i = r.nl
    · subst e; rw [upd_same]; show upd p.quota n quota (n : Int).toNat = quota; rw [Int.toNat_natCast, upd_same]
    · rw [upd_other _ _ e] at hgo' ⊢
      rw [upd_other]
      · exact h.quotaL i (by omega) hgo'
      · intro hh
        have hno := h.wr.no i (by omega)
        rcases hr i (by omega) with hx1 | hx1
        · rw [hgo'] at hx1; cases hx1
        · exact hx1 (by omega)
  · intro j hj hfr
    have hfr' : ∀ i, i < r.nl + 1 → (upd r.life r.nl ⟨n, quota, 0, 0, [], [], false⟩ i).gone = true ∨ (upd r.life r.nl ⟨n, quota, 0, 0, [], [], false⟩ i).no ≠ j := hfr
    show upd p.quota n quota j = 0
    have hjn : j ≠ n := by
      rintro rfl
      rcases hfr' r.nl (by omega) with hh | hh
      · rw [upd_same] at hh; cases hh
      · rw [upd_same] at hh; exact hh rfl
    rw [upd_other _ _ hjn]
    refine h.quotaF j hj (fun i hi => ?_)
    have := hfr' i (by omega)
    rwa [upd_other _ _ (by omega)] at this
  · rw [liveCount_eq]
    have e1 : sumF (fun i => lifeC ((Go.Proofs.YtgndledehlilkaaGreat.createS r n quota).life i)) (r.nl + 1) = sumF (fun i => lifeC (r.life i)) r.nl + 1 := by
      show sumF (fun i => lifeC (upd r.life r.nl ⟨n, quota, 0, 0, [], [], false⟩ i)) r.nl + lifeC (upd r.life r.nl ⟨n, quota, 0, 0, [], [], false⟩ r.nl) = _
      rw [upd_same, sumF_congr (g := fun i => lifeC (r.life i)) (fun i hi => by rw [upd_other _ _ (by omega)])]
      rfl
    show sumF (fun i => lifeC ((Go.Proofs.YtgndledehlilkaaGreat.createS r n quota).life i)) (r.nl + 1) = taken (createXS p n quota) 8
    rw [e1, ← liveCount_eq, h.count]
    have e2 : (fun j => pos ((createXS p n quota).quota j)) = upd (fun j => pos (p.quota j)) n (pos quota) := by
      funext j
      show pos (upd p.quota n quota j) = _
      unfold upd
      split <;> rfl
    unfold taken
    rw [e2, sumF_upd _ _ hn8, hq0]
    have : pos quota = 1 := by unfold pos; rw [if_pos (by omega)]
    rw [this]
    have : pos 0 = 0 := rfl
    rw [this]
    omega
  · rw [liveSum_eq, qsum_eq]
    have e1 : sumF (fun i => lifeQ ((Go.Proofs.YtgndledehlilkaaGreat.createS r n quota).life i)) (r.nl + 1) = sumF (fun i => lifeQ (r.life i)) r.nl + quota := by
      show sumF (fun i => lifeQ (upd r.life r.nl ⟨n, quota, 0, 0, [], [], false⟩ i)) r.nl + lifeQ (upd r.life r.nl ⟨n, quota, 0, 0, [], [], false⟩ r.nl) = _
      rw [upd_same, sumF_congr (g := fun i => lifeQ (r.life i)) (fun i hi => by rw [upd_other _ _ (by omega)])]
      rfl
    show sumF (fun i => lifeQ ((Go.Proofs.YtgndledehlilkaaGreat.createS r n quota).life i)) (r.nl + 1) = sumF (upd p.quota n quota) 8
    rw [e1, ← liveSum_eq, h.sum, qsum_eq, sumF_upd _ _ hn8, hq0]
    omega
  · intro i j hi hj hgi hgj hno
    have hi' : i < r.nl + 1 := hi
    have hj' : j < r.nl + 1 := hj
    have hgi' : (upd r.life r.nl ⟨n, quota, 0, 0, [], [], false⟩ i).gone = false := hgi
    have hgj' : (upd r.life r.nl ⟨n, quota, 0, 0, [], [], false⟩ j).gone = false := hgj
    have hno' : (upd r.life r.nl ⟨n, quota, 0, 0, [], [], false⟩ i).no = (upd r.life r.nl ⟨n, quota, 0, 0, [], [], false⟩ j).no := hno
    by_cases ei : i = r.nl
    · by_cases ej : j = r.nl
      · omega
      · subst ei
        rw [upd_same, upd_other _ _ ej] at hno'
        rw [upd_other _ _ ej] at hgj'
        rcases hr j (by omega) with hh | hh
        · rw [hgj'] at hh; cases hh
        · exact absurd hno'.symm hh
    · by_cases ej : j = r.nl
      · subst ej
        rw [upd_same, upd_other _ _ ei] at hno'
        rw [upd_other _ _ ei] at hgi'
        rcases hr i (by omega) with hh | hh
        · rw [hgi'] at hh; cases hh
        · exact absurd hno' hh
      · rw [upd_other _ _ ei, upd_other _ _ ej] at hno'
        rw [upd_other _ _ ei] at hgi'
        rw [upd_other _ _ ej] at hgj'
        exact h.uniq i j (by omega) (by omega) hgi' hgj' hno'
end

section
variable {p : ProgS} {r : RefS}
theorem Sim.dropS (h : Sim p r) {i : Nat} (hi : i < r.nl) (hgi : (r.life i).gone = false) : Sim (dropX p (r.life i).no) (dropS r i) := by
  have hno := h.wr.no i hi
  have hqi := h.wr.quota i hi
  have hq := h.quotaL i hi hgi
  obtain ⟨n, hn⟩ : ∃ n : Nat, (r.life i).no = (n : Int) := ⟨(r.life i).no.toNat, by omega⟩
  have hn8 : n < 8 := by omega
  rw [hn] at hq ⊢
  rw [Int.toNat_natCast] at hq
  have hg := h.given
  have lno : ∀ k, (upd r.life i { r.life i with gone := true, own := [] } k).no = (r.life k).no := fun k => by
    by_cases e : k = i
    · subst e; rw [upd_same]
    · rw [upd_other _ _ e]
  have lqu : ∀ k, (upd r.life i { r.life i with gone := true, own := [] } k).quota = (r.life k).quota := fun k => by
    by_cases e : k = i
    · subst e; rw [upd_same]
    · rw [upd_other _ _ e]
  have lgo : ∀ k, (upd r.life i { r.life i with gone := true, own := [] } k).gone = false → k ≠ i ∧ (r.life k).gone = false := fun k hk => by
    by_cases e : k = i
    · subst e; rw [upd_same] at hk; cases hk
    · rw [upd_other _ _ e] at hk; exact ⟨e, hk⟩
  have hqd : (dropX p (n : Int)).quota = upd p.quota n 0 := by
    show upd p.quota (n : Int).toNat 0 = _
    rw [Int.toNat_natCast]
  refine ⟨⟨h.wp.room, ?_, h.wp.given, h.wp.rights, h.wp.parent⟩, ⟨h.wr.nt, h.wr.nl, h.wr.room, ?_, ?_, h.wr.life, h.wr.rights, h.wr.line, h.wr.lineLen⟩, h.room, h.given, h.rights, ?_, ?_, h.parent0, h.parentS, ?_, ?_, ?_, ?_, ?_⟩
  · intro j hj
    rw [hqd]
    by_cases e : j = n
    · subst e; rw [upd_same]; omega
    · rw [upd_other _ _ e]; exact h.wp.quota j hj
  · intro k hk
    show 1 ≤ (upd r.life i _ k).quota ∧ (upd r.life i _ k).quota ≤ 64
    rw [lqu]; exact h.wr.quota k hk
  · intro k hk
    show 0 ≤ (upd r.life i _ k).no ∧ (upd r.life i _ k).no < 8
    rw [lno]; exact h.wr.no k hk
  · intro k hk
    show p.tenant k = (upd r.life i _ (r.tok k).life).no
    rw [lno]; exact h.tenant k hk
  · intro k hk
    show (p.ended k || (decide (k < p.given) && decide (p.tenant k = (n : Int)))) = ((r.tok k).revoked || (upd r.life i _ (r.tok k).life).gone)
    have hkg : k < p.given := by rw [hg]; exact hk
    rw [h.ended k hk, h.tenant k hk]
    by_cases e : (r.tok k).life = i
    · rw [e, upd_same, hn]
      simp [hkg]
    · rw [upd_other _ _ e]
      by_cases e2 : (r.life (r.tok k).life).no = (n : Int)
      · cases hgl : (r.life (r.tok k).life).gone with
        | true => simp
        | false => exact absurd (h.uniq _ _ (h.wr.life k hk) hi hgl hgi (by rw [e2, hn])) e
      · simp [e2]
  · intro k hk hgk
    obtain ⟨e, hgk'⟩ := lgo k hgk
    show (dropX p (n : Int)).quota (upd r.life i _ k).no.toNat = (upd r.life i _ k).quota
    rw [hqd, lno, lqu, upd_other]
    · exact h.quotaL k hk hgk'
    · intro hh
      have h2 := h.wr.no k hk
      exact e (h.uniq k i hk hi hgk' hgi (by rw [hn]; omega))
  · intro j hj hfr
    have hfr' : ∀ k, k < r.nl → (upd r.life i { r.life i with gone := true, own := [] } k).gone = true ∨ (upd r.life i { r.life i with gone := true, own := [] } k).no ≠ j := hfr
    rw [hqd]
    by_cases e : j = n
    · subst e; rw [upd_same]
    · rw [upd_other _ _ e]
      refine h.quotaF j hj (fun k hk => ?_)
      have := hfr' k hk
      by_cases e2 : k = i
      · subst e2; right; rw [hn]; omega
      · rwa [upd_other _ _ e2] at this
  · rw [liveCount_eq]
    have e1 : (fun k => lifeC ((Go.Proofs.YtgndledehlilkaaGreat.dropS r i).life k)) = upd (fun k => lifeC (r.life k)) i 0 := by
      funext k
      show lifeC (upd r.life i _ k) = _
      unfold upd
      split <;> rfl
    show sumF (fun k => lifeC ((Go.Proofs.YtgndledehlilkaaGreat.dropS r i).life k)) r.nl = taken (dropX p (n : Int)) 8
    rw [e1, sumF_upd _ _ hi, ← liveCount_eq, h.count]
    have e2 : (fun j => pos ((dropX p (n : Int)).quota j)) = upd (fun j => pos (p.quota j)) n 0 := by
      rw [hqd]
      funext j
      unfold upd
      split <;> rfl
    unfold taken
    rw [e2, sumF_upd _ _ hn8]
    have e3 : lifeC (r.life i) = 1 := by unfold lifeC; rw [hgi]; rfl
    have e4 : pos (p.quota n) = 1 := by unfold pos; rw [if_pos (by omega)]
    rw [e3, e4]
  · rw [liveSum_eq, qsum_eq, hqd]
    have e1 : (fun k => lifeQ ((Go.Proofs.YtgndledehlilkaaGreat.dropS r i).life k)) = upd (fun k => lifeQ (r.life k)) i 0 := by
      funext k
      show lifeQ (upd r.life i _ k) = _
      unfold upd
      split <;> rfl
    show sumF (fun k => lifeQ ((Go.Proofs.YtgndledehlilkaaGreat.dropS r i).life k)) r.nl = _
    rw [e1, sumF_upd _ _ hi, ← liveSum_eq, h.sum, qsum_eq, sumF_upd _ _ hn8]
    have e3 : lifeQ (r.life i) = (r.life i).quota := by unfold lifeQ; rw [hgi]; rfl
    rw [e3, hq]
  · intro k j hk hj hgk hgj hno2
    obtain ⟨_, hgk'⟩ := lgo k hgk
    obtain ⟨_, hgj'⟩ := lgo j hgj
    have hno3 : (upd r.life i { r.life i with gone := true, own := [] } k).no = (upd r.life i { r.life i with gone := true, own := [] } j).no := hno2
    rw [lno, lno] at hno3
    exact h.uniq k j hk hj hgk' hgj' hno3

theorem Sim.deriveS (h : Sim p r) {k : Nat} (hk : k < r.nt) {rights : Int} (hr0 : 0 ≤ rights) (hr1 : rights ≤ 15) (h100 : r.nt < 100) (hal : aliveR r k = true) : Sim (addS p (p.tenant k) rights (k + 1)) (deriveS r k rights) := by
  have hg := h.given
  have hnl := h.wr.nl
  refine ⟨⟨h.wp.room, h.wp.quota, ?_, ?_, ?_⟩, ⟨?_, ?_, h.wr.room, h.wr.quota, h.wr.no, ?_, ?_, ?_, ?_⟩, h.room, ?_, ?_, ?_, ?_, ?_, ?_, h.quotaL, h.quotaF, by rw [liveCount_eq]; have := h.count; rw [liveCount_eq] at this; exact this, by rw [liveSum_eq, qsum_eq]; have := h.sum; rw [liveSum_eq, qsum_eq] at this; exact this, h.uniq⟩
  · show p.given + 1 ≤ 100
    omega
  · intro j hj
    have hj' : j < p.given + 1 := hj
    show 0 ≤ upd p.rights p.given rights j ∧ upd p.rights p.given rights j ≤ 15
    by_cases e : j = p.given
    · subst e; rw [upd_same]; omega
    · rw [upd_other _ _ e]; exact h.wp.rights j (by omega)
  · intro j hj
    have hj' : j < p.given + 1 := hj
    show upd p.parent p.given (k + 1) j ≤ j
    by_cases e : j = p.given
    · subst e; rw [upd_same]; omega
    · rw [upd_other _ _ e]; exact h.wp.parent j (by omega)
  · show r.nt + 1 ≤ 100
    omega
  · show r.nl ≤ r.nt + 1
    omega
  · intro j hj
    have hj' : j < r.nt + 1 := hj
    show (upd r.tok r.nt _ j).life < r.nl
    by_cases e : j = r.nt
    · subst e; rw [upd_same]; exact h.wr.life k hk
    · rw [upd_other _ _ e]; exact h.wr.life j (by omega)
  · intro j hj
    have hj' : j < r.nt + 1 := hj
    show 0 ≤ (upd r.tok r.nt _ j).rights ∧ (upd r.tok r.nt _ j).rights ≤ 15
    by_cases e : j = r.nt
    · subst e; rw [upd_same]; exact ⟨hr0, hr1⟩
    · rw [upd_other _ _ e]; exact h.wr.rights j (by omega)
  · intro j hj
    have hj' : j < r.nt + 1 := hj
    show ∀ m ∈ (upd r.tok r.nt _ j).line, 1 ≤ m ∧ m ≤ j
    by_cases e : j = r.nt
    · subst e; rw [upd_same]
      intro m hm
      have hm' : m ∈ (r.tok k).line ++ [k + 1] := hm
      rw [List.mem_append] at hm'
      rcases hm' with hm' | hm'
      · have := h.wr.line k hk m hm'; omega
      · simp at hm'; omega
    · rw [upd_other _ _ e]; exact h.wr.line j (by omega)
  · intro j hj
    have hj' : j < r.nt + 1 := hj
    show (upd r.tok r.nt _ j).line.length ≤ j
    by_cases e : j = r.nt
    · subst e; rw [upd_same]
      show ((r.tok k).line ++ [k + 1]).length ≤ r.nt
      have := h.wr.lineLen k hk
      simp; omega
    · rw [upd_other _ _ e]; exact h.wr.lineLen j (by omega)
  · show p.given + 1 = r.nt + 1
    omega
  · intro j hj
    have hj' : j < r.nt + 1 := hj
    show upd p.rights p.given rights j = (upd r.tok r.nt _ j).rights
    rw [hg]
    by_cases e : j = r.nt
    · subst e; rw [upd_same, upd_same]
    · rw [upd_other _ _ e, upd_other _ _ e]; exact h.rights j (by omega)
  · intro j hj
    have hj' : j < r.nt + 1 := hj
    show upd p.tenant p.given (p.tenant k) j = (r.life (upd r.tok r.nt _ j).life).no
    rw [hg]
    by_cases e : j = r.nt
    · subst e; rw [upd_same, upd_same]; exact h.tenant k hk
    · rw [upd_other _ _ e, upd_other _ _ e]; exact h.tenant j (by omega)
  · intro j hj
    have hj' : j < r.nt + 1 := hj
    show upd p.ended p.given false j = ((upd r.tok r.nt _ j).revoked || (r.life (upd r.tok r.nt _ j).life).gone)
    rw [hg]
    by_cases e : j = r.nt
    · subst e; rw [upd_same, upd_same]
      show false = (false || (r.life (r.tok k).life).gone)
      unfold aliveR at hal
      cases hgo : (r.life (r.tok k).life).gone with
      | true => rw [hgo] at hal; simp at hal
      | false => rfl
    · rw [upd_other _ _ e, upd_other _ _ e]; exact h.ended j (by omega)
  · intro j hj hp
    have hj' : j < r.nt + 1 := hj
    have hp' : upd p.parent p.given (k + 1) j = 0 := hp
    show (upd r.tok r.nt _ j).line = []
    rw [hg] at hp'
    by_cases e : j = r.nt
    · subst e; rw [upd_same] at hp'; omega
    · rw [upd_other _ _ e] at hp' ⊢; exact h.parent0 j (by omega) hp'
  · intro j m hj hp
    have hj' : j < r.nt + 1 := hj
    have hp' : upd p.parent p.given (k + 1) j = m + 1 := hp
    rw [hg] at hp'
    by_cases e : j = r.nt
    · subst e
      rw [upd_same] at hp'
      obtain rfl : m = k := by omega
      have e2 : m ≠ r.nt := by omega
      show m < r.nt ∧ (upd r.tok r.nt _ r.nt).line = (upd r.tok r.nt _ m).line ++ [m + 1] ∧ (upd r.tok r.nt _ r.nt).life = (upd r.tok r.nt _ m).life
      rw [upd_same, upd_other _ _ e2]
      exact ⟨hk, rfl, rfl⟩
    · rw [upd_other _ _ e] at hp'
      obtain ⟨a, c, d⟩ := h.parentS j m (by omega) hp'
      have e2 : m ≠ r.nt := by omega
      show m < j ∧ (upd r.tok r.nt _ j).line = (upd r.tok r.nt _ m).line ++ [m + 1] ∧ (upd r.tok r.nt _ j).life = (upd r.tok r.nt _ m).life
      rw [upd_other _ _ e, upd_other _ _ e2]
      exact ⟨a, c, d⟩
theorem Sim.revokeS (h : Sim p r) {j : Nat} (_hj : j < r.nt) : Sim { p with ended := upd p.ended j true } (revokeS r j) := by
  have tl : ∀ k, (upd r.tok j { r.tok j with revoked := true } k).life = (r.tok k).life := fun k => by
    by_cases e : k = j
    · subst e; rw [upd_same]
    · rw [upd_other _ _ e]
  have tr : ∀ k, (upd r.tok j { r.tok j with revoked := true } k).rights = (r.tok k).rights := fun k => by
    by_cases e : k = j
    · subst e; rw [upd_same]
    · rw [upd_other _ _ e]
  have tn : ∀ k, (upd r.tok j { r.tok j with revoked := true } k).line = (r.tok k).line := fun k => by
    by_cases e : k = j
    · subst e; rw [upd_same]
    · rw [upd_other _ _ e]
  refine ⟨⟨h.wp.room, h.wp.quota, h.wp.given, h.wp.rights, h.wp.parent⟩, ⟨h.wr.nt, h.wr.nl, h.wr.room, h.wr.quota, h.wr.no, ?_, ?_, ?_, ?_⟩, h.room, h.given, ?_, ?_, ?_, ?_, ?_, h.quotaL, h.quotaF, by rw [liveCount_eq]; have := h.count; rw [liveCount_eq] at this; exact this, by rw [liveSum_eq, qsum_eq]; have := h.sum; rw [liveSum_eq, qsum_eq] at this; exact this, h.uniq⟩
  · intro k hk
    show (upd r.tok j _ k).life < r.nl
    rw [tl]; exact h.wr.life k hk
  · intro k hk
    show 0 ≤ (upd r.tok j _ k).rights ∧ (upd r.tok j _ k).rights ≤ 15
    rw [tr]; exact h.wr.rights k hk
  · intro k hk
    show ∀ m ∈ (upd r.tok j _ k).line, 1 ≤ m ∧ m ≤ k
    rw [tn]; exact h.wr.line k hk
  · intro k hk
    show (upd r.tok j _ k).line.length ≤ k
    rw [tn]; exact h.wr.lineLen k hk
  · intro k hk
    show p.rights k = (upd r.tok j _ k).rights
    rw [tr]; exact h.rights k hk
  · intro k hk
    show p.tenant k = (r.life (upd r.tok j _ k).life).no
    rw [tl]; exact h.tenant k hk
  · intro k hk
    show upd p.ended j true k = ((upd r.tok j _ k).revoked || (r.life (upd r.tok j _ k).life).gone)
    rw [tl]
    by_cases e : k = j
    · subst e; rw [upd_same, upd_same]; simp
    · rw [upd_other _ _ e, upd_other _ _ e]; exact h.ended k hk
  · intro k hk hp
    show (upd r.tok j _ k).line = []
    rw [tn]; exact h.parent0 k hk hp
  · intro k m hk hp
    show m < k ∧ (upd r.tok j _ k).line = (upd r.tok j _ m).line ++ [m + 1] ∧ (upd r.tok j _ k).life = (upd r.tok j _ m).life
    rw [tn, tn, tl, tl]
    exact h.parentS k m hk hp
end

def bit124 (a : Nat) : Bool := (okRights a 1 == hasB a 1) && (okRights a 2 == hasB a 2) && (okRights a 4 == hasB a 4)
theorem bits124 : ∀ a : Fin 16, bit124 a.val = true := by decide +kernel
theorem Sim.check124 {p : ProgS} {r : RefS} (h : Sim p r) (t : Int) : checkX p t 1 = mayI r t 1 ∧ checkX p t 2 = mayI r t 2 ∧ checkX p t 4 = mayI r t 4 := by
  unfold checkX mayI
  rw [h.alive t]
  cases ha : aliveI r t with
  | false => exact ⟨rfl, rfl, rfl⟩
  | true =>
    obtain ⟨h1, h2, _⟩ := aliveI_bounds ha
    have hk : (t - 1).toNat < r.nt := by omega
    rw [h.rights _ hk]
    have hb := h.wr.rights _ hk
    generalize (r.tok (t - 1).toNat).rights = a at *
    obtain ⟨x, rfl⟩ : ∃ x : Nat, a = x := ⟨a.toNat, by omega⟩
    have := bits124 ⟨x, by omega⟩
    simp only [bit124, Bool.and_eq_true, beq_iff_eq] at this
    rw [this.1.1, this.1.2, this.2]
    exact ⟨rfl, rfl, rfl⟩
def marksOk (a : Nat) : Bool := (List.range 256).all fun b => comP (a : Nat) (b : Nat) == commonB (a : Nat) (b : Nat)
theorem marks_all : (List.range 256).all marksOk = true := by decide +kernel
theorem comP_common {a b : Int} (ha : 0 ≤ a ∧ a ≤ 255) (hb : 0 ≤ b ∧ b ≤ 255) : comP a b = commonB a b := by
  obtain ⟨x, rfl⟩ : ∃ x : Nat, a = x := ⟨a.toNat, by omega⟩
  obtain ⟨y, rfl⟩ : ∃ y : Nat, b = y := ⟨b.toNat, by omega⟩
  have h1 := List.all_eq_true.1 marks_all x (List.mem_range.2 (by omega))
  have h2 := List.all_eq_true.1 h1 y (List.mem_range.2 (by omega))
  exact eq_of_beq h2
theorem sortR_len (l : List RouteD) : (sortR l).length = l.length := by
  unfold sortR
  exact sortTo_len l _ (Nat.le_refl _)
/-- What the two engines have of routes, side by side. -/
structure Mem (p : ProgS) (r : RefS) : Prop where
  ok : ProgOk p
  gives : ∀ i, i < r.nl → (r.life i).gone = false → p.gives (r.life i).no.toNat = (r.life i).gives
  takes : ∀ i, i < r.nl → (r.life i).gone = false → p.takes (r.life i).no.toNat = (r.life i).takes
  rules : ∀ i, i < r.nl → (r.life i).gone = false → p.rules (r.life i).no.toNat = (r.life i).rules
  own : ∀ i, i < r.nl → (r.life i).gone = false → p.own (r.life i).no.toNat = sortR (r.life i).own
  free : ∀ j : Nat, j < 8 → freeR r j → p.own j = []
  sum : qsum p 8 ≤ p.room
/-- The tenant that a token speaks of. -/
structure Of (p : ProgS) (r : RefS) (n : Int) (t : Nat) : Prop where
  t8 : t < 8
  life : lifeOf r n < r.nl
  live : (r.life (lifeOf r n)).gone = false
  no : (r.life (lifeOf r n)).no = (t : Int)
  tenant : p.tenant (n - 1).toNat = (t : Int)
theorem of_may {p : ProgS} {r : RefS} (h : Sim p r) {n right : Int} (hm : mayI r n right = 0) : ∃ t, Of p r n t := by
  obtain ⟨ha, h1, h2⟩ := mayI_zero hm
  obtain ⟨_, _, ha2⟩ := aliveI_bounds ha
  have hk : (n - 1).toNat < r.nt := by omega
  have hl := h.wr.life _ hk
  have hno := h.wr.no _ hl
  have hgo : (r.life (r.tok (n - 1).toNat).life).gone = false := by
    unfold aliveR at ha2
    cases hg : (r.life (r.tok (n - 1).toNat).life).gone with
    | false => rfl
    | true => rw [hg] at ha2; simp at ha2
  refine ⟨(r.life (r.tok (n - 1).toNat).life).no.toNat, by omega, hl, hgo, ?_, ?_⟩
  · show (r.life (r.tok (n - 1).toNat).life).no = _; omega
  · rw [h.tenant _ hk]; omega
section
variable {p : ProgS} {r : RefS}
/-- One tenant's routes and rules turn. -/
theorem Sim.lifeS (h : Sim p r) {l : Nat} (L : Life) (h1 : L.no = (r.life l).no) (h2 : L.quota = (r.life l).quota) (h3 : L.gone = (r.life l).gone) (p' : ProgS) (e1 : p'.room = p.room) (e2 : p'.quota = p.quota) (e3 : p'.given = p.given) (e4 : p'.tenant = p.tenant) (e5 : p'.rights = p.rights) (e6 : p'.parent = p.parent) (e7 : p'.ended = p.ended) :
    Sim p' { r with life := upd r.life l L } := by
  have kn : ∀ k, (upd r.life l L k).no = (r.life k).no := fun k => by
    by_cases e : k = l
    · subst e; rw [upd_same]; exact h1
    · rw [upd_other _ _ e]
  have kq : ∀ k, (upd r.life l L k).quota = (r.life k).quota := fun k => by
    by_cases e : k = l
    · subst e; rw [upd_same]; exact h2
    · rw [upd_other _ _ e]
  have kg : ∀ k, (upd r.life l L k).gone = (r.life k).gone := fun k => by
    by_cases e : k = l
    · subst e; rw [upd_same]; exact h3
    · rw [upd_other _ _ e]
  refine ⟨⟨by rw [e1]; exact h.wp.room, by rw [e2]; exact h.wp.quota, by rw [e3]; exact h.wp.given, by rw [e3, e5]; exact h.wp.rights, by rw [e3, e6]; exact h.wp.parent⟩, ⟨h.wr.nt, h.wr.nl, h.wr.room, ?_, ?_, h.wr.life, h.wr.rights, h.wr.line, h.wr.lineLen⟩, by rw [e1]; exact h.room, by rw [e3]; exact h.given, by rw [e5]; exact h.rights, ?_, ?_, by rw [e6]; exact h.parent0, by rw [e6]; exact h.parentS, ?_, ?_, ?_, ?_, ?_⟩
  · intro i hi; show 1 ≤ (upd r.life l L i).quota ∧ (upd r.life l L i).quota ≤ 64; rw [kq]; exact h.wr.quota i hi
  · intro i hi; show 0 ≤ (upd r.life l L i).no ∧ (upd r.life l L i).no < 8; rw [kn]; exact h.wr.no i hi
  · intro k hk; show p'.tenant k = (upd r.life l L (r.tok k).life).no; rw [e4, kn]; exact h.tenant k hk
  · intro k hk; show p'.ended k = ((r.tok k).revoked || (upd r.life l L (r.tok k).life).gone); rw [e7, kg]; exact h.ended k hk
  · intro i hi hg
    have hg' : (upd r.life l L i).gone = false := hg
    show p'.quota (upd r.life l L i).no.toNat = (upd r.life l L i).quota
    rw [kg] at hg'
    rw [e2, kn, kq]; exact h.quotaL i hi hg'
  · intro j hj hf
    rw [e2]
    refine h.quotaF j hj fun i hi => ?_
    have := hf i hi
    have this' : (upd r.life l L i).gone = true ∨ (upd r.life l L i).no ≠ j := this
    rw [kg, kn] at this'
    exact this'
  · have := h.count
    rw [liveCount_eq] at this ⊢
    have e : sumF (fun i => lifeC ((upd r.life l L) i)) r.nl = sumF (fun i => lifeC (r.life i)) r.nl := sumF_congr fun i _ => by unfold lifeC; rw [kg]
    show sumF (fun i => lifeC ((upd r.life l L) i)) r.nl = taken p' 8
    rw [e, this]
    unfold taken
    rw [e2]
  · have := h.sum
    rw [liveSum_eq, qsum_eq] at this ⊢
    have e : sumF (fun i => lifeQ ((upd r.life l L) i)) r.nl = sumF (fun i => lifeQ (r.life i)) r.nl := sumF_congr fun i _ => by unfold lifeQ; rw [kg, kq]
    show sumF (fun i => lifeQ ((upd r.life l L) i)) r.nl = sumF p'.quota 8
    rw [e, this, e2]
  · intro i j hi hj hgi hgj hno
    have hgi' : (upd r.life l L i).gone = false := hgi
    have hgj' : (upd r.life l L j).gone = false := hgj
    have hno' : (upd r.life l L i).no = (upd r.life l L j).no := hno
    rw [kg] at hgi' hgj'
    rw [kn, kn] at hno'
    exact h.uniq i j hi hj hgi' hgj' hno'
/-- .. and so does what the two have of routes. -/
theorem Mem.lifeS (hm : Mem p r) (h : Sim p r) {n : Int} {t : Nat} (ho : Of p r n t) (L : Life) (h1 : L.no = (r.life (lifeOf r n)).no) (h3 : L.gone = (r.life (lifeOf r n)).gone) :
    Mem { p with gives := upd p.gives t L.gives, takes := upd p.takes t L.takes, rules := upd p.rules t L.rules, own := upd p.own t (sortR L.own) } { r with life := upd r.life (lifeOf r n) L } ↔ (Sorted (sortR L.own) ∧ (∀ y ∈ sortR L.own, okRoute y) ∧ ∀ u ∈ L.rules, ruleB u = true) := by
  have hother : ∀ i, i < r.nl → i ≠ lifeOf r n → (r.life i).gone = false → (r.life i).no.toNat ≠ t := fun i hi hne hg e => by
    have hno := h.wr.no i hi
    exact hne (h.uniq i (lifeOf r n) hi ho.life hg ho.live (by rw [ho.no]; omega))
  constructor
  · intro hh
    have a := hh.ok.sorted t ho.t8
    have b := hh.ok.route t ho.t8
    have c := hh.ok.rule t ho.t8
    simp only [upd_same] at a b c
    exact ⟨a, b, c⟩
  · rintro ⟨a, b, c⟩
    have key : ∀ (P : Nat → Prop), P (lifeOf r n) → (∀ i, i < r.nl → i ≠ lifeOf r n → P i) → ∀ i, i < r.nl → P i := fun P q1 q2 i hi => by
      by_cases e : i = lifeOf r n
      · subst e; exact q1
      · exact q2 i hi e
    have hLt : L.no.toNat = t := by rw [h1, ho.no]; omega
    refine ⟨⟨?_, ?_, ?_⟩, ?_, ?_, ?_, ?_, ?_, hm.sum⟩
    · intro i hi
      show Sorted (upd p.own t (sortR L.own) i)
      by_cases e : i = t
      · subst e; rw [upd_same]; exact a
      · rw [upd_other _ _ e]; exact hm.ok.sorted i hi
    · intro i hi
      show ∀ y ∈ upd p.own t (sortR L.own) i, okRoute y
      by_cases e : i = t
      · subst e; rw [upd_same]; exact b
      · rw [upd_other _ _ e]; exact hm.ok.route i hi
    · intro i hi
      show ∀ y ∈ upd p.rules t L.rules i, ruleB y = true
      by_cases e : i = t
      · subst e; rw [upd_same]; exact c
      · rw [upd_other _ _ e]; exact hm.ok.rule i hi
    · intro i hi hg
      have hg' : (upd r.life (lifeOf r n) L i).gone = false := hg
      show upd p.gives t L.gives (upd r.life (lifeOf r n) L i).no.toNat = (upd r.life (lifeOf r n) L i).gives
      by_cases e : i = lifeOf r n
      · subst e; rw [upd_same, hLt, upd_same]
      · rw [upd_other _ _ e] at hg' ⊢; rw [upd_other _ _ (hother i hi e hg')]; exact hm.gives i hi hg'
    · intro i hi hg
      have hg' : (upd r.life (lifeOf r n) L i).gone = false := hg
      show upd p.takes t L.takes (upd r.life (lifeOf r n) L i).no.toNat = (upd r.life (lifeOf r n) L i).takes
      by_cases e : i = lifeOf r n
      · subst e; rw [upd_same, hLt, upd_same]
      · rw [upd_other _ _ e] at hg' ⊢; rw [upd_other _ _ (hother i hi e hg')]; exact hm.takes i hi hg'
    · intro i hi hg
      have hg' : (upd r.life (lifeOf r n) L i).gone = false := hg
      show upd p.rules t L.rules (upd r.life (lifeOf r n) L i).no.toNat = (upd r.life (lifeOf r n) L i).rules
      by_cases e : i = lifeOf r n
      · subst e; rw [upd_same, hLt, upd_same]
      · rw [upd_other _ _ e] at hg' ⊢; rw [upd_other _ _ (hother i hi e hg')]; exact hm.rules i hi hg'
    · intro i hi hg
      have hg' : (upd r.life (lifeOf r n) L i).gone = false := hg
      show upd p.own t (sortR L.own) (upd r.life (lifeOf r n) L i).no.toNat = sortR (upd r.life (lifeOf r n) L i).own
      by_cases e : i = lifeOf r n
      · subst e; rw [upd_same, hLt, upd_same]
      · rw [upd_other _ _ e] at hg' ⊢; rw [upd_other _ _ (hother i hi e hg')]; exact hm.own i hi hg'
    · intro j hj hf
      have hf' : ∀ i, i < r.nl → (upd r.life (lifeOf r n) L i).gone = true ∨ (upd r.life (lifeOf r n) L i).no ≠ (j : Int) := hf
      have hjt : j ≠ t := fun e => by
        rcases hf' (lifeOf r n) ho.life with hh | hh
        · rw [upd_same, h3, ho.live] at hh; simp at hh
        · rw [upd_same, h1, ho.no, e] at hh; exact hh rfl
      show upd p.own t (sortR L.own) j = []
      rw [upd_other _ _ hjt]
      refine hm.free j hj fun i hi => ?_
      have := hf' i hi
      by_cases e : i = lifeOf r n
      · subst e; rw [upd_same, h3, h1] at this; exact this
      · rw [upd_other _ _ e] at this; exact this
end

section
variable {p : ProgS} {r : RefS}
theorem own_sorted (hk : RefOk r) {i : Nat} (hi : i < r.nl) : Sorted (sortR (r.life i).own) ∧ ∀ z, z ∈ sortR (r.life i).own ↔ z ∈ (r.life i).own :=
  sortR_ok (hk.tab.own i hi) (hk.own.dist i hi)
theorem hasP_find {own : List RouteD} (hm : ∀ z, z ∈ sortR own ↔ z ∈ own) (x : RouteD) : hasP (sortR own) x = true ↔ 0 ≤ findI own x := by
  rw [hasP_true]
  rcases findI_cases own x with ⟨i, hi, hf, hs⟩ | ⟨hf, hs⟩
  · rw [hf]
    refine ⟨fun _ => by omega, fun _ => ⟨own.getD i rt0, (hm _).2 (by simp [List.getD_eq_getElem?_getD, hi]), hs⟩⟩
  · rw [hf]
    refine ⟨fun ⟨y, hy, hsy⟩ => ?_, fun hh => by omega⟩
    rw [hs y ((hm y).1 hy)] at hsy
    simp at hsy
theorem put_own {own : List RouteD} {x : RouteD} (hl : ∀ y ∈ own, okRoute y) (hd : own.Pairwise fun x y => key x ≠ key y) (hx : okRoute x) : putL (sortR own) x = sortR (insOwn own x) ∧ (∀ y ∈ insOwn own x, okRoute y) ∧ (insOwn own x).Pairwise (fun x y => key x ≠ key y) := by
  obtain ⟨s1, s2⟩ := sortR_ok hl hd
  have hl' : ∀ y ∈ sortR own, okRoute y := fun y hy => hl y ((s2 y).1 hy)
  obtain ⟨p1, p2⟩ := putL_ok s1 hl' hx
  have hmem : ∀ z, z ∈ insOwn own x ↔ (z ∈ own ∧ sameB z x = false) ∨ z = x := by
    intro z
    unfold insOwn
    by_cases hf : 0 ≤ findI own x
    · rw [if_pos hf]
      obtain ⟨f1, f2⟩ := findI_ge hf
      generalize (findI own x).toNat = i at *
      have hg : own.getD i rt0 = own[i] := by simp [List.getD_eq_getElem?_getD, f1]
      rw [hg] at f2
      have hk := (same_key (hl _ (List.getElem_mem f1)) hx).1 f2
      constructor
      · intro h
        obtain ⟨j, hj, rfl⟩ := List.getElem_of_mem h
        rw [List.length_set] at hj
        rw [List.getElem_set]
        by_cases e : i = j
        · rw [if_pos e]; exact .inr rfl
        · rw [if_neg e]
          refine .inl ⟨List.getElem_mem hj, ?_⟩
          cases hb : sameB own[j] x with
          | false => rfl
          | true =>
            have hk2 := (same_key (hl _ (List.getElem_mem hj)) hx).1 hb
            exact absurd (hk.trans hk2.symm) (pair_get hd f1 hj e)
      · rintro (⟨a, b⟩ | rfl)
        · obtain ⟨j, hj, rfl⟩ := List.getElem_of_mem a
          have hne : i ≠ j := fun e => by subst e; rw [f2] at b; simp at b
          exact List.mem_iff_getElem.2 ⟨j, by simpa using hj, by rw [List.getElem_set, if_neg hne]⟩
        · exact List.mem_iff_getElem.2 ⟨i, by simpa using f1, by simp⟩
    · rw [if_neg hf]
      have hn : ∀ y ∈ own, sameB y x = false := by
        rcases findI_cases own x with ⟨i, hi, hfi, _⟩ | ⟨_, hs⟩
        · omega
        · exact hs
      rw [List.mem_append, List.mem_singleton]
      constructor
      · rintro (h | h)
        · exact .inl ⟨h, hn z h⟩
        · exact .inr h
      · rintro (h | h)
        · exact .inl h.1
        · exact .inr h
  have hok : ∀ y ∈ insOwn own x, okRoute y := fun y hy => by
    rcases (hmem y).1 hy with h | h
    · exact hl y h.1
    · subst h; exact hx
  have hdist : (insOwn own x).Pairwise fun x y => key x ≠ key y := by
    unfold insOwn
    by_cases hf : 0 ≤ findI own x
    · rw [if_pos hf]
      obtain ⟨f1, f2⟩ := findI_ge hf
      generalize (findI own x).toNat = i at *
      have hg : own.getD i rt0 = own[i] := by simp [List.getD_eq_getElem?_getD, f1]
      rw [hg] at f2
      have hk := (same_key (hl _ (List.getElem_mem f1)) hx).1 f2
      rw [List.pairwise_iff_getElem]
      intro a b ha hb hab
      rw [List.length_set] at ha hb
      have hp := pair_get hd ha hb (by omega)
      rw [List.getElem_set, List.getElem_set]
      by_cases ea : i = a
      · rw [if_pos ea, if_neg (by omega)]
        subst ea
        rw [← hk]; exact hp
      · rw [if_neg ea]
        by_cases eb : i = b
        · rw [if_pos eb]
          subst eb
          rw [← hk]; exact hp
        · rw [if_neg eb]; exact hp
    · rw [if_neg hf]
      have hnk := findI_neg hl hx (by omega)
      refine List.pairwise_append.2 ⟨hd, by simp, fun y hy z hz => ?_⟩
      rw [List.mem_singleton] at hz; subst hz
      exact hnk y hy
  obtain ⟨q1, q2⟩ := sortR_ok hok hdist
  refine ⟨sorted_ext p1 q1 fun z => ?_, hok, hdist⟩
  rw [p2 z, q2 z, hmem z, s2 z]
theorem del_own {own : List RouteD} {x : RouteD} (hl : ∀ y ∈ own, okRoute y) (hd : own.Pairwise fun x y => key x ≠ key y) (hx : okRoute x) (hf : 0 ≤ findI own x) : delL (sortR own) x = sortR (remOwn own x) := by
  obtain ⟨s1, s2⟩ := sortR_ok hl hd
  have hsub : List.Sublist (remOwn own x) own := List.eraseIdx_sublist _ _
  obtain ⟨q1, q2⟩ := sortR_ok (fun y hy => hl y (hsub.subset hy)) (hd.sublist hsub)
  refine sorted_ext (sorted_delL s1 x) q1 fun z => ?_
  rw [mem_delL, s2 z, q2 z]
  unfold remOwn
  obtain ⟨f1, f2⟩ := findI_ge hf
  generalize (findI own x).toNat = i at *
  have hg : own.getD i rt0 = own[i] := by simp [List.getD_eq_getElem?_getD, f1]
  rw [hg] at f2
  have hk := (same_key (hl _ (List.getElem_mem f1)) hx).1 f2
  rw [List.mem_eraseIdx_iff_getElem]
  constructor
  · rintro ⟨a, b⟩
    obtain ⟨j, hj, rfl⟩ := List.getElem_of_mem a
    exact ⟨j, hj, fun e => by subst e; rw [f2] at b; simp at b, rfl⟩
  · rintro ⟨j, hj, hne, rfl⟩
    refine ⟨List.getElem_mem hj, ?_⟩
    cases hb : sameB own[j] x with
    | false => rfl
    | true =>
      have hk2 := (same_key (hl _ (List.getElem_mem hj)) hx).1 hb
      exact absurd (hk.trans hk2.symm) (pair_get hd f1 hj (Ne.symm hne))
/-- New own routes. -/
theorem side_own (h : Sim p r) (hm : Mem p r) {n : Int} {t : Nat} (ho : Of p r n t) {own : List RouteD} (h1 : ∀ y ∈ own, okRoute y) (h2 : own.Pairwise fun x y => key x ≠ key y) :
    Sim { p with own := upd p.own t (sortR own) } (ownS r (lifeOf r n) own) ∧ Mem { p with own := upd p.own t (sortR own) } (ownS r (lifeOf r n) own) := by
  have hno : (r.life (lifeOf r n)).no.toNat = t := by rw [ho.no]; omega
  refine ⟨h.lifeS { r.life (lifeOf r n) with own := own } rfl rfl rfl _ rfl rfl rfl rfl rfl rfl rfl, ?_⟩
  obtain ⟨s1, s2⟩ := sortR_ok h1 h2
  have hrl := hm.rules _ ho.life ho.live
  rw [hno] at hrl
  have := (hm.lifeS h ho { r.life (lifeOf r n) with own := own } rfl rfl).2 ⟨s1, fun y hy => h1 y ((s2 y).1 hy), by show ∀ u ∈ (r.life (lifeOf r n)).rules, ruleB u = true; rw [← hrl]; exact hm.ok.rule t ho.t8⟩
  have e1 : upd p.gives t (r.life (lifeOf r n)).gives = p.gives := by rw [← hm.gives _ ho.life ho.live, hno]; exact upd_self _ _
  have e2 : upd p.takes t (r.life (lifeOf r n)).takes = p.takes := by rw [← hm.takes _ ho.life ho.live, hno]; exact upd_self _ _
  have e3 : upd p.rules t (r.life (lifeOf r n)).rules = p.rules := by rw [← hrl]; exact upd_self _ _
  simp only [e1, e2, e3] at this
  exact this
theorem side_share (h : Sim p r) (hm : Mem p r) (hk : RefOk r) {n : Int} {t : Nat} (ho : Of p r n t) (g k : Int) :
    Sim { p with gives := upd p.gives t g, takes := upd p.takes t k } (shareS r (lifeOf r n) g k) ∧ Mem { p with gives := upd p.gives t g, takes := upd p.takes t k } (shareS r (lifeOf r n) g k) := by
  have hno : (r.life (lifeOf r n)).no.toNat = t := by rw [ho.no]; omega
  refine ⟨h.lifeS { r.life (lifeOf r n) with gives := g, takes := k } rfl rfl rfl _ rfl rfl rfl rfl rfl rfl rfl, ?_⟩
  obtain ⟨s1, s2⟩ := own_sorted hk ho.life
  have hrl := hm.rules _ ho.life ho.live
  have how := hm.own _ ho.life ho.live
  rw [hno] at hrl how
  have := (hm.lifeS h ho { r.life (lifeOf r n) with gives := g, takes := k } rfl rfl).2 ⟨s1, fun y hy => hk.tab.own _ ho.life y ((s2 y).1 hy), by show ∀ u ∈ (r.life (lifeOf r n)).rules, ruleB u = true; rw [← hrl]; exact hm.ok.rule t ho.t8⟩
  have e3 : upd p.rules t (r.life (lifeOf r n)).rules = p.rules := by rw [← hrl]; exact upd_self _ _
  have e4 : upd p.own t (sortR (r.life (lifeOf r n)).own) = p.own := by rw [← how]; exact upd_self _ _
  simp only [e3, e4] at this
  exact this
theorem side_rules (h : Sim p r) (hm : Mem p r) (hk : RefOk r) {n : Int} {t : Nat} (ho : Of p r n t) {R : List RuleD} (hR : ∀ u ∈ R, ruleB u = true) :
    Sim { p with rules := upd p.rules t R } (rulesS r (lifeOf r n) R) ∧ Mem { p with rules := upd p.rules t R } (rulesS r (lifeOf r n) R) := by
  have hno : (r.life (lifeOf r n)).no.toNat = t := by rw [ho.no]; omega
  refine ⟨h.lifeS { r.life (lifeOf r n) with rules := R } rfl rfl rfl _ rfl rfl rfl rfl rfl rfl rfl, ?_⟩
  obtain ⟨s1, s2⟩ := own_sorted hk ho.life
  have how := hm.own _ ho.life ho.live
  rw [hno] at how
  have := (hm.lifeS h ho { r.life (lifeOf r n) with rules := R } rfl rfl).2 ⟨s1, fun y hy => hk.tab.own _ ho.life y ((s2 y).1 hy), hR⟩
  have e1 : upd p.gives t (r.life (lifeOf r n)).gives = p.gives := by rw [← hm.gives _ ho.life ho.live, hno]; exact upd_self _ _
  have e2 : upd p.takes t (r.life (lifeOf r n)).takes = p.takes := by rw [← hm.takes _ ho.life ho.live, hno]; exact upd_self _ _
  have e4 : upd p.own t (sortR (r.life (lifeOf r n)).own) = p.own := by rw [← how]; exact upd_self _ _
  simp only [e1, e2, e4] at this
  exact this
/-- What Derive and Revoke leave of routes. -/
theorem Mem.toks (hm : Mem p r) (p' : ProgS) (r' : RefS) (e1 : p'.gives = p.gives) (e2 : p'.takes = p.takes) (e3 : p'.rules = p.rules) (e4 : p'.own = p.own) (e5 : p'.quota = p.quota) (e6 : p'.room = p.room) (f1 : r'.nl = r.nl) (f2 : r'.life = r.life) : Mem p' r' := by
  refine ⟨⟨by rw [e4]; exact hm.ok.sorted, by rw [e4]; exact hm.ok.route, by rw [e3]; exact hm.ok.rule⟩, by rw [e1, f1, f2]; exact hm.gives, by rw [e2, f1, f2]; exact hm.takes, by rw [e3, f1, f2]; exact hm.rules, by rw [e4, f1, f2]; exact hm.own, fun j hj hf => ?_, ?_⟩
  · rw [e4]
    refine hm.free j hj ?_
    intro i hi
    have := hf i (by rw [f1]; exact hi)
    rw [f2] at this
    exact this
  · rw [qsum_eq, e5, e6, ← qsum_eq]; exact hm.sum
theorem newMem (room : Int) (h1 : 1 ≤ room) (lf : Nat → Life) (tk : Nat → Tok) : Mem (newP room) ⟨room, 0, lf, 0, tk⟩ := by
  refine ⟨⟨fun i _ => by simp [newP, Sorted], fun i _ y hy => (by cases hy), fun i _ u hu => (by cases hu)⟩, ?_, ?_, ?_, ?_, fun _ _ _ => rfl, ?_⟩
  · intro i hi; exact absurd hi (Nat.not_lt_zero _)
  · intro i hi; exact absurd hi (Nat.not_lt_zero _)
  · intro i hi; exact absurd hi (Nat.not_lt_zero _)
  · intro i hi; exact absurd hi (Nat.not_lt_zero _)
  · show qsum (newP room) 8 ≤ room
    have : qsum (newP room) 8 = 0 := rfl
    omega
theorem Mem.clear (hm : Mem p r) (p1 : ProgS) (k : Nat) (q : Int) (e3 : p1.rules = p.rules) (e4 : p1.own = p.own) : ProgOk (clrX p1 k q) := by
  refine ⟨?_, ?_, ?_⟩
  · intro i hi
    show Sorted (upd p1.own k [] i)
    by_cases e : i = k
    · subst e; rw [upd_same]; simp [Sorted]
    · rw [upd_other _ _ e, e4]; exact hm.ok.sorted i hi
  · intro i hi
    show ∀ y ∈ upd p1.own k [] i, okRoute y
    by_cases e : i = k
    · subst e; rw [upd_same]; intro y hy; cases hy
    · rw [upd_other _ _ e, e4]; exact hm.ok.route i hi
  · intro i hi
    show ∀ y ∈ upd p1.rules k [] i, ruleB y = true
    by_cases e : i = k
    · subst e; rw [upd_same]; intro y hy; cases hy
    · rw [upd_other _ _ e, e3]; exact hm.ok.rule i hi
theorem Mem.createS (hm : Mem p r) (h : Sim p r) {n : Nat} (hn8 : n < 8) (hr : freeR r n) {quota : Int} (hq : qsum p 8 + quota ≤ p.room) : Mem (createXS p n quota) (createS r n quota) := by
  have hq0 := h.quotaF n hn8 hr
  have hother : ∀ i, i < r.nl → (r.life i).gone = false → (r.life i).no.toNat ≠ n := fun i hi hg e => by
    have hno := h.wr.no i hi
    rcases hr i hi with hh | hh
    · rw [hg] at hh; simp at hh
    · exact hh (by omega)
  have key : ∀ {α : Type} (f : Nat → α) (z : α) (sel : Life → α), (∀ i, i < r.nl → (r.life i).gone = false → f (r.life i).no.toNat = sel (r.life i)) → sel ⟨n, quota, 0, 0, [], [], false⟩ = z →
      ∀ i, i < r.nl + 1 → (upd r.life r.nl ⟨n, quota, 0, 0, [], [], false⟩ i).gone = false → upd f n z (upd r.life r.nl ⟨n, quota, 0, 0, [], [], false⟩ i).no.toNat = sel (upd r.life r.nl ⟨n, quota, 0, 0, [], [], false⟩ i) := by
    intro α f z sel hf hz i hi hg
    by_cases e : i = r.nl
    · subst e; rw [upd_same]; show upd f n z ((n : Int)).toNat = _; rw [Int.toNat_natCast, upd_same, hz]
    · rw [upd_other _ _ e] at hg ⊢
      rw [upd_other _ _ (hother i (by omega) hg)]
      exact hf i (by omega) hg
  refine ⟨hm.clear _ n quota rfl rfl, ?_, ?_, ?_, ?_, ?_, ?_⟩
  · exact key p.gives 0 (fun L => L.gives) hm.gives rfl
  · exact key p.takes 0 (fun L => L.takes) hm.takes rfl
  · exact key p.rules [] (fun L => L.rules) hm.rules rfl
  · exact key p.own [] (fun L => sortR L.own) hm.own rfl
  · intro j hj hf
    have hf' : ∀ i, i < r.nl + 1 → (upd r.life r.nl ⟨n, quota, 0, 0, [], [], false⟩ i).gone = true ∨ (upd r.life r.nl ⟨n, quota, 0, 0, [], [], false⟩ i).no ≠ (j : Int) := hf
    show upd p.own n [] j = []
    by_cases e : j = n
    · subst e; rw [upd_same]
    · rw [upd_other _ _ e]
      refine hm.free j hj fun i hi => ?_
      have := hf' i (by omega)
      rw [upd_other _ _ (by omega)] at this
      exact this
  · show qsum (createXS p n quota) 8 ≤ p.room
    rw [qsum_eq]
    show sumF (upd p.quota n quota) 8 ≤ p.room
    rw [sumF_upd _ _ hn8, ← qsum_eq, hq0]
    omega
theorem Mem.dropS (hm : Mem p r) (h : Sim p r) {i : Nat} (hi : i < r.nl) (hg : (r.life i).gone = false) : Mem (dropX p (r.life i).no) (dropS r i) := by
  have hno := h.wr.no i hi
  have hqw := h.wp.quota (r.life i).no.toNat (by omega)
  obtain ⟨n, hn⟩ : ∃ n : Nat, (r.life i).no = (n : Int) := ⟨(r.life i).no.toNat, by omega⟩
  have hn8 : n < 8 := by omega
  have hother : ∀ k, k < r.nl → k ≠ i → (r.life k).gone = false → (r.life k).no.toNat ≠ n := fun k hk hne hgk e => by
    have hnk := h.wr.no k hk
    exact hne (h.uniq k i hk hi hgk hg (by rw [hn]; omega))
  have hnt : (r.life i).no.toNat = n := by rw [hn]; omega
  have key : ∀ {α : Type} (f : Nat → α) (z : α) (sel : Life → α), (∀ k, k < r.nl → (r.life k).gone = false → f (r.life k).no.toNat = sel (r.life k)) →
      ∀ k, k < r.nl → (upd r.life i { r.life i with gone := true, own := [] } k).gone = false → upd f (r.life i).no.toNat z (upd r.life i { r.life i with gone := true, own := [] } k).no.toNat = sel (upd r.life i { r.life i with gone := true, own := [] } k) := by
    intro α f z sel hf k hk hgk
    by_cases e : k = i
    · subst e; rw [upd_same] at hgk; simp at hgk
    · rw [upd_other _ _ e] at hgk ⊢
      rw [hnt, upd_other _ _ (hother k hk e hgk)]
      exact hf k hk hgk
  refine ⟨hm.clear p (r.life i).no.toNat 0 rfl rfl |> fun hc => ⟨hc.sorted, hc.route, hc.rule⟩, ?_, ?_, ?_, ?_, ?_, ?_⟩
  · exact key p.gives 0 (fun L => L.gives) hm.gives
  · exact key p.takes 0 (fun L => L.takes) hm.takes
  · exact key p.rules [] (fun L => L.rules) hm.rules
  · exact key p.own [] (fun L => sortR L.own) hm.own
  · intro j hj hf
    have hf' : ∀ k, k < r.nl → (upd r.life i { r.life i with gone := true, own := [] } k).gone = true ∨ (upd r.life i { r.life i with gone := true, own := [] } k).no ≠ (j : Int) := hf
    show upd p.own (r.life i).no.toNat [] j = []
    rw [hnt]
    by_cases e : j = n
    · subst e; rw [upd_same]
    · rw [upd_other _ _ e]
      refine hm.free j hj fun k hk => ?_
      have := hf' k hk
      by_cases ek : k = i
      · subst ek; right; rw [hn]; omega
      · rw [upd_other _ _ ek] at this; exact this
  · show qsum (dropX p (r.life i).no) 8 ≤ p.room
    rw [qsum_eq]
    show sumF (upd p.quota (r.life i).no.toNat 0) 8 ≤ p.room
    have := hm.sum
    rw [hnt, sumF_upd _ _ hn8, ← qsum_eq]
    rw [hnt] at hqw
    omega
end

theorem delL_none {l : List RouteD} {x : RouteD} (h : hasP l x = false) : delL l x = l := by
  unfold delL
  rw [List.filter_eq_self]
  intro y hy
  rw [hasP_false.1 h y hy]
  rfl
theorem putL_len {l : List RouteD} {x : RouteD} (h : hasP l x = false) : (putL l x).length = l.length + 1 := by
  unfold putL
  rw [sortR_len, delL_none h, List.length_append]
  rfl
theorem same_eq {x y z : RouteD} (h : sameB x y = true) : sameB z x = sameB z y := by
  unfold sameB at *
  rw [Bool.and_eq_true, beq_iff_eq, beq_iff_eq] at h
  rw [h.1, h.2]
theorem same_symm {x y : RouteD} (h : sameB x y = true) : sameB y x = true := by
  unfold sameB at *
  rw [Bool.and_eq_true, beq_iff_eq, beq_iff_eq] at *
  exact ⟨h.1.symm, h.2.symm⟩
theorem hasP_same {l : List RouteD} {x y : RouteD} (h : sameB x y = true) : hasP l x = hasP l y := by
  unfold hasP
  congr 1
  funext z
  exact same_eq h
theorem matchB_same {x y : RouteD} (h : sameB x y = true) (u : RuleD) : matchB u x = matchB u y := by
  unfold sameB at h
  rw [Bool.and_eq_true, beq_iff_eq, beq_iff_eq] at h
  unfold matchB
  rw [h.1, h.2]
theorem letsB_same {x y : RouteD} (h : sameB x y = true) (R : List RuleD) : letsB R x = letsB R y := by
  unfold letsB
  rw [show (fun u => matchB u x) = fun u => matchB u y from funext fun u => matchB_same h u]
theorem wantB_same {p : ProgS} {t : Nat} {x y : RouteD} (h : sameB x y = true) : wantB p t x = wantB p t y := by
  unfold wantB
  rw [hasP_same h, letsB_same h]
/-- Behind a giver: who is on the list. -/
theorem gto_mem {p : ProgS} {t : Nat} {q l : List RouteD} (hq : Good q) (hl : Good l) : ∀ k, k ≤ l.length → q.length + k ≤ 64 →
    (gto p t q l k).length ≤ q.length + k ∧ ∀ z, z ∈ gto p t q l k ↔ z ∈ q ∨ (z ∈ l.take k ∧ wantB p t z = true ∧ hasP q z = false)
  | 0, _, _ => by
    rw [gto_zero]
    exact ⟨by omega, fun z => by simp⟩
  | k + 1, hk, h64 => by
    obtain ⟨i1, i2⟩ := gto_mem hq hl k (by omega) (by omega)
    have hg := hq.gto (p := p) (t := t) hl.route k (by omega)
    rw [gto_succ _ _ _ _ (by omega), pad_lt (by omega)]
    have hx := hl.route l[k] (List.getElem_mem _)
    have htk : ∀ z, z ∈ l.take (k + 1) ↔ z ∈ l.take k ∨ z = l[k] := fun z => by
      rw [List.take_add_one, List.getElem?_eq_getElem (by omega), List.mem_append]
      simp
    have hnt : ∀ y ∈ l.take k, sameB y l[k] = false := fun y hy => by
      obtain ⟨j, hj, rfl⟩ := List.getElem_of_mem hy
      rw [List.length_take] at hj
      rw [List.getElem_take]
      have := sorted_get hl.sorted (show j < l.length by omega) (show k < l.length by omega) (by omega)
      cases hb : sameB l[j] l[k] with
      | false => rfl
      | true =>
        have := (same_key (hl.route _ (List.getElem_mem _)) hx).1 hb
        omega
    have hhas : hasP (gto p t q l k) l[k] = hasP q l[k] := by
      rw [Bool.eq_iff_iff, hasP_true, hasP_true]
      constructor
      · rintro ⟨y, hy, hs⟩
        rcases (i2 y).1 hy with h | h
        · exact ⟨y, h, hs⟩
        · rw [hnt y h.1] at hs; simp at hs
      · rintro ⟨y, hy, hs⟩
        exact ⟨y, (i2 y).2 (.inl hy), hs⟩
    unfold gst
    rw [hhas]
    by_cases hc : (!hasP q l[k] && wantB p t l[k]) = true
    · rw [if_pos hc, if_pos (by omega)]
      rw [Bool.and_eq_true, Bool.not_eq_true'] at hc
      have hp := putL_ok hg.sorted hg.route hx
      have hn : hasP (gto p t q l k) l[k] = false := hhas.trans hc.1
      refine ⟨by rw [putL_len hn]; omega, fun z => ?_⟩
      rw [hp.2 z, i2 z, htk z]
      constructor
      · rintro (⟨h1 | h1, h2⟩ | rfl)
        · exact .inl h1
        · exact .inr ⟨.inl h1.1, h1.2⟩
        · exact .inr ⟨.inr rfl, hc.2, hc.1⟩
      · rintro (h1 | ⟨h1 | rfl, h2, h3⟩)
        · exact .inl ⟨.inl h1, hasP_false.1 hc.1 z h1⟩
        · exact .inl ⟨.inr ⟨h1, h2, h3⟩, hnt z h1⟩
        · exact .inr rfl
    · rw [if_neg hc]
      refine ⟨by omega, fun z => ?_⟩
      rw [i2 z, htk z]
      constructor
      · rintro (h1 | ⟨h1, h2⟩)
        · exact .inl h1
        · exact .inr ⟨.inl h1, h2⟩
      · rintro (h1 | ⟨h1 | rfl, h2, h3⟩)
        · exact .inl h1
        · exact .inr ⟨h1, h2, h3⟩
        · rw [h2, h3] at hc; simp at hc
def sumL (p : ProgS) : Nat → Nat
  | 0 => 0
  | n + 1 => sumL p n + (p.own n).length
/-- A giver's route that t wants. -/
def CandP (p : ProgS) (t g : Nat) (z : RouteD) : Prop := givesB p t g = true ∧ z ∈ p.own g ∧ wantB p t z = true
theorem sumL_mono (p : ProgS) {m n : Nat} (h : m ≤ n) : sumL p m ≤ sumL p n := by
  induction n with
  | zero =>
    obtain rfl : m = 0 := (by omega)
    exact Nat.le_refl _
  | succ n ih =>
    by_cases e : m = n + 1
    · subst e; exact Nat.le_refl _
    · have := ih (by omega)
      simp only [sumL]; omega
theorem off_mem {p : ProgS} (hk : ProgOk p) {t : Nat} (h64 : sumL p 8 ≤ 64) : ∀ G, G ≤ 8 →
    (offTo p t G).length ≤ sumL p G ∧ ∀ z, z ∈ offTo p t G ↔ ∃ g, g < G ∧ CandP p t g z ∧ ∀ g', g' < g → ∀ y, CandP p t g' y → sameB y z = false
  | 0, _ => ⟨Nat.zero_le _, fun z => ⟨fun h => (by cases h), fun ⟨g, hg, _⟩ => (by omega)⟩⟩
  | G + 1, hG => by
    obtain ⟨i1, i2⟩ := off_mem hk h64 G (by omega)
    have hg := Good.off hk t G (by omega)
    have hm : sumL p G + (p.own G).length ≤ sumL p 8 := sumL_mono p hG
    -- a prefix that somebody below G has is on the list
    have hex : ∀ g, g < G → ∀ y, CandP p t g y → ∃ x ∈ offTo p t G, sameB x y = true := by
      intro g
      induction g using Nat.strongRecOn with
      | ind g ih =>
        intro hgG y hy
        by_cases hh : ∃ g' y', g' < g ∧ CandP p t g' y' ∧ sameB y' y = true
        · obtain ⟨g', y', h1, h2, h3⟩ := hh
          obtain ⟨x, hx1, hx2⟩ := ih g' h1 (by omega) y' h2
          exact ⟨x, hx1, by rw [← same_eq h3]; exact hx2⟩
        · refine ⟨y, (i2 y).2 ⟨g, hgG, hy, fun g' h1 y' h2 => ?_⟩, ?_⟩
          · cases hb : sameB y' y with
            | false => rfl
            | true => exact absurd ⟨g', y', h1, h2, hb⟩ hh
          · unfold sameB; simp
    have hno : ∀ z, hasP (offTo p t G) z = false ↔ ∀ g', g' < G → ∀ y, CandP p t g' y → sameB y z = false := fun z => by
      constructor
      · intro h g' hg' y hy
        cases hb : sameB y z with
        | false => rfl
        | true =>
          obtain ⟨x, hx1, hx2⟩ := hex g' hg' y hy
          have := hasP_false.1 h x hx1
          rw [← same_eq hb] at this
          rw [hx2] at this
          simp at this
      · intro h
        rw [hasP_false]
        intro x hx
        obtain ⟨g, hgG, hc, _⟩ := (i2 x).1 hx
        exact h g hgG x hc
    unfold offTo
    by_cases hgv : givesB p t G = true
    · rw [if_pos hgv]
      have hgo : Good (p.own G) := ⟨hk.sorted G (by omega), hk.route G (by omega)⟩
      obtain ⟨j1, j2⟩ := gto_mem (p := p) (t := t) hg hgo (p.own G).length (Nat.le_refl _) (by omega)
      refine ⟨by simp only [sumL]; omega, fun z => ?_⟩
      rw [j2 z, i2 z, List.take_of_length_le (Nat.le_refl _), hno z]
      constructor
      · rintro (⟨g, h1, h2, h3⟩ | ⟨h1, h2, h3⟩)
        · exact ⟨g, by omega, h2, h3⟩
        · exact ⟨G, by omega, ⟨hgv, h1, h2⟩, h3⟩
      · rintro ⟨g, h1, h2, h3⟩
        by_cases e : g = G
        · subst e; exact .inr ⟨h2.2.1, h2.2.2, h3⟩
        · exact .inl ⟨g, by omega, h2, h3⟩
    · rw [if_neg hgv]
      refine ⟨by simp only [sumL]; omega, fun z => ?_⟩
      rw [i2 z]
      constructor
      · rintro ⟨g, h1, h2, h3⟩; exact ⟨g, by omega, h2, h3⟩
      · rintro ⟨g, h1, h2, h3⟩
        refine ⟨g, ?_, h2, h3⟩
        by_cases e : g = G
        · subst e; exact absurd h2.1 hgv
        · omega
section
variable {p : ProgS} {r : RefS}
/-- Whose number is t? -/
theorem live_or_free (r : RefS) (j : Nat) : (∃ i, i < r.nl ∧ (r.life i).gone = false ∧ (r.life i).no = (j : Int)) ∨ freeR r j := by
  by_cases h : ∃ i, i < r.nl ∧ (r.life i).gone = false ∧ (r.life i).no = (j : Int)
  · exact .inl h
  · right
    intro i hi
    cases hg : (r.life i).gone with
    | true => exact .inl rfl
    | false => exact .inr fun e => h ⟨i, hi, hg, e⟩
theorem own_le (h : Sim p r) (hm : Mem p r) (hk : RefOk r) {j : Nat} (hj : j < 8) : ((p.own j).length : Int) ≤ p.quota j := by
  rcases live_or_free r j with ⟨i, hi, hg, hno⟩ | hf
  · have e : (r.life i).no.toNat = j := by rw [hno]; omega
    have h1 := hm.own i hi hg
    have h2 := h.quotaL i hi hg
    rw [e] at h1 h2
    rw [h1, h2, sortR_len]
    exact hk.tab.ownN i hi
  · rw [hm.free j hj hf, h.quotaF j hj hf]
    simp
theorem sumL_le (h : Sim p r) (hm : Mem p r) (hk : RefOk r) : sumL p 8 ≤ 64 := by
  have key : ∀ n, n ≤ 8 → (sumL p n : Int) ≤ qsum p n := by
    intro n
    induction n with
    | zero => intro _; simp [sumL, qsum]
    | succ n ih =>
      intro hn
      have := ih (by omega)
      have := own_le h hm hk (j := n) (by omega)
      simp only [sumL, qsum]
      omega
  have h1 := key 8 (Nat.le_refl _)
  have h2 := hm.sum
  have h3 := h.wp.room
  omega
theorem want_offer (h : Sim p r) (hm : Mem p r) (hk : RefOk r) {T U : Nat} (hT : T < r.nl) (hU : U < r.nl) (gT : (r.life T).gone = false) (gU : (r.life U).gone = false) (x : RouteD) :
    offerB r T U x = true ↔ givesB p (r.life T).no.toNat (r.life U).no.toNat = true ∧ wantB p (r.life T).no.toNat x = true := by
  have nT := h.wr.no T hT
  have nU := h.wr.no U hU
  have hne : T = U ↔ (r.life U).no = (r.life T).no := ⟨fun e => by rw [e], fun e => h.uniq T U hT hU gT gU e.symm⟩
  have hown := own_sorted hk hT
  have hfind := hasP_find hown.2 x
  have e1 := hm.gives U hU gU
  have e2 := hm.takes T hT gT
  have e3 := hm.rules T hT gT
  have e4 := hm.own T hT gT
  have hcm := comP_common (hk.tab.gives U hU) (hk.tab.takes T hT)
  have hi : ((((r.life U).no.toNat : Nat) : Int) == (((r.life T).no.toNat : Nat) : Int)) = decide (T = U) := by
    rw [Bool.eq_iff_iff, beq_iff_eq, decide_eq_true_eq, hne]
    omega
  unfold givesB wantB offerB
  rw [e1, e2, e3, e4, hcm, hi, gT, gU]
  simp only [Bool.and_eq_true, Bool.not_eq_true', decide_eq_false_iff_not, decide_eq_true_eq]
  have hf2 : findI (r.life T).own x < 0 ↔ hasP (sortR (r.life T).own) x = false := by
    constructor
    · intro hh
      cases hb : hasP (sortR (r.life T).own) x with
      | false => rfl
      | true => have := hfind.1 hb; omega
    · intro hh
      by_cases h0 : 0 ≤ findI (r.life T).own x
      · rw [hfind.2 h0] at hh; simp at hh
      · omega
  rw [hf2]
  constructor
  · rintro ⟨⟨⟨⟨⟨a, _⟩, _⟩, d⟩, e⟩, f⟩; exact ⟨⟨a, d⟩, f, e⟩
  · rintro ⟨⟨a, d⟩, f, e⟩; exact ⟨⟨⟨⟨⟨a, trivial⟩, trivial⟩, d⟩, e⟩, f⟩
theorem cand_iff (h : Sim p r) (hm : Mem p r) (hk : RefOk r) {T : Nat} (hT : T < r.nl) (gT : (r.life T).gone = false) (x : RouteD) :
    Cand r T x ↔ ∃ g, g < 8 ∧ CandP p (r.life T).no.toNat g x ∧ x.from_ = (g : Int) := by
  constructor
  · rintro ⟨U, hU, hx, ho⟩
    have gU := (offerB_parts ho).2.2.1
    have nU := h.wr.no U hU
    obtain ⟨a, b⟩ := (want_offer h hm hk hT hU gT gU x).1 ho
    refine ⟨(r.life U).no.toNat, by omega, ⟨a, ?_, b⟩, ?_⟩
    · rw [hm.own U hU gU]; exact ((own_sorted hk hU).2 x).2 hx
    · rw [hk.own.from_ U hU x hx]; omega
  · rintro ⟨g, hg, ⟨a, b, c⟩, d⟩
    rcases live_or_free r g with ⟨U, hU, gU, hno⟩ | hf
    · have e : (r.life U).no.toNat = g := by rw [hno]; omega
      refine ⟨U, hU, ?_, (want_offer h hm hk hT hU gT gU x).2 (by rw [e]; exact ⟨a, c⟩)⟩
      have h1 := hm.own U hU gU
      rw [e] at h1
      rw [h1] at b
      exact ((own_sorted hk hU).2 x).1 b
    · rw [hm.free g hg hf] at b; cases b
theorem candP_from (hm : Mem p r) (hk : RefOk r) {t g : Nat} (hg : g < 8) {x : RouteD} (hc : CandP p t g x) : x.from_ = (g : Int) := by
  rcases live_or_free r g with ⟨U, hU, gU, hno⟩ | hf
  · have e : (r.life U).no.toNat = g := by rw [hno]; omega
    have h1 := hm.own U hU gU
    rw [e] at h1
    have b := hc.2.1
    rw [h1] at b
    rw [hk.own.from_ U hU x (((own_sorted hk hU).2 x).1 b), hno]
  · have b := hc.2.1
    rw [hm.free g hg hf] at b; cases b
theorem off_is (h : Sim p r) (hm : Mem p r) (hk : RefOk r) {T : Nat} (hT : T < r.nl) (gT : (r.life T).gone = false) : offTo p (r.life T).no.toNat 8 = offF r T := by
  have hg := Good.off hm.ok (r.life T).no.toNat 8 (Nat.le_refl _)
  have hmem := (off_mem hm.ok (t := (r.life T).no.toNat) (sumL_le h hm hk) 8 (Nat.le_refl _)).2
  refine IsOff.uniq ⟨hg.sorted, fun x => ?_⟩ (offF_is hk.tab hk.own T)
  rw [hmem x]
  unfold Best
  rw [cand_iff h hm hk hT gT x]
  constructor
  · rintro ⟨g, h1, h2, h3⟩
    have hf := candP_from hm hk h1 h2
    refine ⟨⟨g, h1, h2, hf⟩, fun y hy hky => ?_⟩
    obtain ⟨g', k1, k2, k3⟩ := (cand_iff h hm hk hT gT y).1 hy
    rw [hf, k3]
    by_cases hlt : g' < g
    · have := h3 g' hlt y k2
      rw [(same_key (hm.ok.route g' k1 y k2.2.1) (hm.ok.route g h1 x h2.2.1)).2 hky] at this
      simp at this
    · omega
  · rintro ⟨⟨g, h1, h2, hf⟩, hb⟩
    refine ⟨g, h1, h2, fun g' hlt y hy => ?_⟩
    cases hs : sameB y x with
    | false => rfl
    | true =>
      have hfy := candP_from hm hk (show g' < 8 by omega) hy
      have := hb y ((cand_iff h hm hk hT gT y).2 ⟨g', by omega, hy, hfy⟩) ((same_key (hm.ok.route g' (by omega) y hy.2.1) (hm.ok.route g h1 x h2.2.1)).1 hs)
      rw [hf, hfy] at this
      omega
/-- The table, offer by offer. -/
theorem tab_is {own off : List RouteD} {quota : Int} (h1 : Good own) (h2 : Good off) (hd : ∀ x ∈ own, ∀ y ∈ off, key x ≠ key y) (hq : (own.length : Int) ≤ quota) (hq2 : quota ≤ 64) : ∀ k, k ≤ off.length →
    (tabTo own off quota k).1 = sortR (own ++ off.take (min k (quota - own.length).toNat)) ∧ (tabTo own off quota k).2.1 = min k (quota - own.length).toNat ∧ (tabTo own off quota k).2.2 = k - min k (quota - own.length).toNat
  | 0, _ => by
    refine ⟨?_, ?_, ?_⟩
    · show own = _
      simp only [Nat.zero_min, List.take_zero, List.append_nil]
      obtain ⟨s1, s2⟩ := sortR_ok h1.route (sorted_ne h1.sorted)
      exact sorted_ext h1.sorted s1 fun z => (s2 z).symm
    · show 0 = _; omega
    · show 0 = _; omega
  | k + 1, hk => by
    obtain ⟨a, b, c⟩ := tab_is h1 h2 hd hq hq2 k (by omega)
    have hparts : ∀ m, (∀ y ∈ own ++ off.take m, okRoute y) ∧ (own ++ off.take m).Pairwise (fun x y => key x ≠ key y) := fun m => by
      refine ⟨fun y hy => ?_, List.pairwise_append.2 ⟨sorted_ne h1.sorted, List.Pairwise.sublist (List.take_sublist _ _) (sorted_ne h2.sorted), fun x hx y hy => hd x hx y (List.mem_of_mem_take hy)⟩⟩
      rcases List.mem_append.1 hy with h | h
      · exact h1.route y h
      · exact h2.route y (List.mem_of_mem_take h)
    have hlen : (tabTo own off quota k).1.length = own.length + min k (quota - own.length).toNat := by
      rw [a, sortR_len, List.length_append, List.length_take]
      omega
    have hx : okRoute off[k] := h2.route _ (List.getElem_mem _)
    obtain ⟨s1, s2⟩ := sortR_ok (hparts (min k (quota - own.length).toNat)).1 (hparts (min k (quota - own.length).toNat)).2
    have hn : hasP (tabTo own off quota k).1 off[k] = false := by
      rw [hasP_false]
      intro y hy
      rw [a, s2 y] at hy
      cases hb : sameB y off[k] with
      | false => rfl
      | true =>
        rcases List.mem_append.1 hy with h | h
        · exact absurd ((same_key (h1.route y h) hx).1 hb) (hd y h _ (List.getElem_mem _))
        · have hkk := (same_key (h2.route y (List.mem_of_mem_take h)) hx).1 hb
          obtain ⟨j, hj, rfl⟩ := List.getElem_of_mem h
          rw [List.length_take] at hj
          rw [List.getElem_take] at hkk
          have := sorted_get h2.sorted (show j < off.length by omega) (show k < off.length by omega) (by omega)
          omega
    unfold tabTo
    rw [pad_lt (by omega), hn, hlen]
    by_cases hc : k < (quota - own.length).toNat
    · rw [if_pos (.inr ⟨by omega, by omega⟩)]
      have e1 : min k (quota - own.length).toNat = k := by omega
      have e2 : min (k + 1) (quota - own.length).toNat = k + 1 := by omega
      refine ⟨?_, ?_, ?_⟩
      · show putL (tabTo own off quota k).1 off[k] = _
        rw [e2]
        obtain ⟨t1, t2⟩ := sortR_ok (hparts (k + 1)).1 (hparts (k + 1)).2
        have hg : Good (tabTo own off quota k).1 := h1.tab h2 k (by omega)
        obtain ⟨p1, p2⟩ := putL_ok hg.sorted hg.route hx
        refine sorted_ext p1 t1 fun z => ?_
        rw [p2 z, t2 z, a, s2 z, e1, List.mem_append, List.mem_append, List.take_add_one, List.getElem?_eq_getElem (by omega), List.mem_append]
        have hz : z ∈ (tabTo own off quota k).1 → sameB z off[k] = false := fun hz => hasP_false.1 hn z hz
        rw [a, s2 z, e1, List.mem_append] at hz
        simp only [Option.toList_some, List.mem_singleton]
        constructor
        · rintro (⟨q1 | q1, _⟩ | q)
          · exact .inl q1
          · exact .inr (.inl q1)
          · exact .inr (.inr q)
        · rintro (q | q | q)
          · exact .inl ⟨.inl q, hz (.inl q)⟩
          · exact .inl ⟨.inr q, hz (.inr q)⟩
          · exact .inr q
      · show (tabTo own off quota k).2.1 + 1 = _; omega
      · show (tabTo own off quota k).2.2 = _; omega
    · have hno : ¬ (false = true ∨ (((own.length + min k (quota - own.length).toNat : Nat) : Int) < quota ∧ own.length + min k (quota - own.length).toNat < 64)) := by
        rintro (h | h)
        · simp at h
        · omega
      rw [if_neg hno]
      have e1 : min k (quota - own.length).toNat = (quota - own.length).toNat := by omega
      have e2 : min (k + 1) (quota - own.length).toNat = (quota - own.length).toNat := by omega
      refine ⟨?_, ?_, ?_⟩
      · show (tabTo own off quota k).1 = _; rw [a, e1, e2]
      · show (tabTo own off quota k).2.1 = _; omega
      · show (tabTo own off quota k).2.2 + 1 = _; omega
/-- Table and Count. -/
theorem side_tab (h : Sim p r) (hm : Mem p r) (hk : RefOk r) {T : Nat} (hT : T < r.nl) (gT : (r.life T).gone = false) :
    tabX p (r.life T).no.toNat = tabF r T ∧ (takX p (r.life T).no.toNat : Int) = (takenF r T).length ∧ (droX p (r.life T).no.toNat : Int) = droppedR (r.life T) (offF r T) ∧ (p.own (r.life T).no.toNat).length = (r.life T).own.length := by
  have nT := h.wr.no T hT
  have e1 := off_is h hm hk hT gT
  have e2 := hm.own T hT gT
  have e3 := h.quotaL T hT gT
  have hqw := h.wr.quota T hT
  have hoff := offF_is hk.tab hk.own T
  obtain ⟨s1, s2⟩ := own_sorted hk hT
  have g1 : Good (sortR (r.life T).own) := ⟨s1, fun y hy => hk.tab.own T hT y ((s2 y).1 hy)⟩
  have g2 : Good (offF r T) := by
    rw [← e1]; exact Good.off hm.ok _ 8 (Nat.le_refl _)
  have hd : ∀ x ∈ sortR (r.life T).own, ∀ y ∈ offF r T, key x ≠ key y := fun x hx y hy => by
    obtain ⟨⟨U, hU, hyU, hof⟩, _⟩ := (hoff.2 y).1 hy
    exact findI_neg (hk.tab.own T hT) (hk.tab.own U hU y hyU) (offerB_parts hof).2.2.2.2.2 x ((s2 x).1 hx)
  have hN := hk.tab.ownN T hT
  have hlen := sortR_len (r.life T).own
  obtain ⟨a, b, c⟩ := tab_is (quota := (r.life T).quota) g1 g2 hd (by rw [hlen]; exact hN) hqw.2 (offF r T).length (Nat.le_refl _)
  rw [hlen] at a b c
  refine ⟨?_, ?_, ?_, ?_⟩
  · unfold tabX
    rw [e1, e2, e3, a]
    obtain ⟨t1, t2⟩ := tabF_is hk.tab hk.own hT
    have hp := tab_parts hk.tab hk.own hT
    have hq : (∀ y ∈ sortR (r.life T).own ++ (offF r T).take (min (offF r T).length ((r.life T).quota - ↑(r.life T).own.length).toNat), okRoute y) ∧ (sortR (r.life T).own ++ (offF r T).take (min (offF r T).length ((r.life T).quota - ↑(r.life T).own.length).toNat)).Pairwise (fun x y => key x ≠ key y) := by
      refine ⟨fun y hy => ?_, List.pairwise_append.2 ⟨sorted_ne g1.sorted, List.Pairwise.sublist (List.take_sublist _ _) (sorted_ne g2.sorted), fun x hx y hy => hd x hx y (List.mem_of_mem_take hy)⟩⟩
      rcases List.mem_append.1 hy with h | h
      · exact g1.route y h
      · exact g2.route y (List.mem_of_mem_take h)
    obtain ⟨u1, u2⟩ := sortR_ok hq.1 hq.2
    refine sorted_ext u1 t1 fun z => ?_
    rw [u2 z, t2 z, List.mem_append, s2 z]
    have : (offF r T).take (min (offF r T).length ((r.life T).quota - ↑(r.life T).own.length).toNat) = takenF r T := by
      unfold takenF spare
      by_cases hh : (offF r T).length ≤ ((r.life T).quota - ↑(r.life T).own.length).toNat
      · rw [Nat.min_eq_left hh, List.take_of_length_le (Nat.le_refl _), List.take_of_length_le hh]
      · rw [Nat.min_eq_right (by omega)]
    rw [this]
  · unfold takX
    rw [e1, e2, e3, b]
    unfold takenF spare
    rw [List.length_take]
    omega
  · unfold droX
    rw [e1, e2, e3, c]
    unfold droppedR spare
    omega
  · rw [e2, hlen]
end

def RepX (w : World) (O : Tag) (e b : Nat) (r : RefS) : Prop := ∃ p, XAt w b p ∧ Sim p r ∧ Mem p r ∧ O b = (e, 10, 0)
theorem RepX.mine {w : World} {O : Tag} {e b : Nat} {r : RefS} (h : RepX w O e b r) : mineX O e b := by
  obtain ⟨p, _, _, _, ht⟩ := h
  unfold mineX
  rw [ht]
  exact ⟨rfl, Nat.le_refl _⟩
theorem RepX.tag {w : World} {O : Tag} {e b : Nat} {r : RefS} (h : RepX w O e b r) : O b = (e, 10, 0) := by
  obtain ⟨p, _, _, _, ht⟩ := h
  exact ht
theorem RepX.done {w w' : World} {O : Tag} {e b : Nat} {r r' : RefS} (h : RepX w O e b r) {p' : ProgS} (hx : XAt w' b p') (hs : Sim p' r') (hm : Mem p' r') (hk : Kept (· = b) w w') : doneX RepX w O e b r' w' :=
  ⟨O, fun _ _ => rfl, ⟨p', hx, hs, hm, h.tag⟩, hk.mono fun i _ q => by subst q; exact h.mine⟩
theorem kept_refl_b (w : World) (b : Nat) : Kept (· = b) w w := Kept.refl _ _
section
variable {w : World} {O : Tag} {e b : Nat} {r : RefS}
theorem repX_create (h : RepX w O e b r) (_hk : RefOk r) (quota : Int) :
    Calls Tryz.prog 21 #[.pointer (some ⟨b, 0, none⟩), .int .i64 quota] w fun en w' =>
      en = .returned (.tuple #[.int .i64 (createA r quota).1, .int .i64 (createA r quota).2, .int .i64 (createR r quota)]) ∧ doneX RepX w O e b (createdR r quota) w' := by
  obtain ⟨p, hx, hs, hm, ht⟩ := h
  refine (engCreate_any hx hs.wp quota).mono ?_
  rintro en w' ⟨n, hn, hc⟩
  have ec := hs.create hn quota
  rw [ec] at hc
  rcases hc with ⟨h0, rfl, hx', hk'⟩ | ⟨h0, rfl, hx', hk'⟩
  · unfold createA createdR
    rw [if_neg h0, if_neg h0]
    exact ⟨rfl, RepX.done ⟨p, hx, hs, hm, ht⟩ hx' hs hm hk'⟩
  · obtain ⟨q1, q2, q3, q4, q5⟩ := createR_zero h0
    have hn8 : n < 8 := by
      rcases Nat.lt_or_ge n 8 with hl | hg
      · exact hl
      · have := (hs.full hn).1 hg; omega
    have hfree := freeNo_free (freeNo_lt q3)
    have hfl := freeNo_lt q3
    have hlow : ∀ j : Nat, j < freeNo r → ¬ freeR r j := fun j hj hf => by
      have h1 : usedB r (j : Nat) = false := usedB_false.2 hf
      unfold freeNo at hj
      cases hfd : (List.range 8).find? (fun j => !usedB r (j : Nat)) with
      | none =>
        unfold freeNo at hfl
        rw [hfd] at hfl
        simp at hfl
      | some k =>
        rw [hfd] at hj
        simp only [Option.getD_some] at hj
        rw [List.find?_eq_some_iff_getElem] at hfd
        obtain ⟨_, i, hi, hik, hall⟩ := hfd
        rw [List.getElem_range] at hik
        subst hik
        have := hall j hj
        rw [List.getElem_range] at this
        simp [h1] at this
    have en' : n = freeNo r := hs.sameNo hn hfree hlow (by omega)
    subst en'
    unfold createA createdR
    rw [if_pos h0, if_pos h0, h0]
    have hsum := hs.sum
    refine ⟨by rw [hs.given], RepX.done ⟨p, hx, hs, hm, ht⟩ hx' (hs.createS hn hfree h0) (hm.createS hs hn8 hfree ?_) hk'⟩
    rw [hs.room]; omega
theorem repX_drop (h : RepX w O e b r) (hk : RefOk r) (no : Int) :
    Calls Tryz.prog 23 #[.pointer (some ⟨b, 0, none⟩), .int .i64 no] w fun en w' => en = .returned (.int .i64 (dropR r no)) ∧ doneX RepX w O e b (droppedS r no) w' := by
  obtain ⟨p, hx, hs, hm, ht⟩ := h
  refine (engDrop_any hx hs.wp no).mono ?_
  have hti := hs.tenantIs no
  rintro en w' (⟨h0, rfl, hx', hk'⟩ | ⟨h0, rfl, hx', hk'⟩)
  · obtain ⟨i, hi, hg, rfl⟩ := hti.1 h0
    have hu : usedB r (r.life i).no = true := usedB_true.2 ⟨i, hi, hg, rfl⟩
    unfold dropR droppedS
    rw [if_pos hu, if_pos hu, lifeNo_is hk.own hi hg]
    exact ⟨rfl, RepX.done ⟨p, hx, hs, hm, ht⟩ hx' (hs.dropS hi hg) (hm.dropS hs hi hg) hk'⟩
  · have hu : usedB r no = false := by
      cases hb : usedB r no with
      | false => rfl
      | true =>
        rw [hti.2 (usedB_true.1 hb)] at h0
        simp at h0
    unfold dropR droppedS
    rw [hu, if_neg (by simp), if_neg (by simp)]
    exact ⟨rfl, RepX.done ⟨p, hx, hs, hm, ht⟩ hx' hs hm hk'⟩
theorem repX_derive (h : RepX w O e b r) (_hk : RefOk r) (n rights : Int) :
    Calls Tryz.prog 25 #[.pointer (some ⟨b, 0, none⟩), .int .i64 n, .int .i64 rights] w fun en w' =>
      en = .returned (.tuple #[.int .i64 (deriveA r n rights), .int .i64 (deriveR r n rights)]) ∧ doneX RepX w O e b (derivedR r n rights) w' := by
  obtain ⟨p, hx, hs, hm, ht⟩ := h
  refine (engDerive_any hx hs.wp n rights).mono ?_
  have ec := hs.derive n rights
  rintro en w' (⟨h0, rfl, hx', hk'⟩ | ⟨h0, rfl, hx', hk'⟩)
  · rw [ec] at h0 ⊢
    unfold deriveA derivedR
    rw [if_neg h0, if_neg h0]
    exact ⟨rfl, RepX.done ⟨p, hx, hs, hm, ht⟩ hx' hs hm hk'⟩
  · rw [ec] at h0
    obtain ⟨ha, q1, q2, q3, q4, q5⟩ := deriveR_zero h0
    unfold deriveA derivedR
    rw [if_pos h0, if_pos h0, h0]
    have hk2 : (n - 1).toNat < r.nt := by omega
    have e1 : n.toNat = (n - 1).toNat + 1 := by omega
    rw [e1] at hx'
    refine ⟨by rw [hs.given], RepX.done ⟨p, hx, hs, hm, ht⟩ hx' (hs.deriveS hk2 q3 q4 q5 (aliveI_bounds ha).2.2) (hm.toks _ _ rfl rfl rfl rfl rfl rfl rfl rfl) hk'⟩
theorem repX_revoke (h : RepX w O e b r) (_hk : RefOk r) (n which : Int) :
    Calls Tryz.prog 27 #[.pointer (some ⟨b, 0, none⟩), .int .i64 n, .int .i64 which] w fun en w' => en = .returned (.int .i64 (revokeR r n which)) ∧ doneX RepX w O e b (revokedR r n which) w' := by
  obtain ⟨p, hx, hs, hm, ht⟩ := h
  refine (engRevoke_any hx hs.wp n which).mono ?_
  have ec := hs.revoke n which
  rintro en w' ⟨rfl, hx', hk'⟩
  unfold revokedX at hx'
  unfold revokedR
  rw [ec] at hx' ⊢
  refine ⟨rfl, ?_⟩
  by_cases h0 : revokeR r n which = 0
  · rw [if_pos h0] at hx' ⊢
    have hb := revokeR_bounds h0
    exact RepX.done ⟨p, hx, hs, hm, ht⟩ hx' (hs.revokeS (j := (which - 1).toNat) (by omega)) (hm.toks _ _ rfl rfl rfl rfl rfl rfl rfl rfl) hk'
  · rw [if_neg h0] at hx' ⊢
    exact RepX.done ⟨p, hx, hs, hm, ht⟩ hx' hs hm hk'
end
def engX : EngI where
  Rep := RepX
  lt := fun ⟨_, hx, _⟩ => hx.lt
  frame := by
    rintro w w' O O' e b r h hk hO
    have hmn := h.mine
    obtain ⟨p, hx, hs, hm, ht⟩ := h
    exact ⟨p, hx.frame (hk b hx.lt hmn), hs, hm, by rw [hO b hx.lt (by rw [ht]), ht]⟩
  new_yes := by
    intro n w h1 h2
    refine (engNew_yes n w h1 h2).mono ?_
    rintro en w' ⟨rfl, hx, hs, hz⟩
    refine ⟨w.heap.size, rfl, hs, fun O e lf tk => ⟨upd O w.heap.size (e, 10, 0), fun k hk => upd_other _ _ (by omega), newP n, hx, newSim h1 h2 lf tk, newMem n h1 lf tk, upd_same _ _ _⟩⟩
  new_no := by
    intro n w h
    refine (engNew_no n w h).mono ?_
    rintro en w' ⟨rfl, rfl⟩
    exact ⟨rfl, Kept.refl _ _⟩
  create := repX_create
  drop := repX_drop
  derive := repX_derive
  revoke := repX_revoke
section
variable {w : World} {O : Tag} {e b : Nat} {r : RefS}
theorem repX_insert (h : RepX w O e b r) (hk : RefOk r) (n addr len hop : Int) : Calls Tryz.prog 29 #[.pointer (some ⟨b, 0, none⟩), .int .i64 n, .int .i64 addr, .int .i64 len, .int .i64 hop] w fun en w' =>
    en = .returned (.int .i64 (insertR r n addr len hop)) ∧ doneX RepX w O e b (insertedR r n addr len hop) w' := by
  have h0 := h
  obtain ⟨p, hx, hs, hm, ht⟩ := h
  have ec := (hs.check124 n).2.1
  by_cases hc : mayI r n 2 = 0
  · obtain ⟨t, ho⟩ := of_may hs hc
    cases hg : (isPfx addr len && okMask hop) with
    | false =>
      refine (insert_arg hx hs.wp addr len hop (ec.trans hc) hg).mono ?_
      rintro en w' ⟨rfl, rfl⟩
      have e1 : insertR r n addr len hop = 2 := by unfold insertR; rw [if_pos hc, hg]; rfl
      unfold insertedR
      rw [e1, if_neg (by omega)]
      exact ⟨rfl, h0.done hx hs hm (Kept.refl _ _)⟩
    | true =>
      refine (insert_put hx hs.wp hm.ok addr len hop (ec.trans hc) ho.tenant ho.t8 hg).mono ?_
      have hno : (r.life (lifeOf r n)).no.toNat = t := by rw [ho.no]; omega
      have e1 : insertR r n addr len hop = insIn (r.life (lifeOf r n)) (newRoute r n addr len hop) := by unfold insertR; rw [if_pos hc, hg]; rfl
      have e2 : newRoute r n addr len hop = ⟨addr, len, hop, t⟩ := by unfold newRoute; rw [ho.no]
      have hxo : okRoute (newRoute r n addr len hop) := newRoute_ok hk hc hg
      have how := hm.own _ ho.life ho.live
      have hqu := hs.quotaL _ ho.life ho.live
      rw [hno] at how hqu
      have hqw := hs.wr.quota _ ho.life
      have hfind := hasP_find (own_sorted hk ho.life).2 (newRoute r n addr len hop)
      have hpo := put_own (hk.tab.own _ ho.life) (hk.own.dist _ ho.life) hxo
      have hlen := sortR_len (r.life (lifeOf r n)).own
      rw [how, hqu, hlen, ← e2]
      rintro en w' ⟨hk', hcs⟩
      unfold insertedR
      rw [e1]
      unfold insIn
      rcases hcs with ⟨q1, rfl, q3⟩ | ⟨q1, q2, rfl, q4⟩
      · have hz : (if 0 ≤ findI (r.life (lifeOf r n)).own (newRoute r n addr len hop) then (0 : Int) else if (r.life (lifeOf r n)).quota ≤ ((r.life (lifeOf r n)).own.length : Int) then 8 else 0) = 0 := by
          by_cases hf : 0 ≤ findI (r.life (lifeOf r n)).own (newRoute r n addr len hop)
          · rw [if_pos hf]
          · rw [if_neg hf]
            rcases q1 with q1 | q1
            · exact absurd (hfind.1 q1) hf
            · rw [if_neg (by omega)]
        rw [hz, if_pos rfl]
        rw [hpo.1] at q3
        obtain ⟨s1, s2⟩ := side_own hs hm ho hpo.2.1 hpo.2.2
        exact ⟨rfl, h0.done q3 s1 s2 hk'⟩
      · have hz : (if 0 ≤ findI (r.life (lifeOf r n)).own (newRoute r n addr len hop) then (0 : Int) else if (r.life (lifeOf r n)).quota ≤ ((r.life (lifeOf r n)).own.length : Int) then 8 else 0) = 8 := by
          by_cases hf : 0 ≤ findI (r.life (lifeOf r n)).own (newRoute r n addr len hop)
          · rw [hfind.2 hf] at q1; simp at q1
          · rw [if_neg hf, if_pos (by omega)]
        rw [hz, if_neg (by omega)]
        exact ⟨rfl, h0.done q4 hs hm hk'⟩
  · refine (insert_no hx hs.wp addr len hop ec hc).mono ?_
    rintro en w' ⟨rfl, rfl⟩
    have e1 : insertR r n addr len hop = mayI r n 2 := by unfold insertR; rw [if_neg hc]
    unfold insertedR
    rw [e1, if_neg hc]
    exact ⟨rfl, h0.done hx hs hm (Kept.refl _ _)⟩
theorem repX_remove (h : RepX w O e b r) (hk : RefOk r) (n addr len : Int) : Calls Tryz.prog 31 #[.pointer (some ⟨b, 0, none⟩), .int .i64 n, .int .i64 addr, .int .i64 len] w fun en w' =>
    en = .returned (.int .i64 (removeR r n addr len)) ∧ doneX RepX w O e b (removedR r n addr len) w' := by
  have h0 := h
  obtain ⟨p, hx, hs, hm, ht⟩ := h
  have ec := (hs.check124 n).2.1
  by_cases hc : mayI r n 2 = 0
  · obtain ⟨t, ho⟩ := of_may hs hc
    cases hg : isPfx addr len with
    | false =>
      refine (remove_arg hx hs.wp addr len (ec.trans hc) hg).mono ?_
      rintro en w' ⟨rfl, rfl⟩
      have e1 : removeR r n addr len = 2 := by unfold removeR; rw [if_pos hc, hg]; rfl
      unfold removedR
      rw [e1, if_neg (by omega)]
      exact ⟨rfl, h0.done hx hs hm (Kept.refl _ _)⟩
    | true =>
      refine (remove_del hx hs.wp hm.ok addr len (ec.trans hc) ho.tenant ho.t8 hg).mono ?_
      have hno : (r.life (lifeOf r n)).no.toNat = t := by rw [ho.no]; omega
      have e1 : removeR r n addr len = remIn (r.life (lifeOf r n)) (pfxRoute addr len) := by unfold removeR; rw [if_pos hc, hg]; rfl
      obtain ⟨pa, pb, pc, pd⟩ := isPfx_ok hg
      have hxo : okRoute (pfxRoute addr len) := ⟨pa, pb, pc, pd, by show (0 : Int) ≤ 0; omega, by show (0 : Int) ≤ 255; omega, by show (0 : Int) ≤ 0; omega, by show (0 : Int) < 8; omega, isPfx_mod hg⟩
      have how := hm.own _ ho.life ho.live
      rw [hno] at how
      have hfind := hasP_find (own_sorted hk ho.life).2 (pfxRoute addr len)
      rw [how]
      rintro en w' ⟨hk', hcs⟩
      unfold removedR
      rw [e1]
      unfold remIn
      rcases hcs with ⟨q1, rfl, q3⟩ | ⟨q1, rfl, q3⟩
      · have hf := hfind.1 q1
        rw [if_pos hf, if_pos rfl]
        rw [del_own (hk.tab.own _ ho.life) (hk.own.dist _ ho.life) hxo hf] at q3
        have hsub : List.Sublist (remOwn (r.life (lifeOf r n)).own (pfxRoute addr len)) (r.life (lifeOf r n)).own := List.eraseIdx_sublist _ _
        obtain ⟨s1, s2⟩ := side_own hs hm ho (fun y hy => hk.tab.own _ ho.life y (hsub.subset hy)) ((hk.own.dist _ ho.life).sublist hsub)
        exact ⟨rfl, h0.done q3 s1 s2 hk'⟩
      · have hf : ¬ 0 ≤ findI (r.life (lifeOf r n)).own (pfxRoute addr len) := fun hf => by rw [hfind.2 hf] at q1; simp at q1
        rw [if_neg hf, if_neg (by omega)]
        exact ⟨rfl, h0.done q3 hs hm hk'⟩
  · refine (remove_no hx hs.wp addr len ec hc).mono ?_
    rintro en w' ⟨rfl, rfl⟩
    have e1 : removeR r n addr len = mayI r n 2 := by unfold removeR; rw [if_neg hc]
    unfold removedR
    rw [e1, if_neg hc]
    exact ⟨rfl, h0.done hx hs hm (Kept.refl _ _)⟩
theorem repX_share (h : RepX w O e b r) (hk : RefOk r) (n gives takes : Int) : Calls Tryz.prog 33 #[.pointer (some ⟨b, 0, none⟩), .int .i64 n, .int .i64 gives, .int .i64 takes] w fun en w' =>
    en = .returned (.int .i64 (shareR r n gives takes)) ∧ doneX RepX w O e b (sharedR r n gives takes) w' := by
  have h0 := h
  obtain ⟨p, hx, hs, hm, ht⟩ := h
  have ec := (hs.check124 n).2.2
  unfold sharedR shareR
  by_cases hc : mayI r n 4 = 0
  · obtain ⟨t, ho⟩ := of_may hs hc
    rw [if_pos hc]
    cases hg : (okMask gives && okMask takes) with
    | false =>
      refine (share_arg hx hs.wp gives takes (ec.trans hc) hg).mono ?_
      rintro en w' ⟨rfl, rfl⟩
      rw [if_neg (by simp), if_neg (by omega)]
      exact ⟨rfl, h0.done hx hs hm (Kept.refl _ _)⟩
    | true =>
      refine (share_set hx hs.wp gives takes (ec.trans hc) ho.tenant ho.t8 hg).mono ?_
      rintro en w' ⟨hk', rfl, hx'⟩
      rw [if_pos rfl, if_pos rfl]
      obtain ⟨s1, s2⟩ := side_share hs hm hk ho gives takes
      exact ⟨rfl, h0.done hx' s1 s2 hk'⟩
  · refine (share_no hx hs.wp gives takes ec hc).mono ?_
    rintro en w' ⟨rfl, rfl⟩
    rw [if_neg hc, if_neg hc]
    exact ⟨rfl, h0.done hx hs hm (Kept.refl _ _)⟩
theorem repX_filter (h : RepX w O e b r) (hk : RefOk r) (n : Int) (v : Value) (R : List RuleD) (hR : RulesIn w v R) : Calls Tryz.prog 67 #[.pointer (some ⟨b, 0, none⟩), .int .i64 n, v] w fun en w' =>
    en = .returned (.int .i64 (filterR r n R)) ∧ doneX RepX w O e b (filteredR r n R) w' := by
  have h0 := h
  obtain ⟨p, hx, hs, hm, ht⟩ := h
  have ec := (hs.check124 n).2.2
  unfold filteredR filterR
  by_cases hc : mayI r n 4 = 0
  · obtain ⟨t, ho⟩ := of_may hs hc
    rw [if_pos hc]
    refine (filter_set hx hs.wp hR (ec.trans hc) ho.tenant ho.t8).mono ?_
    rintro en w' ⟨hk', hcs⟩
    rcases hcs with ⟨q1, rfl, q3⟩ | ⟨q1, rfl, q3⟩
    · rw [q1, if_pos rfl, if_pos rfl]
      have hall : ∀ u ∈ R, ruleB u = true := by
        unfold filterOk at q1
        rw [Bool.and_eq_true, List.all_eq_true] at q1
        exact q1.2
      obtain ⟨s1, s2⟩ := side_rules hs hm hk ho hall
      exact ⟨rfl, h0.done q3 s1 s2 hk'⟩
    · rw [q1, if_neg (by simp), if_neg (by omega)]
      exact ⟨rfl, h0.done q3 hs hm hk'⟩
  · refine (filter_no hx hs.wp v ec hc).mono ?_
    rintro en w' ⟨rfl, rfl⟩
    rw [if_neg hc, if_neg hc]
    exact ⟨rfl, h0.done hx hs hm (Kept.refl _ _)⟩
theorem RepX.again {w w' : World} (h : RepX w O e b r) (hs : Still w w') : RepX w' O e b r := by
  obtain ⟨p, hx, h1, h2, h3⟩ := h
  exact ⟨p, hx.still hs, h1, h2, h3⟩
theorem repX_table (h : RepX w O e b r) (hk : RefOk r) (n : Int) : Calls Tryz.prog 36 #[.pointer (some ⟨b, 0, none⟩), .int .i64 n] w fun en w' =>
    ∃ v, en = .returned (.tuple #[v, .int .i64 (mayI r n 1)]) ∧ w'.ownsRow w.heap.size 50 4 v (tableL r n).length ((tableL r n).flatMap routeCells) ∧
      ∃ O' : Tag, (∀ k, k < w.heap.size → O' k = O k) ∧ RepX w' O' e b r ∧ Kept (mineX O e) w w' ∧ ∀ g, v.ownBlock = some g → (O' g).1 ≠ e := by
  have h0 := h
  obtain ⟨p, hx, hs, hm, ht⟩ := h
  have ec := (hs.check124 n).1
  have fin : ∀ (v : Value) (w' : World) (m : Nat) (xs : List Value), w'.ownsRow w.heap.size 50 4 v m xs → Still w w' → ∃ O' : Tag, (∀ k, k < w.heap.size → O' k = O k) ∧ RepX w' O' e b r ∧ Kept (mineX O e) w w' ∧ ∀ g, v.ownBlock = some g → (O' g).1 ≠ e := by
    intro v w' m xs hown hst
    refine ⟨fun k => if k < w.heap.size then O k else (e + 1, 0, 0), fun k hk => if_pos hk, ?_, Still.kept hst _, fun g hg => ?_⟩
    · obtain ⟨p, hx, h1, h2, h3⟩ := h0.again hst
      exact ⟨p, hx, h1, h2, by show (if b < w.heap.size then O b else (e + 1, 0, 0)) = (e, 10, 0); rw [if_pos h0.choose_spec.1.lt]; exact h3⟩
    · have := (hown.lt g hg).1
      show (if g < w.heap.size then O g else (e + 1, 0, 0)).1 ≠ e
      rw [if_neg (by omega)]
      show e + 1 ≠ e
      omega
  by_cases hc : mayI r n 1 = 0
  · obtain ⟨t, ho⟩ := of_may hs hc
    have hno : (r.life (lifeOf r n)).no.toNat = t := by rw [ho.no]; omega
    have hsd := (side_tab hs hm hk ho.life ho.live).1
    rw [hno] at hsd
    have e1 : tableL r n = tabX p t := by unfold tableL; rw [if_pos hc, hsd]
    rw [e1, hc]
    refine (tableT_yes hx hs.wp hm.ok (ec.trans hc) ho.tenant ho.t8).mono ?_
    rintro en w' ⟨v, rfl, hown, hst⟩
    exact ⟨v, rfl, hown, fin v w' _ _ hown hst⟩
  · have e1 : tableL r n = [] := by unfold tableL; rw [if_neg hc]
    rw [e1]
    refine (tableT_no hx hs.wp ec hc).mono ?_
    rintro en w' ⟨rfl, rfl⟩
    have hown := World.ownsRow_nil w' w'.heap.size 50 4
    exact ⟨_, rfl, hown, fin _ _ _ _ hown (Kept.refl _ _)⟩
theorem repX_count (h : RepX w O e b r) (hk : RefOk r) (n : Int) : Calls Tryz.prog 39 #[.pointer (some ⟨b, 0, none⟩), .int .i64 n] w fun en w' =>
    en = .returned (.tuple #[.agg #[.int .i64 (countF r n).own, .int .i64 (countF r n).taken, .int .i64 (countF r n).dropped, .int .i64 (countF r n).quota], .int .i64 (mayI r n 1)]) ∧ doneX RepX w O e b r w' := by
  have h0 := h
  obtain ⟨p, hx, hs, hm, ht⟩ := h
  have ec := (hs.check124 n).1
  by_cases hc : mayI r n 1 = 0
  · obtain ⟨t, ho⟩ := of_may hs hc
    have hno : (r.life (lifeOf r n)).no.toNat = t := by rw [ho.no]; omega
    obtain ⟨_, s2, s3, s4⟩ := side_tab hs hm hk ho.life ho.live
    have hqu := hs.quotaL _ ho.life ho.live
    rw [hno] at s2 s3 s4 hqu
    unfold countF
    rw [if_pos hc, hc]
    refine (countT_yes hx hs.wp hm.ok (ec.trans hc) ho.tenant ho.t8).mono ?_
    rintro en w' ⟨rfl, hst⟩
    refine ⟨by rw [s2, s3, s4, hqu], ?_⟩
    exact h0.done (hx.still hst) hs hm (Still.kept hst _)
  · unfold countF
    rw [if_neg hc]
    refine (countT_no hx hs.wp ec hc).mono ?_
    rintro en w' ⟨rfl, hst⟩
    exact ⟨rfl, h0.done (hx.still hst) hs hm (Still.kept hst _)⟩
end
theorem engX2 : EngI2 engX := ⟨repX_insert, repX_remove, repX_share, repX_filter, repX_table, repX_count⟩
end Go.Proofs.YtgndledehlilkaaGreat
