/-
  Isolated: what is the same in two engines, as plain data.
-/
import Derived.Test.YtgndledehlilkaaHeld3
namespace Go.Proofs.Ytgndledehlilkaa
open Go.RowKit

theorem andF_nat (x m : Int) {k : Nat} (hm : (BitVec.ofInt 64 m).toNat = k) (hk : k < 256) : ∃ z : Nat, andF x m = (z : Int) ∧ z = (BitVec.ofInt 64 x).toNat &&& k := by
  have h3 : (BitVec.ofInt 64 x &&& BitVec.ofInt 64 m).toNat = (BitVec.ofInt 64 x).toNat &&& k := by rw [BitVec.toNat_and, hm]
  refine ⟨_, ?_, rfl⟩
  show IntKind.i64.wrap ((BitVec.ofInt 64 x &&& BitVec.ofInt 64 m).toNat : Int) = _
  rw [h3]
  have : (BitVec.ofInt 64 x).toNat &&& k ≤ k := Nat.and_le_right
  exact wrap_small (by omega) (by omega)
theorem andF_15 (x : Int) : 0 ≤ andF x 15 ∧ andF x 15 ≤ 15 := by
  obtain ⟨z, h1, h2⟩ := andF_nat x 15 (k := 15) (by decide) (by omega)
  have : (BitVec.ofInt 64 x).toNat &&& 15 ≤ 15 := Nat.and_le_right
  omega
theorem andF_240 (x : Int) : 0 ≤ andF x 240 ∧ andF x 240 ≤ 240 ∧ andF x 240 % 16 = 0 := by
  obtain ⟨z, h1, h2⟩ := andF_nat x 240 (k := 240) (by decide) (by omega)
  have h3 : (BitVec.ofInt 64 x).toNat &&& 240 ≤ 240 := Nat.and_le_right
  have h4 : ((BitVec.ofInt 64 x).toNat &&& 240) % 2 ^ 4 = 0 := by
    rw [Nat.and_mod_two_pow]
    show _ &&& 0 = 0
    exact Nat.and_zero _
  omega
theorem common_no {g k : Int} (_h0 : 0 ≤ g) (h1 : g % 16 = 0) (h2 : 0 ≤ k) (h3 : k ≤ 15) : commonB g k = false := by
  unfold commonB
  have key : ∀ j, j < 8 → (hasB g (pw j) && hasB k (pw j)) = false := by
    intro j hj
    have : j = 0 ∨ j = 1 ∨ j = 2 ∨ j = 3 ∨ j = 4 ∨ j = 5 ∨ j = 6 ∨ j = 7 := by omega
    unfold hasB pw
    rcases this with rfl | rfl | rfl | rfl | rfl | rfl | rfl | rfl
    · have : ((g / 2 ^ 0 % 2 == 1) : Bool) = false := by rw [beq_eq_false_iff_ne]; omega
      rw [this]; rfl
    · have : ((g / 2 ^ 1 % 2 == 1) : Bool) = false := by rw [beq_eq_false_iff_ne]; omega
      rw [this]; rfl
    · have : ((g / 2 ^ 2 % 2 == 1) : Bool) = false := by rw [beq_eq_false_iff_ne]; omega
      rw [this]; rfl
    · have : ((g / 2 ^ 3 % 2 == 1) : Bool) = false := by rw [beq_eq_false_iff_ne]; omega
      rw [this]; rfl
    · have : ((k / 2 ^ 4 % 2 == 1) : Bool) = false := by rw [beq_eq_false_iff_ne]; omega
      rw [this, Bool.and_false]
    · have : ((k / 2 ^ 5 % 2 == 1) : Bool) = false := by rw [beq_eq_false_iff_ne]; omega
      rw [this, Bool.and_false]
    · have : ((k / 2 ^ 6 % 2 == 1) : Bool) = false := by rw [beq_eq_false_iff_ne]; omega
      rw [this, Bool.and_false]
    · have : ((k / 2 ^ 7 % 2 == 1) : Bool) = false := by rw [beq_eq_false_iff_ne]; omega
      rw [this, Bool.and_false]
  have all : ∀ n, n ≤ 8 → commonTo g k n = false := by
    intro n
    induction n with
    | zero => intro _; rfl
    | succ n ih =>
      intro hn
      show (commonTo g k n || (hasB g (pw n) && hasB k (pw n))) = false
      rw [ih (by omega), key n (by omega)]
      rfl
  exact all 8 (Nat.le_refl _)
/-- One engine of Isolated. -/
structure Four (r : RefS) : Prop where
  nl : r.nl = 4
  nt : 4 ≤ r.nt
  tok : ∀ i, i < 2 → r.tok i = ⟨i, 15, [], false⟩
  life : ∀ i, i < 4 → (r.tok i).life = i
  live : ∀ i, i < 2 → (r.life i).gone = false
  low : ∀ i, i < 2 → 0 ≤ (r.life i).gives ∧ (r.life i).gives ≤ 15 ∧ 0 ≤ (r.life i).takes ∧ (r.life i).takes ≤ 15
  high : ∀ i, 2 ≤ i → i < 4 → 0 ≤ (r.life i).gives ∧ (r.life i).gives % 16 = 0
  quota : (r.life 0).quota = 6
theorem Four.firsts {r : RefS} (h : Four r) : Firsts r 2 := ⟨by have := h.nt; omega, h.tok, h.live⟩
/-- What is the same in both. -/
def Same2 (r s : RefS) : Prop := ∀ i, i < 2 → r.life i = s.life i
section
variable {r s : RefS}
theorem iso_cand (hr : Four r) (hs : Four s) (h : Same2 r s) {t : Nat} (ht : t < 2) {x : RouteD} : Cand r t x → Cand s t x := by
  rintro ⟨u, hu, hx, ho⟩
  rw [hr.nl] at hu
  obtain ⟨o1, o2, o3, o4, o5, o6⟩ := offerB_parts ho
  rcases Nat.lt_or_ge u 2 with hu2 | hu2
  · refine ⟨u, by rw [hs.nl]; exact hu, by rw [← h u hu2]; exact hx, ?_⟩
    unfold offerB at ho ⊢
    rw [← h u hu2, ← h t ht]
    exact ho
  · have g := hr.high u hu2 hu
    have k := hr.low t ht
    rw [common_no g.1 g.2 k.2.2.1 k.2.2.2] at o4
    cases o4
theorem iso_tab (hr : Four r) (hs : Four s) (h : Same2 r s) (kr : RefOk r) (ks : RefOk s) {t : Nat} (ht : t < 2) : offF r t = offF s t ∧ tabF r t = tabF s t ∧ takenF r t = takenF s t := by
  have hs' : Same2 s r := fun i hi => (h i hi).symm
  have e1 : offF r t = offF s t := by
    obtain ⟨s1, m1⟩ := offF_is kr.tab kr.own t
    obtain ⟨s2, m2⟩ := offF_is ks.tab ks.own t
    refine sorted_ext s1 s2 fun x => ?_
    rw [m1, m2]
    unfold Best
    exact ⟨fun ⟨a, b⟩ => ⟨iso_cand hr hs h ht a, fun y hy => b y (iso_cand hs hr hs' ht hy)⟩, fun ⟨a, b⟩ => ⟨iso_cand hs hr hs' ht a, fun y hy => b y (iso_cand hr hs h ht hy)⟩⟩
  have e2 := h t ht
  refine ⟨e1, ?_, ?_⟩
  · unfold tabF; rw [e1, e2]
  · unfold takenF; rw [e1, e2]
theorem iso_asked (hr : Four r) (hs : Four s) (h : Same2 r s) (kr : RefOk r) (ks : RefOk s) {t : Nat} (ht : t < 2) : mayI r ((t : Int) + 1) 1 = 0 ∧ mayI s ((t : Int) + 1) 1 = 0 ∧ tableL r ((t : Int) + 1) = tableL s ((t : Int) + 1) ∧ countF r ((t : Int) + 1) = countF s ((t : Int) + 1) := by
  obtain ⟨a1, a2⟩ := hr.firsts.may ht (right := 1) (by decide)
  obtain ⟨b1, b2⟩ := hs.firsts.may ht (right := 1) (by decide)
  obtain ⟨e1, e2, e3⟩ := iso_tab hr hs h kr ks ht
  have e4 := h t ht
  refine ⟨a1, b1, ?_, ?_⟩
  · unfold tableL; rw [if_pos a1, if_pos b1, a2, b2, e2]
  · unfold countF; rw [if_pos a1, if_pos b1, a2, b2, e1, e3, e4]
/-- A step of one of the first two is answered the same. -/
theorem iso_told (hr : Four r) (hs : Four s) (h : Same2 r s) (kr : RefOk r) (ks : RefOk s) {t : Nat} (ht : t < 2) (o : OpD) (mk : Int) : playT r ((t : Int) + 1) o mk = playT s ((t : Int) + 1) o mk := by
  obtain ⟨a1, b1, e1, e2⟩ := iso_asked hr hs h kr ks ht
  obtain ⟨a2, a3⟩ := hr.firsts.may ht (right := 2) (by decide)
  obtain ⟨b2, b3⟩ := hs.firsts.may ht (right := 2) (by decide)
  obtain ⟨a4, _⟩ := hr.firsts.may ht (right := 4) (by decide)
  obtain ⟨b4, _⟩ := hs.firsts.may ht (right := 4) (by decide)
  have e4 := h t ht
  have i1 : ∀ a l p, insertR r ((t : Int) + 1) a l p = insertR s ((t : Int) + 1) a l p := fun a l p => by unfold insertR newRoute; rw [a2, b2, a3, b3, e4]
  have i2 : ∀ a l, removeR r ((t : Int) + 1) a l = removeR s ((t : Int) + 1) a l := fun a l => by unfold removeR; rw [a2, b2, a3, b3, e4]
  have i3 : ∀ a l, shareR r ((t : Int) + 1) a l = shareR s ((t : Int) + 1) a l := fun a l => by unfold shareR; rw [a4, b4]
  have i4 : ∀ R, filterR r ((t : Int) + 1) R = filterR s ((t : Int) + 1) R := fun R => by unfold filterR; rw [a4, b4]
  have i5 : ∀ a, lookR r ((t : Int) + 1) a = lookR s ((t : Int) + 1) a := fun a => by unfold lookR; rw [a1, b1, e1]
  have i6 : ∀ a, lookA r ((t : Int) + 1) a = lookA s ((t : Int) + 1) a := fun a => by unfold lookA; rw [a1, b1, e1]
  have i7 : ∀ a p, passR r ((t : Int) + 1) a p = passR s ((t : Int) + 1) a p := fun a p => by unfold passR; rw [a1, b1]
  have i8 : ∀ a p b, passA r ((t : Int) + 1) a p b = passA s ((t : Int) + 1) a p b := fun a p b => by unfold passA; rw [a1, b1, e1]
  unfold playT
  rw [i1, i2, i3, i4, i5, i6, i7, i8, a1, b1, e1, e2]
end
/-- What a step leaves, with its marks. -/
def OneLifeM (r r' : RefS) (l : Nat) (o : OpD) (mk : Int) : Prop := ∃ L : Life, r' = { r with life := upd r.life l L } ∧ L.no = (r.life l).no ∧ L.quota = (r.life l).quota ∧ L.gone = (r.life l).gone ∧ ((L.gives = (r.life l).gives ∧ L.takes = (r.life l).takes) ∨ (L.gives = andF o.a mk ∧ L.takes = andF o.b mk))
theorem playS_marks (r : RefS) (n : Int) (o : OpD) (mk : Int) : playS r n o mk = r ∨ OneLifeM r (playS r n o mk) (lifeOf r n) o mk := by
  unfold playS
  split
  · unfold insertedR
    split
    · exact .inr ⟨_, rfl, rfl, rfl, rfl, .inl ⟨rfl, rfl⟩⟩
    · exact .inl rfl
  · split
    · unfold removedR
      split
      · exact .inr ⟨_, rfl, rfl, rfl, rfl, .inl ⟨rfl, rfl⟩⟩
      · exact .inl rfl
    · split
      · unfold sharedR
        split
        · exact .inr ⟨_, rfl, rfl, rfl, rfl, .inr ⟨rfl, rfl⟩⟩
        · exact .inl rfl
      · split
        · unfold filteredR
          split
          · exact .inr ⟨_, rfl, rfl, rfl, rfl, .inl ⟨rfl, rfl⟩⟩
          · exact .inl rfl
        · exact .inl rfl
theorem Four.lifeOf {r : RefS} (h : Four r) {t : Nat} (ht : t < 4) : lifeOf r ((t : Int) + 1) = t := by
  unfold Go.Proofs.Ytgndledehlilkaa.lifeOf
  have e0 : ((t : Int) + 1 - 1).toNat = t := by omega
  rw [e0]
  exact h.life t ht
theorem Four.turn {r r' : RefS} (h : Four r) {l : Nat} {o : OpD} {mk : Int} (ho : OneLifeM r r' l o mk) (hmk : (l < 2 ∧ mk = 15) ∨ (2 ≤ l ∧ l < 4 ∧ mk = 240)) : Four r' := by
  obtain ⟨L, rfl, h1, h2, h3, h4⟩ := ho
  refine ⟨h.nl, h.nt, h.tok, h.life, fun i hi => ?_, fun i hi => ?_, fun i hi hi4 => ?_, ?_⟩
  · show (upd r.life l L i).gone = false
    by_cases e : i = l
    · subst e; rw [upd_same, h3]; exact h.live i hi
    · rw [upd_other _ _ e]; exact h.live i hi
  · show 0 ≤ (upd r.life l L i).gives ∧ (upd r.life l L i).gives ≤ 15 ∧ 0 ≤ (upd r.life l L i).takes ∧ (upd r.life l L i).takes ≤ 15
    by_cases e : i = l
    · subst e
      rw [upd_same]
      have hl := h.low i hi
      rcases hmk with ⟨_, rfl⟩ | ⟨h5, _⟩
      · rcases h4 with ⟨e1, e2⟩ | ⟨e1, e2⟩
        · rw [e1, e2]; exact hl
        · have := andF_15 o.a
          have := andF_15 o.b
          rw [e1, e2]; omega
      · omega
    · rw [upd_other _ _ e]; exact h.low i hi
  · show 0 ≤ (upd r.life l L i).gives ∧ (upd r.life l L i).gives % 16 = 0
    by_cases e : i = l
    · subst e
      rw [upd_same]
      have hl := h.high i hi hi4
      rcases hmk with ⟨h5, _⟩ | ⟨_, _, rfl⟩
      · omega
      · rcases h4 with ⟨e1, e2⟩ | ⟨e1, e2⟩
        · rw [e1]; exact hl
        · have := andF_240 o.a
          rw [e1]; omega
    · rw [upd_other _ _ e]; exact h.high i hi hi4
  · show (upd r.life l L 0).quota = 6
    by_cases e : 0 = l
    · subst e; rw [upd_same, h2]; exact h.quota
    · rw [upd_other _ _ e]; exact h.quota
theorem Four.play {r : RefS} (h : Four r) {t : Nat} (o : OpD) {mk : Int} (hmk : (t < 2 ∧ mk = 15) ∨ (2 ≤ t ∧ t < 4 ∧ mk = 240)) : Four (playS r ((t : Int) + 1) o mk) := by
  have ht : t < 4 := by omega
  rcases playS_marks r ((t : Int) + 1) o mk with e | e
  · rw [e]; exact h
  · rw [h.lifeOf ht] at e
    exact h.turn e hmk
theorem Same2.high {r s r' : RefS} (h : Same2 r s) {l : Nat} (hl : 2 ≤ l) {o : OpD} {mk : Int} (ho : r' = r ∨ OneLifeM r r' l o mk) : Same2 r' s := by
  rcases ho with rfl | ⟨L, rfl, _⟩
  · exact h
  · intro i hi
    show upd r.life l L i = _
    rw [upd_other _ _ (by omega)]
    exact h i hi
theorem same_upd {r s : RefS} (h : Same2 r s) {t : Nat} {L M : Life} (e : L = M) : Same2 { r with life := upd r.life t L } { s with life := upd s.life t M } := by
  subst e
  intro i hi
  show upd r.life t L i = upd s.life t L i
  by_cases e : i = t
  · subst e; rw [upd_same, upd_same]
  · rw [upd_other _ _ e, upd_other _ _ e]; exact h i hi
section
variable {r s : RefS}
theorem iso_play (hr : Four r) (hs : Four s) (h : Same2 r s) {t : Nat} (ht : t < 2) (o : OpD) (mk : Int) : Same2 (playS r ((t : Int) + 1) o mk) (playS s ((t : Int) + 1) o mk) := by
  obtain ⟨a2, a3⟩ := hr.firsts.may ht (right := 2) (by decide)
  obtain ⟨b2, b3⟩ := hs.firsts.may ht (right := 2) (by decide)
  obtain ⟨a4, _⟩ := hr.firsts.may ht (right := 4) (by decide)
  obtain ⟨b4, _⟩ := hs.firsts.may ht (right := 4) (by decide)
  have e4 := h t ht
  unfold playS
  split
  · have i1 : ∀ a l p, insertR r ((t : Int) + 1) a l p = insertR s ((t : Int) + 1) a l p := fun a l p => by unfold insertR newRoute; rw [a2, b2, a3, b3, e4]
    unfold insertedR
    rw [i1]
    split
    · rw [a3, b3]
      unfold ownS newRoute
      rw [a3, b3]
      exact same_upd h (by rw [e4])
    · exact h
  · split
    · have i2 : ∀ a l, removeR r ((t : Int) + 1) a l = removeR s ((t : Int) + 1) a l := fun a l => by unfold removeR; rw [a2, b2, a3, b3, e4]
      unfold removedR
      rw [i2]
      split
      · rw [a3, b3]
        unfold ownS
        exact same_upd h (by rw [e4])
      · exact h
    · split
      · have i3 : ∀ a l, shareR r ((t : Int) + 1) a l = shareR s ((t : Int) + 1) a l := fun a l => by unfold shareR; rw [a4, b4]
        unfold sharedR
        rw [i3]
        split
        · rw [a3, b3]
          unfold shareS
          exact same_upd h (by rw [e4])
        · exact h
      · split
        · have i4 : ∀ R, filterR r ((t : Int) + 1) R = filterR s ((t : Int) + 1) R := fun R => by unfold filterR; rw [a4, b4]
          unfold filteredR
          rw [i4]
          split
          · rw [a3, b3]
            unfold rulesS
            exact same_upd h (by rw [e4])
          · exact h
        · exact h
theorem Four.derived (h : Four r) (n rights : Int) : Four (derivedR r n rights) ∧ (derivedR r n rights).life = r.life := by
  unfold derivedR
  split
  · have hnt := h.nt
    refine ⟨⟨h.nl, by show 4 ≤ r.nt + 1; omega, fun i hi => ?_, fun i hi => ?_, h.live, h.low, h.high, h.quota⟩, rfl⟩
    · show upd r.tok r.nt _ i = _
      rw [upd_other _ _ (by omega)]
      exact h.tok i hi
    · show (upd r.tok r.nt _ i).life = i
      rw [upd_other _ _ (by omega)]
      exact h.life i hi
  · exact ⟨h, rfl⟩
theorem Four.revoked (h : Four r) (n which : Int) : Four (revokedR r n which) ∧ (revokedR r n which).life = r.life := by
  unfold revokedR
  split
  · rename_i h0
    refine ⟨⟨h.nl, h.nt, fun i hi => ?_, fun i hi => ?_, h.live, h.low, h.high, h.quota⟩, rfl⟩
    · show upd r.tok (which - 1).toNat { r.tok (which - 1).toNat with revoked := true } i = _
      by_cases e : i = (which - 1).toNat
      · exfalso
        have ht := h.tok i hi
        unfold revokeR at h0
        rw [← e, ht] at h0
        split at h0
        · split at h0
          · simp [lineHas, revErr] at h0
          · omega
        · rename_i h1
          exact h1 h0
      · rw [upd_other _ _ e]; exact h.tok i hi
    · show (upd r.tok (which - 1).toNat { r.tok (which - 1).toNat with revoked := true } i).life = i
      by_cases e : i = (which - 1).toNat
      · rw [← e, upd_same]; exact h.life i hi
      · rw [upd_other _ _ e]; exact h.life i hi
  · exact ⟨h, rfl⟩
theorem Same2.life {r' : RefS} (h : Same2 r s) (e : r'.life = r.life) : Same2 r' s := fun i hi => by rw [e]; exact h i hi
end
theorem Four.start : Four (begF [6, 6, 20, 9] 4) := ⟨rfl, Nat.le_refl _, fun _ _ => rfl, fun _ _ => rfl, fun _ _ => rfl, fun _ _ => ⟨Int.le_refl _, by show (0 : Int) ≤ 15; omega, Int.le_refl _, by show (0 : Int) ≤ 15; omega⟩, fun _ _ _ => ⟨Int.le_refl _, rfl⟩, rfl⟩
/-- What the end of Isolated asks. -/
theorem iso_end {r s : RefS} (hr : Four r) (hs : Four s) (h : Same2 r s) (kr : RefOk r) (ks : RefOk s) : mayI r 1 1 = 0 ∧ mayI s 1 1 = 0 ∧ tableL s 1 = tableL r 1 ∧ (countF r 1).quota = 6 ∧ ((tableL r 1).length : Int) = (countF r 1).own + (countF r 1).taken ∧ (tableL r 1).length ≤ 64 := by
  obtain ⟨a1, b1, e1, _⟩ := iso_asked hr hs h kr ks (t := 0) (by omega)
  have e : ((0 : Nat) : Int) + 1 = 1 := rfl
  rw [e] at a1 b1 e1
  obtain ⟨_, a3⟩ := hr.firsts.may (i := 0) (by omega) (right := 1) (by decide)
  rw [e] at a3
  have hn : 0 < r.nl := by rw [hr.nl]; omega
  have hq := kr.wf.quota 0 hn
  have ho := kr.tab.ownN 0 hn
  refine ⟨a1, b1, e1.symm, ?_, ?_, ?_⟩
  · unfold countF; rw [if_pos a1, a3]; exact hr.quota
  · unfold countF tableL
    rw [if_pos a1, if_pos a1, a3]
    unfold tabF
    rw [tableR_len]
    show _ = ((r.life 0).own.length : Int) + ((takenF r 0).length : Int)
    unfold takenF
    omega
  · unfold tableL
    rw [if_pos a1, a3]
    unfold tabF
    rw [tableR_len]
    have := List.length_take_le (spare (r.life 0)) (offF r 0)
    have hsp : (spare (r.life 0) : Int) = (r.life 0).quota - (r.life 0).own.length := by unfold spare; omega
    omega
end Go.Proofs.Ytgndledehlilkaa
