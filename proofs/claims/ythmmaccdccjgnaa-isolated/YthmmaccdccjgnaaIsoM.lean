import Derived.Test.YthmmaccdccjgnaaHeldM
namespace Go.Proofs.Ythmmaccdccjgnaa
open Go.RowKit

theorem andF_nat (x m : Int) {k : Nat} (hm : (BitVec.ofInt 64 m).toNat = k) (hk : k < 256) : ∃ z : Nat, andF x m = (z : Int) ∧ z = (BitVec.ofInt 64 x).toNat &&& k := by
  have h3 : (BitVec.ofInt 64 x &&& BitVec.ofInt 64 m).toNat = (BitVec.ofInt 64 x).toNat &&& k := by rw [BitVec.toNat_and, hm]
  refine ⟨_, ?_, rfl⟩
  show IntKind.i64.wrap ((BitVec.ofInt 64 x &&& BitVec.ofInt 64 m).toNat : Int) = _
  rw [h3]
  have : (BitVec.ofInt 64 x).toNat &&& k ≤ k := Nat.and_le_right
  exact wrap_small (by omega) (by omega)
theorem andF_15 (x : Int) : 0 ≤ andF x 15 ∧ andF x 15 ≤ 15 := by
  obtain ⟨z, h1, h2⟩ := andF_nat x 15 (k := 15) (by decide) (by omega)
  have : (BitVec.ofInt 64 x).toNat &&& 15 ≤ 15 := Nat.and_le_right
  omega
theorem andF_240 (x : Int) : 0 ≤ andF x 240 ∧ andF x 240 ≤ 240 ∧ andF x 240 % 16 = 0 := by
  obtain ⟨z, h1, h2⟩ := andF_nat x 240 (k := 240) (by decide) (by omega)
  have h3 : (BitVec.ofInt 64 x).toNat &&& 240 ≤ 240 := Nat.and_le_right
  have h4 : ((BitVec.ofInt 64 x).toNat &&& 240) % 2 ^ 4 = 0 := by
    rw [Nat.and_mod_two_pow]
    show _ &&& 0 = 0
    exact Nat.and_zero _
  omega
theorem common_no {g k : Int} (_h0 : 0 ≤ g) (h1 : g % 16 = 0) (h2 : 0 ≤ k) (h3 : k ≤ 15) : commonB g k = false := by
  unfold commonB
  have key : ∀ j, j < 8 → (hasB g (pw j) && hasB k (pw j)) = false := by
    intro j hj
    have : j = 0 ∨ j = 1 ∨ j = 2 ∨ j = 3 ∨ j = 4 ∨ j = 5 ∨ j = 6 ∨ j = 7 := by omega
    unfold hasB pw
    rcases this with rfl | rfl | rfl | rfl | rfl | rfl | rfl | rfl
    · have : ((g / 2 ^ 0 % 2 == 1) : Bool) = false := by rw [beq_eq_false_iff_ne]; omega
      rw [this]; rfl
    · have : ((g / 2 ^ 1 % 2 == 1) : Bool) = false := by rw [beq_eq_false_iff_ne]; omega
      rw [this]; rfl
    · have : ((g / 2 ^ 2 % 2 == 1) : Bool) = false := by rw [beq_eq_false_iff_ne]; omega
      rw [this]; rfl
    · have : ((g / 2 ^ 3 % 2 == 1) : Bool) = false := by rw [beq_eq_false_iff_ne]; omega
      rw [this]; rfl
    · have : ((k / 2 ^ 4 % 2 == 1) : Bool) = false := by rw [beq_eq_false_iff_ne]; omega
      rw [this, Bool.and_false]
    · have : ((k / 2 ^ 5 % 2 == 1) : Bool) = false := by rw [beq_eq_false_iff_ne]; omega
      rw [this, Bool.and_false]
    · have : ((k / 2 ^ 6 % 2 == 1) : Bool) = false := by rw [beq_eq_false_iff_ne]; omega
      rw [this, Bool.and_false]
    · have : ((k / 2 ^ 7 % 2 == 1) : Bool) = false := by rw [beq_eq_false_iff_ne]; omega
      rw [this, Bool.and_false]
  have all : ∀ n, n ≤ 8 → commonTo g k n = false := by
    intro n
    induction n with
    | zero => intro _; rfl
    | succ n ih =>
      intro hn
      show (commonTo g k n || (hasB g (pw n) && hasB k (pw n))) = false
      rw [ih (by omega), key n (by omega)]
      rfl
  exact all 8 (Nat.le_refl _)
/-- One engine of Isolated. -/
structure Four (r : RefS) : Prop where
  nl : r.nl = 4
  nt : 4 ≤ r.nt
  tok : ∀ i, i < 2 → r.tok i = ⟨i, 15, [], false⟩
  life : ∀ i, i < 4 → (r.tok i).life = i
  live : ∀ i, i < 2 → (r.life i).gone = false
  low : ∀ i, i < 2 → 0 ≤ (r.life i).gives ∧ (r.life i).gives ≤ 15 ∧ 0 ≤ (r.life i).takes ∧ (r.life i).takes ≤ 15
  high : ∀ i, 2 ≤ i → i < 4 → 0 ≤ (r.life i).gives ∧ (r.life i).gives % 16 = 0
  quota : (r.life 0).quota = 6
theorem Four.firsts {r : RefS} (h : Four r) : Firsts r 2 := ⟨by have := h.nt; omega, h.tok, h.live⟩
/-- What is the same in both. -/
def Same2 (r s : RefS) : Prop := ∀ i, i < 2 → r.life i = s.life i
section
variable {r s : RefS}
theorem iso_cand (hr : Four r) (hs : Four s) (h : Same2 r s) {t : Nat} (ht : t < 2) {x : RouteD} : Cand r t x → Cand s t x := by
  rintro ⟨u, hu, hx, ho⟩
  rw [hr.nl] at hu
  obtain ⟨o1, o2, o3, o4, o5, o6⟩ := offerB_parts ho
  rcases Nat.lt_or_ge u 2 with hu2 | hu2
  · refine ⟨u, by rw [hs.nl]; exact hu, by rw [← h u hu2]; exact hx, ?_⟩
    unfold offerB at ho ⊢
    rw [← h u hu2, ← h t ht]
    exact ho
  · have g := hr.high u hu2 hu
    have k := hr.low t ht
    rw [common_no g.1 g.2 k.2.2.1 k.2.2.2] at o4
    cases o4
theorem iso_tab (hr : Four r) (hs : Four s) (h : Same2 r s) (kr : RefOk r) (ks : RefOk s) {t : Nat} (ht : t < 2) : offF r t = offF s t ∧ tabF r t = tabF s t ∧ takenF r t = takenF s t := by
  have hs' : Same2 s r := fun i hi => (h i hi).symm
  have e1 : offF r t = offF s t := by
    obtain ⟨s1, m1⟩ := offF_is kr.tab kr.own t
    obtain ⟨s2, m2⟩ := offF_is ks.tab ks.own t
    refine sorted_ext s1 s2 fun x => ?_
    rw [m1, m2]
    unfold Best
    exact ⟨fun ⟨a, b⟩ => ⟨iso_cand hr hs h ht a, fun y hy => b y (iso_cand hs hr hs' ht hy)⟩, fun ⟨a, b⟩ => ⟨iso_cand hs hr hs' ht a, fun y hy => b y (iso_cand hr hs h ht hy)⟩⟩
  have e2 := h t ht
  refine ⟨e1, ?_, ?_⟩
  · unfold tabF; rw [e1, e2]
  · unfold takenF; rw [e1, e2]
theorem iso_asked (hr : Four r) (hs : Four s) (h : Same2 r s) (kr : RefOk r) (ks : RefOk s) {t : Nat} (ht : t < 2) : mayI r ((t : Int) + 1) 1 = 0 ∧ mayI s ((t : Int) + 1) 1 = 0 ∧ tableL r ((t : Int) + 1) = tableL s ((t : Int) + 1) ∧ countF r ((t : Int) + 1) = countF s ((t : Int) + 1) := by
  obtain ⟨a1, a2⟩ := hr.firsts.may ht (right := 1) (by decide)
  obtain ⟨b1, b2⟩ := hs.firsts.may ht (right := 1) (by decide)
  obtain ⟨e1, e2, e3⟩ := iso_tab hr hs h kr ks ht
  have e4 := h t ht
  refine ⟨a1, b1, ?_, ?_⟩
  · unfold tableL; rw [if_pos a1, if_pos b1, a2, b2, e2]
  · unfold countF; rw [if_pos a1, if_pos b1, a2, b2, e1, e3, e4]
/-- A step of one of the first two is answered the same. -/
theorem iso_told (hr : Four r) (hs : Four s) (h : Same2 r s) (kr : RefOk r) (ks : RefOk s) {t : Nat} (ht : t < 2) (o : OpD) (mk : Int) : playT r ((t : Int) + 1) o mk = playT s ((t : Int) + 1) o mk := by
  obtain ⟨a1, b1, e1, e2⟩ := iso_asked hr hs h kr ks ht
  obtain ⟨a2, a3⟩ := hr.firsts.may ht (right := 2) (by decide)
  obtain ⟨b2, b3⟩ := hs.firsts.may ht (right := 2) (by decide)
  obtain ⟨a4, _⟩ := hr.firsts.may ht (right := 4) (by decide)
  obtain ⟨b4, _⟩ := hs.firsts.may ht (right := 4) (by decide)
  have e4 := h t ht
  have i1 : ∀ a l p, insertR r ((t : Int) + 1) a l p = insertR s ((t : Int) + 1) a l p := fun a l p => by unfold insertR newRoute; rw [a2, b2, a3, b3, e4]
  have i2 : ∀ a l, removeR r ((t : Int) + 1) a l = removeR s ((t : Int) + 1) a l := fun a l => by unfold removeR; rw [a2, b2, a3, b3, e4]
  have i3 : ∀ a l, shareR r ((t : Int) + 1) a l = shareR s ((t : Int) + 1) a l := fun a l => by unfold shareR; rw [a4, b4]
  have i4 : ∀ R, filterR r ((t : Int) + 1) R = filterR s ((t : Int) + 1) R := fun R => by unfold filterR; rw [a4, b4]
  have i5 : ∀ a, lookR r ((t : Int) + 1) a = lookR s ((t : Int) + 1) a := fun a => by unfold lookR; rw [a1, b1, e1]
  have i6 : ∀ a, lookA r ((t : Int) + 1) a = lookA s ((t : Int) + 1) a := fun a => by unfold lookA; rw [a1, b1, e1]
  have i7 : ∀ a p, passR r ((t : Int) + 1) a p = passR s ((t : Int) + 1) a p := fun a p => by unfold passR; rw [a1, b1]
  have i8 : ∀ a p b, passA r ((t : Int) + 1) a p b = passA s ((t : Int) + 1) a p b := fun a p b => by unfold passA; rw [a1, b1, e1]
  unfold playT
  rw [i1, i2, i3, i4, i5, i6, i7, i8, a1, b1, e1, e2]
end
/-- What a step leaves, with its marks. -/
def OneLifeM (r r' : RefS) (l : Nat) (o : OpD) (mk : Int) : Prop := ∃ L : Life, r' = { r with life := upd r.life l L } ∧ L.no = (r.life l).no ∧ L.quota = (r.life l).quota ∧ L.gone = (r.life l).gone ∧ ((L.gives = (r.life l).gives ∧ L.takes = (r.life l).takes) ∨ (L.gives = andF o.a mk ∧ L.takes = andF o.b mk))
theorem playS_marks (r : RefS) (n : Int) (o : OpD) (mk : Int) : playS r n o mk = r ∨ OneLifeM r (playS r n o mk) (lifeOf r n) o mk := by
  unfold playS
  split
  · unfold insertedR
    split
    · exact .inr ⟨_, rfl, rfl, rfl, rfl, .inl ⟨rfl, rfl⟩⟩
    · exact .inl rfl
  · split
    · unfold removedR
      split
      · exact .inr ⟨_, rfl, rfl, rfl, rfl, .inl ⟨rfl, rfl⟩⟩
      · exact .inl rfl
    · split
      · unfold sharedR
        split
        · exact .inr ⟨_, rfl, rfl, rfl, rfl, .inr ⟨rfl, rfl⟩⟩
        · exact .inl rfl
      · split
        · unfold filteredR
          split
          · exact .inr ⟨_, rfl, rfl, rfl, rfl, .inl ⟨rfl, rfl⟩⟩
          · exact .inl rfl
        · exact .inl rfl
theorem Four.lifeOf {r : RefS} (h : Four r) {t : Nat} (ht : t < 4) : lifeOf r ((t : Int) + 1) = t := by
  unfold Go.Proofs.Ythmmaccdccjgnaa.lifeOf
  have e0 : ((t : Int) + 1 - 1).toNat = t := by omega
  rw [e0]
  exact h.life t ht
theorem Four.turn {r r' : RefS} (h : Four r) {l : Nat} {o : OpD} {mk : Int} (ho : OneLifeM r r' l o mk) (hmk : (l < 2 ∧ mk = 15) ∨ (2 ≤ l ∧ l < 4 ∧ mk = 240)) : Four r' := by
  obtain ⟨L, rfl, h1, h2, h3, h4⟩ := ho
  refine ⟨h.nl, h.nt, h.tok, h.life, fun i hi => ?_, fun i hi => ?_, fun i hi hi4 => ?_, ?_⟩
  · show (upd r.life l L i).gone = false
    by_cases e : i = l
    · subst e; rw [upd_same, h3]; exact h.live i hi
    · rw [upd_other _ _ e]; exact h.live i hi
  · show 0 ≤ (upd r.life l L i).gives ∧ (upd r.life l L i).gives ≤ 15 ∧ 0 ≤ (upd r.life l L i).takes ∧ (upd r.life l L i).takes ≤ 15
    by_cases e : i = l
    · subst e
      rw [upd_same]
      have hl := h.low i hi
      rcases hmk with ⟨_, rfl⟩ | ⟨h5, _⟩
      · rcases h4 with ⟨e1, e2⟩ | ⟨e1, e2⟩
        · rw [e1, e2]; exact hl
        · have := andF_15 o.a
          have := andF_15 o.b
          rw [e1, e2]; omega
      · omega
    · rw [upd_other _ _ e]; exact h.low i hi
  · show 0 ≤ (upd r.life l L i).gives ∧ (upd r.life l L i).gives % 16 = 0
    by_cases e : i = l
    · subst e
      rw [upd_same]
      have hl := h.high i hi hi4
      rcases hmk with ⟨h5, _⟩ | ⟨_, _, rfl⟩
      · omega
      · rcases h4 with ⟨e1, e2⟩ | ⟨e1, e2⟩
        · rw [e1]; exact hl
        · have := andF_240 o.a
          rw [e1]; omega
    · rw [upd_other _ _ e]; exact h.high i hi hi4
  · show (upd r.life l L 0).quota = 6
    by_cases e : 0 = l
    · subst e; rw [upd_same, h2]; exact h.quota
    · rw [upd_other _ _ e]; exact h.quota
theorem Four.play {r : RefS} (h : Four r) {t : Nat} (o : OpD) {mk : Int} (hmk : (t < 2 ∧ mk = 15) ∨ (2 ≤ t ∧ t < 4 ∧ mk = 240)) : Four (playS r ((t : Int) + 1) o mk) := by
  have ht : t < 4 := by omega
  rcases playS_marks r ((t : Int) + 1) o mk with e | e
  · rw [e]; exact h
  · rw [h.lifeOf ht] at e
    exact h.turn e hmk
theorem Same2.high {r s r' : RefS} (h : Same2 r s) {l : Nat} (hl : 2 ≤ l) {o : OpD} {mk : Int} (ho : r' = r ∨ OneLifeM r r' l o mk) : Same2 r' s := by
  rcases ho with rfl | ⟨L, rfl, _⟩
  · exact h
  · intro i hi
    show upd r.life l L i = _
    rw [upd_other _ _ (by omega)]
    exact h i hi
theorem same_upd {r s : RefS} (h : Same2 r s) {t : Nat} {L M : Life} (e : L = M) : Same2 { r with life := upd r.life t L } { s with life := upd s.life t M } := by
  subst e
  intro i hi
  show upd r.life t L i = upd s.life t L i
  by_cases e : i = t
  · subst e; rw [upd_same, upd_same]
  · rw [upd_other _ _ e, upd_other _ _ e]; exact h i hi
section
variable {r s : RefS}
theorem iso_play (hr : Four r) (hs : Four s) (h : Same2 r s) {t : Nat} (ht : t < 2) (o : OpD) (mk : Int) : Same2 (playS r ((t : Int) + 1) o mk) (playS s ((t : Int) + 1) o mk) := by
  obtain ⟨a2, a3⟩ := hr.firsts.may ht (right := 2) (by decide)
  obtain ⟨b2, b3⟩ := hs.firsts.may ht (right := 2) (by decide)
  obtain ⟨a4, _⟩ := hr.firsts.may ht (right := 4) (by decide)
  obtain ⟨b4, _⟩ := hs.firsts.may ht (right := 4) (by decide)
  have e4 := h t ht
  unfold playS
  split
  · have i1 : ∀ a l p, insertR r ((t : Int) + 1) a l p = insertR s ((t : Int) + 1) a l p := fun a l p => by unfold insertR newRoute; rw [a2, b2, a3, b3, e4]
    unfold insertedR
    rw [i1]
    split
    · rw [a3, b3]
      unfold ownS newRoute
      rw [a3, b3]
      exact same_upd h (by rw [e4])
    · exact h
  · split
    · have i2 : ∀ a l, removeR r ((t : Int) + 1) a l = removeR s ((t : Int) + 1) a l := fun a l => by unfold removeR; rw [a2, b2, a3, b3, e4]
      unfold removedR
      rw [i2]
      split
      · rw [a3, b3]
        unfold ownS
        exact same_upd h (by rw [e4])
      · exact h
    · split
      · have i3 : ∀ a l, shareR r ((t : Int) + 1) a l = shareR s ((t : Int) + 1) a l := fun a l => by unfold shareR; rw [a4, b4]
        unfold sharedR
        rw [i3]
        split
        · rw [a3, b3]
          unfold shareS
          exact same_upd h (by rw [e4])
        · exact h
      · split
        · have i4 : ∀ R, filterR r ((t : Int) + 1) R = filterR s ((t : Int) + 1) R := fun R => by unfold filterR; rw [a4, b4]
          unfold filteredR
          rw [i4]
          split
          · rw [a3, b3]
            unfold rulesS
            exact same_upd h (by rw [e4])
          · exact h
        · exact h
theorem Four.derived (h : Four r) (n rights : Int) : Four (derivedR r n rights) ∧ (derivedR r n rights).life = r.life := by
  unfold derivedR
  split
  · have hnt := h.nt
    refine ⟨⟨h.nl, by show 4 ≤ r.nt + 1; omega, fun i hi => ?_, fun i hi => ?_, h.live, h.low, h.high, h.quota⟩, rfl⟩
    · show upd r.tok r.nt _ i = _
      rw [upd_other _ _ (by omega)]
      exact h.tok i hi
    · show (upd r.tok r.nt _ i).life = i
      rw [upd_other _ _ (by omega)]
      exact h.life i hi
  · exact ⟨h, rfl⟩
theorem Four.revoked (h : Four r) (n which : Int) : Four (revokedR r n which) ∧ (revokedR r n which).life = r.life := by
  unfold revokedR
  split
  · rename_i h0
    refine ⟨⟨h.nl, h.nt, fun i hi => ?_, fun i hi => ?_, h.live, h.low, h.high, h.quota⟩, rfl⟩
    · show upd r.tok (which - 1).toNat { r.tok (which - 1).toNat with revoked := true } i = _
      by_cases e : i = (which - 1).toNat
      · exfalso
        have ht := h.tok i hi
        unfold revokeR at h0
        rw [← e, ht] at h0
        split at h0
        · split at h0
          · simp [lineHas, revErr] at h0
          · omega
        · rename_i h1
          exact h1 h0
      · rw [upd_other _ _ e]; exact h.tok i hi
    · show (upd r.tok (which - 1).toNat { r.tok (which - 1).toNat with revoked := true } i).life = i
      by_cases e : i = (which - 1).toNat
      · rw [← e, upd_same]; exact h.life i hi
      · rw [upd_other _ _ e]; exact h.life i hi
  · exact ⟨h, rfl⟩
theorem Same2.life {r' : RefS} (h : Same2 r s) (e : r'.life = r.life) : Same2 r' s := fun i hi => by rw [e]; exact h i hi
end
theorem Four.start : Four (begF [6, 6, 20, 9] 4) := ⟨rfl, Nat.le_refl _, fun _ _ => rfl, fun _ _ => rfl, fun _ _ => rfl, fun _ _ => ⟨Int.le_refl _, by show (0 : Int) ≤ 15; omega, Int.le_refl _, by show (0 : Int) ≤ 15; omega⟩, fun _ _ _ => ⟨Int.le_refl _, rfl⟩, rfl⟩
/-- What the end of Isolated asks. -/
theorem iso_end {r s : RefS} (hr : Four r) (hs : Four s) (h : Same2 r s) (kr : RefOk r) (ks : RefOk s) : mayI r 1 1 = 0 ∧ mayI s 1 1 = 0 ∧ tableL s 1 = tableL r 1 ∧ (countF r 1).quota = 6 ∧ ((tableL r 1).length : Int) = (countF r 1).own + (countF r 1).taken ∧ (tableL r 1).length ≤ 64 := by
  obtain ⟨a1, b1, e1, _⟩ := iso_asked hr hs h kr ks (t := 0) (by omega)
  have e : ((0 : Nat) : Int) + 1 = 1 := rfl
  rw [e] at a1 b1 e1
  obtain ⟨_, a3⟩ := hr.firsts.may (i := 0) (by omega) (right := 1) (by decide)
  rw [e] at a3
  have hn : 0 < r.nl := by rw [hr.nl]; omega
  have hq := kr.wf.quota 0 hn
  have ho := kr.tab.ownN 0 hn
  refine ⟨a1, b1, e1.symm, ?_, ?_, ?_⟩
  · unfold countF; rw [if_pos a1, a3]; exact hr.quota
  · unfold countF tableL
    rw [if_pos a1, if_pos a1, a3]
    unfold tabF
    rw [tableR_len]
    show _ = ((r.life 0).own.length : Int) + ((takenF r 0).length : Int)
    unfold takenF
    omega
  · unfold tableL
    rw [if_pos a1, a3]
    unfold tabF
    rw [tableR_len]
    have := List.length_take_le (spare (r.life 0)) (offF r 0)
    have hsp : (spare (r.life 0) : Int) = (r.life 0).quota - (r.life 0).own.length := by unfold spare; omega
    omega

theorem eqSumsK (x : SumsD) (w : World) : (binOp .eql 32 (.agg #[.int .i64 x.own, .int .i64 x.taken, .int .i64 x.dropped, .int .i64 x.quota]) (.agg #[.int .i64 x.own, .int .i64 x.taken, .int .i64 x.dropped, .int .i64 x.quota])).run Try.prog w = .ok (.bool true) w := by
  have hu := Try.underlying32
  have hf : Try.prog.underlying 32 = some (.struct (Try.prog.fieldsOf 32)) := by unfold Program.fieldsOf; rw [hu]
  have hp : Try.prog.stoodInHeld 32 = false := by kernel_rfl
  rw [run_eql_struct, run_equalIn_struct w 9999 _ _ _ hf hp]
  unfold Program.fieldsOf
  rw [hu]
  simp [Op.eqFields, go_sem, Try.underlying3]
theorem toldArr2 (t : ToldD) (lv : Value) : (toldCells t lv).toArray = #[.int .i64 t.e, lv, .int .i64 t.s.own, .int .i64 t.s.taken, .int .i64 t.s.dropped, .int .i64 t.s.quota, .int .i64 t.r.addr, .int .i64 t.r.len, .int .i64 t.r.hop, .int .i64 t.r.from_, .bool t.b] := rfl
theorem ToldAt.make2 (w : World) (t : ToldD) (lv : Value) (ty : TypeId) : ToldAt (w.alloc (.cells #[.int .i64 t.e, lv, .int .i64 t.s.own, .int .i64 t.s.taken, .int .i64 t.s.dropped, .int .i64 t.s.quota, .int .i64 t.r.addr, .int .i64 t.r.len, .int .i64 t.r.hop, .int .i64 t.r.from_, .bool t.b] ty)) w.heap.size t lv := by
  refine ⟨by simp, fun j => World.frozen?_alloc_new _ _ _ _, ?_, ?_, ?_, ?_, ?_, ?_, ?_, ?_, ?_, ?_, ?_⟩ <;> rw [World.cell?_alloc_new] <;> rfl
set_option maxHeartbeats 8000000 in
theorem sameK {w : World} {base base' : Nat} (td : ToldD) {a a' : Option Addr} {c c' : Nat} (h : w.ownsRow base 34 4 (.slice a td.l.length c) td.l.length (td.l.flatMap routeCells)) (h' : w.ownsRow base' 34 4 (.slice a' td.l.length c') td.l.length (td.l.flatMap routeCells)) (hl : td.l.length ≤ 1000000) :
    Calls Try.prog 13 #[.agg #[.int .i64 td.e, .slice a td.l.length c, .int .i64 td.s.own, .int .i64 td.s.taken, .int .i64 td.s.dropped, .int .i64 td.s.quota, .int .i64 td.r.addr, .int .i64 td.r.len, .int .i64 td.r.hop, .int .i64 td.r.from_, .bool td.b], .agg #[.int .i64 td.e, .slice a' td.l.length c', .int .i64 td.s.own, .int .i64 td.s.taken, .int .i64 td.s.dropped, .int .i64 td.s.quota, .int .i64 td.r.addr, .int .i64 td.r.len, .int .i64 td.r.hop, .int .i64 td.r.from_, .bool td.b]] w fun e w' => e = .returned (.bool true) ∧ Still w w' := by
  have hS1 : Still w (w.alloc (.cells #[.int .i64 td.e, .slice a td.l.length c, .int .i64 td.s.own, .int .i64 td.s.taken, .int .i64 td.s.dropped, .int .i64 td.s.quota, .int .i64 td.r.addr, .int .i64 td.r.len, .int .i64 td.r.hop, .int .i64 td.r.from_, .bool td.b] 36)) := (Kept.refl _ _).alloc _
  have ht1 := ToldAt.make2 w td (.slice a td.l.length c) 36
  generalize hW1 : w.alloc (.cells #[.int .i64 td.e, .slice a td.l.length c, .int .i64 td.s.own, .int .i64 td.s.taken, .int .i64 td.s.dropped, .int .i64 td.s.quota, .int .i64 td.r.addr, .int .i64 td.r.len, .int .i64 td.r.hop, .int .i64 td.r.from_, .bool td.b] 36) = W1 at hS1 ht1
  have hs1 : W1.heap.size = w.heap.size + 1 := by rw [← hW1]; simp
  have hS2 : Still W1 (W1.alloc (.cells #[.int .i64 td.e, .slice a' td.l.length c', .int .i64 td.s.own, .int .i64 td.s.taken, .int .i64 td.s.dropped, .int .i64 td.s.quota, .int .i64 td.r.addr, .int .i64 td.r.len, .int .i64 td.r.hop, .int .i64 td.r.from_, .bool td.b] 36)) := (Kept.refl _ _).alloc _
  have ht2 := ToldAt.make2 W1 td (.slice a' td.l.length c') 36
  generalize hW2 : W1.alloc (.cells #[.int .i64 td.e, .slice a' td.l.length c', .int .i64 td.s.own, .int .i64 td.s.taken, .int .i64 td.s.dropped, .int .i64 td.s.quota, .int .i64 td.r.addr, .int .i64 td.r.len, .int .i64 td.r.hop, .int .i64 td.r.from_, .bool td.b] 36) = W2 at hS2 ht2
  have HW : Hid ((w.alloc (.cells #[.int .i64 td.e, .slice a td.l.length c, .int .i64 td.s.own, .int .i64 td.s.taken, .int .i64 td.s.dropped, .int .i64 td.s.quota, .int .i64 td.r.addr, .int .i64 td.r.len, .int .i64 td.r.hop, .int .i64 td.r.from_, .bool td.b] 36)).alloc (.cells #[.int .i64 td.e, .slice a' td.l.length c', .int .i64 td.s.own, .int .i64 td.s.taken, .int .i64 td.s.dropped, .int .i64 td.s.quota, .int .i64 td.r.addr, .int .i64 td.r.len, .int .i64 td.r.hop, .int .i64 td.r.from_, .bool td.b] 36) = W2) := by
    show _ = W2
    rw [hW1, hW2]
  rw [hs1] at ht2
  have HT1 := hide (ht1.kept hS2 (fun q => q))
  have HT2 := hide ht2
  have HST := hide (hS1.trans hS2)
  have HR := hide (kept_row h (hS1.trans hS2) (fun _ _ q => q))
  have HR' := hide (kept_row h' (hS1.trans hS2) (fun _ _ q => q))
  have q1 := (unhide HT1).c1
  have q2 := (unhide HT2).c1
  have ql1 := (unhide HT1).lt
  have ql2 := (unhide HT2).lt
  clear hS1 hS2 ht1 ht2 hW1 hW2 hs1 h h'
  go_enter Try.func13, Try.ntmps13
  go_wp2_with fail
  rw [unhide HW]
  generalize w.heap.size = s0 at *
  refine (alikeK (unhide HR) (unhide HR') hl).mono ?_
  rintro en w3 ⟨rfl, hs3⟩
  have ta := (unhide HT1).kept hs3 (fun q => q)
  have tb := (unhide HT2).kept hs3 (fun q => q)
  have a0 := ta.c0
  have a2 := ta.c2
  have a3 := ta.c3
  have a4 := ta.c4
  have a5 := ta.c5
  have a6 := ta.c6
  have a7 := ta.c7
  have a8 := ta.c8
  have a9 := ta.c9
  have a10 := ta.c10
  have al := ta.lt
  have b0 := tb.c0
  have b2 := tb.c2
  have b3 := tb.c3
  have b4 := tb.c4
  have b5 := tb.c5
  have b6 := tb.c6
  have b7 := tb.c7
  have b8 := tb.c8
  have b9 := tb.c9
  have b10 := tb.c10
  have bl := tb.lt
  have hE1 := fun w => eqSumsK td.s w
  have hE2 : ∀ w, (binOp .eql 34 (.agg #[.int .i64 td.r.addr, .int .i64 td.r.len, .int .i64 td.r.hop, .int .i64 td.r.from_]) (.agg #[.int .i64 td.r.addr, .int .i64 td.r.len, .int .i64 td.r.hop, .int .i64 td.r.from_])).run Try.prog w = .ok (.bool true) w := fun w => by
    rw [eqRoute, (eqR_iff td.r td.r).2 rfl]
  have HS3 := hide (Kept.trans (unhide HST) hs3)
  clear ta tb hs3 q1 q2 ql1 ql2
  cases hb : td.b with
  | true =>
    rw [hb] at a10 b10
    go_wp2
    go_ret
    exact ⟨rfl, unhide HS3⟩
  | false =>
    rw [hb] at a10 b10
    go_wp2
    go_ret
    exact ⟨rfl, unhide HS3⟩

theorem tableL_le {r : RefS} (hk : RefOk r) (n : Int) : (tableL r n).length ≤ 64 := by
  unfold tableL
  split
  · rename_i h
    have hl := may_life hk h
    have hq := hk.wf.quota _ hl
    exact (tableR_le hq.1 hq.2 (hk.tab.ownN _ hl)).2
  · simp
theorem told_len {r : RefS} (hk : RefOk r) (n : Int) (o : OpD) (mk : Int) : (playT r n o mk).l.length ≤ 1000000 := by
  have := tableL_le hk n
  unfold playT
  repeat' split
  all_goals first | (show ([] : List RouteD).length ≤ _; simp) | (show (tableL r n).length ≤ _; omega)
theorem begun4 (w : World) :
    Calls Try.prog 10 #[.slice (some ⟨w.heap.size, 0, none⟩) 4 4] (w.alloc (.cells #[.int .i64 6, .int .i64 6, .int .i64 20, .int .i64 9] 3)) fun en w' =>
      ∃ b, en = .returned (.pointer (some ⟨b, 0, none⟩)) ∧ On (w.alloc (.cells #[.int .i64 6, .int .i64 6, .int .i64 20, .int .i64 9] 3)) w' (oneTag b) 1 b (begF [6, 6, 20, 9] 4) := by
  have hcell : ∀ j, j < ([6, 6, 20, 9] : List Int).length → (w.alloc (.cells #[.int .i64 6, .int .i64 6, .int .i64 20, .int .i64 9] 3)).cell? ⟨w.heap.size, j, none⟩ = some (.int .i64 (([6, 6, 20, 9] : List Int).getD j 0)) := by
    intro j hj
    rw [World.cell?_alloc_new]
    have hj' : j < 4 := hj
    have : j = 0 ∨ j = 1 ∨ j = 2 ∨ j = 3 := by omega
    rcases this with rfl | rfl | rfl | rfl <;> rfl
  have hg : w.heap.size < (w.alloc (.cells #[.int .i64 6, .int .i64 6, .int .i64 20, .int .i64 9] 3)).heap.size := by simp
  have hB := begunK (w := w.alloc (.cells #[.int .i64 6, .int .i64 6, .int .i64 20, .int .i64 9] 3)) (g := w.heap.size) (cap := 4) (Q := [6, 6, 20, 9]) (fun _ => (0, 0, 0)) 1 (fun _ _ => by simp) (by
    intro j hj
    have hj' : j < 4 := hj
    have : j = 0 ∨ j = 1 ∨ j = 2 ∨ j = 3 := by omega
    rcases this with rfl | rfl | rfl | rfl <;> decide) (by decide) (by decide) hg hcell
  refine Calls.mono hB ?_
  rintro en w' ⟨b, O', rfl, _, hon⟩
  exact ⟨b, rfl, On.alone hon⟩
/-- The two engines. -/
structure IsoAt (V0 w : World) (bx by_ : Nat) (r s : RefS) : Prop where
  pair : Pair V0 w bx by_ r s
  fr : Four r
  fs : Four s
  same : Same2 r s
theorem Pair.leftK {w0 w w' : World} {b c : Nat} {r s r' : RefS} (h : Pair w0 w b c r s) (hon : On w0 w' (oneTag b) 1 b r') (hk : Kept (· = b) w w') : Pair w0 w' b c r' s := ⟨hon, h.y.past hk h.ne h.x.here, h.ne⟩
theorem Pair.rightK {w0 w w' : World} {b c : Nat} {r s s' : RefS} (h : Pair w0 w b c r s) (hon : On w0 w' (oneTag c) 1 c s') (hk : Kept (· = c) w w') : Pair w0 w' b c r s' := ⟨h.x.past hk (fun e => h.ne e.symm) h.y.here, hon, h.ne⟩
theorem iso_high {r s : RefS} (hr : Four r) (h : Same2 r s) {t : Nat} (h2 : 2 ≤ t) (h4 : t < 4) (o : OpD) : Four (playS r ((t : Int) + 1) o 240) ∧ Same2 (playS r ((t : Int) + 1) o 240) s := by
  have hm := playS_marks r ((t : Int) + 1) o 240
  rw [hr.lifeOf h4] at hm
  exact ⟨hr.play o (.inr ⟨h2, h4, rfl⟩), h.high h2 hm⟩
set_option maxRecDepth 20000 in
set_option maxHeartbeats 16000000 in
theorem isolated_any {w : World} {a : Option Addr} {n cap : Nat} {X : Nat → OpD} (h : OpsIn w a n X) :
    Calls Try.prog 3 #[.slice a n cap] w fun e w' => e = .returned (.bool true) ∧ Still w w' := by
  have HB := hide (begun4 w)
  have hS0 : Still w (w.alloc (.cells #[.int .i64 6, .int .i64 6, .int .i64 20, .int .i64 9] 3)) := (Kept.refl _ _).alloc _
  have HS0 := hide hS0
  have HOPS := hide h
  have hnm := h.most
  clear h hS0
  go_enter Try.func3, Try.ntmps3
  go_wp2_with fail
  refine (unhide HB).mono ?_
  rintro en w1 ⟨bx, rfl, hx⟩
  have HX := hide hx
  clear hx HB
  generalize w.alloc (.cells #[.int .i64 6, .int .i64 6, .int .i64 20, .int .i64 9] 3) = V0 at *
  have HB := hide (begun4 w1)
  have hS1 : Still w1 (w1.alloc (.cells #[.int .i64 6, .int .i64 6, .int .i64 20, .int .i64 9] 3)) := (Kept.refl _ _).alloc _
  have HS1 := hide hS1
  clear hS1
  go_wp2_with fail
  refine (unhide HB).mono ?_
  rintro en w2 ⟨by_, rfl, hy⟩
  have HI : Hid (IsoAt V0 w2 bx by_ (begF [6, 6, 20, 9] 4) (begF [6, 6, 20, 9] 4)) := ⟨pair_start (unhide HX) (unhide HS1) hy, Four.start, Four.start, fun _ _ => rfl⟩
  clear hy HB HX HS1
  generalize begF [6, 6, 20, 9] 4 = r0 at *
  go_wp2
  go_loopw [5, 6, 7, 8, 9, 10, 11, 12, 13] (fun la i _ _ _ _ _ _ _ w' => ∃ k : Nat, k ≤ n ∧ i = .int .i64 k ∧ ∃ lv : Int, la = .int .i64 lv ∧ ∃ r s, IsoAt V0 w' bx by_ r s) (fun _ i _ _ _ _ _ _ _ _ => n - (intOf i).toNat)
  case atStart => exact ⟨0, by omega, rfl, 3, rfl, r0, r0, unhide HI⟩
  case round =>
    obtain ⟨k, hk, rfl, lv, rfl, r, s, hi⟩ := hrel
    have HIR := hide hi
    clear hi HI
    by_cases hkn : k < n
    · obtain ⟨bs, off, rfl, hbs, hX⟩ := (unhide HOPS).at_ (by omega)
      obtain ⟨ho, d0, d1, d2, d3, d4, d5⟩ := hX k hkn
      have hst : Still w wr := (unhide HS0).trans (unhide HIR).pair.x.still
      have x0 := (hst.cell bs _ hbs).trans d0
      have x1 := (hst.cell bs _ hbs).trans d1
      have x2 := (hst.cell bs _ hbs).trans d2
      have x3 := (hst.cell bs _ hbs).trans d3
      have x4 := (hst.cell bs _ hbs).trans d4
      have x5 := (hst.cell bs _ hbs).trans d5
      have hbsw : bs < wr.heap.size := Nat.lt_of_lt_of_le hbs hst.size
      have hk0 : (0 : Int) ≤ (k : Int) := by omega
      have hkl : (k : Int) < (n : Int) := by omega
      generalize X k = o at *
      have hSA : Still wr (wr.alloc (.cells #[.int .i64 o.kind, .int .i64 o.who, .int .i64 o.a, .int .i64 o.b, .int .i64 o.c, .int .i64 o.d] 27)) := (Kept.refl _ _).alloc _
      have hbo := BoxO.new wr o 27
      have HBO := hide hbo
      have HP := hide ((unhide HIR).pair.again hSA)
      have HFR := hide (unhide HIR).fr
      have HFS := hide (unhide HIR).fs
      have HSM := hide (unhide HIR).same
      have HO := hide ho
      have hbl : bx < wr.heap.size := (unhide HIR).pair.x.lt
      have hyl : by_ < wr.heap.size := (unhide HIR).pair.y.lt
      have hwr := pickF_range o.who (n := 4) (by omega)
      obtain ⟨t, hpt⟩ : ∃ t : Nat, pickF o.who 4 = (t : Int) := ⟨(pickF o.who 4).toNat, by omega⟩
      have ht : t < 4 := by omega
      have HPT := hide hpt
      have b0 := hbo.c0
      have b1 := hbo.c1
      have b2 := hbo.c2
      have b3 := hbo.c3
      have b4 := hbo.c4
      have b5 := hbo.c5
      have bl := hbo.lt
      clear hX ho d0 d1 d2 d3 d4 d5 hst hSA hbo HIR hwr hpt
      go_wp2_with fail
      generalize hso : wr.heap.size = s7 at *
      generalize wr.alloc (.cells #[.int .i64 o.kind, .int .i64 o.who, .int .i64 o.a, .int .i64 o.b, .int .i64 o.c, .int .i64 o.d] 27) = U at *
      refine (pickK _ _ _ (by omega) (unhide HO).w0 (unhide HO).w1).mono ?_
      rintro en w' ⟨rfl, hw⟩
      replace hw := hw.symm
      subst hw
      rw [unhide HPT]
      have hwt : IntKind.i64.wrap ((t : Int) + 1) = (t : Int) + 1 := wrap_small (by omega) (by omega)
      clear x0 x1 x2 x3 x4 x5
      by_cases ht2 : t < 2
      · have hd : decide ((t : Int) < 2) = true := decide_eq_true (by omega)
        have HT := hide (iso_told (unhide HFR) (unhide HFS) (unhide HSM) (unhide HP).x.ok (unhide HP).y.ok ht2 o 15)
        have HTL := hide (told_len (unhide HP).x.ok ((t : Int) + 1) o 15)
        have HF1 := hide ((unhide HFR).play (t := t) o (mk := 15) (.inl ⟨ht2, rfl⟩))
        have HF2 := hide ((unhide HFS).play (t := t) o (mk := 15) (.inl ⟨ht2, rfl⟩))
        have HS2 := hide (iso_play (unhide HFR) (unhide HFS) (unhide HSM) ht2 o 15)
        go_wp2_with fail
        refine (playK (unhide HP).x o (unhide HO) ((t : Int) + 1) 15).mono ?_
        intro en w3 hp3
        obtain ⟨la3, lc3, rfl, hrow3, hon3, hk3⟩ := hp3
        rw [toldArr2]
        generalize htd : playT r ((t : Int) + 1) o 15 = td at *
        generalize playS r ((t : Int) + 1) o 15 = r3 at *
        have hS3 : Still w3 (w3.alloc (.cells #[.int .i64 td.e, .slice la3 td.l.length lc3, .int .i64 td.s.own, .int .i64 td.s.taken, .int .i64 td.s.dropped, .int .i64 td.s.quota, .int .i64 td.r.addr, .int .i64 td.r.len, .int .i64 td.r.hop, .int .i64 td.r.from_, .bool td.b] 36)) := (Kept.refl _ _).alloc _
        have ht3 := ToldAt.make2 w3 td (.slice la3 td.l.length lc3) 36
        have hbo3 := ((unhide HBO).kept hk3 (by omega)).kept hS3 (fun q => q)
        have HP3 := hide (((unhide HP).leftK hon3 hk3).again hS3)
        have HR3 := hide (kept_row hrow3 hS3 (fun _ _ q => q))
        have HT3 := hide ht3
        have HBO3 := hide hbo3
        have hx3 : bx < w3.heap.size := hon3.lt
        have hy3 : by_ < w3.heap.size := Nat.lt_of_lt_of_le (by have := (unhide HP).y.lt; exact this) hk3.size
        have e0 := hbo3.c0
        have e1 := hbo3.c1
        have e2 := hbo3.c2
        have e3 := hbo3.c3
        have e4 := hbo3.c4
        have e5 := hbo3.c5
        have el := hbo3.lt
        have hUs : by_ < U.heap.size := (unhide HP).y.lt
        clear hrow3 hon3 hk3 hS3 ht3 hbo3 HBO HP b0 b1 b2 b3 b4 b5 bl htd
        go_wp2_with fail
        generalize hs9 : w3.heap.size = s9 at *
        generalize w3.alloc (.cells #[.int .i64 td.e, .slice la3 td.l.length lc3, .int .i64 td.s.own, .int .i64 td.s.taken, .int .i64 td.s.dropped, .int .i64 td.s.quota, .int .i64 td.r.addr, .int .i64 td.r.len, .int .i64 td.r.hop, .int .i64 td.r.from_, .bool td.b] 36) = W3 at *
        refine (playK (unhide HP3).y o (unhide HO) ((t : Int) + 1) 15).mono ?_
        intro en w4 hp4
        obtain ⟨la4, lc4, rfl, hrow4, hon4, hk4⟩ := hp4
        have hte := unhide HT
        rw [← hte] at hrow4 ⊢
        rw [toldArr2]
        generalize playS s ((t : Int) + 1) o 15 = s4 at *
        have hS4 : Still w4 (w4.alloc (.cells #[.int .i64 td.e, .slice la4 td.l.length lc4, .int .i64 td.s.own, .int .i64 td.s.taken, .int .i64 td.s.dropped, .int .i64 td.s.quota, .int .i64 td.r.addr, .int .i64 td.r.len, .int .i64 td.r.hop, .int .i64 td.r.from_, .bool td.b] 36)) := (Kept.refl _ _).alloc _
        have ht4 := ToldAt.make2 w4 td (.slice la4 td.l.length lc4) 36
        have ht3 := ((unhide HT3).kept hk4 (by omega)).kept hS4 (fun q => q)
        have HR3b := hide (kept_row (kept_row (unhide HR3) hk4 (fun g hg => by have := ((unhide HR3).lt g hg).1; omega)) hS4 (fun _ _ q => q))
        have HR4 := hide (kept_row hrow4 hS4 (fun _ _ q => q))
        have HP4 := hide (((unhide HP3).rightK hon4 hk4).again hS4)
        have hs9l : s9 < w4.heap.size := ((unhide HT3).kept hk4 (by omega)).lt
        have hs9n : s9 ≠ w4.heap.size := by omega
        have a0 := ht3.c0
        have a1 := ht3.c1
        have a2 := ht3.c2
        have a3 := ht3.c3
        have a4 := ht3.c4
        have a5 := ht3.c5
        have a6 := ht3.c6
        have a7 := ht3.c7
        have a8 := ht3.c8
        have a9 := ht3.c9
        have a10 := ht3.c10
        have al := ht3.lt
        have f0 := ht4.c0
        have f1 := ht4.c1
        have f2 := ht4.c2
        have f3 := ht4.c3
        have f4 := ht4.c4
        have f5 := ht4.c5
        have f6 := ht4.c6
        have f7 := ht4.c7
        have f8 := ht4.c8
        have f9 := ht4.c9
        have f10 := ht4.c10
        have fl := ht4.lt
        clear hrow4 hon4 hk4 hS4 ht4 ht3 HT3 HR3 HP3 HBO3 e0 e1 e2 e3 e4 e5 el hte
        go_wp2_with fail
        generalize w4.heap.size = s10 at *
        generalize w4.alloc (.cells #[.int .i64 td.e, .slice la4 td.l.length lc4, .int .i64 td.s.own, .int .i64 td.s.taken, .int .i64 td.s.dropped, .int .i64 td.s.quota, .int .i64 td.r.addr, .int .i64 td.r.len, .int .i64 td.r.hop, .int .i64 td.r.from_, .bool td.b] 36) = W4 at *
        refine (sameK td (unhide HR3b) (unhide HR4) (unhide HTL)).mono ?_
        rintro en w5 ⟨rfl, hs5⟩
        have HI5 : Hid (IsoAt V0 w5 bx by_ r3 s4) := ⟨(unhide HP4).again hs5, unhide HF1, unhide HF2, unhide HS2⟩
        clear hs5 HP4 HR3b HR4 a0 a1 a2 a3 a4 a5 a6 a7 a8 a9 a10 al f0 f1 f2 f3 f4 f5 f6 f7 f8 f9 f10 fl
        go_wp2
        go_roundw
        case rel => exact ⟨k + 1, by omega, by go_num, lv, rfl, r3, s4, unhide HI5⟩
        case measure => simp [intOf]; omega
      · have hd : decide ((t : Int) < 2) = false := decide_eq_false (by omega)
        have hlt2 : ¬ (t : Int) < 2 := by omega
        by_cases h7 : bits .and .i64 o.d 7 = 7
        · have h7' : (bits .and .i64 o.d 7 == 7) = true := by simpa using h7
          have h6' : (bits .and .i64 o.d 7 == 6) = false := by rw [h7]; rfl
          obtain ⟨c, hc⟩ : ∃ c, deriveR r ((t : Int) + 1) (pickF o.a 16) = c := ⟨_, rfl⟩
          obtain ⟨av, hav⟩ : ∃ av, deriveA r ((t : Int) + 1) (pickF o.a 16) = av := ⟨_, rfl⟩
          obtain ⟨r2, hr2⟩ : ∃ r2, derivedR r ((t : Int) + 1) (pickF o.a 16) = r2 := ⟨_, rfl⟩
          obtain ⟨hf2, hl2⟩ := (unhide HFR).derived ((t : Int) + 1) (pickF o.a 16)
          rw [hr2] at hf2 hl2
          have HF2 := hide hf2
          have HSM2 := hide ((unhide HSM).life hl2)
          have HC := hide hc
          have HAV := hide hav
          have HR2 := hide hr2
          clear hc hav hr2 hf2 hl2 h7
          go_wp2_with fail
          refine (pickK _ _ _ (by omega) (unhide HO).a0 (unhide HO).a1).mono ?_
          rintro en w' ⟨rfl, hw⟩
          replace hw := hw.symm
          subst hw
          go_wp2_with fail
          refine (on_derive0 (unhide HP).x (unhide HC) (unhide HAV) (unhide HR2)).mono ?_
          rintro en w3 ⟨rfl, hn3⟩
          obtain ⟨hp3, hk3⟩ := (unhide HP).left hn3
          have HP3 := hide hp3
          have HBO3 := hide ((unhide HBO).kept hk3 (by omega))
          have b5' := ((unhide HBO).kept hk3 (by omega)).c5
          have bl' := ((unhide HBO).kept hk3 (by omega)).lt
          clear hn3 hp3 hk3 b0 b1 b2 b3 b4 b5 bl HP HBO
          by_cases hc0 : c = 0
          · subst hc0
            have hbp := unhide HBO3
            have e0 := hbp.c0
            have e1 := hbp.c1
            have e2 := hbp.c2
            have e3 := hbp.c3
            have e4 := hbp.c4
            have e5 := hbp.c5
            have el := hbp.lt
            clear hbp
            have HIH := hide (iso_high (unhide HF2) (unhide HSM2) (show 2 ≤ t by omega) ht o)
            go_wp2_with fail
            refine (playK (unhide HP3).x o (unhide HO) ((t : Int) + 1) 240).mono ?_
            intro en w9 hp9
            obtain ⟨la9, lc9, rfl, _, hon9, hk9⟩ := hp9
            have HI9 : Hid (IsoAt V0 w9 bx by_ (playS r2 ((t : Int) + 1) o 240) s) := ⟨(unhide HP3).leftK hon9 hk9, (unhide HIH).1, unhide HFS, (unhide HIH).2⟩
            clear hon9 hk9 e0 e1 e2 e3 e4 e5 el
            generalize playS r2 ((t : Int) + 1) o 240 = r9 at *
            go_wp2
            go_roundw
            case rel => exact ⟨k + 1, by omega, by go_num, av, rfl, r9, s, unhide HI9⟩
            case measure => simp [intOf]; omega
          · have hc0' : (c == 0) = false := by simpa using hc0
            have hbp := unhide HBO3
            have e0 := hbp.c0
            have e1 := hbp.c1
            have e2 := hbp.c2
            have e3 := hbp.c3
            have e4 := hbp.c4
            have e5 := hbp.c5
            have el := hbp.lt
            clear hbp
            have HIH := hide (iso_high (unhide HF2) (unhide HSM2) (show 2 ≤ t by omega) ht o)
            go_wp2_with fail
            refine (playK (unhide HP3).x o (unhide HO) ((t : Int) + 1) 240).mono ?_
            intro en w9 hp9
            obtain ⟨la9, lc9, rfl, _, hon9, hk9⟩ := hp9
            have HI9 : Hid (IsoAt V0 w9 bx by_ (playS r2 ((t : Int) + 1) o 240) s) := ⟨(unhide HP3).leftK hon9 hk9, (unhide HIH).1, unhide HFS, (unhide HIH).2⟩
            clear hon9 hk9 e0 e1 e2 e3 e4 e5 el
            generalize playS r2 ((t : Int) + 1) o 240 = r9 at *
            go_wp2
            go_roundw
            case rel => exact ⟨k + 1, by omega, by go_num, lv, rfl, r9, s, unhide HI9⟩
            case measure => simp [intOf]; omega
        · have h7' : (bits .and .i64 o.d 7 == 7) = false := by simpa using h7
          by_cases h6 : bits .and .i64 o.d 7 = 6
          · have h6' : (bits .and .i64 o.d 7 == 6) = true := by simpa using h6
            obtain ⟨c, hc⟩ : ∃ c, revokeR r ((t : Int) + 1) lv = c := ⟨_, rfl⟩
            obtain ⟨r2, hr2⟩ : ∃ r2, revokedR r ((t : Int) + 1) lv = r2 := ⟨_, rfl⟩
            obtain ⟨hf2, hl2⟩ := (unhide HFR).revoked ((t : Int) + 1) lv
            rw [hr2] at hf2 hl2
            have HF2 := hide hf2
            have HSM2 := hide ((unhide HSM).life hl2)
            have HC := hide hc
            have HR2 := hide hr2
            clear hc hr2 hf2 hl2 h7 h6
            go_wp2_with fail
            refine (on_revoke0 (unhide HP).x (unhide HC) (unhide HR2)).mono ?_
            rintro en w3 ⟨rfl, hn3⟩
            obtain ⟨hp3, hk3⟩ := (unhide HP).left hn3
            have HP3 := hide hp3
            have HBO3 := hide ((unhide HBO).kept hk3 (by omega))
            clear hn3 hp3 hk3 b0 b1 b2 b3 b4 b5 bl HP HBO
            have hbp := unhide HBO3
            have e0 := hbp.c0
            have e1 := hbp.c1
            have e2 := hbp.c2
            have e3 := hbp.c3
            have e4 := hbp.c4
            have e5 := hbp.c5
            have el := hbp.lt
            clear hbp
            have HIH := hide (iso_high (unhide HF2) (unhide HSM2) (show 2 ≤ t by omega) ht o)
            go_wp2_with fail
            refine (playK (unhide HP3).x o (unhide HO) ((t : Int) + 1) 240).mono ?_
            intro en w9 hp9
            obtain ⟨la9, lc9, rfl, _, hon9, hk9⟩ := hp9
            have HI9 : Hid (IsoAt V0 w9 bx by_ (playS r2 ((t : Int) + 1) o 240) s) := ⟨(unhide HP3).leftK hon9 hk9, (unhide HIH).1, unhide HFS, (unhide HIH).2⟩
            clear hon9 hk9 e0 e1 e2 e3 e4 e5 el
            generalize playS r2 ((t : Int) + 1) o 240 = r9 at *
            go_wp2
            go_roundw
            case rel => exact ⟨k + 1, by omega, by go_num, lv, rfl, r9, s, unhide HI9⟩
            case measure => simp [intOf]; omega
          · have h6' : (bits .and .i64 o.d 7 == 6) = false := by simpa using h6
            clear h7 h6 b0 b1 b2 b3 b4 b5 bl
            have hbp := unhide HBO
            have e0 := hbp.c0
            have e1 := hbp.c1
            have e2 := hbp.c2
            have e3 := hbp.c3
            have e4 := hbp.c4
            have e5 := hbp.c5
            have el := hbp.lt
            clear hbp
            have HIH := hide (iso_high (unhide HFR) (unhide HSM) (show 2 ≤ t by omega) ht o)
            go_wp2_with fail
            refine (playK (unhide HP).x o (unhide HO) ((t : Int) + 1) 240).mono ?_
            intro en w9 hp9
            obtain ⟨la9, lc9, rfl, _, hon9, hk9⟩ := hp9
            have HI9 : Hid (IsoAt V0 w9 bx by_ (playS r ((t : Int) + 1) o 240) s) := ⟨(unhide HP).leftK hon9 hk9, (unhide HIH).1, unhide HFS, (unhide HIH).2⟩
            clear hon9 hk9 e0 e1 e2 e3 e4 e5 el
            generalize playS r ((t : Int) + 1) o 240 = r9 at *
            go_wp2
            go_roundw
            case rel => exact ⟨k + 1, by omega, by go_num, lv, rfl, r9, s, unhide HI9⟩
            case measure => simp [intOf]; omega
    · obtain rfl : k = n := by omega
      obtain ⟨m1, m2, m3, m4, m5, m6⟩ := iso_end (unhide HIR).fr (unhide HIR).fs (unhide HIR).same (unhide HIR).pair.x.ok (unhide HIR).pair.y.ok
      have HP := hide (unhide HIR).pair
      generalize htb : tableL r 1 = tb at *
      generalize hcs : countF r 1 = cs at *
      obtain ⟨so, sk, sd, sq⟩ := cs
      simp only at m4 m5
      subst m4
      have M1 := hide m1
      have M2 := hide m2
      have M3 := hide m3
      have TB := hide htb
      have CS := hide hcs
      have hws : IntKind.i64.wrap (so + sk) = (tb.length : Int) := by rw [← m5]; exact wrap_small (by omega) (by omega)
      clear m1 m2 m3 m5 htb hcs HIR
      go_wp2_with fail
      refine ((unhide HP).table (unhide M1) (unhide TB)).mono ?_
      rintro en w3 ⟨ta, tc, rfl, hr3, hp3, hk3⟩
      have HP3 := hide hp3
      have HR3 := hide hr3
      have hx3 : bx < wr.heap.size := (unhide HP).x.lt
      have hy3 : by_ < wr.heap.size := (unhide HP).y.lt
      obtain ⟨_, _, _, ht1, ht2⟩ := ownsRow_slice hr3
      clear hr3 hp3 hk3 HP
      go_wp2_with fail
      refine ((unhide HP3).table2 (unhide M2) (unhide M3)).mono ?_
      rintro en w4 ⟨ua, uc, rfl, hr4, hp4, hk4⟩
      have HP4 := hide hp4
      have HR4 := hide hr4
      have HR3b := hide (kept_row (unhide HR3) hk4 (fun g hg => by have := ((unhide HR3).lt g hg).1; omega))
      have hx4 : bx < w3.heap.size := (unhide HP3).x.lt
      clear hr4 hp4 hk4 HP3 HR3
      go_wp2_with fail
      refine (on_count0 (unhide HP4).x (unhide M1) (unhide CS)).mono ?_
      rintro en w5 ⟨rfl, hn5⟩
      obtain ⟨hp5, hk5⟩ := (unhide HP4).left hn5
      have hS5 : Still w5 (w5.alloc (.cells #[.int .i64 so, .int .i64 sk, .int .i64 sd, .int .i64 6] 32)) := (Kept.refl _ _).alloc _
      have hbx : BoxX (w5.alloc (.cells #[.int .i64 so, .int .i64 sk, .int .i64 sd, .int .i64 6] 32)) w5.heap.size ⟨so, sk, sd, 6⟩ := BoxX.new w5 ⟨so, sk, sd, 6⟩ 32
      have HB5 := hide hbx
      have HP5 := hide (hp5.again hS5)
      have HR3c := hide (kept_row (kept_row (unhide HR3b) hk5 (fun g hg => by have := ((unhide HR3b).lt g hg).1; omega)) hS5 (fun _ _ q => q))
      have HR4c := hide (kept_row (kept_row (unhide HR4) hk5 (fun g hg => by have := ((unhide HR4).lt g hg).1; omega)) hS5 (fun _ _ q => q))
      clear hn5 hp5 hk5 hS5 hbx HP4 HR3b HR4
      go_wp2_with fail
      generalize w5.heap.size = s5 at *
      generalize w5.alloc (.cells #[.int .i64 so, .int .i64 sk, .int .i64 sd, .int .i64 6] 32) = W5 at *
      refine (alikeK (unhide HR3c) (unhide HR4c) (by omega)).mono ?_
      rintro en w6 ⟨rfl, hs6⟩
      have hb6 := (unhide HB5).kept hs6 (fun q => q)
      have p0 := hb6.c0
      have p1 := hb6.c1
      have p3 := hb6.c3
      have pl := hb6.lt
      simp only at p0 p1 p3
      have HST : Hid (Still w w6) := (unhide HS0).trans ((unhide HP5).x.still.trans hs6)
      clear hb6 hs6 HB5 HP5 HR3c HR4c
      go_wp2
      go_ret
      exact ⟨rfl, unhide HST⟩
end Go.Proofs.Ythmmaccdccjgnaa
