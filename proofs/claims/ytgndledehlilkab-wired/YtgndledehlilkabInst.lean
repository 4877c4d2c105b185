/-
  The program's engine at this commit is such an engine.
-/
import Derived.Test.YtgndledehlilkabEngI
import Derived.Test.YtgndledehlilkabSimF
namespace Go.Proofs.Ytgndledehlilkab
open Go.RowKit

def RepX (w : World) (O : Tag) (e b : Nat) (r : RefS) : Prop := ∃ p, XAt w b p ∧ Sim p r ∧ Mem p r ∧ O b = (e, 10, 0)
theorem RepX.mine {w : World} {O : Tag} {e b : Nat} {r : RefS} (h : RepX w O e b r) : mineX O e b := by
  obtain ⟨p, _, _, _, ht⟩ := h
  unfold mineX
  rw [ht]
  exact ⟨rfl, Nat.le_refl _⟩
theorem RepX.tag {w : World} {O : Tag} {e b : Nat} {r : RefS} (h : RepX w O e b r) : O b = (e, 10, 0) := by
  obtain ⟨p, _, _, _, ht⟩ := h
  exact ht
theorem RepX.done {w w' : World} {O : Tag} {e b : Nat} {r r' : RefS} (h : RepX w O e b r) {p' : ProgS} (hx : XAt w' b p') (hs : Sim p' r') (hm : Mem p' r') (hk : Kept (· = b) w w') : doneX RepX w O e b r' w' :=
  ⟨O, fun _ _ => rfl, ⟨p', hx, hs, hm, h.tag⟩, hk.mono fun i _ q => by subst q; exact h.mine⟩
theorem kept_refl_b (w : World) (b : Nat) : Kept (· = b) w w := Kept.refl _ _
section
variable {w : World} {O : Tag} {e b : Nat} {r : RefS}
theorem repX_create (h : RepX w O e b r) (_hk : RefOk r) (quota : Int) :
    Calls Try.prog 16 #[.pointer (some ⟨b, 0, none⟩), .int .i64 quota] w fun en w' =>
      en = .returned (.tuple #[.int .i64 (createA r quota).1, .int .i64 (createA r quota).2, .int .i64 (createR r quota)]) ∧ doneX RepX w O e b (createdR r quota) w' := by
  obtain ⟨p, hx, hs, hm, ht⟩ := h
  refine (engCreate_any hx hs.wp quota).mono ?_
  rintro en w' ⟨n, hn, hc⟩
  have ec := hs.create hn quota
  rw [ec] at hc
  rcases hc with ⟨h0, rfl, hx', hk'⟩ | ⟨h0, rfl, hx', hk'⟩
  · unfold createA createdR
    rw [if_neg h0, if_neg h0]
    exact ⟨rfl, RepX.done ⟨p, hx, hs, hm, ht⟩ hx' hs hm hk'⟩
  · obtain ⟨q1, q2, q3, q4, q5⟩ := createR_zero h0
    have hn8 : n < 8 := by
      rcases Nat.lt_or_ge n 8 with hl | hg
      · exact hl
      · have := (hs.full hn).1 hg; omega
    have hfree := freeNo_free (freeNo_lt q3)
    have hfl := freeNo_lt q3
    have hlow : ∀ j : Nat, j < freeNo r → ¬ freeR r j := fun j hj hf => by
      have h1 : usedB r (j : Nat) = false := usedB_false.2 hf
      unfold freeNo at hj
      cases hfd : (List.range 8).find? (fun j => !usedB r (j : Nat)) with
      | none =>
        unfold freeNo at hfl
        rw [hfd] at hfl
        simp at hfl
      | some k =>
        rw [hfd] at hj
        simp only [Option.getD_some] at hj
        rw [List.find?_eq_some_iff_getElem] at hfd
        obtain ⟨_, i, hi, hik, hall⟩ := hfd
        rw [List.getElem_range] at hik
        subst hik
        have := hall j hj
        rw [List.getElem_range] at this
        simp [h1] at this
    have en' : n = freeNo r := hs.sameNo hn hfree hlow (by omega)
    subst en'
    unfold createA createdR
    rw [if_pos h0, if_pos h0, h0]
    have hsum := hs.sum
    refine ⟨by rw [hs.given], RepX.done ⟨p, hx, hs, hm, ht⟩ hx' (hs.createS hn hfree h0) (hm.createS hs hn8 hfree ?_) hk'⟩
    rw [hs.room]; omega
theorem repX_drop (h : RepX w O e b r) (hk : RefOk r) (no : Int) :
    Calls Try.prog 14 #[.pointer (some ⟨b, 0, none⟩), .int .i64 no] w fun en w' => en = .returned (.int .i64 (dropR r no)) ∧ doneX RepX w O e b (droppedS r no) w' := by
  obtain ⟨p, hx, hs, hm, ht⟩ := h
  refine (engDrop_any hx hs.wp no).mono ?_
  have hti := hs.tenantIs no
  rintro en w' (⟨h0, rfl, hx', hk'⟩ | ⟨h0, rfl, hx', hk'⟩)
  · obtain ⟨i, hi, hg, rfl⟩ := hti.1 h0
    have hu : usedB r (r.life i).no = true := usedB_true.2 ⟨i, hi, hg, rfl⟩
    unfold dropR droppedS
    rw [if_pos hu, if_pos hu, lifeNo_is hk.own hi hg]
    exact ⟨rfl, RepX.done ⟨p, hx, hs, hm, ht⟩ hx' (hs.dropS hi hg) (hm.dropS hs hi hg) hk'⟩
  · have hu : usedB r no = false := by
      cases hb : usedB r no with
      | false => rfl
      | true =>
        rw [hti.2 (usedB_true.1 hb)] at h0
        simp at h0
    unfold dropR droppedS
    rw [hu, if_neg (by simp), if_neg (by simp)]
    exact ⟨rfl, RepX.done ⟨p, hx, hs, hm, ht⟩ hx' hs hm hk'⟩
theorem repX_derive (h : RepX w O e b r) (_hk : RefOk r) (n rights : Int) :
    Calls Try.prog 7 #[.pointer (some ⟨b, 0, none⟩), .int .i64 n, .int .i64 rights] w fun en w' =>
      en = .returned (.tuple #[.int .i64 (deriveA r n rights), .int .i64 (deriveR r n rights)]) ∧ doneX RepX w O e b (derivedR r n rights) w' := by
  obtain ⟨p, hx, hs, hm, ht⟩ := h
  refine (engDerive_any hx hs.wp n rights).mono ?_
  have ec := hs.derive n rights
  rintro en w' (⟨h0, rfl, hx', hk'⟩ | ⟨h0, rfl, hx', hk'⟩)
  · rw [ec] at h0 ⊢
    unfold deriveA derivedR
    rw [if_neg h0, if_neg h0]
    exact ⟨rfl, RepX.done ⟨p, hx, hs, hm, ht⟩ hx' hs hm hk'⟩
  · rw [ec] at h0
    obtain ⟨ha, q1, q2, q3, q4, q5⟩ := deriveR_zero h0
    unfold deriveA derivedR
    rw [if_pos h0, if_pos h0, h0]
    have hk2 : (n - 1).toNat < r.nt := by omega
    have e1 : n.toNat = (n - 1).toNat + 1 := by omega
    rw [e1] at hx'
    refine ⟨by rw [hs.given], RepX.done ⟨p, hx, hs, hm, ht⟩ hx' (hs.deriveS hk2 q3 q4 q5 (aliveI_bounds ha).2.2) (hm.toks _ _ rfl rfl rfl rfl rfl rfl rfl rfl) hk'⟩
theorem repX_revoke (h : RepX w O e b r) (_hk : RefOk r) (n which : Int) :
    Calls Try.prog 13 #[.pointer (some ⟨b, 0, none⟩), .int .i64 n, .int .i64 which] w fun en w' => en = .returned (.int .i64 (revokeR r n which)) ∧ doneX RepX w O e b (revokedR r n which) w' := by
  obtain ⟨p, hx, hs, hm, ht⟩ := h
  refine (engRevoke_any hx hs.wp n which).mono ?_
  have ec := hs.revoke n which
  rintro en w' ⟨rfl, hx', hk'⟩
  unfold revokedX at hx'
  unfold revokedR
  rw [ec] at hx' ⊢
  refine ⟨rfl, ?_⟩
  by_cases h0 : revokeR r n which = 0
  · rw [if_pos h0] at hx' ⊢
    have hb := revokeR_bounds h0
    exact RepX.done ⟨p, hx, hs, hm, ht⟩ hx' (hs.revokeS (j := (which - 1).toNat) (by omega)) (hm.toks _ _ rfl rfl rfl rfl rfl rfl rfl rfl) hk'
  · rw [if_neg h0] at hx' ⊢
    exact RepX.done ⟨p, hx, hs, hm, ht⟩ hx' hs hm hk'
end
def engX : EngI where
  Rep := RepX
  lt := fun ⟨_, hx, _⟩ => hx.lt
  frame := by
    rintro w w' O O' e b r h hk hO
    have hmn := h.mine
    obtain ⟨p, hx, hs, hm, ht⟩ := h
    exact ⟨p, hx.frame (hk b hx.lt hmn), hs, hm, by rw [hO b hx.lt (by rw [ht]), ht]⟩
  new_yes := by
    intro n w h1 h2
    refine (engNew_yes n w h1 h2).mono ?_
    rintro en w' ⟨rfl, hx, hs, hz⟩
    refine ⟨w.heap.size, rfl, hs, fun O e lf tk => ⟨upd O w.heap.size (e, 10, 0), fun k hk => upd_other _ _ (by omega), newP n, hx, newSim h1 h2 lf tk, newMem n h1 lf tk, upd_same _ _ _⟩⟩
  new_no := by
    intro n w h
    refine (engNew_no n w h).mono ?_
    rintro en w' ⟨rfl, rfl⟩
    exact ⟨rfl, Kept.refl _ _⟩
  create := repX_create
  drop := repX_drop
  derive := repX_derive
  revoke := repX_revoke
section
variable {w : World} {O : Tag} {e b : Nat} {r : RefS}
theorem repX_insert (h : RepX w O e b r) (hk : RefOk r) (n addr len hop : Int) : Calls Try.prog 32 #[.pointer (some ⟨b, 0, none⟩), .int .i64 n, .int .i64 addr, .int .i64 len, .int .i64 hop] w fun en w' =>
    en = .returned (.int .i64 (insertR r n addr len hop)) ∧ doneX RepX w O e b (insertedR r n addr len hop) w' := by
  have h0 := h
  obtain ⟨p, hx, hs, hm, ht⟩ := h
  have ec := (hs.check124 n).2.1
  by_cases hc : mayI r n 2 = 0
  · obtain ⟨t, ho⟩ := of_may hs hc
    cases hg : (isPfx addr len && okMask hop) with
    | false =>
      refine (insert_arg hx hs.wp addr len hop (ec.trans hc) hg).mono ?_
      rintro en w' ⟨rfl, rfl⟩
      have e1 : insertR r n addr len hop = 2 := by unfold insertR; rw [if_pos hc, hg]; rfl
      unfold insertedR
      rw [e1, if_neg (by omega)]
      exact ⟨rfl, h0.done hx hs hm (Kept.refl _ _)⟩
    | true =>
      refine (insert_put hx hs.wp hm.ok addr len hop (ec.trans hc) ho.tenant ho.t8 hg).mono ?_
      have hno : (r.life (lifeOf r n)).no.toNat = t := by rw [ho.no]; omega
      have e1 : insertR r n addr len hop = insIn (r.life (lifeOf r n)) (newRoute r n addr len hop) := by unfold insertR; rw [if_pos hc, hg]; rfl
      have e2 : newRoute r n addr len hop = ⟨addr, len, hop, t⟩ := by unfold newRoute; rw [ho.no]
      have hxo : okRoute (newRoute r n addr len hop) := newRoute_ok hk hc hg
      have how := hm.own _ ho.life ho.live
      have hqu := hs.quotaL _ ho.life ho.live
      rw [hno] at how hqu
      have hqw := hs.wr.quota _ ho.life
      have hfind := hasP_find (own_sorted hk ho.life).2 (newRoute r n addr len hop)
      have hpo := put_own (hk.tab.own _ ho.life) (hk.own.dist _ ho.life) hxo
      have hlen := sortR_len (r.life (lifeOf r n)).own
      rw [how, hqu, hlen, ← e2]
      rintro en w' ⟨hk', hcs⟩
      unfold insertedR
      rw [e1]
      unfold insIn
      rcases hcs with ⟨q1, rfl, q3⟩ | ⟨q1, q2, rfl, q4⟩
      · have hz : (if 0 ≤ findI (r.life (lifeOf r n)).own (newRoute r n addr len hop) then (0 : Int) else if (r.life (lifeOf r n)).quota ≤ ((r.life (lifeOf r n)).own.length : Int) then 8 else 0) = 0 := by
          by_cases hf : 0 ≤ findI (r.life (lifeOf r n)).own (newRoute r n addr len hop)
          · rw [if_pos hf]
          · rw [if_neg hf]
            rcases q1 with q1 | q1
            · exact absurd (hfind.1 q1) hf
            · rw [if_neg (by omega)]
        rw [hz, if_pos rfl]
        rw [hpo.1] at q3
        obtain ⟨s1, s2⟩ := side_own hs hm ho hpo.2.1 hpo.2.2
        exact ⟨rfl, h0.done q3 s1 s2 hk'⟩
      · have hz : (if 0 ≤ findI (r.life (lifeOf r n)).own (newRoute r n addr len hop) then (0 : Int) else if (r.life (lifeOf r n)).quota ≤ ((r.life (lifeOf r n)).own.length : Int) then 8 else 0) = 8 := by
          by_cases hf : 0 ≤ findI (r.life (lifeOf r n)).own (newRoute r n addr len hop)
          · rw [hfind.2 hf] at q1; simp at q1
          · rw [if_neg hf, if_pos (by omega)]
        rw [hz, if_neg (by omega)]
        exact ⟨rfl, h0.done q4 hs hm hk'⟩
  · refine (insert_no hx hs.wp addr len hop ec hc).mono ?_
    rintro en w' ⟨rfl, rfl⟩
    have e1 : insertR r n addr len hop = mayI r n 2 := by unfold insertR; rw [if_neg hc]
    unfold insertedR
    rw [e1, if_neg hc]
    exact ⟨rfl, h0.done hx hs hm (Kept.refl _ _)⟩
theorem repX_remove (h : RepX w O e b r) (hk : RefOk r) (n addr len : Int) : Calls Try.prog 33 #[.pointer (some ⟨b, 0, none⟩), .int .i64 n, .int .i64 addr, .int .i64 len] w fun en w' =>
    en = .returned (.int .i64 (removeR r n addr len)) ∧ doneX RepX w O e b (removedR r n addr len) w' := by
  have h0 := h
  obtain ⟨p, hx, hs, hm, ht⟩ := h
  have ec := (hs.check124 n).2.1
  by_cases hc : mayI r n 2 = 0
  · obtain ⟨t, ho⟩ := of_may hs hc
    cases hg : isPfx addr len with
    | false =>
      refine (remove_arg hx hs.wp addr len (ec.trans hc) hg).mono ?_
      rintro en w' ⟨rfl, rfl⟩
      have e1 : removeR r n addr len = 2 := by unfold removeR; rw [if_pos hc, hg]; rfl
      unfold removedR
      rw [e1, if_neg (by omega)]
      exact ⟨rfl, h0.done hx hs hm (Kept.refl _ _)⟩
    | true =>
      refine (remove_del hx hs.wp hm.ok addr len (ec.trans hc) ho.tenant ho.t8 hg).mono ?_
      have hno : (r.life (lifeOf r n)).no.toNat = t := by rw [ho.no]; omega
      have e1 : removeR r n addr len = remIn (r.life (lifeOf r n)) (pfxRoute addr len) := by unfold removeR; rw [if_pos hc, hg]; rfl
      obtain ⟨pa, pb, pc, pd⟩ := isPfx_ok hg
      have hxo : okRoute (pfxRoute addr len) := ⟨pa, pb, pc, pd, by show (0 : Int) ≤ 0; omega, by show (0 : Int) ≤ 255; omega, by show (0 : Int) ≤ 0; omega, by show (0 : Int) < 8; omega, isPfx_mod hg⟩
      have how := hm.own _ ho.life ho.live
      rw [hno] at how
      have hfind := hasP_find (own_sorted hk ho.life).2 (pfxRoute addr len)
      rw [how]
      rintro en w' ⟨hk', hcs⟩
      unfold removedR
      rw [e1]
      unfold remIn
      rcases hcs with ⟨q1, rfl, q3⟩ | ⟨q1, rfl, q3⟩
      · have hf := hfind.1 q1
        rw [if_pos hf, if_pos rfl]
        rw [del_own (hk.tab.own _ ho.life) (hk.own.dist _ ho.life) hxo hf] at q3
        have hsub : List.Sublist (remOwn (r.life (lifeOf r n)).own (pfxRoute addr len)) (r.life (lifeOf r n)).own := List.eraseIdx_sublist _ _
        obtain ⟨s1, s2⟩ := side_own hs hm ho (fun y hy => hk.tab.own _ ho.life y (hsub.subset hy)) ((hk.own.dist _ ho.life).sublist hsub)
        exact ⟨rfl, h0.done q3 s1 s2 hk'⟩
      · have hf : ¬ 0 ≤ findI (r.life (lifeOf r n)).own (pfxRoute addr len) := fun hf => by rw [hfind.2 hf] at q1; simp at q1
        rw [if_neg hf, if_neg (by omega)]
        exact ⟨rfl, h0.done q3 hs hm hk'⟩
  · refine (remove_no hx hs.wp addr len ec hc).mono ?_
    rintro en w' ⟨rfl, rfl⟩
    have e1 : removeR r n addr len = mayI r n 2 := by unfold removeR; rw [if_neg hc]
    unfold removedR
    rw [e1, if_neg hc]
    exact ⟨rfl, h0.done hx hs hm (Kept.refl _ _)⟩
theorem repX_share (h : RepX w O e b r) (hk : RefOk r) (n gives takes : Int) : Calls Try.prog 34 #[.pointer (some ⟨b, 0, none⟩), .int .i64 n, .int .i64 gives, .int .i64 takes] w fun en w' =>
    en = .returned (.int .i64 (shareR r n gives takes)) ∧ doneX RepX w O e b (sharedR r n gives takes) w' := by
  have h0 := h
  obtain ⟨p, hx, hs, hm, ht⟩ := h
  have ec := (hs.check124 n).2.2
  unfold sharedR shareR
  by_cases hc : mayI r n 4 = 0
  · obtain ⟨t, ho⟩ := of_may hs hc
    rw [if_pos hc]
    cases hg : (okMask gives && okMask takes) with
    | false =>
      refine (share_arg hx hs.wp gives takes (ec.trans hc) hg).mono ?_
      rintro en w' ⟨rfl, rfl⟩
      rw [if_neg (by simp), if_neg (by omega)]
      exact ⟨rfl, h0.done hx hs hm (Kept.refl _ _)⟩
    | true =>
      refine (share_set hx hs.wp gives takes (ec.trans hc) ho.tenant ho.t8 hg).mono ?_
      rintro en w' ⟨hk', rfl, hx'⟩
      rw [if_pos rfl, if_pos rfl]
      obtain ⟨s1, s2⟩ := side_share hs hm hk ho gives takes
      exact ⟨rfl, h0.done hx' s1 s2 hk'⟩
  · refine (share_no hx hs.wp gives takes ec hc).mono ?_
    rintro en w' ⟨rfl, rfl⟩
    rw [if_neg hc, if_neg hc]
    exact ⟨rfl, h0.done hx hs hm (Kept.refl _ _)⟩
theorem repX_filter (h : RepX w O e b r) (hk : RefOk r) (n : Int) (v : Value) (R : List RuleD) (hR : RulesIn w v R) : Calls Try.prog 35 #[.pointer (some ⟨b, 0, none⟩), .int .i64 n, v] w fun en w' =>
    en = .returned (.int .i64 (filterR r n R)) ∧ doneX RepX w O e b (filteredR r n R) w' := by
  have h0 := h
  obtain ⟨p, hx, hs, hm, ht⟩ := h
  have ec := (hs.check124 n).2.2
  unfold filteredR filterR
  by_cases hc : mayI r n 4 = 0
  · obtain ⟨t, ho⟩ := of_may hs hc
    rw [if_pos hc]
    refine (filter_set hx hs.wp hR (ec.trans hc) ho.tenant ho.t8).mono ?_
    rintro en w' ⟨hk', hcs⟩
    rcases hcs with ⟨q1, rfl, q3⟩ | ⟨q1, rfl, q3⟩
    · rw [q1, if_pos rfl, if_pos rfl]
      have hall : ∀ u ∈ R, ruleB u = true := by
        unfold filterOk at q1
        rw [Bool.and_eq_true, List.all_eq_true] at q1
        exact q1.2
      obtain ⟨s1, s2⟩ := side_rules hs hm hk ho hall
      exact ⟨rfl, h0.done q3 s1 s2 hk'⟩
    · rw [q1, if_neg (by simp), if_neg (by omega)]
      exact ⟨rfl, h0.done q3 hs hm hk'⟩
  · refine (filter_no hx hs.wp v ec hc).mono ?_
    rintro en w' ⟨rfl, rfl⟩
    rw [if_neg hc, if_neg hc]
    exact ⟨rfl, h0.done hx hs hm (Kept.refl _ _)⟩
theorem RepX.again {w w' : World} (h : RepX w O e b r) (hs : Still w w') : RepX w' O e b r := by
  obtain ⟨p, hx, h1, h2, h3⟩ := h
  exact ⟨p, hx.still hs, h1, h2, h3⟩
theorem repX_table (h : RepX w O e b r) (hk : RefOk r) (n : Int) : Calls Try.prog 36 #[.pointer (some ⟨b, 0, none⟩), .int .i64 n] w fun en w' =>
    ∃ v, en = .returned (.tuple #[v, .int .i64 (mayI r n 1)]) ∧ w'.ownsRow w.heap.size 42 4 v (tableL r n).length ((tableL r n).flatMap routeCells) ∧
      ∃ O' : Tag, (∀ k, k < w.heap.size → O' k = O k) ∧ RepX w' O' e b r ∧ Kept (mineX O e) w w' ∧ ∀ g, v.ownBlock = some g → (O' g).1 ≠ e := by
  have h0 := h
  obtain ⟨p, hx, hs, hm, ht⟩ := h
  have ec := (hs.check124 n).1
  have fin : ∀ (v : Value) (w' : World) (m : Nat) (xs : List Value), w'.ownsRow w.heap.size 42 4 v m xs → Still w w' → ∃ O' : Tag, (∀ k, k < w.heap.size → O' k = O k) ∧ RepX w' O' e b r ∧ Kept (mineX O e) w w' ∧ ∀ g, v.ownBlock = some g → (O' g).1 ≠ e := by
    intro v w' m xs hown hst
    refine ⟨fun k => if k < w.heap.size then O k else (e + 1, 0, 0), fun k hk => if_pos hk, ?_, Still.kept hst _, fun g hg => ?_⟩
    · obtain ⟨p, hx, h1, h2, h3⟩ := h0.again hst
      exact ⟨p, hx, h1, h2, by show (if b < w.heap.size then O b else (e + 1, 0, 0)) = (e, 10, 0); rw [if_pos h0.choose_spec.1.lt]; exact h3⟩
    · have := (hown.lt g hg).1
      show (if g < w.heap.size then O g else (e + 1, 0, 0)).1 ≠ e
      rw [if_neg (by omega)]
      show e + 1 ≠ e
      omega
  by_cases hc : mayI r n 1 = 0
  · obtain ⟨t, ho⟩ := of_may hs hc
    have hno : (r.life (lifeOf r n)).no.toNat = t := by rw [ho.no]; omega
    have hsd := (side_tab hs hm hk ho.life ho.live).1
    rw [hno] at hsd
    have e1 : tableL r n = tabX p t := by unfold tableL; rw [if_pos hc, hsd]
    rw [e1, hc]
    refine (tableT_yes hx hs.wp hm.ok (ec.trans hc) ho.tenant ho.t8).mono ?_
    rintro en w' ⟨v, rfl, hown, hst⟩
    exact ⟨v, rfl, hown, fin v w' _ _ hown hst⟩
  · have e1 : tableL r n = [] := by unfold tableL; rw [if_neg hc]
    rw [e1]
    refine (tableT_no hx hs.wp ec hc).mono ?_
    rintro en w' ⟨rfl, rfl⟩
    have hown := World.ownsRow_nil w' w'.heap.size 42 4
    exact ⟨_, rfl, hown, fin _ _ _ _ hown (Kept.refl _ _)⟩
theorem repX_count (h : RepX w O e b r) (hk : RefOk r) (n : Int) : Calls Try.prog 15 #[.pointer (some ⟨b, 0, none⟩), .int .i64 n] w fun en w' =>
    en = .returned (.tuple #[.agg #[.int .i64 (countF r n).own, .int .i64 (countF r n).taken, .int .i64 (countF r n).dropped, .int .i64 (countF r n).quota], .int .i64 (mayI r n 1)]) ∧ doneX RepX w O e b r w' := by
  have h0 := h
  obtain ⟨p, hx, hs, hm, ht⟩ := h
  have ec := (hs.check124 n).1
  by_cases hc : mayI r n 1 = 0
  · obtain ⟨t, ho⟩ := of_may hs hc
    have hno : (r.life (lifeOf r n)).no.toNat = t := by rw [ho.no]; omega
    obtain ⟨_, s2, s3, s4⟩ := side_tab hs hm hk ho.life ho.live
    have hqu := hs.quotaL _ ho.life ho.live
    rw [hno] at s2 s3 s4 hqu
    unfold countF
    rw [if_pos hc, hc]
    refine (countT_yes hx hs.wp hm.ok (ec.trans hc) ho.tenant ho.t8).mono ?_
    rintro en w' ⟨rfl, hst⟩
    refine ⟨by rw [s2, s3, s4, hqu], ?_⟩
    exact h0.done (hx.still hst) hs hm (Still.kept hst _)
  · unfold countF
    rw [if_neg hc]
    refine (countT_no hx hs.wp ec hc).mono ?_
    rintro en w' ⟨rfl, hst⟩
    exact ⟨rfl, h0.done (hx.still hst) hs hm (Still.kept hst _)⟩
end
theorem engX2 : EngI2 engX := ⟨repX_insert, repX_remove, repX_share, repX_filter, repX_table, repX_count⟩
end Go.Proofs.Ytgndledehlilkab
