/-
  The two engines stay side by side: Insert, Remove, Share, Filter; what of routes the other calls leave.
-/
import Derived.Test.YtgndledehlilkabSimD
namespace Go.Proofs.Ytgndledehlilkab
open Go.RowKit

section
variable {p : ProgS} {r : RefS}
theorem own_sorted (hk : RefOk r) {i : Nat} (hi : i < r.nl) : Sorted (sortR (r.life i).own) ∧ ∀ z, z ∈ sortR (r.life i).own ↔ z ∈ (r.life i).own :=
  sortR_ok (hk.tab.own i hi) (hk.own.dist i hi)
theorem hasP_find {own : List RouteD} (hm : ∀ z, z ∈ sortR own ↔ z ∈ own) (x : RouteD) : hasP (sortR own) x = true ↔ 0 ≤ findI own x := by
  rw [hasP_true]
  rcases findI_cases own x with ⟨i, hi, hf, hs⟩ | ⟨hf, hs⟩
  · rw [hf]
    refine ⟨fun _ => by omega, fun _ => ⟨own.getD i rt0, (hm _).2 (by simp [List.getD_eq_getElem?_getD, hi]), hs⟩⟩
  · rw [hf]
    refine ⟨fun ⟨y, hy, hsy⟩ => ?_, fun hh => by omega⟩
    rw [hs y ((hm y).1 hy)] at hsy
    simp at hsy
theorem put_own {own : List RouteD} {x : RouteD} (hl : ∀ y ∈ own, okRoute y) (hd : own.Pairwise fun x y => key x ≠ key y) (hx : okRoute x) : putL (sortR own) x = sortR (insOwn own x) ∧ (∀ y ∈ insOwn own x, okRoute y) ∧ (insOwn own x).Pairwise (fun x y => key x ≠ key y) := by
  obtain ⟨s1, s2⟩ := sortR_ok hl hd
  have hl' : ∀ y ∈ sortR own, okRoute y := fun y hy => hl y ((s2 y).1 hy)
  obtain ⟨p1, p2⟩ := putL_ok s1 hl' hx
  have hmem : ∀ z, z ∈ insOwn own x ↔ (z ∈ own ∧ sameB z x = false) ∨ z = x := by
    intro z
    unfold insOwn
    by_cases hf : 0 ≤ findI own x
    · rw [if_pos hf]
      obtain ⟨f1, f2⟩ := findI_ge hf
      generalize (findI own x).toNat = i at *
      have hg : own.getD i rt0 = own[i] := by simp [List.getD_eq_getElem?_getD, f1]
      rw [hg] at f2
      have hk := (same_key (hl _ (List.getElem_mem f1)) hx).1 f2
      constructor
      · intro h
        obtain ⟨j, hj, rfl⟩ := List.getElem_of_mem h
        rw [List.length_set] at hj
        rw [List.getElem_set]
        by_cases e : i = j
        · rw [if_pos e]; exact .inr rfl
        · rw [if_neg e]
          refine .inl ⟨List.getElem_mem hj, ?_⟩
          cases hb : sameB own[j] x with
          | false => rfl
          | true =>
            have hk2 := (same_key (hl _ (List.getElem_mem hj)) hx).1 hb
            exact absurd (hk.trans hk2.symm) (pair_get hd f1 hj e)
      · rintro (⟨a, b⟩ | rfl)
        · obtain ⟨j, hj, rfl⟩ := List.getElem_of_mem a
          have hne : i ≠ j := fun e => by subst e; rw [f2] at b; simp at b
          exact List.mem_iff_getElem.2 ⟨j, by simpa using hj, by rw [List.getElem_set, if_neg hne]⟩
        · exact List.mem_iff_getElem.2 ⟨i, by simpa using f1, by simp⟩
    · rw [if_neg hf]
      have hn : ∀ y ∈ own, sameB y x = false := by
        rcases findI_cases own x with ⟨i, hi, hfi, _⟩ | ⟨_, hs⟩
        · omega
        · exact hs
      rw [List.mem_append, List.mem_singleton]
      constructor
      · rintro (h | h)
        · exact .inl ⟨h, hn z h⟩
        · exact .inr h
      · rintro (h | h)
        · exact .inl h.1
        · exact .inr h
  have hok : ∀ y ∈ insOwn own x, okRoute y := fun y hy => by
    rcases (hmem y).1 hy with h | h
    · exact hl y h.1
    · subst h; exact hx
  have hdist : (insOwn own x).Pairwise fun x y => key x ≠ key y := by
    unfold insOwn
    by_cases hf : 0 ≤ findI own x
    · rw [if_pos hf]
      obtain ⟨f1, f2⟩ := findI_ge hf
      generalize (findI own x).toNat = i at *
      have hg : own.getD i rt0 = own[i] := by simp [List.getD_eq_getElem?_getD, f1]
      rw [hg] at f2
      have hk := (same_key (hl _ (List.getElem_mem f1)) hx).1 f2
      rw [List.pairwise_iff_getElem]
      intro a b ha hb hab
      rw [List.length_set] at ha hb
      have hp := pair_get hd ha hb (by omega)
      rw [List.getElem_set, List.getElem_set]
      by_cases ea : i = a
      · rw [if_pos ea, if_neg (by omega)]
        subst ea
        rw [← hk]; exact hp
      · rw [if_neg ea]
        by_cases eb : i = b
        · rw [if_pos eb]
          subst eb
          rw [← hk]; exact hp
        · rw [if_neg eb]; exact hp
    · rw [if_neg hf]
      have hnk := findI_neg hl hx (by omega)
      refine List.pairwise_append.2 ⟨hd, by simp, fun y hy z hz => ?_⟩
      rw [List.mem_singleton] at hz; subst hz
      exact hnk y hy
  obtain ⟨q1, q2⟩ := sortR_ok hok hdist
  refine ⟨sorted_ext p1 q1 fun z => ?_, hok, hdist⟩
  rw [p2 z, q2 z, hmem z, s2 z]
theorem del_own {own : List RouteD} {x : RouteD} (hl : ∀ y ∈ own, okRoute y) (hd : own.Pairwise fun x y => key x ≠ key y) (hx : okRoute x) (hf : 0 ≤ findI own x) : delL (sortR own) x = sortR (remOwn own x) := by
  obtain ⟨s1, s2⟩ := sortR_ok hl hd
  have hsub : List.Sublist (remOwn own x) own := List.eraseIdx_sublist _ _
  obtain ⟨q1, q2⟩ := sortR_ok (fun y hy => hl y (hsub.subset hy)) (hd.sublist hsub)
  refine sorted_ext (sorted_delL s1 x) q1 fun z => ?_
  rw [mem_delL, s2 z, q2 z]
  unfold remOwn
  obtain ⟨f1, f2⟩ := findI_ge hf
  generalize (findI own x).toNat = i at *
  have hg : own.getD i rt0 = own[i] := by simp [List.getD_eq_getElem?_getD, f1]
  rw [hg] at f2
  have hk := (same_key (hl _ (List.getElem_mem f1)) hx).1 f2
  rw [List.mem_eraseIdx_iff_getElem]
  constructor
  · rintro ⟨a, b⟩
    obtain ⟨j, hj, rfl⟩ := List.getElem_of_mem a
    exact ⟨j, hj, fun e => by subst e; rw [f2] at b; simp at b, rfl⟩
  · rintro ⟨j, hj, hne, rfl⟩
    refine ⟨List.getElem_mem hj, ?_⟩
    cases hb : sameB own[j] x with
    | false => rfl
    | true =>
      have hk2 := (same_key (hl _ (List.getElem_mem hj)) hx).1 hb
      exact absurd (hk.trans hk2.symm) (pair_get hd f1 hj (Ne.symm hne))
/-- New own routes. -/
theorem side_own (h : Sim p r) (hm : Mem p r) {n : Int} {t : Nat} (ho : Of p r n t) {own : List RouteD} (h1 : ∀ y ∈ own, okRoute y) (h2 : own.Pairwise fun x y => key x ≠ key y) :
    Sim { p with own := upd p.own t (sortR own) } (ownS r (lifeOf r n) own) ∧ Mem { p with own := upd p.own t (sortR own) } (ownS r (lifeOf r n) own) := by
  have hno : (r.life (lifeOf r n)).no.toNat = t := by rw [ho.no]; omega
  refine ⟨h.lifeS { r.life (lifeOf r n) with own := own } rfl rfl rfl _ rfl rfl rfl rfl rfl rfl rfl, ?_⟩
  obtain ⟨s1, s2⟩ := sortR_ok h1 h2
  have hrl := hm.rules _ ho.life ho.live
  rw [hno] at hrl
  have := (hm.lifeS h ho { r.life (lifeOf r n) with own := own } rfl rfl).2 ⟨s1, fun y hy => h1 y ((s2 y).1 hy), by show ∀ u ∈ (r.life (lifeOf r n)).rules, ruleB u = true; rw [← hrl]; exact hm.ok.rule t ho.t8⟩
  have e1 : upd p.gives t (r.life (lifeOf r n)).gives = p.gives := by rw [← hm.gives _ ho.life ho.live, hno]; exact upd_self _ _
  have e2 : upd p.takes t (r.life (lifeOf r n)).takes = p.takes := by rw [← hm.takes _ ho.life ho.live, hno]; exact upd_self _ _
  have e3 : upd p.rules t (r.life (lifeOf r n)).rules = p.rules := by rw [← hrl]; exact upd_self _ _
  simp only [e1, e2, e3] at this
  exact this
theorem side_share (h : Sim p r) (hm : Mem p r) (hk : RefOk r) {n : Int} {t : Nat} (ho : Of p r n t) (g k : Int) :
    Sim { p with gives := upd p.gives t g, takes := upd p.takes t k } (shareS r (lifeOf r n) g k) ∧ Mem { p with gives := upd p.gives t g, takes := upd p.takes t k } (shareS r (lifeOf r n) g k) := by
  have hno : (r.life (lifeOf r n)).no.toNat = t := by rw [ho.no]; omega
  refine ⟨h.lifeS { r.life (lifeOf r n) with gives := g, takes := k } rfl rfl rfl _ rfl rfl rfl rfl rfl rfl rfl, ?_⟩
  obtain ⟨s1, s2⟩ := own_sorted hk ho.life
  have hrl := hm.rules _ ho.life ho.live
  have how := hm.own _ ho.life ho.live
  rw [hno] at hrl how
  have := (hm.lifeS h ho { r.life (lifeOf r n) with gives := g, takes := k } rfl rfl).2 ⟨s1, fun y hy => hk.tab.own _ ho.life y ((s2 y).1 hy), by show ∀ u ∈ (r.life (lifeOf r n)).rules, ruleB u = true; rw [← hrl]; exact hm.ok.rule t ho.t8⟩
  have e3 : upd p.rules t (r.life (lifeOf r n)).rules = p.rules := by rw [← hrl]; exact upd_self _ _
  have e4 : upd p.own t (sortR (r.life (lifeOf r n)).own) = p.own := by rw [← how]; exact upd_self _ _
  simp only [e3, e4] at this
  exact this
theorem side_rules (h : Sim p r) (hm : Mem p r) (hk : RefOk r) {n : Int} {t : Nat} (ho : Of p r n t) {R : List RuleD} (hR : ∀ u ∈ R, ruleB u = true) :
    Sim { p with rules := upd p.rules t R } (rulesS r (lifeOf r n) R) ∧ Mem { p with rules := upd p.rules t R } (rulesS r (lifeOf r n) R) := by
  have hno : (r.life (lifeOf r n)).no.toNat = t := by rw [ho.no]; omega
  refine ⟨h.lifeS { r.life (lifeOf r n) with rules := R } rfl rfl rfl _ rfl rfl rfl rfl rfl rfl rfl, ?_⟩
  obtain ⟨s1, s2⟩ := own_sorted hk ho.life
  have how := hm.own _ ho.life ho.live
  rw [hno] at how
  have := (hm.lifeS h ho { r.life (lifeOf r n) with rules := R } rfl rfl).2 ⟨s1, fun y hy => hk.tab.own _ ho.life y ((s2 y).1 hy), hR⟩
  have e1 : upd p.gives t (r.life (lifeOf r n)).gives = p.gives := by rw [← hm.gives _ ho.life ho.live, hno]; exact upd_self _ _
  have e2 : upd p.takes t (r.life (lifeOf r n)).takes = p.takes := by rw [← hm.takes _ ho.life ho.live, hno]; exact upd_self _ _
  have e4 : upd p.own t (sortR (r.life (lifeOf r n)).own) = p.own := by rw [← how]; exact upd_self _ _
  simp only [e1, e2, e4] at this
  exact this
/-- What Derive and Revoke leave of routes. -/
theorem Mem.toks (hm : Mem p r) (p' : ProgS) (r' : RefS) (e1 : p'.gives = p.gives) (e2 : p'.takes = p.takes) (e3 : p'.rules = p.rules) (e4 : p'.own = p.own) (e5 : p'.quota = p.quota) (e6 : p'.room = p.room) (f1 : r'.nl = r.nl) (f2 : r'.life = r.life) : Mem p' r' := by
  refine ⟨⟨by rw [e4]; exact hm.ok.sorted, by rw [e4]; exact hm.ok.route, by rw [e3]; exact hm.ok.rule⟩, by rw [e1, f1, f2]; exact hm.gives, by rw [e2, f1, f2]; exact hm.takes, by rw [e3, f1, f2]; exact hm.rules, by rw [e4, f1, f2]; exact hm.own, fun j hj hf => ?_, ?_⟩
  · rw [e4]
    refine hm.free j hj ?_
    intro i hi
    have := hf i (by rw [f1]; exact hi)
    rw [f2] at this
    exact this
  · rw [qsum_eq, e5, e6, ← qsum_eq]; exact hm.sum
theorem newMem (room : Int) (h1 : 1 ≤ room) (lf : Nat → Life) (tk : Nat → Tok) : Mem (newP room) ⟨room, 0, lf, 0, tk⟩ := by
  refine ⟨⟨fun i _ => by simp [newP, Sorted], fun i _ y hy => (by cases hy), fun i _ u hu => (by cases hu)⟩, ?_, ?_, ?_, ?_, fun _ _ _ => rfl, ?_⟩
  · intro i hi; exact absurd hi (Nat.not_lt_zero _)
  · intro i hi; exact absurd hi (Nat.not_lt_zero _)
  · intro i hi; exact absurd hi (Nat.not_lt_zero _)
  · intro i hi; exact absurd hi (Nat.not_lt_zero _)
  · show qsum (newP room) 8 ≤ room
    have : qsum (newP room) 8 = 0 := rfl
    omega
theorem Mem.clear (hm : Mem p r) (p1 : ProgS) (k : Nat) (q : Int) (e3 : p1.rules = p.rules) (e4 : p1.own = p.own) : ProgOk (clrX p1 k q) := by
  refine ⟨?_, ?_, ?_⟩
  · intro i hi
    show Sorted (upd p1.own k [] i)
    by_cases e : i = k
    · subst e; rw [upd_same]; simp [Sorted]
    · rw [upd_other _ _ e, e4]; exact hm.ok.sorted i hi
  · intro i hi
    show ∀ y ∈ upd p1.own k [] i, okRoute y
    by_cases e : i = k
    · subst e; rw [upd_same]; intro y hy; cases hy
    · rw [upd_other _ _ e, e4]; exact hm.ok.route i hi
  · intro i hi
    show ∀ y ∈ upd p1.rules k [] i, ruleB y = true
    by_cases e : i = k
    · subst e; rw [upd_same]; intro y hy; cases hy
    · rw [upd_other _ _ e, e3]; exact hm.ok.rule i hi
theorem Mem.createS (hm : Mem p r) (h : Sim p r) {n : Nat} (hn8 : n < 8) (hr : freeR r n) {quota : Int} (hq : qsum p 8 + quota ≤ p.room) : Mem (createXS p n quota) (createS r n quota) := by
  have hq0 := h.quotaF n hn8 hr
  have hother : ∀ i, i < r.nl → (r.life i).gone = false → (r.life i).no.toNat ≠ n := fun i hi hg e => by
    have hno := h.wr.no i hi
    rcases hr i hi with hh | hh
    · rw [hg] at hh; simp at hh
    · exact hh (by omega)
  have key : ∀ {α : Type} (f : Nat → α) (z : α) (sel : Life → α), (∀ i, i < r.nl → (r.life i).gone = false → f (r.life i).no.toNat = sel (r.life i)) → sel ⟨n, quota, 0, 0, [], [], false⟩ = z →
      ∀ i, i < r.nl + 1 → (upd r.life r.nl ⟨n, quota, 0, 0, [], [], false⟩ i).gone = false → upd f n z (upd r.life r.nl ⟨n, quota, 0, 0, [], [], false⟩ i).no.toNat = sel (upd r.life r.nl ⟨n, quota, 0, 0, [], [], false⟩ i) := by
    intro α f z sel hf hz i hi hg
    by_cases e : i = r.nl
    · subst e; rw [upd_same]; show upd f n z ((n : Int)).toNat = _; rw [Int.toNat_natCast, upd_same, hz]
    · rw [upd_other _ _ e] at hg ⊢
      rw [upd_other _ _ (hother i (by omega) hg)]
      exact hf i (by omega) hg
  refine ⟨hm.clear _ n quota rfl rfl, ?_, ?_, ?_, ?_, ?_, ?_⟩
  · exact key p.gives 0 (fun L => L.gives) hm.gives rfl
  · exact key p.takes 0 (fun L => L.takes) hm.takes rfl
  · exact key p.rules [] (fun L => L.rules) hm.rules rfl
  · exact key p.own [] (fun L => sortR L.own) hm.own rfl
  · intro j hj hf
    have hf' : ∀ i, i < r.nl + 1 → (upd r.life r.nl ⟨n, quota, 0, 0, [], [], false⟩ i).gone = true ∨ (upd r.life r.nl ⟨n, quota, 0, 0, [], [], false⟩ i).no ≠ (j : Int) := hf
    show upd p.own n [] j = []
    by_cases e : j = n
    · subst e; rw [upd_same]
    · rw [upd_other _ _ e]
      refine hm.free j hj fun i hi => ?_
      have := hf' i (by omega)
      rw [upd_other _ _ (by omega)] at this
      exact this
  · show qsum (createXS p n quota) 8 ≤ p.room
    rw [qsum_eq]
    show sumF (upd p.quota n quota) 8 ≤ p.room
    rw [sumF_upd _ _ hn8, ← qsum_eq, hq0]
    omega
theorem Mem.dropS (hm : Mem p r) (h : Sim p r) {i : Nat} (hi : i < r.nl) (hg : (r.life i).gone = false) : Mem (dropX p (r.life i).no) (dropS r i) := by
  have hno := h.wr.no i hi
  have hqw := h.wp.quota (r.life i).no.toNat (by omega)
  obtain ⟨n, hn⟩ : ∃ n : Nat, (r.life i).no = (n : Int) := ⟨(r.life i).no.toNat, by omega⟩
  have hn8 : n < 8 := by omega
  have hother : ∀ k, k < r.nl → k ≠ i → (r.life k).gone = false → (r.life k).no.toNat ≠ n := fun k hk hne hgk e => by
    have hnk := h.wr.no k hk
    exact hne (h.uniq k i hk hi hgk hg (by rw [hn]; omega))
  have hnt : (r.life i).no.toNat = n := by rw [hn]; omega
  have key : ∀ {α : Type} (f : Nat → α) (z : α) (sel : Life → α), (∀ k, k < r.nl → (r.life k).gone = false → f (r.life k).no.toNat = sel (r.life k)) →
      ∀ k, k < r.nl → (upd r.life i { r.life i with gone := true, own := [] } k).gone = false → upd f (r.life i).no.toNat z (upd r.life i { r.life i with gone := true, own := [] } k).no.toNat = sel (upd r.life i { r.life i with gone := true, own := [] } k) := by
    intro α f z sel hf k hk hgk
    by_cases e : k = i
    · subst e; rw [upd_same] at hgk; simp at hgk
    · rw [upd_other _ _ e] at hgk ⊢
      rw [hnt, upd_other _ _ (hother k hk e hgk)]
      exact hf k hk hgk
  refine ⟨hm.clear p (r.life i).no.toNat 0 rfl rfl |> fun hc => ⟨hc.sorted, hc.route, hc.rule⟩, ?_, ?_, ?_, ?_, ?_, ?_⟩
  · exact key p.gives 0 (fun L => L.gives) hm.gives
  · exact key p.takes 0 (fun L => L.takes) hm.takes
  · exact key p.rules [] (fun L => L.rules) hm.rules
  · exact key p.own [] (fun L => sortR L.own) hm.own
  · intro j hj hf
    have hf' : ∀ k, k < r.nl → (upd r.life i { r.life i with gone := true, own := [] } k).gone = true ∨ (upd r.life i { r.life i with gone := true, own := [] } k).no ≠ (j : Int) := hf
    show upd p.own (r.life i).no.toNat [] j = []
    rw [hnt]
    by_cases e : j = n
    · subst e; rw [upd_same]
    · rw [upd_other _ _ e]
      refine hm.free j hj fun k hk => ?_
      have := hf' k hk
      by_cases ek : k = i
      · subst ek; right; rw [hn]; omega
      · rw [upd_other _ _ ek] at this; exact this
  · show qsum (dropX p (r.life i).no) 8 ≤ p.room
    rw [qsum_eq]
    show sumF (upd p.quota (r.life i).no.toNat 0) 8 ≤ p.room
    have := hm.sum
    rw [hnt, sumF_upd _ _ hn8, ← qsum_eq]
    rw [hnt] at hqw
    omega
end
end Go.Proofs.Ytgndledehlilkab
