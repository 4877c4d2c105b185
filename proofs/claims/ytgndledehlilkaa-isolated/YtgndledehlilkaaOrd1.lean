/-
  Ordered: what is the case, as plain data.
-/
import Derived.Test.YtgndledehlilkaaGone1
namespace Go.Proofs.Ytgndledehlilkaa
open Go.RowKit

def quota3 (a b c : Int) (i : Nat) : Int := ([a, b, c] : List Int).getD i 0
abbrev quotaO (q : Int) : Nat → Int := quota3 q q q
/-- Three tenants of quotas q, who give and take by gv and tk, with the routes M. -/
def sR (q : Nat → Int) (gv tk : Nat → Int) (M : List RouteD) : RefS := ⟨64, 3, fun i => ⟨i, q i, gv i, tk i, ofT M i, [], false⟩, 3, fun j => ⟨j, 15, [], false⟩⟩
theorem sR_beg (a b c : Int) : begF [a, b, c] 3 = sR (quota3 a b c) (fun _ => 0) (fun _ => 0) [] := rfl
theorem sR_firsts (q : Nat → Int) (gv tk : Nat → Int) (M : List RouteD) : Firsts (sR q gv tk M) 3 := ⟨Nat.le_refl _, fun _ _ => rfl, fun _ _ => rfl⟩
theorem quotaO_is (q : Int) {t : Nat} (h : t < 3) : quotaO q t = q := by
  have : t = 0 ∨ t = 1 ∨ t = 2 := by omega
  rcases this with rfl | rfl | rfl <;> rfl
section
variable {q : Nat → Int} {gv tk : Nat → Int} {M : List RouteD}
theorem sR_share {t : Nat} (ht : t < 3) {g k : Int} (hg : 0 ≤ g ∧ g ≤ 255) (hk : 0 ≤ k ∧ k ≤ 255) : shareR (sR q gv tk M) ((t : Int) + 1) g k = 0 ∧ sharedR (sR q gv tk M) ((t : Int) + 1) g k = sR q (upd gv t g) (upd tk t k) M := by
  obtain ⟨h1, h2, _⟩ := (sR_firsts q gv tk M).share ht hg hk
  refine ⟨h1, h2.trans ?_⟩
  unfold shareS sR
  simp only [RefS.mk.injEq, true_and, and_true]
  funext j
  unfold upd
  by_cases e : j = t
  · subst e
    simp
  · simp [e]
/-- An own route more. -/
theorem sR_insert (hq : ∀ t, t < 3 → 10 ≤ q t) {x : RouteD} (h : OkOnes (M ++ [x])) {t : Nat} (ht : t < 3) (hf : x.from_ = (t : Int)) : insertR (sR q gv tk M) ((t : Int) + 1) x.addr x.len x.hop = 0 ∧ insertedR (sR q gv tk M) ((t : Int) + 1) x.addr x.len x.hop = sR q gv tk (M ++ [x]) := by
  have hx : x ∈ M ++ [x] := by simp
  obtain ⟨m1, m2⟩ := (sR_firsts q gv tk M).may ht (right := 2) (by decide)
  have hn : newRoute (sR q gv tk M) ((t : Int) + 1) x.addr x.len x.hop = x := by
    unfold newRoute
    rw [m2]
    show (⟨x.addr, x.len, x.hop, (t : Int)⟩ : RouteD) = x
    rw [← hf]
  have hown : ((sR q gv tk M).life t).own = ofT M t := rfl
  have hfi : findI (ofT M t) x = -1 := by
    rcases findI_cases (ofT M t) x with ⟨i, hi, _, hs⟩ | ⟨h1, _⟩
    · exfalso
      have hmem : (ofT M t).getD i rt0 ∈ ofT M t := by
        rw [List.getD_eq_getElem?_getD, List.getElem?_eq_getElem hi]
        exact List.getElem_mem hi
      generalize (ofT M t).getD i rt0 = y at *
      unfold ofT at hmem
      rw [List.mem_filter, decide_eq_true_eq] at hmem
      have := (List.pairwise_append.1 h.dist).2.2 y hmem.1 x (by simp)
      unfold sameO at this
      unfold sameB at hs
      rw [hs, hmem.2, hf] at this
      simp at this
    · exact h1
  have hlen : ((ofT M t).length : Int) < q t := by
    have := hq t ht
    have h1 := h.few (t : Int)
    rw [cnt_snoc, if_pos hf] at h1
    have h2 : (ofT M t).length = cnt M (t : Int) := rfl
    omega
  have e0 : insertR (sR q gv tk M) ((t : Int) + 1) x.addr x.len x.hop = 0 := by
    have hi : insIn ((sR q gv tk M).life t) x = 0 := by
      unfold insIn
      rw [hown, hfi, if_neg (show ¬ (0 : Int) ≤ -1 by omega)]
      exact if_neg (show ¬ q t ≤ ((ofT M t).length : Int) by omega)
    unfold insertR
    rw [if_pos m1, h.pfx x hx, (okMask_iff x.hop).2 (h.hop x hx), m2, hn, hi]
    rfl
  refine ⟨e0, ?_⟩
  unfold insertedR
  rw [if_pos e0, m2, hn, hown]
  unfold insOwn
  rw [hfi, if_neg (show ¬ (0 : Int) ≤ -1 by omega)]
  unfold ownS sR
  simp only [RefS.mk.injEq, true_and, and_true]
  funext j
  unfold upd
  rw [ofT_snoc M x t j hf]
  by_cases e : j = t
  · subst e
    rw [if_pos rfl, if_pos rfl]
  · rw [if_neg e, if_neg e]
/-- The same route for a while with another hop. -/
theorem OkOnes.other {x : RouteD} (h : OkOnes (M ++ [x])) {k : Int} (hk : 0 ≤ k ∧ k ≤ 255) : OkOnes (M ++ [{ x with hop := k }]) := by
  have hx : x ∈ M ++ [x] := by simp
  have hM : ∀ y ∈ M, y ∈ M ++ [x] := fun y hy => by simp [hy]
  refine ⟨fun y hy => ?_, fun y hy => ?_, fun y hy => ?_, ?_, fun t => ?_⟩
  · rcases List.mem_append.1 hy with h' | h'
    · exact h.pfx y (hM y h')
    · rw [List.mem_singleton] at h'; subst h'; exact h.pfx x hx
  · rcases List.mem_append.1 hy with h' | h'
    · exact h.hop y (hM y h')
    · rw [List.mem_singleton] at h'; subst h'; exact hk
  · rcases List.mem_append.1 hy with h' | h'
    · exact h.who y (hM y h')
    · rw [List.mem_singleton] at h'; subst h'; exact h.who x hx
  · obtain ⟨h1, _, h3⟩ := List.pairwise_append.1 h.dist
    refine List.pairwise_append.2 ⟨h1, by simp, fun y hy z hz => ?_⟩
    rw [List.mem_singleton] at hz; subst hz
    exact h3 y hy x (by simp)
  · have := h.few t
    rw [cnt_snoc] at this ⊢
    exact this
theorem findI_last {l : List RouteD} {x : RouteD} (h : findI l x = -1) {y : RouteD} (hy : sameB y x = true) : findI (l ++ [y]) x = l.length := by
  refine findI_some (by simp) (fun j hj => ?_) ?_
  · rcases findI_cases l x with ⟨i, _, hi, _⟩ | ⟨_, hall⟩
    · omega
    · have e : (l ++ [y]).getD j rt0 = l.getD j rt0 := by simp [List.getD_eq_getElem?_getD, List.getElem?_append_left hj]
      rw [e]
      exact hall _ (by rw [List.getD_eq_getElem?_getD, List.getElem?_eq_getElem hj]; exact List.getElem_mem hj)
  · have e : (l ++ [y]).getD l.length rt0 = y := by simp [List.getD_eq_getElem?_getD]
    rw [e]; exact hy
theorem sR_remove {x : RouteD} (h : OkOnes (M ++ [x])) {t : Nat} (ht : t < 3) (hf : x.from_ = (t : Int)) : removeR (sR q gv tk (M ++ [x])) ((t : Int) + 1) x.addr x.len = 0 ∧ removedR (sR q gv tk (M ++ [x])) ((t : Int) + 1) x.addr x.len = sR q gv tk M := by
  have hx : x ∈ M ++ [x] := by simp
  obtain ⟨m1, m2⟩ := (sR_firsts q gv tk (M ++ [x])).may ht (right := 2) (by decide)
  have hown : ((sR q gv tk (M ++ [x])).life t).own = ofT M t ++ [x] := by
    show ofT (M ++ [x]) t = _
    rw [ofT_snoc M x t t hf, if_pos rfl]
  have hfi : findI (ofT M t) (pfxRoute x.addr x.len) = -1 := by
    rcases findI_cases (ofT M t) (pfxRoute x.addr x.len) with ⟨i, hi, _, hs⟩ | ⟨h1, _⟩
    · exfalso
      have hmem : (ofT M t).getD i rt0 ∈ ofT M t := by
        rw [List.getD_eq_getElem?_getD, List.getElem?_eq_getElem hi]
        exact List.getElem_mem hi
      generalize (ofT M t).getD i rt0 = y at *
      unfold ofT at hmem
      rw [List.mem_filter, decide_eq_true_eq] at hmem
      have := (List.pairwise_append.1 h.dist).2.2 y hmem.1 x (by simp)
      unfold sameO at this
      have hs' : (y.addr == x.addr && y.len == x.len) = true := hs
      rw [hs', hmem.2, hf] at this
      simp at this
    · exact h1
  have hla : findI (ofT M t ++ [x]) (pfxRoute x.addr x.len) = (ofT M t).length := findI_last hfi (by unfold sameB pfxRoute; simp)
  have e0 : removeR (sR q gv tk (M ++ [x])) ((t : Int) + 1) x.addr x.len = 0 := by
    unfold removeR
    rw [if_pos m1, h.pfx x hx, m2]
    unfold remIn
    rw [hown, hla]
    simp
  refine ⟨e0, ?_⟩
  unfold removedR
  rw [if_pos e0, m2, hown]
  unfold remOwn
  rw [hla]
  have he : (ofT M t ++ [x]).eraseIdx ((ofT M t).length : Int).toNat = ofT M t := by
    rw [Int.toNat_natCast, List.eraseIdx_append_of_length_le (Nat.le_refl _)]
    simp
  rw [he]
  unfold ownS sR
  simp only [RefS.mk.injEq, true_and, and_true]
  funext j
  unfold upd
  have hs := ofT_snoc M x t j hf
  by_cases e : j = t
  · subst e
    rw [if_pos rfl]
  · rw [if_neg e] at hs
    rw [if_neg e]
    simp only
    rw [hs]
theorem ofT_reverse (M : List RouteD) (t : Nat) : ofT M.reverse t = (ofT M t).reverse := List.filter_reverse ..
theorem sameO_comm (x y : RouteD) : sameO x y = sameO y x := by
  unfold sameO
  rw [Bool.eq_iff_iff]
  simp only [Bool.and_eq_true, beq_iff_eq]
  exact ⟨fun ⟨a, b, c⟩ => ⟨a.symm, b.symm, c.symm⟩, fun ⟨a, b, c⟩ => ⟨a.symm, b.symm, c.symm⟩⟩
theorem OkOnes.reverse (h : OkOnes M) : OkOnes M.reverse := by
  refine ⟨fun x hx => h.pfx x (List.mem_reverse.1 hx), fun x hx => h.hop x (List.mem_reverse.1 hx), fun x hx => h.who x (List.mem_reverse.1 hx), ?_, fun t => ?_⟩
  · rw [List.pairwise_reverse]
    exact h.dist.imp fun q => by rw [sameO_comm]; exact q
  · have : cnt M.reverse t = cnt M t := by unfold cnt; rw [List.filter_reverse, List.length_reverse]
    rw [this]; exact h.few t
theorem findI_reverse (l : List RouteD) (x : RouteD) : findI l.reverse x < 0 ↔ findI l x < 0 := by
  have key : ∀ m : List RouteD, findI m x < 0 ↔ ∀ y ∈ m, sameB y x = false := fun m => by
    rcases findI_cases m x with ⟨i, hi, h1, h2⟩ | ⟨h1, h2⟩
    · constructor
      · intro hh; omega
      · intro hh
        have hm : m.getD i rt0 ∈ m := by rw [List.getD_eq_getElem?_getD, List.getElem?_eq_getElem hi]; exact List.getElem_mem hi
        rw [hh _ hm] at h2
        cases h2
    · exact ⟨fun _ => h2, fun _ => by omega⟩
  rw [key, key]
  exact ⟨fun hh y hy => hh y (List.mem_reverse.2 hy), fun hh y hy => hh y (List.mem_reverse.1 hy)⟩
theorem sR_cand (t : Nat) (x : RouteD) : Cand (sR q gv tk M.reverse) t x ↔ Cand (sR q gv tk M) t x := by
  have ho : ∀ u, offerB (sR q gv tk M.reverse) t u x = offerB (sR q gv tk M) t u x := fun u => by
    unfold offerB
    have : decide (findI ((sR q gv tk M.reverse).life t).own x < 0) = decide (findI ((sR q gv tk M).life t).own x < 0) := by
      have e : ((sR q gv tk M.reverse).life t).own = (ofT M t).reverse := ofT_reverse M t
      rw [e]
      exact decide_eq_decide.2 (findI_reverse _ _)
    rw [this]
    rfl
  have hm : ∀ u, x ∈ ((sR q gv tk M.reverse).life u).own ↔ x ∈ ((sR q gv tk M).life u).own := fun u => by
    have e : ((sR q gv tk M.reverse).life u).own = (ofT M u).reverse := ofT_reverse M u
    rw [e, List.mem_reverse]
    exact Iff.rfl
  unfold Cand
  constructor
  · rintro ⟨u, h1, h2, h3⟩
    exact ⟨u, h1, (hm u).1 h2, by rw [← ho]; exact h3⟩
  · rintro ⟨u, h1, h2, h3⟩
    exact ⟨u, h1, (hm u).2 h2, by rw [ho]; exact h3⟩
theorem sR_same (h1 : RefOk (sR q gv tk M)) (h2 : RefOk (sR q gv tk M.reverse)) {t : Nat} (ht : t < 3) : offF (sR q gv tk M.reverse) t = offF (sR q gv tk M) t ∧ takenF (sR q gv tk M.reverse) t = takenF (sR q gv tk M) t ∧ tabF (sR q gv tk M.reverse) t = tabF (sR q gv tk M) t := by
  have e1 : offF (sR q gv tk M.reverse) t = offF (sR q gv tk M) t := by
    obtain ⟨s1, m1⟩ := offF_is h1.tab h1.own t
    obtain ⟨s2, m2⟩ := offF_is h2.tab h2.own t
    refine sorted_ext s2 s1 fun x => ?_
    rw [m1, m2]
    unfold Best
    rw [sR_cand]
    exact ⟨fun ⟨a, b⟩ => ⟨a, fun y hy => b y ((sR_cand t y).2 hy)⟩, fun ⟨a, b⟩ => ⟨a, fun y hy => b y ((sR_cand t y).1 hy)⟩⟩
  have e2 : takenF (sR q gv tk M.reverse) t = takenF (sR q gv tk M) t := by
    unfold takenF
    rw [e1]
    have : spare ((sR q gv tk M.reverse).life t) = spare ((sR q gv tk M).life t) := by
      unfold spare
      have e : ((sR q gv tk M.reverse).life t).own.length = ((sR q gv tk M).life t).own.length := by
        have e : ((sR q gv tk M.reverse).life t).own = (ofT M t).reverse := ofT_reverse M t
        rw [e, List.length_reverse]
        rfl
      rw [e]
      rfl
    rw [this]
  refine ⟨e1, e2, ?_⟩
  obtain ⟨s1, m1⟩ := tabF_is h1.tab h1.own (t := t) ht
  obtain ⟨s2, m2⟩ := tabF_is h2.tab h2.own (t := t) ht
  refine sorted_ext s2 s1 fun x => ?_
  rw [m1, m2, e2]
  have e : ((sR q gv tk M.reverse).life t).own = (ofT M t).reverse := ofT_reverse M t
  rw [e, List.mem_reverse]
  exact Iff.rfl
/-- What Table and Count tell. -/
theorem sR_told (h1 : RefOk (sR q gv tk M)) (h2 : RefOk (sR q gv tk M.reverse)) {t : Nat} (ht : t < 3) :
    mayI (sR q gv tk M) ((t : Int) + 1) 1 = 0 ∧ mayI (sR q gv tk M.reverse) ((t : Int) + 1) 1 = 0 ∧ tableL (sR q gv tk M.reverse) ((t : Int) + 1) = tableL (sR q gv tk M) ((t : Int) + 1) ∧
      countF (sR q gv tk M.reverse) ((t : Int) + 1) = countF (sR q gv tk M) ((t : Int) + 1) ∧ (countF (sR q gv tk M) ((t : Int) + 1)).quota = q t ∧
      ((tableL (sR q gv tk M) ((t : Int) + 1)).length : Int) = (countF (sR q gv tk M) ((t : Int) + 1)).own + (countF (sR q gv tk M) ((t : Int) + 1)).taken ∧
      ∀ x ∈ M, x.from_ = (t : Int) → ((tableL (sR q gv tk M) ((t : Int) + 1)).any fun z => eqR z x) = true := by
  obtain ⟨a1, a2⟩ := (sR_firsts q gv tk M).may ht (right := 1) (by decide)
  obtain ⟨b1, b2⟩ := (sR_firsts q gv tk M.reverse).may ht (right := 1) (by decide)
  obtain ⟨o1, o2, o3⟩ := sR_same h1 h2 ht
  have t1 : tableL (sR q gv tk M) ((t : Int) + 1) = tabF (sR q gv tk M) t := by unfold tableL; rw [if_pos a1, a2]
  have t2 : tableL (sR q gv tk M.reverse) ((t : Int) + 1) = tabF (sR q gv tk M.reverse) t := by unfold tableL; rw [if_pos b1, b2]
  have el : ((sR q gv tk M.reverse).life t).own.length = ((sR q gv tk M).life t).own.length := by
    have e : ((sR q gv tk M.reverse).life t).own = (ofT M t).reverse := ofT_reverse M t
    rw [e, List.length_reverse]
    rfl
  have c1 : countF (sR q gv tk M) ((t : Int) + 1) = ⟨((sR q gv tk M).life t).own.length, (takenF (sR q gv tk M) t).length, droppedR ((sR q gv tk M).life t) (offF (sR q gv tk M) t), q t⟩ := by
    unfold countF; rw [if_pos a1, a2]; rfl
  have c2 : countF (sR q gv tk M.reverse) ((t : Int) + 1) = ⟨((sR q gv tk M).life t).own.length, (takenF (sR q gv tk M) t).length, droppedR ((sR q gv tk M).life t) (offF (sR q gv tk M) t), q t⟩ := by
    unfold countF
    rw [if_pos b1, b2, o1, o2, el]
    have : droppedR ((sR q gv tk M.reverse).life t) (offF (sR q gv tk M) t) = droppedR ((sR q gv tk M).life t) (offF (sR q gv tk M) t) := by
      unfold droppedR spare
      rw [el]
      rfl
    rw [this]
    rfl
  refine ⟨a1, b1, by rw [t1, t2, o3], by rw [c1, c2], by rw [c1], ?_, fun x hx hf => ?_⟩
  · rw [t1, c1]
    unfold tabF
    rw [tableR_len]
    show ((((sR q gv tk M).life t).own.length + ((offF (sR q gv tk M) t).take (spare ((sR q gv tk M).life t))).length : Nat) : Int) = (((sR q gv tk M).life t).own.length : Int) + ((takenF (sR q gv tk M) t).length : Int)
    unfold takenF
    omega
  · rw [t1, List.any_eq_true]
    obtain ⟨_, m⟩ := tabF_is h1.tab h1.own (t := t) ht
    refine ⟨x, (m x).2 (.inl ?_), (eqR_iff x x).2 rfl⟩
    show x ∈ ofT M t
    unfold ofT
    rw [List.mem_filter]
    exact ⟨hx, by simp [hf]⟩
end
end Go.Proofs.Ytgndledehlilkaa
