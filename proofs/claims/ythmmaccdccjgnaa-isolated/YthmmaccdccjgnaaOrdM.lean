import Derived.Test.YthmmaccdccjgnaaGone1
namespace Go.Proofs.Ythmmaccdccjgnaa
open Go.RowKit

def quota3 (a b c : Int) (i : Nat) : Int := ([a, b, c] : List Int).getD i 0
abbrev quotaO (q : Int) : Nat → Int := quota3 q q q
/-- Three tenants of quotas q, who give and take by gv and tk, with the routes M. -/
def sR (q : Nat → Int) (gv tk : Nat → Int) (M : List RouteD) : RefS := ⟨64, 3, fun i => ⟨i, q i, gv i, tk i, ofT M i, [], false⟩, 3, fun j => ⟨j, 15, [], false⟩⟩
theorem sR_beg (a b c : Int) : begF [a, b, c] 3 = sR (quota3 a b c) (fun _ => 0) (fun _ => 0) [] := rfl
theorem sR_firsts (q : Nat → Int) (gv tk : Nat → Int) (M : List RouteD) : Firsts (sR q gv tk M) 3 := ⟨Nat.le_refl _, fun _ _ => rfl, fun _ _ => rfl⟩
theorem quotaO_is (q : Int) {t : Nat} (h : t < 3) : quotaO q t = q := by
  have : t = 0 ∨ t = 1 ∨ t = 2 := by omega
  rcases this with rfl | rfl | rfl <;> rfl
section
variable {q : Nat → Int} {gv tk : Nat → Int} {M : List RouteD}
theorem sR_share {t : Nat} (ht : t < 3) {g k : Int} (hg : 0 ≤ g ∧ g ≤ 255) (hk : 0 ≤ k ∧ k ≤ 255) : shareR (sR q gv tk M) ((t : Int) + 1) g k = 0 ∧ sharedR (sR q gv tk M) ((t : Int) + 1) g k = sR q (upd gv t g) (upd tk t k) M := by
  obtain ⟨h1, h2, _⟩ := (sR_firsts q gv tk M).share ht hg hk
  refine ⟨h1, h2.trans ?_⟩
  unfold shareS sR
  simp only [RefS.mk.injEq, true_and, and_true]
  funext j
  unfold upd
  by_cases e : j = t
  · subst e
    simp
  · simp [e]
/-- An own route more. -/
theorem sR_insert (hq : ∀ t, t < 3 → 10 ≤ q t) {x : RouteD} (h : OkOnes (M ++ [x])) {t : Nat} (ht : t < 3) (hf : x.from_ = (t : Int)) : insertR (sR q gv tk M) ((t : Int) + 1) x.addr x.len x.hop = 0 ∧ insertedR (sR q gv tk M) ((t : Int) + 1) x.addr x.len x.hop = sR q gv tk (M ++ [x]) := by
  have hx : x ∈ M ++ [x] := by simp
  obtain ⟨m1, m2⟩ := (sR_firsts q gv tk M).may ht (right := 2) (by decide)
  have hn : newRoute (sR q gv tk M) ((t : Int) + 1) x.addr x.len x.hop = x := by
    unfold newRoute
    rw [m2]
    show (⟨x.addr, x.len, x.hop, (t : Int)⟩ : RouteD) = x
    rw [← hf]
  have hown : ((sR q gv tk M).life t).own = ofT M t := rfl
  have hfi : findI (ofT M t) x = -1 := by
    rcases findI_cases (ofT M t) x with ⟨i, hi, _, hs⟩ | ⟨h1, _⟩
    · exfalso
      have hmem : (ofT M t).getD i rt0 ∈ ofT M t := by
        rw [List.getD_eq_getElem?_getD, List.getElem?_eq_getElem hi]
        exact List.getElem_mem hi
      generalize (ofT M t).getD i rt0 = y at *
      unfold ofT at hmem
      rw [List.mem_filter, decide_eq_true_eq] at hmem
      have := (List.pairwise_append.1 h.dist).2.2 y hmem.1 x (by simp)
      unfold sameO at this
      unfold sameB at hs
      rw [hs, hmem.2, hf] at this
      simp at this
    · exact h1
  have hlen : ((ofT M t).length : Int) < q t := by
    have := hq t ht
    have h1 := h.few (t : Int)
    rw [cnt_snoc, if_pos hf] at h1
    have h2 : (ofT M t).length = cnt M (t : Int) := rfl
    omega
  have e0 : insertR (sR q gv tk M) ((t : Int) + 1) x.addr x.len x.hop = 0 := by
    have hi : insIn ((sR q gv tk M).life t) x = 0 := by
      unfold insIn
      rw [hown, hfi, if_neg (show ¬ (0 : Int) ≤ -1 by omega)]
      exact if_neg (show ¬ q t ≤ ((ofT M t).length : Int) by omega)
    unfold insertR
    rw [if_pos m1, h.pfx x hx, (okMask_iff x.hop).2 (h.hop x hx), m2, hn, hi]
    rfl
  refine ⟨e0, ?_⟩
  unfold insertedR
  rw [if_pos e0, m2, hn, hown]
  unfold insOwn
  rw [hfi, if_neg (show ¬ (0 : Int) ≤ -1 by omega)]
  unfold ownS sR
  simp only [RefS.mk.injEq, true_and, and_true]
  funext j
  unfold upd
  rw [ofT_snoc M x t j hf]
  by_cases e : j = t
  · subst e
    rw [if_pos rfl, if_pos rfl]
  · rw [if_neg e, if_neg e]
/-- The same route for a while with another hop. -/
theorem OkOnes.other {x : RouteD} (h : OkOnes (M ++ [x])) {k : Int} (hk : 0 ≤ k ∧ k ≤ 255) : OkOnes (M ++ [{ x with hop := k }]) := by
  have hx : x ∈ M ++ [x] := by simp
  have hM : ∀ y ∈ M, y ∈ M ++ [x] := fun y hy => by simp [hy]
  refine ⟨fun y hy => ?_, fun y hy => ?_, fun y hy => ?_, ?_, fun t => ?_⟩
  · rcases List.mem_append.1 hy with h' | h'
    · exact h.pfx y (hM y h')
    · rw [List.mem_singleton] at h'; subst h'; exact h.pfx x hx
  · rcases List.mem_append.1 hy with h' | h'
    · exact h.hop y (hM y h')
    · rw [List.mem_singleton] at h'; subst h'; exact hk
  · rcases List.mem_append.1 hy with h' | h'
    · exact h.who y (hM y h')
    · rw [List.mem_singleton] at h'; subst h'; exact h.who x hx
  · obtain ⟨h1, _, h3⟩ := List.pairwise_append.1 h.dist
    refine List.pairwise_append.2 ⟨h1, by simp, fun y hy z hz => ?_⟩
    rw [List.mem_singleton] at hz; subst hz
    exact h3 y hy x (by simp)
  · have := h.few t
    rw [cnt_snoc] at this ⊢
    exact this
theorem findI_last {l : List RouteD} {x : RouteD} (h : findI l x = -1) {y : RouteD} (hy : sameB y x = true) : findI (l ++ [y]) x = l.length := by
  refine findI_some (by simp) (fun j hj => ?_) ?_
  · rcases findI_cases l x with ⟨i, _, hi, _⟩ | ⟨_, hall⟩
    · omega
    · have e : (l ++ [y]).getD j rt0 = l.getD j rt0 := by simp [List.getD_eq_getElem?_getD, List.getElem?_append_left hj]
      rw [e]
      exact hall _ (by rw [List.getD_eq_getElem?_getD, List.getElem?_eq_getElem hj]; exact List.getElem_mem hj)
  · have e : (l ++ [y]).getD l.length rt0 = y := by simp [List.getD_eq_getElem?_getD]
    rw [e]; exact hy
theorem sR_remove {x : RouteD} (h : OkOnes (M ++ [x])) {t : Nat} (ht : t < 3) (hf : x.from_ = (t : Int)) : removeR (sR q gv tk (M ++ [x])) ((t : Int) + 1) x.addr x.len = 0 ∧ removedR (sR q gv tk (M ++ [x])) ((t : Int) + 1) x.addr x.len = sR q gv tk M := by
  have hx : x ∈ M ++ [x] := by simp
  obtain ⟨m1, m2⟩ := (sR_firsts q gv tk (M ++ [x])).may ht (right := 2) (by decide)
  have hown : ((sR q gv tk (M ++ [x])).life t).own = ofT M t ++ [x] := by
    show ofT (M ++ [x]) t = _
    rw [ofT_snoc M x t t hf, if_pos rfl]
  have hfi : findI (ofT M t) (pfxRoute x.addr x.len) = -1 := by
    rcases findI_cases (ofT M t) (pfxRoute x.addr x.len) with ⟨i, hi, _, hs⟩ | ⟨h1, _⟩
    · exfalso
      have hmem : (ofT M t).getD i rt0 ∈ ofT M t := by
        rw [List.getD_eq_getElem?_getD, List.getElem?_eq_getElem hi]
        exact List.getElem_mem hi
      generalize (ofT M t).getD i rt0 = y at *
      unfold ofT at hmem
      rw [List.mem_filter, decide_eq_true_eq] at hmem
      have := (List.pairwise_append.1 h.dist).2.2 y hmem.1 x (by simp)
      unfold sameO at this
      have hs' : (y.addr == x.addr && y.len == x.len) = true := hs
      rw [hs', hmem.2, hf] at this
      simp at this
    · exact h1
  have hla : findI (ofT M t ++ [x]) (pfxRoute x.addr x.len) = (ofT M t).length := findI_last hfi (by unfold sameB pfxRoute; simp)
  have e0 : removeR (sR q gv tk (M ++ [x])) ((t : Int) + 1) x.addr x.len = 0 := by
    unfold removeR
    rw [if_pos m1, h.pfx x hx, m2]
    unfold remIn
    rw [hown, hla]
    simp
  refine ⟨e0, ?_⟩
  unfold removedR
  rw [if_pos e0, m2, hown]
  unfold remOwn
  rw [hla]
  have he : (ofT M t ++ [x]).eraseIdx ((ofT M t).length : Int).toNat = ofT M t := by
    rw [Int.toNat_natCast, List.eraseIdx_append_of_length_le (Nat.le_refl _)]
    simp
  rw [he]
  unfold ownS sR
  simp only [RefS.mk.injEq, true_and, and_true]
  funext j
  unfold upd
  have hs := ofT_snoc M x t j hf
  by_cases e : j = t
  · subst e
    rw [if_pos rfl]
  · rw [if_neg e] at hs
    rw [if_neg e]
    simp only
    rw [hs]
theorem ofT_reverse (M : List RouteD) (t : Nat) : ofT M.reverse t = (ofT M t).reverse := List.filter_reverse ..
theorem sameO_comm (x y : RouteD) : sameO x y = sameO y x := by
  unfold sameO
  rw [Bool.eq_iff_iff]
  simp only [Bool.and_eq_true, beq_iff_eq]
  exact ⟨fun ⟨a, b, c⟩ => ⟨a.symm, b.symm, c.symm⟩, fun ⟨a, b, c⟩ => ⟨a.symm, b.symm, c.symm⟩⟩
theorem OkOnes.reverse (h : OkOnes M) : OkOnes M.reverse := by
  refine ⟨fun x hx => h.pfx x (List.mem_reverse.1 hx), fun x hx => h.hop x (List.mem_reverse.1 hx), fun x hx => h.who x (List.mem_reverse.1 hx), ?_, fun t => ?_⟩
  · rw [List.pairwise_reverse]
    exact h.dist.imp fun q => by rw [sameO_comm]; exact q
  · have : cnt M.reverse t = cnt M t := by unfold cnt; rw [List.filter_reverse, List.length_reverse]
    rw [this]; exact h.few t
theorem findI_reverse (l : List RouteD) (x : RouteD) : findI l.reverse x < 0 ↔ findI l x < 0 := by
  have key : ∀ m : List RouteD, findI m x < 0 ↔ ∀ y ∈ m, sameB y x = false := fun m => by
    rcases findI_cases m x with ⟨i, hi, h1, h2⟩ | ⟨h1, h2⟩
    · constructor
      · intro hh; omega
      · intro hh
        have hm : m.getD i rt0 ∈ m := by rw [List.getD_eq_getElem?_getD, List.getElem?_eq_getElem hi]; exact List.getElem_mem hi
        rw [hh _ hm] at h2
        cases h2
    · exact ⟨fun _ => h2, fun _ => by omega⟩
  rw [key, key]
  exact ⟨fun hh y hy => hh y (List.mem_reverse.2 hy), fun hh y hy => hh y (List.mem_reverse.1 hy)⟩
theorem sR_cand (t : Nat) (x : RouteD) : Cand (sR q gv tk M.reverse) t x ↔ Cand (sR q gv tk M) t x := by
  have ho : ∀ u, offerB (sR q gv tk M.reverse) t u x = offerB (sR q gv tk M) t u x := fun u => by
    unfold offerB
    have : decide (findI ((sR q gv tk M.reverse).life t).own x < 0) = decide (findI ((sR q gv tk M).life t).own x < 0) := by
      have e : ((sR q gv tk M.reverse).life t).own = (ofT M t).reverse := ofT_reverse M t
      rw [e]
      exact decide_eq_decide.2 (findI_reverse _ _)
    rw [this]
    rfl
  have hm : ∀ u, x ∈ ((sR q gv tk M.reverse).life u).own ↔ x ∈ ((sR q gv tk M).life u).own := fun u => by
    have e : ((sR q gv tk M.reverse).life u).own = (ofT M u).reverse := ofT_reverse M u
    rw [e, List.mem_reverse]
    exact Iff.rfl
  unfold Cand
  constructor
  · rintro ⟨u, h1, h2, h3⟩
    exact ⟨u, h1, (hm u).1 h2, by rw [← ho]; exact h3⟩
  · rintro ⟨u, h1, h2, h3⟩
    exact ⟨u, h1, (hm u).2 h2, by rw [ho]; exact h3⟩
theorem sR_same (h1 : RefOk (sR q gv tk M)) (h2 : RefOk (sR q gv tk M.reverse)) {t : Nat} (ht : t < 3) : offF (sR q gv tk M.reverse) t = offF (sR q gv tk M) t ∧ takenF (sR q gv tk M.reverse) t = takenF (sR q gv tk M) t ∧ tabF (sR q gv tk M.reverse) t = tabF (sR q gv tk M) t := by
  have e1 : offF (sR q gv tk M.reverse) t = offF (sR q gv tk M) t := by
    obtain ⟨s1, m1⟩ := offF_is h1.tab h1.own t
    obtain ⟨s2, m2⟩ := offF_is h2.tab h2.own t
    refine sorted_ext s2 s1 fun x => ?_
    rw [m1, m2]
    unfold Best
    rw [sR_cand]
    exact ⟨fun ⟨a, b⟩ => ⟨a, fun y hy => b y ((sR_cand t y).2 hy)⟩, fun ⟨a, b⟩ => ⟨a, fun y hy => b y ((sR_cand t y).1 hy)⟩⟩
  have e2 : takenF (sR q gv tk M.reverse) t = takenF (sR q gv tk M) t := by
    unfold takenF
    rw [e1]
    have : spare ((sR q gv tk M.reverse).life t) = spare ((sR q gv tk M).life t) := by
      unfold spare
      have e : ((sR q gv tk M.reverse).life t).own.length = ((sR q gv tk M).life t).own.length := by
        have e : ((sR q gv tk M.reverse).life t).own = (ofT M t).reverse := ofT_reverse M t
        rw [e, List.length_reverse]
        rfl
      rw [e]
      rfl
    rw [this]
  refine ⟨e1, e2, ?_⟩
  obtain ⟨s1, m1⟩ := tabF_is h1.tab h1.own (t := t) ht
  obtain ⟨s2, m2⟩ := tabF_is h2.tab h2.own (t := t) ht
  refine sorted_ext s2 s1 fun x => ?_
  rw [m1, m2, e2]
  have e : ((sR q gv tk M.reverse).life t).own = (ofT M t).reverse := ofT_reverse M t
  rw [e, List.mem_reverse]
  exact Iff.rfl
/-- What Table and Count tell. -/
theorem sR_told (h1 : RefOk (sR q gv tk M)) (h2 : RefOk (sR q gv tk M.reverse)) {t : Nat} (ht : t < 3) :
    mayI (sR q gv tk M) ((t : Int) + 1) 1 = 0 ∧ mayI (sR q gv tk M.reverse) ((t : Int) + 1) 1 = 0 ∧ tableL (sR q gv tk M.reverse) ((t : Int) + 1) = tableL (sR q gv tk M) ((t : Int) + 1) ∧
      countF (sR q gv tk M.reverse) ((t : Int) + 1) = countF (sR q gv tk M) ((t : Int) + 1) ∧ (countF (sR q gv tk M) ((t : Int) + 1)).quota = q t ∧
      ((tableL (sR q gv tk M) ((t : Int) + 1)).length : Int) = (countF (sR q gv tk M) ((t : Int) + 1)).own + (countF (sR q gv tk M) ((t : Int) + 1)).taken ∧
      ∀ x ∈ M, x.from_ = (t : Int) → ((tableL (sR q gv tk M) ((t : Int) + 1)).any fun z => eqR z x) = true := by
  obtain ⟨a1, a2⟩ := (sR_firsts q gv tk M).may ht (right := 1) (by decide)
  obtain ⟨b1, b2⟩ := (sR_firsts q gv tk M.reverse).may ht (right := 1) (by decide)
  obtain ⟨o1, o2, o3⟩ := sR_same h1 h2 ht
  have t1 : tableL (sR q gv tk M) ((t : Int) + 1) = tabF (sR q gv tk M) t := by unfold tableL; rw [if_pos a1, a2]
  have t2 : tableL (sR q gv tk M.reverse) ((t : Int) + 1) = tabF (sR q gv tk M.reverse) t := by unfold tableL; rw [if_pos b1, b2]
  have el : ((sR q gv tk M.reverse).life t).own.length = ((sR q gv tk M).life t).own.length := by
    have e : ((sR q gv tk M.reverse).life t).own = (ofT M t).reverse := ofT_reverse M t
    rw [e, List.length_reverse]
    rfl
  have c1 : countF (sR q gv tk M) ((t : Int) + 1) = ⟨((sR q gv tk M).life t).own.length, (takenF (sR q gv tk M) t).length, droppedR ((sR q gv tk M).life t) (offF (sR q gv tk M) t), q t⟩ := by
    unfold countF; rw [if_pos a1, a2]; rfl
  have c2 : countF (sR q gv tk M.reverse) ((t : Int) + 1) = ⟨((sR q gv tk M).life t).own.length, (takenF (sR q gv tk M) t).length, droppedR ((sR q gv tk M).life t) (offF (sR q gv tk M) t), q t⟩ := by
    unfold countF
    rw [if_pos b1, b2, o1, o2, el]
    have : droppedR ((sR q gv tk M.reverse).life t) (offF (sR q gv tk M) t) = droppedR ((sR q gv tk M).life t) (offF (sR q gv tk M) t) := by
      unfold droppedR spare
      rw [el]
      rfl
    rw [this]
    rfl
  refine ⟨a1, b1, by rw [t1, t2, o3], by rw [c1, c2], by rw [c1], ?_, fun x hx hf => ?_⟩
  · rw [t1, c1]
    unfold tabF
    rw [tableR_len]
    show ((((sR q gv tk M).life t).own.length + ((offF (sR q gv tk M) t).take (spare ((sR q gv tk M).life t))).length : Nat) : Int) = (((sR q gv tk M).life t).own.length : Int) + ((takenF (sR q gv tk M) t).length : Int)
    unfold takenF
    omega
  · rw [t1, List.any_eq_true]
    obtain ⟨_, m⟩ := tabF_is h1.tab h1.own (t := t) ht
    refine ⟨x, (m x).2 (.inl ?_), (eqR_iff x x).2 rfl⟩
    show x ∈ ofT M t
    unfold ofT
    rw [List.mem_filter]
    exact ⟨hx, by simp [hf]⟩
end

theorem neRoute (x : RouteD) (w : World) : (binOp .neq 34 (.agg #[.int .i64 x.addr, .int .i64 x.len, .int .i64 x.hop, .int .i64 x.from_]) (.agg #[.int .i64 x.addr, .int .i64 x.len, .int .i64 x.hop, .int .i64 x.from_])).run Try.prog w = .ok (.bool false) w := by
  have hu := Try.underlying34
  have hf : Try.prog.underlying 34 = some (.struct (Try.prog.fieldsOf 34)) := by unfold Program.fieldsOf; rw [hu]
  have hp : Try.prog.stoodInHeld 34 = false := by kernel_rfl
  rw [run_neq_struct, run_equalIn_struct w 9999 _ _ _ hf hp]
  unfold Program.fieldsOf
  rw [hu]
  simp [Op.eqFields, go_sem, Try.underlying3]
set_option maxHeartbeats 2000000 in
/-- Of two lists of the same routes. -/
theorem alikeK {w : World} {base base' : Nat} {v u : Value} {l : List RouteD} (h : w.ownsRow base 34 4 v l.length (l.flatMap routeCells)) (h' : w.ownsRow base' 34 4 u l.length (l.flatMap routeCells)) (hl : l.length ≤ 1000000) :
    Calls Try.prog 18 #[v, u] w fun e w' => e = .returned (.bool true) ∧ Still w w' := by
  obtain ⟨va, vc, rfl, hv1, hv2⟩ := ownsRow_slice h
  obtain ⟨ua, uc, rfl, hu1, hu2⟩ := ownsRow_slice h'
  unfold maxLen at hv2 hu2
  have HR := hide h
  have HR' := hide h'
  have HW0 : Hid (Still w w) := Kept.refl _ _
  clear h h'
  go_enter Try.func18, Try.ntmps18
  go_wp2
  go_loopw [5] (fun s w' => ∃ k : Nat, k ≤ l.length ∧ s = .int .i64 k ∧ Still w w') (fun s _ => l.length - (intOf s).toNat)
  case atStart => exact ⟨0, Nat.zero_le _, rfl, unhide HW0⟩
  case round =>
    obtain ⟨k, hk, rfl, hw⟩ := hrel
    have HW := hide hw
    clear hw
    by_cases hlt : k < l.length
    · obtain ⟨g, rfl, hg⟩ := ownsRow_some (unhide HR) (by omega)
      obtain ⟨g', rfl, hg'⟩ := ownsRow_some (unhide HR') (by omega)
      have hr := kept_row (unhide HR) (unhide HW) (fun _ _ q => q)
      have hr' := kept_row (unhide HR') (unhide HW) (fun _ _ q => q)
      obtain ⟨x0, x1, x2, x3⟩ := rowCell hr rfl hlt
      obtain ⟨y0, y1, y2, y3⟩ := rowCell hr' rfl hlt
      have hgw : g < wr.heap.size := ownsRow_lt hr rfl
      have hgw' : g' < wr.heap.size := ownsRow_lt hr' rfl
      have hk0 : (0 : Int) ≤ (k : Int) := by omega
      have hkl : (k : Int) < (l.length : Int) := by omega
      have hE := fun w => neRoute (l.getD k rt0) w
      clear hr hr'
      generalize l.getD k rt0 = y at *
      go_wp2_with fail
      go_quiet (fail)
      go_wp2
      go_roundw
      case rel => exact ⟨k + 1, by omega, by go_num, (unhide HW).drewN _⟩
      case measure => simp [intOf]; omega
    · obtain rfl : k = l.length := by omega
      go_wp2
      go_ret
      exact ⟨rfl, unhide HW⟩

/-- Two marks out of a raw number. -/
def mF (raw s : Int) : Int := bits .and .i64 (raw / 2 ^ s.toNat) 3
theorem mF_range (raw s : Int) : 0 ≤ mF raw s ∧ mF raw s ≤ 255 := by
  unfold mF
  generalize raw / 2 ^ s.toNat = x
  have h3 : (BitVec.ofInt 64 (3 : Int)).toNat = 3 := by decide
  have hb : (BitVec.ofInt 64 x &&& BitVec.ofInt 64 (3 : Int)).toNat ≤ 3 := by
    rw [BitVec.toNat_and, h3]
    exact Nat.and_le_right
  show 0 ≤ IntKind.i64.wrap ((BitVec.ofInt 64 x &&& BitVec.ofInt 64 (3 : Int)).toNat : Int) ∧ IntKind.i64.wrap ((BitVec.ofInt 64 x &&& BitVec.ofInt 64 (3 : Int)).toNat : Int) ≤ 255
  generalize (BitVec.ofInt 64 x &&& BitVec.ofInt 64 (3 : Int)).toNat = z at *
  rw [wrap_small (by omega) (by omega)]
  omega
def gS (raw : Int) (gv : Nat → Int) (j : Nat) : Nat → Int := fun i => if i < j then mF raw (4 * (i : Int)) else gv i
def tS (raw : Int) (tk : Nat → Int) (j : Nat) : Nat → Int := fun i => if i < j then mF raw (4 * (i : Int) + 2) else tk i
theorem upd_next (f : Nat → Int) (gv : Nat → Int) (j : Nat) : upd (fun i => if i < j then f i else gv i) j (f j) = fun i => if i < j + 1 then f i else gv i := by
  funext i
  unfold upd
  by_cases e : i = j
  · subst e
    rw [if_pos rfl, if_pos (by omega)]
  · rw [if_neg e]
    show (if i < j then f i else gv i) = _
    by_cases h : i < j
    · rw [if_pos h, if_pos (by omega)]
    · rw [if_neg h, if_neg (by omega)]
theorem gS_zero (raw : Int) (gv : Nat → Int) : gS raw gv 0 = gv := by funext i; unfold gS; rw [if_neg (by omega)]
theorem tS_zero (raw : Int) (tk : Nat → Int) : tS raw tk 0 = tk := by funext i; unfold tS; rw [if_neg (by omega)]
theorem gS_next (raw : Int) (gv : Nat → Int) (j : Nat) : upd (gS raw gv j) j (mF raw (4 * (j : Int))) = gS raw gv (j + 1) := upd_next (fun i => mF raw (4 * (i : Int))) gv j
theorem tS_next (raw : Int) (tk : Nat → Int) (j : Nat) : upd (tS raw tk j) j (mF raw (4 * (j : Int) + 2)) = tS raw tk (j + 1) := upd_next (fun i => mF raw (4 * (i : Int) + 2)) tk j
theorem Now.again {w0 w w1 w2 : World} {O O1 : Tag} {e b : Nat} {r : RefS} (hA : ∀ k, k < w.heap.size → O1 k = O k) (hK : Kept (mineX O e) w w1) (h : Now w0 w1 O1 e b r w2) : Now w0 w O e b r w2 := by
  obtain ⟨O2, h1, h2, h3, h4⟩ := h
  refine ⟨O2, fun k hk => (h1 k (Nat.lt_of_lt_of_le hk hK.size)).trans (hA k hk), h2, Kept.trans' hK h3 (fun i hi q => ?_), h4⟩
  unfold mineX at q ⊢
  rw [hA i hi] at q
  exact q
set_option maxHeartbeats 4000000 in
theorem sharedK {w0 w : World} {O : Tag} {e b : Nat} {q gv tk : Nat → Int} {M : List RouteD} (h : On w0 w O e b (sR q gv tk M)) (raw : Int) :
    Calls Try.prog 20 #[.pointer (some ⟨b, 0, none⟩), .int .i64 raw] w fun en w' => en = .returned (.bool true) ∧ Now w0 w O e b (sR q (gS raw gv 3) (tS raw tk 3) M) w' := by
  have hN0 : Now w0 w O e b (sR q (gS raw gv 0) (tS raw tk 0) M) w := by
    rw [gS_zero, tS_zero]
    exact ⟨cutK O w.heap.size, fun k hk => cutK_lt hk, h.cut, Kept.refl _ _, fun k hk => cutK_ge hk⟩
  have HN0 := hide hN0
  clear h hN0
  go_enter Try.func20, Try.ntmps20
  go_wp2
  go_loopw [5, 6] (fun i _ w' => ∃ k : Nat, k ≤ 3 ∧ i = .int .i64 k ∧ Now w0 w O e b (sR q (gS raw gv k) (tS raw tk k) M) w') (fun i _ _ => 3 - (intOf i).toNat)
  case atStart => exact ⟨0, by omega, rfl, unhide HN0⟩
  case round =>
    obtain ⟨k, hk, rfl, hn⟩ := hrel
    by_cases hlt : k < 3
    · obtain ⟨O1, hA, hon, hK, _⟩ := hn
      obtain ⟨e1, e2⟩ := sR_share (q := q) (gv := gS raw gv k) (tk := tS raw tk k) (M := M) hlt (mF_range raw (4 * (k : Int))) (mF_range raw (4 * (k : Int) + 2))
      rw [gS_next, tS_next] at e2
      have hw1 : IntKind.i64.wrap ((k : Int) + 1) = (k : Int) + 1 := wrap_small (by omega) (by omega)
      have hw4 : IntKind.i64.wrap (4 * (k : Int)) = 4 * (k : Int) := wrap_small (by omega) (by omega)
      have hw6 : IntKind.i64.wrap (4 * (k : Int) + 2) = 4 * (k : Int) + 2 := wrap_small (by omega) (by omega)
      have hk0 : (0 : Int) ≤ (k : Int) := by omega
      have hk3 : (k : Int) < 3 := by omega
      have hs4 : (0 : Int) ≤ 4 * (k : Int) := by omega
      have hs4' : 4 * (k : Int) ≤ 64 := by omega
      have hs6 : (0 : Int) ≤ 4 * (k : Int) + 2 := by omega
      have hs6' : 4 * (k : Int) + 2 ≤ 64 := by omega
      have E1 := hide e1
      have E2 := hide e2
      have HA := hide hA
      have HK := hide hK
      have HON := hide hon
      clear e1 e2 hA hK hon
      go_wp2_with fail
      have HONd := hide ((unhide HON).again ((Kept.refl _ wr).drew))
      have HKd : Hid (Kept (mineX O e) w wr.drew) := Kept.trans' (unhide HK) ((Kept.refl (fun _ => False) wr).drew) (fun _ _ q => q.elim)
      go_region_held3 (fun _ => True) (first | trivial | go_keep) ((go_at_call 28; refine (on_share0 (n := (k : Int) + 1) (g := mF raw (4 * (k : Int))) (k := mF raw (4 * (k : Int) + 2)) (unhide HONd) (unhide E1) (unhide E2)).mono ?_; rintro en w5 ⟨rfl, hn5⟩))
      have HN5 := hide (Now.again (unhide HA) (unhide HKd) hn5)
      clear hn5
      go_wp2
      go_roundw
      case rel => exact ⟨k + 1, by omega, by go_num, unhide HN5⟩
      case measure => simp [intOf]; omega
    · have hk3 : ¬ (k : Int) < 3 := by omega
      have hke : k = 3 := by omega
      rw [hke] at hn
      have HN := hide hn
      clear hn hke
      generalize (k : Int) = ki at *
      go_wp2
      go_ret
      exact ⟨rfl, unhide HN⟩

/-- The engine's block, and no other. -/
def oneTag (b : Nat) : Tag := fun k => if k = b then (1, 10, 0) else (0, 8, 0)
theorem oneTag_mine (b k : Nat) : mineX (oneTag b) 1 k ↔ k = b := by
  unfold mineX oneTag
  by_cases e : k = b
  · simp [e]
  · simp [e]
section
variable {w0 w w' : World} {O : Tag} {b c : Nat} {r s r' : RefS}
theorem On.here (h : On w0 w O 1 b r) : w0.heap.size ≤ b := by
  have ht := RepX.tag h.rep
  rcases Nat.lt_or_ge b w0.heap.size with hl | hg
  · exact absurd (by rw [ht]) (h.new b hl)
  · exact hg
theorem On.alone (h : On w0 w O 1 b r) : On w0 w (oneTag b) 1 b r := by
  have hb := h.here
  obtain ⟨p, h1, h2, h3, _⟩ := h.rep
  exact ⟨⟨p, h1, h2, h3, by unfold oneTag; rw [if_pos rfl]⟩, h.ok, fun k hk => by unfold oneTag; rw [if_neg (by omega)]; simp, h.still⟩
theorem On.past (h : On w0 w (oneTag c) 1 c s) (hk : Kept (· = b) w w') (hne : b ≠ c) (hb : w0.heap.size ≤ b) : On w0 w' (oneTag c) 1 c s :=
  ⟨engX.frame h.rep (fun k hk1 hm => hk.block k hk1 (fun q => by have := (oneTag_mine c k).1 hm; omega)) (fun _ _ _ => rfl), h.ok, h.new, Kept.trans' h.still hk (fun i hi q => by omega)⟩
/-- Two engines. -/
structure Pair (w0 w : World) (b c : Nat) (r s : RefS) : Prop where
  x : On w0 w (oneTag b) 1 b r
  y : On w0 w (oneTag c) 1 c s
  ne : b ≠ c
theorem Pair.left (h : Pair w0 w b c r s) (hn : Now w0 w (oneTag b) 1 b r' w') : Pair w0 w' b c r' s ∧ Kept (· = b) w w' := by
  obtain ⟨O', _, h2, h3, _⟩ := hn
  have hk : Kept (· = b) w w' := h3.mono fun i _ q => (oneTag_mine b i).1 q
  exact ⟨⟨h2.alone, h.y.past hk h.ne h.x.here, h.ne⟩, hk⟩
theorem Pair.right (h : Pair w0 w b c r s) (hn : Now w0 w (oneTag c) 1 c r' w') : Pair w0 w' b c r r' ∧ Kept (· = c) w w' := by
  obtain ⟨O', _, h2, h3, _⟩ := hn
  have hk : Kept (· = c) w w' := h3.mono fun i _ q => (oneTag_mine c i).1 q
  exact ⟨⟨h.x.past hk (fun e => h.ne e.symm) h.y.here, h2.alone, h.ne⟩, hk⟩
theorem Pair.again (h : Pair w0 w b c r s) (hs : Still w w') : Pair w0 w' b c r s := ⟨h.x.again hs, h.y.again hs, h.ne⟩
/-- Table of the first, and of the second. -/
theorem Pair.table (h : Pair w0 w b c r s) {n k : Int} {l : List RouteD} (h0 : mayI r n 1 = k) (h1 : tableL r n = l) : Calls Try.prog 16 #[.pointer (some ⟨b, 0, none⟩), .int .i64 n] w fun en w' =>
    ∃ a cap, en = .returned (.tuple #[.slice a l.length cap, .int .i64 k]) ∧ w'.ownsRow w.heap.size 34 4 (.slice a l.length cap) l.length (l.flatMap routeCells) ∧ Pair w0 w' b c r s ∧ Kept (· = b) w w' := by
  refine (on_table0 h.x h0 h1).mono ?_
  rintro en w' ⟨a, cap, rfl, hr, O', hO, hon, hk, _, hnew⟩
  obtain ⟨p, q⟩ := h.left ⟨O', hO, hon, hk, hnew⟩
  exact ⟨a, cap, rfl, hr, p, q⟩
theorem Pair.table2 (h : Pair w0 w b c r s) {n k : Int} {l : List RouteD} (h0 : mayI s n 1 = k) (h1 : tableL s n = l) : Calls Try.prog 16 #[.pointer (some ⟨c, 0, none⟩), .int .i64 n] w fun en w' =>
    ∃ a cap, en = .returned (.tuple #[.slice a l.length cap, .int .i64 k]) ∧ w'.ownsRow w.heap.size 34 4 (.slice a l.length cap) l.length (l.flatMap routeCells) ∧ Pair w0 w' b c r s ∧ Kept (· = c) w w' := by
  refine (on_table0 h.y h0 h1).mono ?_
  rintro en w' ⟨a, cap, rfl, hr, O', hO, hon, hk, _, hnew⟩
  obtain ⟨p, q⟩ := h.right ⟨O', hO, hon, hk, hnew⟩
  exact ⟨a, cap, rfl, hr, p, q⟩
end
/-- A list that is neither's. -/
structure Beside (w : World) (b c base : Nat) (v : Value) (L : List RouteD) : Prop where
  row : w.ownsRow base 52 5 v L.length (L.flatMap oneCells)
  off : ∀ g, v.ownBlock = some g → g ≠ b ∧ g ≠ c
theorem Beside.left {w w' : World} {b c base : Nat} {v : Value} {L : List RouteD} (h : Beside w b c base v L) (hk : Kept (· = b) w w') : Beside w' b c base v L := ⟨kept_row h.row hk (fun g hg => (h.off g hg).1), h.off⟩
theorem Beside.right {w w' : World} {b c base : Nat} {v : Value} {L : List RouteD} (h : Beside w b c base v L) (hk : Kept (· = c) w w') : Beside w' b c base v L := ⟨kept_row h.row hk (fun g hg => (h.off g hg).2), h.off⟩
theorem Beside.again {w w' : World} {b c base : Nat} {v : Value} {L : List RouteD} (h : Beside w b c base v L) (hk : Still w w') : Beside w' b c base v L := ⟨kept_row h.row hk (fun _ _ q => q), h.off⟩

theorem begun3 (w : World) {q1 q2 q3 : Int} (h1 : 1 ≤ q1) (h2 : 1 ≤ q2) (h3 : 1 ≤ q3) (h4 : q1 + q2 + q3 ≤ 64) :
    Calls Try.prog 10 #[.slice (some ⟨w.heap.size, 0, none⟩) 3 3] (w.alloc (.cells #[.int .i64 q1, .int .i64 q2, .int .i64 q3] 3)) fun en w' =>
      ∃ b, en = .returned (.pointer (some ⟨b, 0, none⟩)) ∧ On (w.alloc (.cells #[.int .i64 q1, .int .i64 q2, .int .i64 q3] 3)) w' (oneTag b) 1 b (sR (quota3 q1 q2 q3) (fun _ => 0) (fun _ => 0) []) := by
  have hcell : ∀ j, j < ([q1, q2, q3] : List Int).length → (w.alloc (.cells #[.int .i64 q1, .int .i64 q2, .int .i64 q3] 3)).cell? ⟨w.heap.size, j, none⟩ = some (.int .i64 (([q1, q2, q3] : List Int).getD j 0)) := by
    intro j hj
    rw [World.cell?_alloc_new]
    have hj' : j < 3 := hj
    have : j = 0 ∨ j = 1 ∨ j = 2 := by omega
    rcases this with rfl | rfl | rfl <;> rfl
  have hg : w.heap.size < (w.alloc (.cells #[.int .i64 q1, .int .i64 q2, .int .i64 q3] 3)).heap.size := by simp
  have hB := begunK (w := w.alloc (.cells #[.int .i64 q1, .int .i64 q2, .int .i64 q3] 3)) (g := w.heap.size) (cap := 3) (Q := [q1, q2, q3]) (fun _ => (0, 0, 0)) 1 (fun _ _ => by simp) (by
    intro j hj
    have hj' : j < 3 := hj
    have : j = 0 ∨ j = 1 ∨ j = 2 := by omega
    rcases this with rfl | rfl | rfl
    · show 1 ≤ q1 ∧ q1 ≤ 64; omega
    · show 1 ≤ q2 ∧ q2 ≤ 64; omega
    · show 1 ≤ q3 ∧ q3 ≤ 64; omega) (by show 0 + q1 + q2 + q3 ≤ 64; omega) (by show 3 ≤ 8; omega) hg hcell
  refine Calls.mono hB ?_
  rintro en w' ⟨b, O', rfl, _, hon⟩
  exact ⟨b, rfl, On.alone hon⟩
theorem pair_start {V0 w1 V1 w2 : World} {b c : Nat} {r s : RefS} (hx : On V0 w1 (oneTag b) 1 b r) (h1 : Still w1 V1) (hy : On V1 w2 (oneTag c) 1 c s) : Pair V0 w2 b c r s := by
  have hb := hx.lt
  have hc := hy.here
  have hz := h1.size
  have hz0 := hx.still.size
  refine ⟨(hx.again h1).again hy.still, ⟨hy.rep, hy.ok, fun k hk => by unfold oneTag; rw [if_neg (by omega)]; simp, (hx.still.trans h1).trans hy.still⟩, by omega⟩
/-- The list that ones gives is neither's. -/
theorem beside_start {w0 w w' : World} {b c : Nat} {r s : RefS} {v : Value} {L : List RouteD} (h : Pair w0 w b c r s) (hr : w'.ownsRow w.heap.size 52 5 v L.length (L.flatMap oneCells)) : Beside w' b c w.heap.size v L := by
  have hb := h.x.lt
  have hc := h.y.lt
  refine ⟨hr, fun g hg => ?_⟩
  have := (hr.lt g hg).1
  omega
/-- One round of the loop that sets the routes: the first engine, and the second. -/
theorem round_left {q G T : Nat → Int} {L : List RouteD} (hq : ∀ t, t < 3 → 10 ≤ q t) (hL : OkOnes L) {k : Nat} (hk : k < L.length) : ∃ t : Nat, t < 3 ∧ (L.getD k rt0).from_ = (t : Int) ∧ insertR (sR q G T (L.take k)) ((t : Int) + 1) (L.getD k rt0).addr (L.getD k rt0).len (L.getD k rt0).hop = 0 ∧ insertedR (sR q G T (L.take k)) ((t : Int) + 1) (L.getD k rt0).addr (L.getD k rt0).len (L.getD k rt0).hop = sR q G T (L.take (k + 1)) := by
  have h := hL.take hk
  obtain ⟨t, ht, hf⟩ : ∃ t : Nat, t < 3 ∧ (L.getD k rt0).from_ = (t : Int) := by
    rcases h.who (L.getD k rt0) (by simp) with e | e | e
    · exact ⟨0, by omega, e⟩
    · exact ⟨1, by omega, e⟩
    · exact ⟨2, by omega, e⟩
  obtain ⟨e1, e2⟩ := sR_insert (q := q) (gv := G) (tk := T) hq h ht hf
  rw [take_snoc hk] at e2
  exact ⟨t, ht, hf, e1, e2⟩
theorem round_right {q G T : Nat → Int} {L : List RouteD} (hq : ∀ t, t < 3 → 10 ≤ q t) (hL : OkOnes L) {k : Nat} (hk : k < L.length) {x : RouteD} (hx : L.getD (L.length - 1 - k) rt0 = x) : ∃ t : Nat, t < 3 ∧ x.from_ = (t : Int) ∧
    insertR (sR q G T (L.reverse.take k)) ((t : Int) + 1) x.addr x.len 9 = 0 ∧ insertedR (sR q G T (L.reverse.take k)) ((t : Int) + 1) x.addr x.len 9 = sR q G T (L.reverse.take k ++ [{ x with hop := 9 }]) ∧
    removeR (sR q G T (L.reverse.take k ++ [{ x with hop := 9 }])) ((t : Int) + 1) x.addr x.len = 0 ∧ removedR (sR q G T (L.reverse.take k ++ [{ x with hop := 9 }])) ((t : Int) + 1) x.addr x.len = sR q G T (L.reverse.take k) ∧
    insertR (sR q G T (L.reverse.take k)) ((t : Int) + 1) x.addr x.len x.hop = 0 ∧ insertedR (sR q G T (L.reverse.take k)) ((t : Int) + 1) x.addr x.len x.hop = sR q G T (L.reverse.take (k + 1)) := by
  have hk' : k < L.reverse.length := by simpa using hk
  have hg : L.reverse.getD k rt0 = x := by
    rw [← hx, List.getD_eq_getElem?_getD, List.getD_eq_getElem?_getD, List.getElem?_reverse hk]
  have h := hL.reverse.take hk'
  rw [hg] at h
  have hs := take_snoc hk'
  rw [hg] at hs
  obtain ⟨t, ht, hf⟩ : ∃ t : Nat, t < 3 ∧ x.from_ = (t : Int) := by
    rcases h.who x (by simp) with e | e | e
    · exact ⟨0, by omega, e⟩
    · exact ⟨1, by omega, e⟩
    · exact ⟨2, by omega, e⟩
  have h9 := h.other (k := 9) (by omega)
  obtain ⟨a1, a2⟩ := sR_insert (q := q) (gv := G) (tk := T) hq h9 ht hf
  obtain ⟨b1, b2⟩ := sR_remove (q := q) (gv := G) (tk := T) h9 ht hf
  obtain ⟨c1, c2⟩ := sR_insert (q := q) (gv := G) (tk := T) hq h ht hf
  rw [hs] at c2
  exact ⟨t, ht, hf, a1, a2, b1, b2, c1, c2⟩
end Go.Proofs.Ythmmaccdccjgnaa
