/-
  Results that lie in memory; filter.Make.
-/
import Derived.Test.YtgndledehlilkaaPrH
import Derived.Laws.ResultCell
namespace Go.Proofs.Ytgndledehlilkaa
open Go.RowKit

theorem results_range1 {P : Program} {fn : Func} {p : Tmp} {ty : TypeId} (h : fn.results = #[.cell p ty]) (tmps : Array Value) (w : World) (b o : Nat) (cs : List Value) (d : TypeDesc)
    (hp : tmps.getD p undef = .pointer (some ⟨b, o, none⟩)) (hc : w.rangeAt b o cs) (hu : P.underlying ty = some d) (hd : d.isRow = true) (hi : (P.info? ty).map (·.size) = some cs.length) :
    (results fn tmps).run P w = .ok (.agg cs.toArray) w := by
  have hl := run_loadVar_mid (P := P) w b o ty cs d hc hu hd hi
  have hp2 : tmps[p]?.getD undef = .pointer (some ⟨b, o, none⟩) := by simpa using hp
  simp [results, h, hp2, asAddr, hl]
theorem results_range2 {P : Program} {fn : Func} {p u : Tmp} {ty : TypeId} (h : fn.results = #[.cell p ty, .tmp u]) (tmps : Array Value) (w : World) (b o : Nat) (cs : List Value) (d : TypeDesc)
    (hp : tmps.getD p undef = .pointer (some ⟨b, o, none⟩)) (hc : w.rangeAt b o cs) (hu : P.underlying ty = some d) (hd : d.isRow = true) (hi : (P.info? ty).map (·.size) = some cs.length) :
    (results fn tmps).run P w = .ok (.tuple #[.agg cs.toArray, tmps.getD u undef]) w := by
  have hl := run_loadVar_mid (P := P) w b o ty cs d hc hu hd hi
  rw [results_cell_tmp h, hp]
  simp [asAddr, hl, Result.andThen]
theorem results_range3 {P : Program} {fn : Func} {p q : Tmp} {ty tz : TypeId} (h : fn.results = #[.cell p ty, .cell q tz]) (tmps : Array Value) (w : World) (b o b' o' : Nat) (cs cs' : List Value) (d d' : TypeDesc)
    (hp : tmps.getD p undef = .pointer (some ⟨b, o, none⟩)) (hc : w.rangeAt b o cs) (hu : P.underlying ty = some d) (hd : d.isRow = true) (hi : (P.info? ty).map (·.size) = some cs.length)
    (hp' : tmps.getD q undef = .pointer (some ⟨b', o', none⟩)) (hc' : w.rangeAt b' o' cs') (hu' : P.underlying tz = some d') (hd' : d'.isRow = true) (hi' : (P.info? tz).map (·.size) = some cs'.length) :
    (results fn tmps).run P w = .ok (.tuple #[.agg cs.toArray, .agg cs'.toArray]) w := by
  have hl := run_loadVar_mid (P := P) w b o ty cs d hc hu hd hi
  have hl' := run_loadVar_mid (P := P) w b' o' tz cs' d' hc' hu' hd' hi'
  have hp2 : tmps[p]?.getD undef = .pointer (some ⟨b, o, none⟩) := by simpa using hp
  have hp3 : tmps[q]?.getD undef = .pointer (some ⟨b', o', none⟩) := by simpa using hp'
  simp [results, h, hp2, hp3, asAddr, Sem.run_bind, hl, hl']
theorem infoRules : (Try.prog.info? 80).map (·.size) = some 21 := by kernel_rfl
theorem infoList : (Try.prog.info? 83).map (·.size) = some 257 := by kernel_rfl
theorem infoSums : (Try.prog.info? 32).map (·.size) = some 4 := by kernel_rfl
def upTo (R : List RuleD) (k : Nat) : Nat → RuleD := fun j => if j < k then padR R j else ru0
theorem upTo_zero (R : List RuleD) : upTo R 0 = fun _ => ru0 := by
  funext j
  unfold upTo
  rw [if_neg (Nat.not_lt_zero _)]
theorem upTo_succ (R : List RuleD) (k : Nat) : upd (upTo R k) k (padR R k) = upTo R (k + 1) := by
  funext j
  unfold upd upTo
  by_cases e : j = k
  · subst e; rw [if_pos rfl, if_pos (by omega)]
  · rw [if_neg e]
    by_cases h : j < k
    · rw [if_pos h, if_pos (by omega)]
    · rw [if_neg h, if_neg (by omega)]
theorem upTo_all (R : List RuleD) : upTo R R.length = padR R := by
  funext j
  unfold upTo
  by_cases h : j < R.length
  · rw [if_pos h]
  · rw [if_neg h]
    unfold padR
    simp [List.getD_eq_getElem?_getD, List.getElem?_eq_none (Nat.le_of_not_lt h)]
def MakePost (w : World) (R : List RuleD) (en : Ending) (w' : World) : Prop := Still w w' ∧
  ((filterOk R = true ∧ en = .returned (.tuple #[.agg (rulesCells R.length (padR R)).toArray, .int .i64 0])) ∨
   (filterOk R = false ∧ en = .returned (.tuple #[.agg (rulesCells 0 (fun _ => ru0)).toArray, .int .i64 2])))
theorem RAt.there {w : World} {b o n : Nat} {f : Nat → RuleD} (h : RAt w b o n f) : w.there b o (rulesCells 0 (fun _ => ru0)).toArray.size := by
  intro j hj
  refine ⟨?_, h.fz _⟩
  have hl : (rulesCells n f).length = 21 := rulesCells_len n f
  refine h.range.isSome j ?_
  rw [hl]
  simpa [rulesCells_len] using hj
theorem rulesNew (w : World) : RAt (w.alloc (.cells #[.int .i64 0, .bool false, .int .i64 0, .int .i64 0, .int .i64 0, .int .i64 0, .bool false, .int .i64 0, .int .i64 0, .int .i64 0, .int .i64 0, .bool false, .int .i64 0, .int .i64 0, .int .i64 0, .int .i64 0, .bool false, .int .i64 0, .int .i64 0, .int .i64 0, .int .i64 0] 80)) w.heap.size 0 0 (fun _ => ru0) := by
  refine RAt.ofRange (by simp) (fun j => World.frozen?_alloc_new _ _ _ _) (Nat.zero_le _) ?_
  intro j v hv
  rw [World.cell?_alloc_new]
  have e : (#[.int .i64 0, .bool false, .int .i64 0, .int .i64 0, .int .i64 0, .int .i64 0, .bool false, .int .i64 0, .int .i64 0, .int .i64 0, .int .i64 0, .bool false, .int .i64 0, .int .i64 0, .int .i64 0, .int .i64 0, .bool false, .int .i64 0, .int .i64 0, .int .i64 0, .int .i64 0] : Array Value) = (rulesCells 0 (fun _ => ru0)).toArray := rfl
  rw [e]
  simpa using hv
theorem Kept.setCells {P : Nat → Prop} {a w : World} (h : Kept P a w) {b : Nat} (hp : P b ∨ a.heap.size ≤ b) : ∀ (vs : List Value) (o : Nat), Kept P a (w.setCells b o vs) := by
  intro vs
  induction vs generalizing w with
  | nil => intro o; exact h
  | cons v vs ih =>
    intro o
    rw [World.setCells]
    exact ih (Kept.setCell h (p := ⟨b, o, none⟩) hp v) (o + 1)
theorem Within.setCells {b o n : Nat} {w w1 : World} (h : Within b o n w w1) : ∀ (vs : List Value) (o' : Nat), o ≤ o' → o' + vs.length ≤ o + n → Within b o n w (w1.setCells b o' vs) := by
  intro vs
  induction vs generalizing w1 with
  | nil => intro o' _ _; exact h
  | cons v vs ih =>
    intro o' h1 h2
    rw [List.length_cons] at h2
    rw [World.setCells]
    exact ih (h.setCell (by omega) v) (o' + 1) (by omega) (by omega)
theorem RAt.stored {w : World} {b o n : Nat} {f : Nat → RuleD} (h : RAt w b o n f) {m : Nat} (hm : m ≤ 4) (g : Nat → RuleD) : RAt (w.setCells b o (rulesCells m g).toArray.toList) b o m g := by
  have ht : w.there b o (rulesCells m g).length := by
    have := h.there
    rw [List.size_toArray, rulesCells_len] at this
    rw [rulesCells_len]
    exact this
  have hr := World.rangeAt_setCells_same w b o (rulesCells m g) ht
  have hl := (Kept.setCells (Kept.refl (· = b) w) (.inl rfl) (rulesCells m g) o).size
  have hf : ∀ j, (w.setCells b o (rulesCells m g)).frozen? ⟨b, j, none⟩ = false := fun j => by rw [World.frozen?_setCells]; exact h.fz j
  have h0 := h.lt
  rw [List.toList_toArray]
  generalize w.setCells b o (rulesCells m g) = w' at *
  exact RAt.ofRange (by omega) hf hm hr
theorem Kept.put5 {P : Nat → Prop} {a w : World} (h : Kept P a w) {b : Nat} (hp : P b) (o0 o1 o2 o3 o4 : Nat) (v0 v1 v2 v3 v4 : Value) : Kept P a (((((w.setCell ⟨b, o0, none⟩ v0).setCell ⟨b, o1, none⟩ v1).setCell ⟨b, o2, none⟩ v2).setCell ⟨b, o3, none⟩ v3).setCell ⟨b, o4, none⟩ v4) :=
  Kept.setCell (Kept.setCell (Kept.setCell (Kept.setCell (Kept.setCell h (p := ⟨b, o0, none⟩) (.inl hp) v0) (p := ⟨b, o1, none⟩) (.inl hp) v1) (p := ⟨b, o2, none⟩) (.inl hp) v2) (p := ⟨b, o3, none⟩) (.inl hp) v3) (p := ⟨b, o4, none⟩) (.inl hp) v4
set_option maxHeartbeats 2000000 in
theorem make_any {w : World} {v : Value} {R : List RuleD} (hR : RulesIn w v R) :
    Calls Try.prog 52 #[v] w fun en w' => MakePost w R en w' := by
  obtain ⟨ra, rc, rfl, hRl⟩ := hR.len
  have HN := hide (rulesNew w)
  by_cases h4 : 4 < R.length
  · have hbad : filterOk R = false := by unfold filterOk; rw [show decide (R.length ≤ 4) = false from by simp; omega]; rfl
    have d1 : decide ((4 : Int) < (R.length : Int)) = true := by simp; omega
    have HB := hide hbad
    clear hbad
    go_enter Try.func52, Try.ntmps52
    go_wp2_with (refine wpList_store_mid rfl 80 _ _ rfl _ _ (rulesCells 0 (fun _ => ru0)).toArray rfl rfl (unhide HN).there infoRules (rulesCells_one _ _) ?_)
    refine bodyPost_ret (results_range2 rfl _ _ _ _ _ _ rfl ((unhide HN).stored (Nat.zero_le _) _).range Try.underlying80 rfl infoRules) rfl ?_
    exact ⟨Kept.setCells ((Kept.refl _ _).alloc _) (.inr (Nat.le_refl _)) _ _, Or.inr ⟨unhide HB, rfl⟩⟩
  · have d1 : decide ((4 : Int) < (R.length : Int)) = false := by simp; omega
    have hl4 : R.length ≤ 4 := by omega
    have HR := hide hR
    have hS2 : Still w ((w.alloc (.cells #[.int .i64 0, .bool false, .int .i64 0, .int .i64 0, .int .i64 0, .int .i64 0, .bool false, .int .i64 0, .int .i64 0, .int .i64 0, .int .i64 0, .bool false, .int .i64 0, .int .i64 0, .int .i64 0, .int .i64 0, .bool false, .int .i64 0, .int .i64 0, .int .i64 0, .int .i64 0] 80)).alloc (.cells #[.int .i64 0, .bool false, .int .i64 0, .int .i64 0, .int .i64 0, .int .i64 0, .bool false, .int .i64 0, .int .i64 0, .int .i64 0, .int .i64 0, .bool false, .int .i64 0, .int .i64 0, .int .i64 0, .int .i64 0, .bool false, .int .i64 0, .int .i64 0, .int .i64 0, .int .i64 0] 80)) := ((Kept.refl _ _).alloc _).alloc _
    have hn2 := rulesNew (w.alloc (.cells #[.int .i64 0, .bool false, .int .i64 0, .int .i64 0, .int .i64 0, .int .i64 0, .bool false, .int .i64 0, .int .i64 0, .int .i64 0, .int .i64 0, .bool false, .int .i64 0, .int .i64 0, .int .i64 0, .int .i64 0, .bool false, .int .i64 0, .int .i64 0, .int .i64 0, .int .i64 0] 80))
    have hz1 : (w.alloc (.cells #[.int .i64 0, .bool false, .int .i64 0, .int .i64 0, .int .i64 0, .int .i64 0, .bool false, .int .i64 0, .int .i64 0, .int .i64 0, .int .i64 0, .bool false, .int .i64 0, .int .i64 0, .int .i64 0, .int .i64 0, .bool false, .int .i64 0, .int .i64 0, .int .i64 0, .int .i64 0] 80)).heap.size = w.heap.size + 1 := by simp
    have hn1 : RAt ((w.alloc (.cells #[.int .i64 0, .bool false, .int .i64 0, .int .i64 0, .int .i64 0, .int .i64 0, .bool false, .int .i64 0, .int .i64 0, .int .i64 0, .int .i64 0, .bool false, .int .i64 0, .int .i64 0, .int .i64 0, .int .i64 0, .bool false, .int .i64 0, .int .i64 0, .int .i64 0, .int .i64 0] 80)).alloc (.cells #[.int .i64 0, .bool false, .int .i64 0, .int .i64 0, .int .i64 0, .int .i64 0, .bool false, .int .i64 0, .int .i64 0, .int .i64 0, .int .i64 0, .bool false, .int .i64 0, .int .i64 0, .int .i64 0, .int .i64 0, .bool false, .int .i64 0, .int .i64 0, .int .i64 0, .int .i64 0] 80)) w.heap.size 0 0 (fun _ => ru0) := (unhide HN).still ((Kept.refl _ _).alloc _)
    rw [hz1] at hn2
    have HS2 := hide hS2
    have HN2 := hide hn2
    have HN1 := hide hn1
    clear hR h4 hS2 hn2 hn1 hz1 HN
    go_enter Try.func52, Try.ntmps52
    go_wp2
    generalize hsz : w.heap.size = s at *
    generalize (w.alloc (.cells #[.int .i64 0, .bool false, .int .i64 0, .int .i64 0, .int .i64 0, .int .i64 0, .bool false, .int .i64 0, .int .i64 0, .int .i64 0, .int .i64 0, .bool false, .int .i64 0, .int .i64 0, .int .i64 0, .int .i64 0, .bool false, .int .i64 0, .int .i64 0, .int .i64 0, .int .i64 0] 80)).alloc (.cells #[.int .i64 0, .bool false, .int .i64 0, .int .i64 0, .int .i64 0, .int .i64 0, .bool false, .int .i64 0, .int .i64 0, .int .i64 0, .int .i64 0, .bool false, .int .i64 0, .int .i64 0, .int .i64 0, .int .i64 0, .bool false, .int .i64 0, .int .i64 0, .int .i64 0, .int .i64 0] 80) = W2 at *
    go_loopw [5] (fun t w' => ∃ k : Nat, k ≤ R.length ∧ t = .int .i64 k ∧ RAt w' (s + 1) 0 0 (upTo R k) ∧ RAt w' s 0 0 (fun _ => ru0) ∧ Kept (· = s + 1) W2 w' ∧ ∀ j, j < k → ruleB (padR R j) = true) (fun t _ => R.length - (intOf t).toNat)
    case atStart => exact ⟨0, Nat.zero_le _, rfl, by rw [upTo_zero]; exact unhide HN2, unhide HN1, Kept.refl _ _, fun j hj => absurd hj (Nat.not_lt_zero _)⟩
    case round =>
      obtain ⟨k, hk, rfl, h2, h1, hkp, hall⟩ := hrel
      have hst : Still w wr := Kept.trans' (unhide HS2) hkp (fun i hi q => by omega)
      have hin := (unhide HR).still hst
      have l2 := h2.lt
      have HIN := hide hin
      have H2 := hide h2
      have H1 := hide h1
      have HKP := hide hkp
      have HALL := hide hall
      have HST := hide hst
      clear hin h1 hkp hall hst
      by_cases hlt : k < R.length
      · obtain ⟨bs, off, rfl, hbs, r0, r1, r2, r3, r4⟩ := (unhide HIN).at hlt
        have EP : Hid (padR R k = R.getD k ru0) := rfl
        have EU := hide (upTo_succ R k)
        clear h2
        cases hrb : ruleB (R.getD k ru0) with
        | true =>
          have HRB := hide hrb
          clear hrb
          generalize R.getD k ru0 = u at *
          go_wp2_with fail
          refine (isRule_any u _).mono ?_
          rintro e w3 ⟨rfl, hs3⟩
          rw [unhide HRB]
          have h3 := (unhide H2).still hs3
          have a0 := h3.allow k (by omega)
          have a1 := h3.addr k (by omega)
          have a2 := h3.len k (by omega)
          have a3 := h3.ge k (by omega)
          have a4 := h3.le k (by omega)
          have fz := h3.fz
          have l3 := h3.lt
          simp only [Nat.zero_add] at a0 a1 a2 a3 a4
          replace r0 := (hs3.cell bs _ hbs).trans r0
          replace r1 := (hs3.cell bs _ hbs).trans r1
          replace r2 := (hs3.cell bs _ hbs).trans r2
          replace r3 := (hs3.cell bs _ hbs).trans r3
          replace r4 := (hs3.cell bs _ hbs).trans r4
          have X3 := hide (h3.put (k := k) (by omega) u)
          have K3 := hide (Kept.trans (unhide HKP) (Still.kept hs3 _))
          have X1 := hide ((unhide H1).still hs3)
          clear h3 hs3
          go_wp2
          go_roundw
          case rel =>
            have x3 := unhide X3
            rw [← unhide EP, unhide EU, unhide EP] at x3
            simp only [Nat.zero_add] at x3
            refine ⟨k + 1, by omega, by go_num, x3, ?_, ?_, ?_⟩
            · have hq := Kept.put5 (Kept.refl (· = s + 1) w3) rfl (1 + k * 5) (1 + k * 5 + 1) (1 + k * 5 + 2) (1 + k * 5 + 3) (1 + k * 5 + 4) (.bool u.allow) (.int .i64 u.addr) (.int .i64 u.len) (.int .i64 u.ge) (.int .i64 u.le)
              have h1 := unhide X1
              exact h1.frame (Nat.lt_of_lt_of_le h1.lt hq.size) (hq.block s h1.lt (by omega))
            · exact Kept.put5 (unhide K3) rfl _ _ _ _ _ _ _ _ _ _
            · intro j hj
              by_cases ej : j = k
              · subst ej; rw [unhide EP]; exact unhide HRB
              · exact unhide HALL j (by omega)
          case measure => simp [intOf]; omega
        | false =>
          have hbad : filterOk R = false := by
            unfold filterOk
            rw [show R.all ruleB = false from by
              rw [List.all_eq_false]
              exact ⟨R[k], List.getElem_mem hlt, by rw [show R[k] = R.getD k ru0 from by simp [List.getD_eq_getElem?_getD, hlt], hrb]; simp⟩]
            exact Bool.and_false _
          have HBAD := hide hbad
          have HRB := hide hrb
          clear hrb hbad
          generalize R.getD k ru0 = u at *
          go_wp2_with fail
          refine (isRule_any u _).mono ?_
          rintro e w3 ⟨rfl, hs3⟩
          rw [unhide HRB]
          have X1 := hide ((unhide H1).still hs3)
          have HS3 : Hid (Still w w3) := (unhide HST).trans hs3
          clear hs3
          go_wp2_with (refine wpList_store_mid rfl 80 _ _ rfl _ _ (rulesCells 0 (fun _ => ru0)).toArray rfl rfl (unhide X1).there infoRules (rulesCells_one _ _) ?_)
          refine bodyPost_ret (results_range2 rfl _ _ _ _ _ _ rfl ((unhide X1).stored (Nat.zero_le _) _).range Try.underlying80 rfl infoRules) rfl ?_
          exact ⟨Kept.setCells (unhide HS3) (.inr (by omega)) _ _, Or.inr ⟨unhide HBAD, rfl⟩⟩
      · obtain rfl : k = R.length := by omega
        have hok : filterOk R = true := by
          unfold filterOk
          rw [show decide (R.length ≤ 4) = true from by simpa using hl4, Bool.true_and, List.all_eq_true]
          intro u hu
          obtain ⟨j, hj, rfl⟩ := List.getElem_of_mem hu
          have := unhide HALL j hj
          unfold padR at this
          rw [show R.getD j ru0 = R[j] from by simp [List.getD_eq_getElem?_getD, hj]] at this
          exact this
        have HOK := hide hok
        have c2 := h2.cnt
        have fz := h2.fz
        have X2 : Hid (RAt (wr.setCell ⟨s + 1, 0, none⟩ (.int .i64 (R.length : Int))) (s + 1) 0 R.length (padR R)) := by
          have := h2.setCnt hl4
          rw [upTo_all] at this
          exact this
        have X1 : Hid (RAt (wr.setCell ⟨s + 1, 0, none⟩ (.int .i64 (R.length : Int))) s 0 0 (fun _ => ru0)) := by
          have h1 := unhide H1
          exact h1.frame (by simpa using h1.lt) (Below.heap_setCell _ _ _ _ (by show s ≠ s + 1; omega))
        have HS3 : Hid (Still w (wr.setCell ⟨s + 1, 0, none⟩ (.int .i64 (R.length : Int)))) := Kept.setCell (unhide HST) (p := ⟨s + 1, 0, none⟩) (.inr (by show w.heap.size ≤ s + 1; omega)) _
        clear hok h2
        go_wp2_with (first | (refine wpList_load_mid rfl 80 _ rfl _ _ rfl (rulesCells R.length (padR R)) _ (unhide X2).range Try.underlying80 rfl infoRules ?_) | (refine wpList_store_mid rfl 80 _ _ rfl _ _ (rulesCells R.length (padR R)).toArray rfl rfl (unhide X1).there infoRules (rulesCells_one _ _) ?_))
        refine bodyPost_ret (results_range2 rfl _ _ _ _ _ _ rfl ((unhide X1).stored hl4 _).range Try.underlying80 rfl infoRules) rfl ?_
        exact ⟨Kept.setCells (unhide HS3) (.inr (by omega)) _ _, Or.inl ⟨unhide HOK, rfl⟩⟩
end Go.Proofs.Ytgndledehlilkaa
