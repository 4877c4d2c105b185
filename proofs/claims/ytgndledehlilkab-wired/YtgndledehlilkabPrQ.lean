/-
  Walks: district: Filter.
-/
import Derived.Test.YtgndledehlilkabPrP
namespace Go.Proofs.Ytgndledehlilkab
open Go.RowKit

theorem infoRules' (n : Nat) (f : Nat → RuleD) : (Try.prog.info? 58).map (·.size) = some (rulesCells n f).length := by rw [rulesCells_len]; exact infoRules
theorem infoRules'' (n : Nat) (f : Nat → RuleD) : (Try.prog.info? 58).map (·.size) = some (rulesCells n f).toArray.size := by rw [List.size_toArray, rulesCells_len]; exact infoRules
theorem RAt.there' {w : World} {b o n : Nat} {f : Nat → RuleD} (h : RAt w b o n f) (m : Nat) (g : Nat → RuleD) : w.there b o (rulesCells m g).toArray.size := by
  have := h.there
  rw [List.size_toArray, rulesCells_len] at this
  rw [List.size_toArray, rulesCells_len]
  exact this
theorem wp_store_key {P : Program} {w : World} {b off : Nat} {cs : List Value} (ty : TypeId) (x y : Operand) (ht : w.there b off cs.toArray.size) (hi : (P.info? ty).map (·.size) = some cs.toArray.size) (h1 : cs.toArray.all (·.oneCell') = true)
    (Q : Exit → Act → World → Prop) (K : Act → World → Prop) (a : Act) (op : Oper) (ho : op.op = .store ty x y) (hx : a.eval x = .pointer (some ⟨b, off, none⟩)) (hy : a.eval y = .agg cs.toArray) (h : K (a.put op.dst undef) (w.setCells b off cs.toArray.toList)) : op.wp P a w K Q :=
  wp_store_mid (P := P) (op := op) (a := a) (w := w) (K := K) (Q := Q) ty x y ho b off cs.toArray hx hy ht hi h1 h
section
variable {w : World} {b : Nat} {p : ProgS}
set_option maxHeartbeats 1000000 in
theorem filter_no (h : XAt w b p) (hf : ProgWf p) {n c : Int} (v : Value) (hc : checkX p n 4 = c) (hc0 : c ≠ 0) :
    Calls Try.prog 35 #[.pointer (some ⟨b, 0, none⟩), .int .i64 n, v] w fun en w' => en = .returned (.int .i64 c) ∧ w' = w := by
  have hne : (c != 0) = true := by simpa using hc0
  have HC := hide hc
  have HC0 := hide hc0
  clear hc hc0
  go_enter Try.func35, Try.ntmps35
  go_wp2_with (go_at_call 43; refine (check_no h hf (unhide HC) (unhide HC0)).mono ?_; rintro e w' ⟨rfl, hww⟩; replace hww := hww.symm; subst hww)
  go_ret
  exact ⟨rfl, rfl⟩
set_option maxHeartbeats 2000000 in
theorem filter_set (h : XAt w b p) (hf : ProgWf p) {n : Int} {t : Nat} {v : Value} {R : List RuleD} (hR : RulesIn w v R) (hc : checkX p n 4 = 0) (htn : p.tenant (n - 1).toNat = (t : Int)) (ht : t < 8) :
    Calls Try.prog 35 #[.pointer (some ⟨b, 0, none⟩), .int .i64 n, v] w fun en w' => Kept (· = b) w w' ∧
      ((filterOk R = true ∧ en = .returned (.int .i64 0) ∧ XAt w' b { p with rules := upd p.rules t R }) ∨ (filterOk R = false ∧ en = .returned (.int .i64 2) ∧ XAt w' b p)) := by
  have HC := hide hc
  have HX := hide h
  have HTN := hide htn
  have ht0 : (0 : Int) ≤ (t : Int) := by omega
  have ht8 : (t : Int) < 8 := by omega
  have hb := h.lt
  obtain ⟨ra, rc, rfl, _⟩ := hR.len
  have HR := hide hR
  clear hc htn hR
  go_enter Try.func35, Try.ntmps35
  go_wp2_with fail
  refine (check_yes h hf (unhide HC)).mono ?_
  rintro e w' ⟨rfl, hww⟩
  replace hww := hww.symm
  subst hww
  rw [unhide HTN]
  clear h
  go_wp2_with fail
  refine (make_any (unhide HR)).mono ?_
  rintro e w3 ⟨hs3, hc3⟩
  have hx3 := (unhide HX).still hs3
  have hz9 := rulesNew w3
  rcases hc3 with ⟨h1, rfl⟩ | ⟨h1, rfl⟩
  · have hR4 : R.length ≤ 4 := by
      unfold filterOk at h1
      rw [Bool.and_eq_true, decide_eq_true_eq] at h1
      exact h1.1
    have h9 := hz9.stored hR4 (padR R)
    have hS9 : Still w3 ((w3.alloc (.cells #[.int .i64 0, .bool false, .int .i64 0, .int .i64 0, .int .i64 0, .int .i64 0, .bool false, .int .i64 0, .int .i64 0, .int .i64 0, .int .i64 0, .bool false, .int .i64 0, .int .i64 0, .int .i64 0, .int .i64 0, .bool false, .int .i64 0, .int .i64 0, .int .i64 0, .int .i64 0] 58)).setCells w3.heap.size 0 (rulesCells R.length (padR R)).toArray.toList) := Kept.setCells ((Kept.refl _ _).alloc _) (.inr (Nat.le_refl _)) _ _
    have ht9 := hz9.there' R.length (padR R)
    have r9 := h9.range
    have hl := rulesCells_len R.length (padR R)
    have hi := infoRules' R.length (padR R)
    have hi2 := infoRules'' R.length (padR R)
    have ho := rulesCells_one R.length (padR R)
    have HRS : Hid (∀ {w : World} {b o n : Nat} {f : Nat → RuleD}, RAt w b o n f → RAt (w.setCells b o (rulesCells R.length (padR R)).toArray.toList) b o R.length (padR R)) := fun h => h.stored hR4 (padR R)
    have HT9 := hide ht9
    have HR9 := hide r9
    have HS9 := hide hS9
    have H1 := hide h1
    have HS3 := hide hs3
    have b3 := hx3.lt
    clear h1 hs3 hx3 hz9 h9 hS9 ht9 r9
    generalize hcs : rulesCells R.length (padR R) = cs at *
    have HCS := hide hcs
    clear hcs
    go_wp2_with (refine wpList_store_mid rfl 58 _ _ rfl _ _ cs.toArray rfl rfl (unhide HT9) hi2 ho (unhide ?_))
    refine hide ?_
    generalize hs9 : w3.heap.size = s9 at *
    generalize (w3.alloc (.cells #[.int .i64 0, .bool false, .int .i64 0, .int .i64 0, .int .i64 0, .int .i64 0, .bool false, .int .i64 0, .int .i64 0, .int .i64 0, .int .i64 0, .bool false, .int .i64 0, .int .i64 0, .int .i64 0, .int .i64 0, .bool false, .int .i64 0, .int .i64 0, .int .i64 0, .int .i64 0] 58)).setCells s9 0 cs.toArray.toList = Y at *
    have hxY := (unhide HX).still ((unhide HS3).trans (unhide HS9))
    have hrb := hxY.rl t ht
    have r9 := unhide HR9
    have tb := hrb.there
    rw [List.size_toArray, rulesCells_len] at tb
    have hu := Try.underlying58
    have hne9 : s9 ≠ b := by omega
    have HXY := hide hxY
    have HRB := hide hrb
    clear hxY hrb
    go_wp2_with fail
    have hSd : (fun w' : World => w'.rangeAt s9 0 cs ∧ w'.there b (1 + t * 281 + 3) 21) Y.drew := ⟨by simpa using r9, by simpa using tb⟩
    refine wp_region_held_drew (S := fun w' : World => w'.rangeAt s9 0 cs ∧ w'.there b (1 + t * 281 + 3) 21) (by kernel_rfl) hSd (fun hHeld => ?_)
    refine wpAnyH_take (i := 0) (v := .pointer (some ⟨b, 0, none⟩)) rfl (by kernel_rfl) (by kernel_rfl) (by kernel_rfl) (fun _ _ _ h => h) (Or.inl ⟨by rfl, fun w _ => by rfl⟩) hHeld ?_
    simp only [Act.put, List.getElem_toArray, List.getElem_cons_zero, List.setIfInBounds_toArray, List.set_cons_zero, List.set_cons_succ]
    refine wpAnyH_take (i := 1) (v := .int .i64 (t : Int)) rfl (by kernel_rfl) (by kernel_rfl) (by kernel_rfl) (fun _ _ _ h => h) (Or.inl ⟨by rfl, fun w _ => by rfl⟩) hHeld ?_
    simp only [Act.put, List.getElem_toArray, List.getElem_cons_zero, List.getElem_cons_succ, List.setIfInBounds_toArray, List.set_cons_zero, List.set_cons_succ]
    refine wpAnyH_take (i := 2) (v := .agg cs.toArray) rfl (by kernel_rfl) (by kernel_rfl) (by kernel_rfl) (fun _ _ _ h => h) (yieldsIf_load_mid (by rfl) 58 _ rfl s9 0 rfl cs _ (fun w h => h.1) hu rfl hi) hHeld ?_
    simp only [Act.put, List.getElem_toArray, List.getElem_cons_zero, List.getElem_cons_succ, List.setIfInBounds_toArray, List.set_cons_zero, List.set_cons_succ]
    refine wpAnyH_take (i := 3) (v := .pointer (some ⟨b, 0, none⟩)) rfl (by kernel_rfl) (by kernel_rfl) (by kernel_rfl) (fun _ _ _ h => h) (Or.inl ⟨by rfl, fun w _ => by rfl⟩) hHeld ?_
    simp only [Act.put, List.getElem_toArray, List.getElem_cons_zero, List.getElem_cons_succ, List.setIfInBounds_toArray, List.set_cons_zero, List.set_cons_succ]
    refine wpAnyH_take (i := 4) (v := .pointer (some ⟨b, 1, none⟩)) rfl (by kernel_rfl) (by kernel_rfl) (by kernel_rfl) (fun _ _ _ h => h) (Or.inl ⟨by rfl, fun w _ => by go_simp⟩) hHeld ?_
    simp only [Act.put, List.getElem_toArray, List.getElem_cons_zero, List.getElem_cons_succ, List.setIfInBounds_toArray, List.set_cons_zero, List.set_cons_succ]
    refine wpAnyH_take (i := 5) (v := .pointer (some ⟨b, 1 + t * 281, none⟩)) rfl (by kernel_rfl) (by kernel_rfl) (by kernel_rfl) (fun _ _ _ h => h) (Or.inl ⟨by rfl, fun w _ => by go_simp⟩) hHeld ?_
    simp only [Act.put, List.getElem_toArray, List.getElem_cons_zero, List.getElem_cons_succ, List.setIfInBounds_toArray, List.set_cons_zero, List.set_cons_succ]
    refine wpAnyH_take (i := 6) (v := .pointer (some ⟨b, 1 + t * 281 + 3, none⟩)) rfl (by kernel_rfl) (by kernel_rfl) (by kernel_rfl) (fun _ _ _ h => h) (Or.inl ⟨by rfl, fun w _ => by go_simp⟩) hHeld ?_
    simp only [Act.put, List.getElem_toArray, List.getElem_cons_zero, List.getElem_cons_succ, List.setIfInBounds_toArray, List.set_cons_zero, List.set_cons_succ]
    refine wpAnyH_ready (rs := [7]) (by kernel_rfl) (by simp) ?_
    refine AllReadyH.cons rfl (fun K hK => ?_) AllReadyH.nil
    rw [if_pos (by rfl)]
    simp only [List.getElem_toArray, List.getElem_cons_zero, List.getElem_cons_succ]
    have htb : Y.drew.there b (1 + t * 281 + 3) cs.toArray.size := by rw [List.size_toArray, hl]; exact hHeld.2
    generalize hoff : 1 + t * 281 + 3 = off at *
    refine wp_store_key 58 (.tmp 35) (.tmp 31) htb hi2 ho _ _ _ _ ?b1 ?b2 ?b3 ?b4
    case b1 => rfl
    case b2 => rfl
    case b3 => rfl
    have hS2 : (fun w' : World => w'.rangeAt s9 0 cs ∧ w'.there b off 21) (Y.drew.setCells b off cs.toArray.toList) :=
      ⟨World.rangeAt_setCells_apart hHeld.1 _ _ _ (.inl hne9), World.there_setCells hHeld.2 _ _ _⟩
    refine hK.out _ _ hS2 (fun _ => ?_)
    refine wpAnyH_done (by kernel_rfl) ?_ _
    have hSY : Still w Y.drew := ((unhide HS3).trans (unhide HS9)).drew
    have hrb := ((unhide HRB).still ((Kept.refl _ Y).drew))
    have hst := unhide HRS hrb
    have hwi : Within b off 21 Y.drew (Y.drew.setCells b off cs.toArray.toList) := (Within.refl _ _ _ _).setCells _ _ (Nat.le_refl _) (by rw [List.toList_toArray, hl]; exact Nat.le_refl _)
    have hxf : XAt (Y.drew.setCells b off cs.toArray.toList) b { p with rules := upd p.rules t R } := by
      have hx0 := (unhide HX).still hSY
      subst hoff
      exact hx0.setRules ht hwi hst
    have hkf : Kept (· = b) w (Y.drew.setCells b off cs.toArray.toList) := (Still.kept hSY _).trans hwi.kept
    have HXF := hide hxf
    have HKF := hide hkf
    clear hK hHeld hS2 hSd hSY hrb hst hwi hxf hkf r9 tb htb
    generalize Y.drew.setCells b off cs.toArray.toList = Z at *
    simp only [Act.put]
    go_wp2
    go_ret
    exact ⟨unhide HKF, .inl ⟨unhide H1, rfl, unhide HXF⟩⟩
  · have ht9 := hz9.there' 0 (fun _ => ru0)
    have hi2 := infoRules'' 0 (fun _ => ru0)
    have ho := rulesCells_one 0 (fun _ => ru0)
    have hS9 : Still w ((w3.alloc (.cells #[.int .i64 0, .bool false, .int .i64 0, .int .i64 0, .int .i64 0, .int .i64 0, .bool false, .int .i64 0, .int .i64 0, .int .i64 0, .int .i64 0, .bool false, .int .i64 0, .int .i64 0, .int .i64 0, .int .i64 0, .bool false, .int .i64 0, .int .i64 0, .int .i64 0, .int .i64 0] 58)).setCells w3.heap.size 0 (rulesCells 0 (fun _ => ru0)).toArray.toList) := hs3.trans (Kept.setCells ((Kept.refl _ _).alloc _) (.inr (Nat.le_refl _)) _ _)
    have HT9 := hide ht9
    have HS9 := hide hS9
    have H1 := hide h1
    clear h1 hs3 hx3 hz9 hS9 ht9
    generalize rulesCells 0 (fun _ => ru0) = cs at *
    go_wp2_with (refine wpList_store_mid rfl 58 _ _ rfl _ _ cs.toArray rfl rfl (unhide HT9) hi2 ho (unhide ?_))
    refine hide ?_
    generalize (w3.alloc (.cells #[.int .i64 0, .bool false, .int .i64 0, .int .i64 0, .int .i64 0, .int .i64 0, .bool false, .int .i64 0, .int .i64 0, .int .i64 0, .int .i64 0, .bool false, .int .i64 0, .int .i64 0, .int .i64 0, .int .i64 0, .bool false, .int .i64 0, .int .i64 0, .int .i64 0, .int .i64 0] 58)).setCells w3.heap.size 0 cs.toArray.toList = Y at *
    go_wp2
    go_ret
    exact ⟨Still.kept (unhide HS9) _, .inr ⟨unhide H1, rfl, (unhide HX).still (unhide HS9)⟩⟩
end
end Go.Proofs.Ytgndledehlilkab
