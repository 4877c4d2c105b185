/-
  A Filter's request; a step's request of any kind.
-/
import Derived.Test.YtgndledehlilkabWirQ
namespace Go.Proofs.Ytgndledehlilkab
open Go.RowKit

theorem boolB_is (b : Bool) : (boolB b == 1) = b := by cases b <;> decide
theorem ruleW_is {S : List Int} {k : Nat} {u : RuleD} (ha : 0 ≤ u.addr ∧ u.addr ≤ 65535) (hl : 0 ≤ u.len ∧ u.len ≤ 255) (hg : 0 ≤ u.ge ∧ u.ge ≤ 255) (he : 0 ≤ u.le ∧ u.le ≤ 255)
    (h0 : fB S k = boolB u.allow) (h1 : fB S (k + 1) = hiB u.addr) (h2 : fB S (k + 1 + 1) = loB u.addr) (h3 : fB S (k + 3) = loB u.len) (h4 : fB S (k + 4) = loB u.ge) (h5 : fB S (k + 5) = loB u.le) : ruleW S k = u := by
  unfold ruleW fW
  rw [h0, h1, h2, h3, h4, h5, boolB_is, word_back ha.1 ha.2, lo_back hl.1 hl.2, lo_back hg.1 hg.2, lo_back he.1 he.2]
theorem asks_list (r : RefS) {tok : Int} {o : OpD} (hk : pickF o.kind 8 = 3) {S : List Int} (e : askB tok o = S) (f0 : fB S 0 = 8) (g : fW S 1 = tok) (hq : isReq S = true) (hr : rulesB S = rulesF o) : Asks (askB tok o) r tok o := by
  rw [e]
  refine ⟨hq, ?_, ?_⟩
  · unfold doB ansT playT
    rw [hq, hk]
    simp only [if_true, Int.reduceEq, if_false]
    unfold doR
    rw [f0]
    simp only [Int.reduceEq, if_false, if_true, g, hr]
    rfl
  · unfold doS playS
    rw [hq, hk]
    simp only [if_true, Int.reduceEq, if_false]
    unfold doT
    rw [f0]
    simp only [Int.reduceEq, if_false, if_true, g, hr]
theorem asks_3 (r : RefS) {tok : Int} (h0 : 0 ≤ tok) (h1 : tok ≤ 65535) {o : OpD} (hk : pickF o.kind 8 = 3) : Asks (askB tok o) r tok o := by
  have hm3 := pickF_range o.d (n := 3) (by omega)
  obtain ⟨m, hm⟩ : ∃ m : Nat, pickF o.d 3 = (m : Int) := ⟨(pickF o.d 3).toNat, by omega⟩
  have hmm : m < 3 := by omega
  have hrF : rulesF o = rulesTo o m := by unfold rulesF; rw [hm]; rfl
  have hw := word_back h0 h1
  have u0 := ruleF_r o 0
  have u1 := ruleF_r o 1
  have v0 := boolB_r (ruleF o 0).allow
  have v1 := boolB_r (ruleF o 1).allow
  rcases m with _ | _ | _ | m
  · have e : askB tok o = [loB 8, hiB tok, loB tok, loB 0] := by
      unfold askB askRest
      rw [hk, hrF]
      rfl
    exact asks_list r hk e rfl hw (by rfl) (by rw [hrF]; rfl)
  · have e : askB tok o = [loB 8, hiB tok, loB tok, loB 1, boolB (ruleF o 0).allow, hiB (ruleF o 0).addr, loB (ruleF o 0).addr, loB (ruleF o 0).len, loB (ruleF o 0).ge, loB (ruleF o 0).le] := by
      unfold askB askRest
      rw [hk, hrF]
      rfl
    refine asks_list r hk e rfl hw ?_ ?_
    · show (decide _ && flagsTo _ 1) = true
      rw [flagsTo_succ, flagsTo_zero]
      show (decide ((10 : Int) = 4 + 6 * 1) && (true && decide (boolB (ruleF o 0).allow ≤ 1))) = true
      rw [decide_eq_true v0.2]
      rfl
    · rw [hrF]
      show [ruleW _ 4] = [ruleF o 0]
      rw [ruleW_is (u := ruleF o 0) (by omega) (by omega) (by omega) (by omega) rfl rfl rfl rfl rfl rfl]
  · have e : askB tok o = [loB 8, hiB tok, loB tok, loB 2, boolB (ruleF o 0).allow, hiB (ruleF o 0).addr, loB (ruleF o 0).addr, loB (ruleF o 0).len, loB (ruleF o 0).ge, loB (ruleF o 0).le, boolB (ruleF o 1).allow, hiB (ruleF o 1).addr, loB (ruleF o 1).addr, loB (ruleF o 1).len, loB (ruleF o 1).ge, loB (ruleF o 1).le] := by
      unfold askB askRest
      rw [hk, hrF]
      rfl
    refine asks_list r hk e rfl hw ?_ ?_
    · show (decide _ && flagsTo _ 2) = true
      rw [flagsTo_succ, flagsTo_succ, flagsTo_zero]
      show (decide ((16 : Int) = 4 + 6 * 2) && ((true && decide (boolB (ruleF o 0).allow ≤ 1)) && decide (boolB (ruleF o 1).allow ≤ 1))) = true
      rw [decide_eq_true v0.2, decide_eq_true v1.2]
      rfl
    · rw [hrF]
      show [ruleW _ 4, ruleW _ 10] = [ruleF o 0, ruleF o 1]
      rw [ruleW_is (u := ruleF o 0) (by omega) (by omega) (by omega) (by omega) rfl rfl rfl rfl rfl rfl, ruleW_is (u := ruleF o 1) (by omega) (by omega) (by omega) (by omega) rfl rfl rfl rfl rfl rfl]
  · omega
theorem asks_W (r : RefS) {tok : Int} (h0 : 0 ≤ tok) (h1 : tok ≤ 65535) (o : OpD) : Asks (askB tok o) r tok o := by
  have hr := pickF_range o.kind (n := 8) (by omega)
  have : pickF o.kind 8 = 0 ∨ pickF o.kind 8 = 1 ∨ pickF o.kind 8 = 2 ∨ pickF o.kind 8 = 3 ∨ pickF o.kind 8 = 4 ∨ pickF o.kind 8 = 5 ∨ pickF o.kind 8 = 6 ∨ pickF o.kind 8 = 7 := by omega
  rcases this with h | h | h | h | h | h | h | h
  · exact asks_0 r h0 h1 h
  · exact asks_1 r h0 h1 h
  · exact asks_2 r h0 h1 h
  · exact asks_3 r h0 h1 h
  · exact asks_4 r h0 h1 h
  · exact asks_5 r h0 h1 h
  · exact asks_6 r h0 h1 h
  · exact asks_7 r h0 h1 h
theorem ruleBy_len (R : List RuleD) : (R.flatMap ruleBy).length = 6 * R.length := by
  induction R with
  | nil => rfl
  | cons x R ih => rw [List.flatMap_cons, List.length_append, ih]; simp [ruleBy]; omega
theorem askB_len (tok : Int) (o : OpD) : 3 ≤ (askB tok o).length ∧ (askB tok o).length ≤ 100 := by
  have hm3 := pickF_range o.d (n := 3) (by omega)
  have hl : (rulesF o).length ≤ 3 := by unfold rulesF; rw [rulesTo_len]; omega
  have hr := ruleBy_len (rulesF o)
  unfold askB
  rw [List.length_append]
  show 3 ≤ 3 + _ ∧ 3 + _ ≤ 100
  refine ⟨by omega, ?_⟩
  have : (askRest o).length ≤ 19 := by
    unfold askRest
    repeat' split
    all_goals first | (simp only [List.length_cons, List.length_nil]; omega) | (rw [List.length_cons]; omega)
  omega
end Go.Proofs.Ytgndledehlilkab
