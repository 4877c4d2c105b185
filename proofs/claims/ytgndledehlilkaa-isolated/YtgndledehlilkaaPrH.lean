/-
  Whole lists and rules by value; filter.Make.
-/
import Derived.Test.YtgndledehlilkaaPrG
namespace Go.Proofs.Ytgndledehlilkaa
open Go.RowKit

def listCells (n : Nat) (f : Nat → RouteD) : List Value := .int .i64 (n : Int) :: enc 64 (fun j => routeCells (f j))
def rulesCells (n : Nat) (f : Nat → RuleD) : List Value := .int .i64 (n : Int) :: enc 4 (fun j => ruleCells (f j))
theorem listCells_len (n : Nat) (f : Nat → RouteD) : (listCells n f).length = 257 := by
  unfold listCells
  rw [List.length_cons, enc_length (s := 4) (fun _ _ => rfl)]
theorem rulesCells_len (n : Nat) (f : Nat → RuleD) : (rulesCells n f).length = 21 := by
  unfold rulesCells
  rw [List.length_cons, enc_length (s := 5) (fun _ _ => rfl)]
theorem enc_mem {n : Nat} {f : Nat → List Value} {v : Value} (h : v ∈ enc n f) : ∃ i, i < n ∧ v ∈ f i := by
  unfold enc at h
  rw [List.mem_flatMap] at h
  obtain ⟨i, hi, hv⟩ := h
  exact ⟨i, List.mem_range.1 hi, hv⟩
theorem listCells_one (n : Nat) (f : Nat → RouteD) : (listCells n f).toArray.all (·.oneCell') = true := by
  refine all_oneCell_toArray fun v hv => ?_
  unfold listCells at hv
  rcases List.mem_cons.1 hv with rfl | h
  · rfl
  · obtain ⟨i, _, hi⟩ := enc_mem h
    unfold routeCells at hi
    simp only [List.mem_cons, List.not_mem_nil, or_false] at hi
    rcases hi with rfl | rfl | rfl | rfl <;> rfl
theorem rulesCells_one (n : Nat) (f : Nat → RuleD) : (rulesCells n f).toArray.all (·.oneCell') = true := by
  refine all_oneCell_toArray fun v hv => ?_
  unfold rulesCells at hv
  rcases List.mem_cons.1 hv with rfl | h
  · rfl
  · obtain ⟨i, _, hi⟩ := enc_mem h
    unfold ruleCells at hi
    simp only [List.mem_cons, List.not_mem_nil, or_false] at hi
    rcases hi with rfl | rfl | rfl | rfl | rfl <;> rfl
theorem enc_get {n s : Nat} {f : Nat → List Value} (h : ∀ i, i < n → (f i).length = s) {j : Nat} {v : Value} (hv : (enc n f)[j]? = some v) : j / s < n ∧ (f (j / s))[j % s]? = some v := by
  have hl := enc_length h
  have hj : j < (enc n f).length := (List.getElem?_eq_some_iff.1 hv).1
  rw [hl] at hj
  have hs : 0 < s := by
    rcases Nat.eq_zero_or_pos s with e | e
    · subst e; simp at hj
    · exact e
  have h1 : j / s < n := Nat.div_lt_of_lt_mul (by rw [Nat.mul_comm]; exact hj)
  have h2 : j % s < s := Nat.mod_lt _ hs
  have h3 : j / s * s + j % s = j := by rw [Nat.mul_comm]; exact Nat.div_add_mod _ _
  refine ⟨h1, ?_⟩
  rw [← enc_at h h1 h2, h3]
  exact hv
section
variable {w : World} {b o n : Nat}
theorem LAt.range {f : Nat → RouteD} (h : LAt w b o n f) : w.rangeAt b o (listCells n f) := by
  intro j v hv
  cases j with
  | zero => simp only [listCells, List.getElem?_cons_zero] at hv; rw [← hv]; exact h.cnt
  | succ j =>
    simp only [listCells, List.getElem?_cons_succ] at hv
    obtain ⟨h1, h2⟩ := enc_get (s := 4) (fun _ _ => rfl) hv
    have h3 : j % 4 < 4 := Nat.mod_lt _ (by omega)
    have h4 : j / 4 * 4 + j % 4 = j := by omega
    have e : o + (j + 1) = o + 1 + j / 4 * 4 + j % 4 := by omega
    rw [e]
    generalize j / 4 = q at *
    generalize j % 4 = m at *
    rcases m with _ | _ | _ | _ | m
    · rw [← h2]; exact h.addr q h1
    · rw [← h2]; exact h.len q h1
    · rw [← h2]; exact h.hop q h1
    · rw [← h2]; exact h.frm q h1
    · omega
theorem range_list {f : Nat → RouteD} (hr : w.rangeAt b o (listCells n f)) {q m : Nat} (hq : q < 64) (hm : m < 4) : w.cell? ⟨b, o + 1 + q * 4 + m, none⟩ = (routeCells (f q))[m]? := by
  have e1 : (listCells n f)[q * 4 + m + 1]? = (routeCells (f q))[m]? := by
    unfold listCells
    rw [List.getElem?_cons_succ]
    exact enc_at (s := 4) (fun _ _ => rfl) hq hm
  have e2 : (routeCells (f q))[m]? = some ((routeCells (f q))[m]'hm) := List.getElem?_eq_getElem _
  rw [e2, show o + 1 + q * 4 + m = o + (q * 4 + m + 1) from by omega]
  exact hr _ _ (e1.trans e2)
theorem LAt.ofRange {f : Nat → RouteD} (hl : b < w.heap.size) (hf : ∀ j, w.frozen? ⟨b, j, none⟩ = false) (hn : n ≤ 64) (hr : w.rangeAt b o (listCells n f)) : LAt w b o n f :=
  ⟨hl, hf, hn, hr 0 _ rfl, fun j hj => range_list hr hj (m := 0) (by omega), fun j hj => range_list hr hj (m := 1) (by omega), fun j hj => range_list hr hj (m := 2) (by omega), fun j hj => range_list hr hj (m := 3) (by omega)⟩
theorem RAt.range {f : Nat → RuleD} (h : RAt w b o n f) : w.rangeAt b o (rulesCells n f) := by
  intro j v hv
  cases j with
  | zero => simp only [rulesCells, List.getElem?_cons_zero] at hv; rw [← hv]; exact h.cnt
  | succ j =>
    simp only [rulesCells, List.getElem?_cons_succ] at hv
    obtain ⟨h1, h2⟩ := enc_get (s := 5) (fun _ _ => rfl) hv
    have h3 : j % 5 < 5 := Nat.mod_lt _ (by omega)
    have e : o + (j + 1) = o + 1 + j / 5 * 5 + j % 5 := by omega
    rw [e]
    generalize j / 5 = q at *
    generalize j % 5 = m at *
    rcases m with _ | _ | _ | _ | _ | m
    · rw [← h2]; exact h.allow q h1
    · rw [← h2]; exact h.addr q h1
    · rw [← h2]; exact h.len q h1
    · rw [← h2]; exact h.ge q h1
    · rw [← h2]; exact h.le q h1
    · omega
theorem range_rules {f : Nat → RuleD} (hr : w.rangeAt b o (rulesCells n f)) {q m : Nat} (hq : q < 4) (hm : m < 5) : w.cell? ⟨b, o + 1 + q * 5 + m, none⟩ = (ruleCells (f q))[m]? := by
  have e1 : (rulesCells n f)[q * 5 + m + 1]? = (ruleCells (f q))[m]? := by
    unfold rulesCells
    rw [List.getElem?_cons_succ]
    exact enc_at (s := 5) (fun _ _ => rfl) hq hm
  have e2 : (ruleCells (f q))[m]? = some ((ruleCells (f q))[m]'hm) := List.getElem?_eq_getElem _
  rw [e2, show o + 1 + q * 5 + m = o + (q * 5 + m + 1) from by omega]
  exact hr _ _ (e1.trans e2)
theorem RAt.ofRange {f : Nat → RuleD} (hl : b < w.heap.size) (hf : ∀ j, w.frozen? ⟨b, j, none⟩ = false) (hn : n ≤ 4) (hr : w.rangeAt b o (rulesCells n f)) : RAt w b o n f :=
  ⟨hl, hf, hn, hr 0 _ rfl, fun j hj => range_rules hr hj (m := 0) (by omega), fun j hj => range_rules hr hj (m := 1) (by omega), fun j hj => range_rules hr hj (m := 2) (by omega), fun j hj => range_rules hr hj (m := 3) (by omega), fun j hj => range_rules hr hj (m := 4) (by omega)⟩
end
end Go.Proofs.Ytgndledehlilkaa
