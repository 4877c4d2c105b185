/-
  Sorted lists of routes, as plain data: put, delete.
-/
import Derived.Test.YtgndledehlilkaaPrI
namespace Go.Proofs.Ytgndledehlilkaa
open Go.RowKit

def hasP (l : List RouteD) (x : RouteD) : Bool := l.any fun y => sameB y x
def delL (l : List RouteD) (x : RouteD) : List RouteD := l.filter fun y => !sameB y x
def putL (l : List RouteD) (x : RouteD) : List RouteD := sortR (delL l x ++ [x])
theorem hasP_true {l : List RouteD} {x : RouteD} : hasP l x = true ↔ ∃ y ∈ l, sameB y x = true := by unfold hasP; rw [List.any_eq_true]
theorem hasP_false {l : List RouteD} {x : RouteD} : hasP l x = false ↔ ∀ y ∈ l, sameB y x = false := by
  unfold hasP
  rw [List.any_eq_false]
  simp
theorem mem_delL {l : List RouteD} {x z : RouteD} : z ∈ delL l x ↔ z ∈ l ∧ sameB z x = false := by
  unfold delL
  rw [List.mem_filter]
  simp
section
variable {l : List RouteD} {x : RouteD}
theorem sorted_delL (hs : Sorted l) (x : RouteD) : Sorted (delL l x) := List.Pairwise.sublist List.filter_sublist hs
theorem sorted_ne (hs : Sorted l) : l.Pairwise fun x y => key x ≠ key y := List.Pairwise.imp (fun h e => by omega) hs
theorem putL_ok (hs : Sorted l) (hl : ∀ y ∈ l, okRoute y) (hx : okRoute x) : Sorted (putL l x) ∧ ∀ z, z ∈ putL l x ↔ (z ∈ l ∧ sameB z x = false) ∨ z = x := by
  have h1 : ∀ y ∈ delL l x ++ [x], okRoute y := fun y hy => by
    rcases List.mem_append.1 hy with h | h
    · exact hl y (mem_delL.1 h).1
    · rw [List.mem_singleton] at h; subst h; exact hx
  have h2 : (delL l x ++ [x]).Pairwise fun x y => key x ≠ key y := by
    refine List.pairwise_append.2 ⟨sorted_ne (sorted_delL hs x), by simp, fun y hy z hz => ?_⟩
    rw [List.mem_singleton] at hz
    subst hz
    obtain ⟨a, b⟩ := mem_delL.1 hy
    intro e
    rw [(same_key (hl y a) hx).2 e] at b
    simp at b
  obtain ⟨h3, h4⟩ := sortR_ok h1 h2
  exact ⟨h3, fun z => by
    unfold putL
    rw [h4 z, List.mem_append, mem_delL, List.mem_singleton]⟩
theorem putL_okr (hs : Sorted l) (hl : ∀ y ∈ l, okRoute y) (hx : okRoute x) : ∀ y ∈ putL l x, okRoute y := fun y hy => by
  rcases ((putL_ok hs hl hx).2 y).1 hy with h | h
  · exact hl y h.1
  · subst h; exact hx
theorem pad_lt {j : Nat} (h : j < l.length) : pad l j = l[j] := by unfold pad; simp [List.getD_eq_getElem?_getD, h]
theorem pad_ge {j : Nat} (h : l.length ≤ j) : pad l j = rt0 := by unfold pad; simp [List.getD_eq_getElem?_getD, List.getElem?_eq_none h]
theorem sorted_get (hs : Sorted l) {i j : Nat} (hi : i < l.length) (hj : j < l.length) (h : i < j) : key l[i] < key l[j] := List.pairwise_iff_getElem.1 hs i j hi hj h
/-- What the place of a prefix says. -/
theorem place_keys (hs : Sorted l) (hl : ∀ y ∈ l, okRoute y) (hx : okRoute x) {i : Nat} (hp : IsPl (pad l) l.length x.addr x.len i) : (∀ j (hj : j < l.length), j < i → key l[j] < key x) ∧ (∀ j (hj : j < l.length), i ≤ j → key x ≤ key l[j]) := by
  obtain ⟨h1, h2, h3⟩ := hp
  refine ⟨fun j hj hji => ?_, fun j hj hij => ?_⟩
  · have h := h2 j hji
    rw [pad_lt hj] at h
    exact (less_key (hl _ (List.getElem_mem hj)) hx).1 h
  · have hi : i < l.length := by omega
    have h := h3 hi
    rw [pad_lt hi] at h
    have hk : ¬ key l[i] < key x := fun hh => by
      have h' : befB l[i] x.addr x.len = true := (less_key (hl _ (List.getElem_mem hi)) hx).2 hh
      rw [h] at h'
      simp at h'
    by_cases e : i = j
    · subst e; omega
    · have := sorted_get hs hi hj (by omega)
      omega
theorem stands_has (hs : Sorted l) (hl : ∀ y ∈ l, okRoute y) (hx : okRoute x) {i : Nat} (hp : IsPl (pad l) l.length x.addr x.len i) : stB (pad l) l.length i x.addr x.len = hasP l x := by
  obtain ⟨h1, h2⟩ := place_keys hs hl hx hp
  rw [Bool.eq_iff_iff, hasP_true]
  unfold stB
  constructor
  · intro h
    rw [Bool.and_eq_true, decide_eq_true_eq] at h
    rw [pad_lt h.1] at h
    exact ⟨l[i], List.getElem_mem h.1, h.2⟩
  · rintro ⟨y, hy, hsy⟩
    obtain ⟨j, hj, rfl⟩ := List.getElem_of_mem hy
    have hk := (same_key (hl _ hy) hx).1 hsy
    have hji : j = i := by
      rcases Nat.lt_trichotomy j i with h | h | h
      · have := h1 j hj h; omega
      · exact h
      · have a := h2 i (by omega) (Nat.le_refl _)
        have b := sorted_get hs (by omega) hj h
        omega
    subst hji
    rw [Bool.and_eq_true, decide_eq_true_eq, pad_lt hj]
    exact ⟨hj, hsy⟩
theorem set_sorted {i : Nat} (hs : Sorted l) (hi : i < l.length) (hk : key l[i] = key x) : Sorted (l.set i x) := by
  unfold Sorted
  rw [List.pairwise_iff_getElem]
  intro a b ha hb hab
  rw [List.length_set] at ha hb
  have hp := sorted_get hs ha hb hab
  rw [List.getElem_set, List.getElem_set]
  by_cases ea : i = a
  · rw [if_pos ea, if_neg (by omega)]
    subst ea
    omega
  · rw [if_neg ea]
    by_cases eb : i = b
    · rw [if_pos eb]
      subst eb
      omega
    · rw [if_neg eb]; exact hp
theorem sorted_one (hs : Sorted l) {y z : RouteD} (hy : y ∈ l) (hz : z ∈ l) (hk : key y = key z) : y = z := by
  obtain ⟨a, ha, rfl⟩ := List.getElem_of_mem hy
  obtain ⟨b, hb, rfl⟩ := List.getElem_of_mem hz
  rcases Nat.lt_trichotomy a b with h | h | h
  · have := sorted_get hs ha hb h; omega
  · subst h; rfl
  · have := sorted_get hs hb ha h; omega
/-- In the place of one of the same prefix. -/
theorem put_set (hs : Sorted l) (hl : ∀ y ∈ l, okRoute y) (hx : okRoute x) {i : Nat} (hi : i < l.length) (hsm : sameB l[i] x = true) : putL l x = l.set i x := by
  have hk := (same_key (hl _ (List.getElem_mem hi)) hx).1 hsm
  obtain ⟨h1, h2⟩ := putL_ok hs hl hx
  refine sorted_ext h1 (set_sorted hs hi hk) fun z => ?_
  rw [h2 z]
  constructor
  · rintro (⟨a, b⟩ | rfl)
    · obtain ⟨j, hj, rfl⟩ := List.getElem_of_mem a
      have hne : i ≠ j := fun e => by subst e; rw [hsm] at b; simp at b
      rw [List.mem_iff_getElem]
      exact ⟨j, by simpa using hj, by rw [List.getElem_set, if_neg hne]⟩
    · exact List.mem_iff_getElem.2 ⟨i, by simpa using hi, by simp⟩
  · intro h
    obtain ⟨j, hj, rfl⟩ := List.getElem_of_mem h
    rw [List.length_set] at hj
    rw [List.getElem_set]
    by_cases e : i = j
    · rw [if_pos e]; exact .inr rfl
    · rw [if_neg e]
      refine .inl ⟨List.getElem_mem hj, ?_⟩
      cases hb : sameB l[j] x with
      | false => rfl
      | true =>
        have hk2 := (same_key (hl _ (List.getElem_mem hj)) hx).1 hb
        rcases Nat.lt_or_gt_of_ne e with h | h
        · have := sorted_get hs hi hj h; omega
        · have := sorted_get hs hj hi h; omega
theorem pad_set {i : Nat} (hi : i < l.length) : pad (l.set i x) = upd (pad l) i x := by
  funext j
  unfold upd
  by_cases hj : j < l.length
  · rw [pad_lt (by simpa using hj), List.getElem_set]
    by_cases e : i = j
    · rw [if_pos e, if_pos e.symm]
    · rw [if_neg e, if_neg (fun h => e h.symm), pad_lt hj]
  · rw [pad_ge (by simpa using hj), if_neg (by omega), pad_ge (by omega)]
def insI (l : List RouteD) (i : Nat) (x : RouteD) : List RouteD := l.take i ++ x :: l.drop i
theorem insI_len {i : Nat} (hi : i ≤ l.length) : (insI l i x).length = l.length + 1 := by
  unfold insI
  rw [List.length_append, List.length_cons, List.length_take, List.length_drop]
  omega
theorem pad_ins {i : Nat} (hi : i ≤ l.length) : ∀ j, pad (insI l i x) j = insAt (pad l) l.length i x j := by
  intro j
  have hlen := insI_len (x := x) hi
  unfold insAt
  by_cases hj : j < l.length + 1
  · rw [pad_lt (by omega)]
    unfold insI
    by_cases h1 : j < i
    · rw [if_pos h1, List.getElem_append_left (by rw [List.length_take]; omega), List.getElem_take, pad_lt (by omega)]
    · rw [if_neg h1, List.getElem_append_right (by rw [List.length_take]; omega)]
      by_cases h2 : j = i
      · rw [if_pos h2]
        have : j - (l.take i).length = 0 := by rw [List.length_take]; omega
        simp only [this, List.getElem_cons_zero]
      · rw [if_neg h2, if_pos (by omega)]
        have : j - (l.take i).length = (j - 1 - i) + 1 := by rw [List.length_take]; omega
        simp only [this, List.getElem_cons_succ, List.getElem_drop]
        rw [pad_lt (by omega)]
        congr 1
        omega
  · rw [pad_ge (by omega), if_neg (by omega), if_neg (by omega), if_neg (by omega), pad_ge (by omega)]
theorem put_ins (hs : Sorted l) (hl : ∀ y ∈ l, okRoute y) (hx : okRoute x) {i : Nat} (hp : IsPl (pad l) l.length x.addr x.len i) (hn : hasP l x = false) : putL l x = insI l i x := by
  obtain ⟨h1, h2⟩ := place_keys hs hl hx hp
  obtain ⟨h3, h4⟩ := putL_ok hs hl hx
  have hnk : ∀ y ∈ l, key y ≠ key x := fun y hy e => by
    have := hasP_false.1 hn y hy
    rw [(same_key (hl y hy) hx).2 e] at this
    simp at this
  have hm : ∀ z, z ∈ insI l i x ↔ z ∈ l ∨ z = x := fun z => by
    unfold insI
    rw [List.mem_append, List.mem_cons]
    conv => rhs; rw [← List.take_append_drop i l]
    rw [List.mem_append]
    constructor
    · rintro (h | h | h)
      · exact .inl (.inl h)
      · exact .inr h
      · exact .inl (.inr h)
    · rintro ((h | h) | h)
      · exact .inl h
      · exact .inr (.inr h)
      · exact .inr (.inl h)
  refine sorted_ext h3 ?_ fun z => ?_
  · unfold insI Sorted
    refine List.pairwise_append.2 ⟨List.Pairwise.sublist (List.take_sublist _ _) hs, List.pairwise_cons.2 ⟨fun y hy => ?_, List.Pairwise.sublist (List.drop_sublist _ _) hs⟩, fun y hy z hz => ?_⟩
    · obtain ⟨j, hj, rfl⟩ := List.getElem_of_mem hy
      rw [List.length_drop] at hj
      rw [List.getElem_drop]
      have a := h2 (i + j) (by omega) (by omega)
      have b := hnk _ (List.getElem_mem (show i + j < l.length by omega))
      omega
    · obtain ⟨j, hj, rfl⟩ := List.getElem_of_mem hy
      rw [List.length_take] at hj
      rw [List.getElem_take]
      have a := h1 j (by omega) (by omega)
      rcases List.mem_cons.1 hz with rfl | hz
      · exact a
      · obtain ⟨m, hm', rfl⟩ := List.getElem_of_mem hz
        rw [List.length_drop] at hm'
        rw [List.getElem_drop]
        have b := h2 (i + m) (by omega) (by omega)
        omega
  · rw [h4 z, hm z]
    constructor
    · rintro (h | h)
      · exact .inl h.1
      · exact .inr h
    · rintro (h | h)
      · exact .inl ⟨h, hasP_false.1 hn z h⟩
      · exact .inr h
theorem del_erase (hs : Sorted l) (hl : ∀ y ∈ l, okRoute y) (hx : okRoute x) {i : Nat} (hi : i < l.length) (hsm : sameB l[i] x = true) : delL l x = l.eraseIdx i := by
  refine sorted_ext (sorted_delL hs x) (List.Pairwise.sublist (List.eraseIdx_sublist _ _) hs) fun z => ?_
  have hk := (same_key (hl _ (List.getElem_mem hi)) hx).1 hsm
  rw [mem_delL, List.mem_eraseIdx_iff_getElem]
  constructor
  · rintro ⟨a, b⟩
    obtain ⟨j, hj, rfl⟩ := List.getElem_of_mem a
    exact ⟨j, hj, fun e => by subst e; rw [hsm] at b; simp at b, rfl⟩
  · rintro ⟨j, hj, hne, rfl⟩
    refine ⟨List.getElem_mem hj, ?_⟩
    cases hb : sameB l[j] x with
    | false => rfl
    | true =>
      have hk2 := (same_key (hl _ (List.getElem_mem hj)) hx).1 hb
      rcases Nat.lt_or_gt_of_ne hne with h | h
      · have := sorted_get hs hj hi h; omega
      · have := sorted_get hs hi hj h; omega
theorem pad_erase {i : Nat} (hi : i < l.length) : ∀ j, pad (l.eraseIdx i) j = delAt (pad l) (l.length - 1) i j := by
  intro j
  have hlen : (l.eraseIdx i).length = l.length - 1 := by rw [List.length_eraseIdx, if_pos hi]
  unfold delAt
  by_cases hj : j < l.length - 1
  · rw [pad_lt (by omega), List.getElem_eraseIdx]
    by_cases h1 : j < i
    · rw [if_pos h1, dif_pos h1, pad_lt (by omega)]
    · rw [if_neg h1, dif_neg h1, if_pos hj, pad_lt (by omega)]
  · rw [pad_ge (by omega)]
    by_cases h1 : j < i
    · omega
    · rw [if_neg h1, if_neg hj]
      by_cases h2 : j = l.length - 1
      · rw [if_pos h2]
      · rw [if_neg h2, pad_ge (by omega)]
end
end Go.Proofs.Ytgndledehlilkaa
