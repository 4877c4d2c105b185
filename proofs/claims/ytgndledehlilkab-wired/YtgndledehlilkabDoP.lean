/-
  Requests as data: what bytes are a request, what is answered to them, what they leave ('doB', 'doS'); bytes that are handed in ('BytesIn').
-/
import Derived.Test.YtgndledehlilkabPure
namespace Go.Proofs.Ytgndledehlilkab
open Go.RowKit

/-- Bytes. -/
def okBytes (S : List Int) : Prop := ∀ x ∈ S, 0 ≤ x ∧ x ≤ 255
/-- The field of one byte at a place, and of two. -/
def fB (S : List Int) (k : Nat) : Int := S.getD k 0
def fW (S : List Int) (k : Nat) : Int := 256 * fB S k + fB S (k + 1)
theorem fB_ok {S : List Int} (h : okBytes S) (k : Nat) : 0 ≤ fB S k ∧ fB S k ≤ 255 := by
  unfold fB
  rw [List.getD_eq_getElem?_getD]
  cases hq : S[k]? with
  | none => simp
  | some x => exact h x (List.mem_of_getElem? hq)
theorem fW_ok {S : List Int} (h : okBytes S) (k : Nat) : 0 ≤ fW S k ∧ fW S k ≤ 65535 := by
  have := fB_ok h k
  have := fB_ok h (k + 1)
  unfold fW
  omega
theorem fB_out {S : List Int} {k : Nat} (h : S.length ≤ k) : fB S k = 0 := by
  unfold fB
  rw [List.getD_eq_getElem?_getD, List.getElem?_eq_none h]
  rfl
theorem fB_in {S : List Int} {k : Nat} (h : k < S.length) : S[k]? = some (fB S k) := by
  unfold fB
  rw [List.getD_eq_getElem?_getD, List.getElem?_eq_getElem h]
  rfl
def sizeB (S : List Int) : Int :=
  if fB S 0 = 1 ∨ fB S 0 = 2 then 2 else if fB S 0 = 11 ∨ fB S 0 = 12 then 3 else if fB S 0 = 3 then 4 else if fB S 0 = 4 ∨ fB S 0 = 7 ∨ fB S 0 = 9 then 5 else if fB S 0 = 6 then 6 else if fB S 0 = 5 ∨ fB S 0 = 10 then 7 else if fB S 0 = 8 then 4 + 6 * fB S 3 else -1
/-- The first k flags of a Filter are 0 or 1. -/
def flagsTo (S : List Int) (k : Nat) : Bool := (List.range k).all fun i => decide (fB S (4 + 6 * i) ≤ 1)
def flagsB (S : List Int) : Bool := if fB S 0 = 10 then decide (fB S 6 ≤ 1) else if fB S 0 = 8 then flagsTo S (fB S 3).toNat else true
def isReq (S : List Int) : Bool := decide ((S.length : Int) = sizeB S) && flagsB S
def ruleW (S : List Int) (k : Nat) : RuleD := ⟨fB S k == 1, fW S (k + 1), fB S (k + 3), fB S (k + 4), fB S (k + 5)⟩
def rulesB (S : List Int) : List RuleD := (List.range (fB S 3).toNat).map fun i => ruleW S (4 + 6 * i)
theorem flagsTo_zero (S : List Int) : flagsTo S 0 = true := rfl
theorem flagsTo_succ (S : List Int) (k : Nat) : flagsTo S (k + 1) = (flagsTo S k && decide (fB S (4 + 6 * k) ≤ 1)) := by unfold flagsTo; rw [List.range_succ, List.all_append]; simp
theorem flagsTo_mono {S : List Int} {k m : Nat} (h : k ≤ m) (hf : flagsTo S k = false) : flagsTo S m = false := by
  induction m with
  | zero => obtain rfl : k = 0 := by omega
            exact hf
  | succ m ih =>
    rcases Nat.lt_or_ge m k with h1 | h1
    · obtain rfl : k = m + 1 := by omega
      exact hf
    · rw [flagsTo_succ, ih h1]; rfl
/-- The high and the low byte of a number. -/
def hiB (n : Int) : Int := n / 256 % 256
def loB (n : Int) : Int := n % 256
def routeB (x : RouteD) : List Int := [hiB x.addr, loB x.addr, loB x.len, loB x.hop, loB x.from_]
/-- The byte of an error alone, or a byte 0 and the fields. -/
def ansB (e : Int) (F : List Int) : List Int := if e = 0 then 0 :: F else [loB e]
def sumsB (s : SumsD) : List Int := [loB s.own, loB s.taken, hiB s.dropped, loB s.dropped, loB s.quota]
def boolB (b : Bool) : Int := if b = true then 1 else 0
/-- What a request is answered. -/
def doR (r : RefS) (S : List Int) : List Int :=
  if fB S 0 = 1 then ansB (createR r (fB S 1)) [loB (createA r (fB S 1)).1, hiB (createA r (fB S 1)).2, loB (createA r (fB S 1)).2]
  else if fB S 0 = 2 then ansB (dropR r (fB S 1)) []
  else if fB S 0 = 3 then ansB (deriveR r (fW S 1) (fB S 3)) [hiB (deriveA r (fW S 1) (fB S 3)), loB (deriveA r (fW S 1) (fB S 3))]
  else if fB S 0 = 4 then ansB (revokeR r (fW S 1) (fW S 3)) []
  else if fB S 0 = 5 then ansB (insertR r (fW S 1) (fW S 3) (fB S 5) (fB S 6)) []
  else if fB S 0 = 6 then ansB (removeR r (fW S 1) (fW S 3) (fB S 5)) []
  else if fB S 0 = 7 then ansB (shareR r (fW S 1) (fB S 3) (fB S 4)) []
  else if fB S 0 = 8 then ansB (filterR r (fW S 1) (rulesB S)) []
  else if fB S 0 = 9 then ansB (lookR r (fW S 1) (fW S 3)) (routeB (lookA r (fW S 1) (fW S 3)))
  else if fB S 0 = 10 then ansB (passR r (fW S 1) (fW S 3) (fB S 5)) [boolB (passA r (fW S 1) (fW S 3) (fB S 5) (fB S 6 == 1))]
  else if fB S 0 = 11 then ansB (mayI r (fW S 1) 1) (loB (tableL r (fW S 1)).length :: (tableL r (fW S 1)).flatMap routeB)
  else ansB (mayI r (fW S 1) 1) (sumsB (countF r (fW S 1)))
/-- What a request leaves. -/
def doT (r : RefS) (S : List Int) : RefS :=
  if fB S 0 = 1 then createdR r (fB S 1)
  else if fB S 0 = 2 then droppedS r (fB S 1)
  else if fB S 0 = 3 then derivedR r (fW S 1) (fB S 3)
  else if fB S 0 = 4 then revokedR r (fW S 1) (fW S 3)
  else if fB S 0 = 5 then insertedR r (fW S 1) (fW S 3) (fB S 5) (fB S 6)
  else if fB S 0 = 6 then removedR r (fW S 1) (fW S 3) (fB S 5)
  else if fB S 0 = 7 then sharedR r (fW S 1) (fB S 3) (fB S 4)
  else if fB S 0 = 8 then filteredR r (fW S 1) (rulesB S)
  else r
def doB (r : RefS) (S : List Int) : List Int := if isReq S = true then doR r S else [1]
def doS (r : RefS) (S : List Int) : RefS := if isReq S = true then doT r S else r
theorem RefOk.doT {r : RefS} (h : RefOk r) (S : List Int) : RefOk (doT r S) := by
  unfold Go.Proofs.Ytgndledehlilkab.doT
  split
  · exact h.created _
  · split
    · exact h.dropped _
    · split
      · exact h.derived _ _
      · split
        · exact h.revoked _ _
        · split
          · exact h.inserted _ _ _ _
          · split
            · exact h.removed _ _ _
            · split
              · exact h.shared _ _ _
              · split
                · exact h.filtered _ _
                · exact h
theorem RefOk.doS {r : RefS} (h : RefOk r) (S : List Int) : RefOk (doS r S) := by
  unfold Go.Proofs.Ytgndledehlilkab.doS
  split
  · exact h.doT S
  · exact h
/-- A request's number is one of twelve. -/
theorem isReq_num {S : List Int} (h : isReq S = true) : fB S 0 = 1 ∨ fB S 0 = 2 ∨ fB S 0 = 3 ∨ fB S 0 = 4 ∨ fB S 0 = 5 ∨ fB S 0 = 6 ∨ fB S 0 = 7 ∨ fB S 0 = 8 ∨ fB S 0 = 9 ∨ fB S 0 = 10 ∨ fB S 0 = 11 ∨ fB S 0 = 12 := by
  unfold isReq sizeB at h
  rw [Bool.and_eq_true, decide_eq_true_eq] at h
  obtain ⟨h, _⟩ := h
  generalize fB S 0 = n at h ⊢
  generalize fB S 3 = m at h
  split at h
  · omega
  · split at h
    · omega
    · split at h
      · omega
      · split at h
        · omega
        · split at h
          · omega
          · split at h
            · omega
            · split at h
              · omega
              · omega
theorem rulesB_len (S : List Int) : (rulesB S).length = (fB S 3).toNat := by unfold rulesB; simp
/-- Bytes that are handed in. -/
def BytesIn (w : World) (v : Value) (S : List Int) : Prop :=
  okBytes S ∧ ((v = .slice none 0 0 ∧ S = []) ∨ ∃ ad c, v = .slice (some ad) S.length c ∧ S.length ≤ c ∧ S.length ≤ 140737488355328 ∧ ∀ j, j < S.length → ∃ bs off, ad = ⟨bs, off, none⟩ ∧ bs < w.heap.size ∧ w.cell? ⟨bs, off + j, none⟩ = some (.int .u8 (fB S j)))
theorem BytesIn.kept {P : Nat → Prop} {w w' : World} {a : Option Addr} {n c : Nat} {S : List Int} (h : BytesIn w (.slice a n c) S) (hk : Kept P w w') (hp : ∀ ad, a = some ad → 0 < S.length → ¬ P ad.block) : BytesIn w' (.slice a n c) S := by
  obtain ⟨h0, h⟩ := h
  refine ⟨h0, ?_⟩
  rcases h with h | ⟨ad, c', e, h1, h2, h4⟩
  · exact .inl h
  · refine .inr ⟨ad, c', e, h1, h2, fun j hj => ?_⟩
    obtain ⟨bs, off, rfl, q1, q2⟩ := h4 j hj
    have ea : a = some ⟨bs, off, none⟩ := (Value.slice.inj e).1
    refine ⟨bs, off, rfl, Nat.lt_of_lt_of_le q1 hk.size, ?_⟩
    rw [← q2]
    exact hk.cell (p := ⟨bs, off + j, none⟩) q1 (hp ⟨bs, off, none⟩ ea (by omega))
theorem BytesIn.still {w w' : World} {a : Option Addr} {n c : Nat} {S : List Int} (h : BytesIn w (.slice a n c) S) (hk : Still w w') : BytesIn w' (.slice a n c) S := h.kept hk fun _ _ _ h => h
theorem BytesIn.slice {w : World} {v : Value} {S : List Int} (h : BytesIn w v S) : ∃ a c, v = .slice a S.length c ∧ S.length ≤ 140737488355328 := by
  rcases h.2 with ⟨rfl, rfl⟩ | ⟨ad, c, rfl, _, h2, _⟩
  · exact ⟨none, 0, rfl, by simp⟩
  · exact ⟨_, _, rfl, h2⟩
theorem BytesIn.at {w : World} {a : Option Addr} {n c : Nat} {S : List Int} (h : BytesIn w (.slice a n c) S) {k : Nat} (hk : k < S.length) : ∃ bs off, a = some ⟨bs, off, none⟩ ∧ bs < w.heap.size ∧ w.cell? ⟨bs, off + k, none⟩ = some (.int .u8 (fB S k)) := by
  rcases h.2 with ⟨_, rfl⟩ | ⟨ad, c', e, _, _, h4⟩
  · simp at hk
  · obtain ⟨bs, off, rfl, q1, q2⟩ := h4 k hk
    exact ⟨bs, off, (Value.slice.inj e).1, q1, q2⟩
/-- A new list's bytes, handed in. -/
theorem BytesIn.row {w : World} {base : Nat} {g n cap : Nat} {S : List Int} (h : w.ownsRow base 5 1 (.slice (some ⟨g, 0, none⟩) n cap) n (S.map (Value.int .u8))) (hn : n = S.length) (hS : okBytes S) (hl : S.length ≤ 140737488355328) : BytesIn w (.slice (some ⟨g, 0, none⟩) n cap) S := by
  subst hn
  obtain ⟨_, c', e, h1, _⟩ := ownsRow_slice h
  simp only [Value.slice.injEq, true_and] at e
  obtain ⟨_, rfl⟩ := e
  refine ⟨hS, .inr ⟨_, cap, rfl, h1, hl, fun j hj => ⟨g, 0, rfl, ownsRow_lt h rfl, ?_⟩⟩⟩
  have := h.cells (g := g) rfl j (.int .u8 (fB S j)) (by rw [List.getElem?_map, fB_in hj]; rfl)
  have e : (⟨g, 0, none⟩ : Addr).add j = ⟨g, 0 + j, none⟩ := by unfold Addr.add; split <;> simp_all
  rw [e] at this
  exact this
end Go.Proofs.Ytgndledehlilkab
