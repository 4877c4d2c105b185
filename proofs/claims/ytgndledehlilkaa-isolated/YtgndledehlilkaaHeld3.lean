/-
  Held: what a step answers, as plain data; the script that is read.
-/
import Derived.Test.YtgndledehlilkaaHeld2
import Derived.Test.YtgndledehlilkaaOrd5
namespace Go.Proofs.Ytgndledehlilkaa
open Go.RowKit

def oldB (t a n : Int) (x : RouteD) : Bool := x.from_ == t && x.addr == a && x.len == n
def oldTo (l : List RouteD) (t a n : Int) : Nat → Bool
  | 0 => false
  | k + 1 => oldTo l t a n k || oldB t a n (l.getD k rt0)
theorem oldTo_is (l : List RouteD) (t a n : Int) : oldTo l t a n l.length = l.any (oldB t a n) := by
  have key : ∀ k, k ≤ l.length → oldTo l t a n k = (l.take k).any (oldB t a n) := by
    intro k
    induction k with
    | zero => intro _; rfl
    | succ k ih =>
      intro hk
      have e : l.take (k + 1) = l.take k ++ [l.getD k rt0] := by
        rw [List.take_succ_eq_append_getElem (by omega)]
        simp [List.getD_eq_getElem?_getD, show k < l.length by omega]
      show (oldTo l t a n k || oldB t a n (l.getD k rt0)) = _
      rw [ih (by omega), e, List.any_append]
      simp
  rw [key _ (Nat.le_refl _), List.take_length]
/-- An own route is refused just at the quota. -/
theorem held_step {q : Nat → Int} {r : RefS} (hk : RefOk r) (h3 : Three q r) {t : Nat} (ht : t < 3) {l : List RouteD} {so : Int} (hso : so = ((r.life t).own.length : Int)) (hl : ∀ x, x ∈ l ∧ x.from_ = (t : Int) ↔ x ∈ (r.life t).own) (o : OpD) (hkd : pickF o.kind 8 = 0) {ob : Bool} (hob : l.any (oldB (t : Int) (pfxA o.a o.b) (pfxL o.b)) = ob) (mk : Int) :
    ((playT r ((t : Int) + 1) o mk).e = if ob = false ∧ so = q t then 8 else 0) := by
  obtain ⟨m1, m2⟩ := h3.firsts.may ht (right := 2) (by decide)
  have hc := pickF_range o.c (n := 256) (by omega)
  have hq := h3.quota t ht
  have hown := hk.tab.ownN t (by rw [h3.nl]; exact ht)
  have e1 : playT r ((t : Int) + 1) o mk = toldE (insertR r ((t : Int) + 1) (pfxA o.a o.b) (pfxL o.b) (pickF o.c 256)) := by unfold playT; rw [if_pos hkd]
  rw [e1]
  show insertR r ((t : Int) + 1) (pfxA o.a o.b) (pfxL o.b) (pickF o.c 256) = _
  unfold insertR
  rw [if_pos m1, pfx_is, (okMask_iff _).2 ⟨hc.1, by omega⟩, m2]
  show insIn (r.life t) (newRoute r ((t : Int) + 1) (pfxA o.a o.b) (pfxL o.b) (pickF o.c 256)) = _
  unfold insIn newRoute
  rw [m2]
  have hfi : 0 ≤ findI (r.life t).own ⟨pfxA o.a o.b, pfxL o.b, pickF o.c 256, (r.life t).no⟩ ↔ ob = true := by
    rw [← hob, List.any_eq_true]
    rcases findI_cases (r.life t).own ⟨pfxA o.a o.b, pfxL o.b, pickF o.c 256, (r.life t).no⟩ with ⟨i, hi, hfi, hs⟩ | ⟨hfi, hall⟩
    · have hmem : (r.life t).own.getD i rt0 ∈ (r.life t).own := by rw [List.getD_eq_getElem?_getD, List.getElem?_eq_getElem hi]; exact List.getElem_mem hi
      generalize (r.life t).own.getD i rt0 = y at *
      obtain ⟨h1, h2⟩ := (hl y).2 hmem
      refine ⟨fun _ => ⟨y, h1, ?_⟩, fun _ => by omega⟩
      unfold sameB at hs
      unfold oldB
      rw [Bool.and_eq_true] at hs
      rw [h2, hs.1, hs.2]
      simp
    · refine ⟨fun hh => by omega, fun ⟨y, hy, hb⟩ => ?_⟩
      unfold oldB at hb
      simp only [Bool.and_eq_true, beq_iff_eq] at hb
      have := hall y ((hl y).1 ⟨hy, hb.1.1⟩)
      unfold sameB at this
      simp [hb.1.2, hb.2] at this
  cases ob with
  | true => rw [if_pos (hfi.2 rfl)]; simp
  | false =>
    rw [if_neg (fun q => by have := hfi.1 q; cases this), hq]
    by_cases e : so = q t
    · rw [if_pos (by omega), if_pos ⟨rfl, e⟩]
    · rw [if_neg (by omega), if_neg (fun q => e q.2)]
/-- The steps that came in. -/
structure OpsIn (w : World) (a : Option Addr) (n : Nat) (X : Nat → OpD) : Prop where
  most : n ≤ 17592186044416
  at_ : 0 < n → ∃ bs off, a = some ⟨bs, off, none⟩ ∧ bs < w.heap.size ∧ ∀ i, i < n → OpOk (X i) ∧ w.cell? ⟨bs, off + i * 6, none⟩ = some (.int .i64 (X i).kind) ∧ w.cell? ⟨bs, off + i * 6 + 1, none⟩ = some (.int .i64 (X i).who) ∧ w.cell? ⟨bs, off + i * 6 + 2, none⟩ = some (.int .i64 (X i).a) ∧ w.cell? ⟨bs, off + i * 6 + 3, none⟩ = some (.int .i64 (X i).b) ∧ w.cell? ⟨bs, off + i * 6 + 4, none⟩ = some (.int .i64 (X i).c) ∧ w.cell? ⟨bs, off + i * 6 + 5, none⟩ = some (.int .i64 (X i).d)
theorem Three.start (a b c : Int) : Three (quota3 a b c) (sR (quota3 a b c) (fun _ => 0) (fun _ => 0) []) := ⟨rfl, sR_firsts _ _ _ _, fun _ _ => rfl, fun _ _ => rfl⟩
/-- The last two calls. -/
theorem held_last {q : Nat → Int} {r : RefS} (h3 : Three q r) : (removeR r 3 0 0 = 0 ∨ removeR r 3 0 0 = 9) ∧ (insertR (removedR r 3 0 0) 3 0 0 1 = 0 ∨ insertR (removedR r 3 0 0) 3 0 0 1 = 8) := by
  have e : ((2 : Nat) : Int) + 1 = 3 := rfl
  have hp : isPfx 0 0 = true := by decide
  have key : ∀ r : RefS, Three q r → insertR r 3 0 0 1 = 0 ∨ insertR r 3 0 0 1 = 8 := fun r h => by
    obtain ⟨m1, m2⟩ := h.firsts.may (i := 2) (by omega) (right := 2) (by decide)
    rw [e] at m1 m2
    unfold insertR
    rw [if_pos m1, hp, m2]
    show insIn _ _ = 0 ∨ insIn _ _ = 8
    unfold insIn
    split
    · exact .inl rfl
    · split
      · exact .inr rfl
      · exact .inl rfl
  refine ⟨?_, key _ ?_⟩
  · obtain ⟨m1, m2⟩ := h3.firsts.may (i := 2) (by omega) (right := 2) (by decide)
    rw [e] at m1 m2
    unfold removeR
    rw [if_pos m1, hp, m2]
    show remIn _ _ = 0 ∨ remIn _ _ = 9
    unfold remIn
    split
    · exact .inl rfl
    · exact .inr rfl
  · unfold removedR
    split
    · exact h3.turn ⟨_, rfl, rfl, rfl, rfl⟩
    · exact h3
end Go.Proofs.Ytgndledehlilkaa
