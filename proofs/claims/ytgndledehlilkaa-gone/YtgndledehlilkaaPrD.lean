/-
  Walks: package routes: Put.
-/
import Derived.Test.YtgndledehlilkaaPrC
namespace Go.Proofs.Ytgndledehlilkaa
open Go.RowKit

/-- A route in a block of its own. -/
structure BoxX (w : World) (s : Nat) (x : RouteD) : Prop where
  lt : s < w.heap.size
  c0 : w.cell? ⟨s, 0, none⟩ = some (.int .i64 x.addr)
  c1 : w.cell? ⟨s, 1, none⟩ = some (.int .i64 x.len)
  c2 : w.cell? ⟨s, 2, none⟩ = some (.int .i64 x.hop)
  c3 : w.cell? ⟨s, 3, none⟩ = some (.int .i64 x.from_)
theorem BoxX.new (w : World) (x : RouteD) (t : TypeId) : BoxX (w.alloc (.cells #[.int .i64 x.addr, .int .i64 x.len, .int .i64 x.hop, .int .i64 x.from_] t)) w.heap.size x := by
  refine ⟨by simp, ?_, ?_, ?_, ?_⟩ <;> rw [World.cell?_alloc_new] <;> rfl
theorem BoxX.kept {w w' : World} {s : Nat} {x : RouteD} {P : Nat → Prop} (h : BoxX w s x) (hk : Kept P w w') (hp : ¬ P s) : BoxX w' s x :=
  ⟨Nat.lt_of_lt_of_le h.lt hk.size, (hk.cell (p := ⟨s, 0, none⟩) h.lt hp).trans h.c0, (hk.cell (p := ⟨s, 1, none⟩) h.lt hp).trans h.c1, (hk.cell (p := ⟨s, 2, none⟩) h.lt hp).trans h.c2, (hk.cell (p := ⟨s, 3, none⟩) h.lt hp).trans h.c3⟩
def shF (f : Nat → RouteD) (n m : Nat) : Nat → RouteD := fun j => if m < j ∧ j ≤ n then f (j - 1) else f j
def insAt (f : Nat → RouteD) (n i : Nat) (x : RouteD) : Nat → RouteD := fun j => if j < i then f j else if j = i then x else if j ≤ n then f (j - 1) else f j
theorem shF_top (f : Nat → RouteD) (n : Nat) : shF f n n = f := by
  funext j
  unfold shF
  rw [if_neg (by omega)]
theorem shF_low (f : Nat → RouteD) (n : Nat) {m : Nat} (h : 1 ≤ m) : shF f n m (m - 1) = f (m - 1) := by
  unfold shF
  rw [if_neg (by omega)]
theorem shF_step (f : Nat → RouteD) {n m : Nat} (h1 : m + 1 ≤ n) : upd (shF f n (m + 1)) (m + 1) (f m) = shF f n m := by
  funext j
  unfold upd shF
  by_cases e : j = m + 1
  · subst e; rw [if_pos rfl, if_pos (by omega), Nat.add_sub_cancel]
  · rw [if_neg e]
    by_cases h : m + 1 < j ∧ j ≤ n
    · rw [if_pos h, if_pos (by omega)]
    · rw [if_neg h, if_neg (by omega)]
theorem shF_end (f : Nat → RouteD) {n i : Nat} (x : RouteD) : upd (shF f n i) i x = insAt f n i x := by
  funext j
  unfold upd shF insAt
  by_cases e : j = i
  · subst e; rw [if_pos rfl, if_neg (by omega), if_pos rfl]
  · rw [if_neg e]
    by_cases h : j < i
    · rw [if_neg (by omega), if_pos h]
    · rw [if_neg h, if_neg e]
      by_cases h2 : j ≤ n
      · rw [if_pos (by omega), if_pos h2]
      · rw [if_neg (by omega), if_neg h2]
def PutPost (w : World) (b o n : Nat) (f : Nat → RouteD) (x : RouteD) (most : Int) (en : Ending) (w' : World) : Prop :=
  ∃ i : Nat, IsPl f n x.addr x.len i ∧ Within b o 257 w w' ∧
    ((stB f n i x.addr x.len = true ∧ en = .returned (.int .i64 0) ∧ LAt w' b o n (upd f i x)) ∨
     (stB f n i x.addr x.len = false ∧ (most ≤ n ∨ 64 ≤ n) ∧ en = .returned (.int .i64 8) ∧ LAt w' b o n f) ∨
     (stB f n i x.addr x.len = false ∧ (n : Int) < most ∧ n < 64 ∧ en = .returned (.int .i64 0) ∧ LAt w' b o (n + 1) (insAt f n i x)))
theorem within_put {b o : Nat} {w w' : World} (h : Within b o 257 w w') {k : Nat} (hk : k < 64) (x : RouteD) :
    Within b o 257 w ((((w'.setCell ⟨b, o + 1 + k * 4, none⟩ (.int .i64 x.addr)).setCell ⟨b, o + 1 + k * 4 + 1, none⟩ (.int .i64 x.len)).setCell ⟨b, o + 1 + k * 4 + 2, none⟩ (.int .i64 x.hop)).setCell ⟨b, o + 1 + k * 4 + 3, none⟩ (.int .i64 x.from_)) :=
  (((h.setCell (by omega) _).setCell (by omega) _).setCell (by omega) _).setCell (by omega) _
set_option maxHeartbeats 4000000 in
theorem put_any {w : World} {b o n : Nat} {f : Nat → RouteD} (h : LAt w b o n f) (x : RouteD) (most : Int) :
    Calls Try.prog 42 #[.pointer (some ⟨b, o, none⟩), .agg #[.int .i64 x.addr, .int .i64 x.len, .int .i64 x.hop, .int .i64 x.from_], .int .i64 most] w fun en w' => PutPost w b o n f x most en w' := by
  have hm := h.most
  have hb := h.lt
  have hbx := BoxX.new w x 34
  have hW : Still w (w.alloc (.cells #[.int .i64 x.addr, .int .i64 x.len, .int .i64 x.hop, .int .i64 x.from_] 34)) := (Kept.refl _ _).alloc _
  have HX := hide (h.still hW)
  have HBX := hide hbx
  have HW := hide hW
  clear h hbx hW
  go_enter Try.func42, Try.ntmps42
  go_wp2_with fail
  refine (place_any (unhide HX) _ _).mono ?_
  rintro e w1 ⟨i, hi, rfl, hs⟩
  have hl1 := (unhide HX).still hs
  have hb1 := (unhide HBX).kept hs (fun q => q)
  have hw1 : Within b o 257 w w1 := Within.of_still hb ((unhide HW).trans hs)
  have hne : w.heap.size ≠ b := by omega
  have hi1 := hi.1
  have HI := hide hi
  have HW1 := hide hw1
  have HB1 := hide hb1
  have HL1 := hide hl1
  have b1l := hb1.lt
  have q0 := hb1.c0
  have q1 := hb1.c1
  have q2 := hb1.c2
  have q3 := hb1.c3
  clear hi hs hw1 hb1 hl1 HX HBX HW
  generalize w.heap.size = s at *
  cases hst : stB f n i x.addr x.len with
  | true =>
    have hlt : i < n := by
      unfold stB at hst
      simp only [Bool.and_eq_true, decide_eq_true_eq] at hst
      exact hst.1
    have l0 := (unhide HL1).addr i (by omega)
    have l1 := (unhide HL1).len i (by omega)
    have l2 := (unhide HL1).hop i (by omega)
    have l3 := (unhide HL1).frm i (by omega)
    have fz := (unhide HL1).fz
    have lb := (unhide HL1).lt
    have HST := hide hst
    clear hst
    go_wp2_with fail
    refine (stands_any (unhide HL1) _ _ _).mono ?_
    rintro e w' ⟨rfl, hw⟩
    replace hw := hw.symm
    subst hw
    rw [unhide HST]
    go_wp2
    go_region
    go_wp2
    go_ret
    refine ⟨i, unhide HI, ?_, Or.inl ⟨unhide HST, rfl, ?_⟩⟩
    · exact (within_put (unhide HW1) (by omega) x).still (by simpa using lb) ((Kept.refl _ _).drew)
    · exact ((unhide HL1).put (by omega) x).still ((Kept.refl _ _).drew)
  | false =>
    have HST := hide hst
    have cn := (unhide HL1).cnt
    have lb := (unhide HL1).lt
    clear hst
    by_cases hq : most ≤ (n : Int) ∨ 64 ≤ n
    · have HQ := hide hq
      by_cases hq1 : most ≤ (n : Int)
      · have d1 : decide (most ≤ (n : Int)) = true := by simpa using hq1
        clear hq
        go_wp2_with fail
        refine (stands_any (unhide HL1) _ _ _).mono ?_
        rintro e w' ⟨rfl, hw⟩
        replace hw := hw.symm
        subst hw
        rw [unhide HST]
        go_wp2
        go_ret
        exact ⟨i, unhide HI, unhide HW1, Or.inr (Or.inl ⟨unhide HST, unhide HQ, rfl, unhide HL1⟩)⟩
      · have d1 : decide (most ≤ (n : Int)) = false := by simpa using hq1
        have d2 : decide ((64 : Int) ≤ (n : Int)) = true := by simp; omega
        clear hq
        go_wp2_with fail
        refine (stands_any (unhide HL1) _ _ _).mono ?_
        rintro e w' ⟨rfl, hw⟩
        replace hw := hw.symm
        subst hw
        rw [unhide HST]
        go_wp2
        go_ret
        exact ⟨i, unhide HI, unhide HW1, Or.inr (Or.inl ⟨unhide HST, unhide HQ, rfl, unhide HL1⟩)⟩
    · have d1 : decide (most ≤ (n : Int)) = false := by simp; omega
      have d2 : decide ((64 : Int) ≤ (n : Int)) = false := by simp; omega
      have hn64 : n < 64 := by omega
      have hnm : (n : Int) < most := by omega
      have HNM := hide hnm
      clear hq hnm
      go_wp2_with fail
      refine (stands_any (unhide HL1) _ _ _).mono ?_
      rintro e w' ⟨rfl, hw⟩
      replace hw := hw.symm
      subst hw
      rw [unhide HST]
      go_wp2
      go_loopw [8] (fun t w' => ∃ m : Nat, i ≤ m ∧ m ≤ n ∧ t = .int .i64 m ∧ LAt w' b o n (shF f n m) ∧ Within b o 257 w1 w') (fun t _ => (intOf t).toNat)
      case atStart => exact ⟨n, hi1, Nat.le_refl _, rfl, by rw [shF_top]; exact unhide HL1, Within.refl _ _ _ _⟩
      case round =>
        obtain ⟨m, hm1, hm2, rfl, hx, hwi⟩ := hrel
        have hbr := (unhide HB1).kept hwi.kept hne
        have p0 := hbr.c0
        have p1 := hbr.c1
        have p2 := hbr.c2
        have p3 := hbr.c3
        have fzr := hx.fz
        have lbr := hx.lt
        have cnr := hx.cnt
        have HXR := hide hx
        have HWR := hide hwi
        by_cases hlt : i < m
        · obtain ⟨m, rfl⟩ : ∃ m' : Nat, m = m' + 1 := ⟨m - 1, by omega⟩
          have l0 := hx.addr (m + 1) (by omega)
          have l1 := hx.len (m + 1) (by omega)
          have l2 := hx.hop (m + 1) (by omega)
          have l3 := hx.frm (m + 1) (by omega)
          have e0 : shF f n (m + 1) m = f m := by have := shF_low f n (m := m + 1) (by omega); simpa using this
          have k0 := hx.addr m (by omega)
          have k1 := hx.len m (by omega)
          have k2 := hx.hop m (by omega)
          have k3 := hx.frm m (by omega)
          rw [e0] at k0 k1 k2 k3
          have hc : ((m + 1 : Nat) : Int) = (m : Int) + 1 := by omega
          rw [hc]
          have d3 : decide ((i : Int) < (m : Int) + 1) = true := by simp; omega
          clear hx hwi hbr e0 p0 p1 p2 p3
          go_wp2
          go_region
          go_wp2
          go_roundw
          case rel => exact ⟨m, by omega, by omega, by go_num, by rw [← shF_step f (by omega)]; exact ((unhide HXR).put (by omega) (f m)).still ((Kept.refl _ _).drew), (within_put (unhide HWR) (by omega) (f m)).still (by simpa using lbr) ((Kept.refl _ _).drew)⟩
          case measure => simp [intOf]
        · obtain rfl : m = i := by omega
          have l0 := hx.addr m (by omega)
          have l1 := hx.len m (by omega)
          have l2 := hx.hop m (by omega)
          have l3 := hx.frm m (by omega)
          clear hx hwi hbr
          go_wp2
          go_region
          go_wp2
          go_ret
          refine ⟨m, unhide HI, ?_, Or.inr (Or.inr ⟨unhide HST, unhide HNM, hn64, rfl, ?_⟩)⟩
          · have x1 := (within_put (unhide HWR) (k := m) (by omega) x).still (by simpa using lbr) ((Kept.refl _ _).drew)
            exact ((unhide HW1).trans x1).setCell (j := o) (by omega) _
          · have x1 := ((unhide HXR).put (k := m) (by omega) x).still ((Kept.refl _ _).drew)
            rw [shF_end] at x1
            have x2 := x1.setCnt (m := n + 1) (by omega)
            rw [show ((n + 1 : Nat) : Int) = (n : Int) + 1 from by omega] at x2
            exact x2
end Go.Proofs.Ytgndledehlilkaa
