/-
  Walks: package routes: Remove.
-/
import Derived.Test.YtgndledehlilkaaPrD
namespace Go.Proofs.Ytgndledehlilkaa
open Go.RowKit

def dnF (f : Nat → RouteD) (i m : Nat) : Nat → RouteD := fun j => if i ≤ j ∧ j < m then f (j + 1) else f j
def delAt (f : Nat → RouteD) (c i : Nat) : Nat → RouteD := fun j => if j < i then f j else if j < c then f (j + 1) else if j = c then rt0 else f j
theorem dnF_start (f : Nat → RouteD) (i : Nat) : dnF f i i = f := by
  funext j
  unfold dnF
  rw [if_neg (by omega)]
theorem dnF_high (f : Nat → RouteD) (i m : Nat) : dnF f i m (m + 1) = f (m + 1) := by
  unfold dnF
  rw [if_neg (by omega)]
theorem dnF_step (f : Nat → RouteD) {i m : Nat} (h : i ≤ m) : upd (dnF f i m) m (f (m + 1)) = dnF f i (m + 1) := by
  funext j
  unfold upd dnF
  by_cases e : j = m
  · subst e; rw [if_pos rfl, if_pos (by omega)]
  · rw [if_neg e]
    by_cases h2 : i ≤ j ∧ j < m
    · rw [if_pos h2, if_pos (by omega)]
    · rw [if_neg h2, if_neg (by omega)]
theorem dnF_end (f : Nat → RouteD) {i c : Nat} (h : i ≤ c) : upd (dnF f i c) c rt0 = delAt f c i := by
  funext j
  unfold upd dnF delAt
  by_cases e : j = c
  · subst e; rw [if_pos rfl, if_neg (by omega), if_neg (by omega), if_pos rfl]
  · rw [if_neg e]
    by_cases h1 : j < i
    · rw [if_neg (by omega), if_pos h1]
    · rw [if_neg h1]
      by_cases h2 : j < c
      · rw [if_pos (by omega), if_pos h2]
      · rw [if_neg (by omega), if_neg h2, if_neg e]
def RemPost (w : World) (b o n : Nat) (f : Nat → RouteD) (addr len : Int) (en : Ending) (w' : World) : Prop :=
  ∃ i : Nat, IsPl f n addr len i ∧ Within b o 257 w w' ∧
    ((stB f n i addr len = false ∧ en = .returned (.int .i64 9) ∧ LAt w' b o n f) ∨
     (stB f n i addr len = true ∧ en = .returned (.int .i64 0) ∧ LAt w' b o (n - 1) (delAt f (n - 1) i)))
set_option maxHeartbeats 4000000 in
theorem removeL_any {w : World} {b o n : Nat} {f : Nat → RouteD} (h : LAt w b o n f) (addr len : Int) :
    Calls Try.prog 43 #[.pointer (some ⟨b, o, none⟩), .int .i64 addr, .int .i64 len] w fun en w' => RemPost w b o n f addr len en w' := by
  have hm := h.most
  have hb := h.lt
  have HX := hide h
  clear h
  go_enter Try.func43, Try.ntmps43
  go_wp2_with fail
  refine (place_any (unhide HX) _ _).mono ?_
  rintro e w1 ⟨i, hi, rfl, hs⟩
  have hl1 := (unhide HX).still hs
  have hw1 : Within b o 257 w w1 := Within.of_still hb hs
  have hi1 := hi.1
  have HI := hide hi
  have HW1 := hide hw1
  have HL1 := hide hl1
  have cn := hl1.cnt
  have lb := hl1.lt
  have fz := hl1.fz
  clear hi hs hw1 hl1 HX
  cases hst : stB f n i addr len with
  | false =>
    have HST := hide hst
    clear hst
    go_wp2_with fail
    refine (stands_any (unhide HL1) _ _ _).mono ?_
    rintro e w' ⟨rfl, hw⟩
    replace hw := hw.symm
    subst hw
    rw [unhide HST]
    go_wp2
    go_ret
    exact ⟨i, unhide HI, unhide HW1, Or.inl ⟨unhide HST, rfl, unhide HL1⟩⟩
  | true =>
    have hlt : i < n := by
      unfold stB at hst
      simp only [Bool.and_eq_true, decide_eq_true_eq] at hst
      exact hst.1
    obtain ⟨c, rfl⟩ : ∃ c, n = c + 1 := ⟨n - 1, by omega⟩
    have HST := hide hst
    have HLC : Hid (LAt (w1.setCell ⟨b, o, none⟩ (.int .i64 (c : Int))) b o c f) := (unhide HL1).setCnt (by omega)
    have HWC : Hid (Within b o 257 w (w1.setCell ⟨b, o, none⟩ (.int .i64 (c : Int)))) := (unhide HW1).setCell (j := o) (by omega) _
    have hc1 : ((c + 1 : Nat) : Int) = (c : Int) + 1 := by omega
    rw [hc1] at cn
    clear hst
    go_wp2_with fail
    refine (stands_any (unhide HL1) _ _ _).mono ?_
    rintro e w' ⟨rfl, hw⟩
    replace hw := hw.symm
    subst hw
    rw [unhide HST]
    go_wp2
    generalize w1.setCell ⟨b, o, none⟩ (.int .i64 (c : Int)) = w2 at *
    go_loopw [8] (fun t w' => ∃ m : Nat, i ≤ m ∧ m ≤ c ∧ t = .int .i64 m ∧ LAt w' b o c (dnF f i m) ∧ Within b o 257 w2 w') (fun t _ => c - (intOf t).toNat)
    case atStart => exact ⟨i, Nat.le_refl _, by omega, rfl, by rw [dnF_start]; exact unhide HLC, Within.refl _ _ _ _⟩
    case round =>
      obtain ⟨m, hm1, hm2, rfl, hx, hwi⟩ := hrel
      have fzr := hx.fz
      have lbr := hx.lt
      have cnr := hx.cnt
      have HXR := hide hx
      have HWR := hide hwi
      have l0 := hx.addr m (by omega)
      have l1 := hx.len m (by omega)
      have l2 := hx.hop m (by omega)
      have l3 := hx.frm m (by omega)
      by_cases hltm : m < c
      · have k0 := hx.addr (m + 1) (by omega)
        have k1 := hx.len (m + 1) (by omega)
        have k2 := hx.hop (m + 1) (by omega)
        have k3 := hx.frm (m + 1) (by omega)
        rw [dnF_high] at k0 k1 k2 k3
        have d3 : decide ((m : Int) < (c : Int)) = true := by simp; omega
        clear hx hwi cn fz lb
        go_wp2
        go_region
        go_wp2
        go_roundw
        case rel => exact ⟨m + 1, by omega, by omega, by go_num, by rw [← dnF_step f (by omega)]; exact ((unhide HXR).put (k := m) (by omega) (f (m + 1))).still ((Kept.refl _ _).drew), (within_put (unhide HWR) (k := m) (by omega) (f (m + 1))).still (by simpa using lbr) ((Kept.refl _ _).drew)⟩
        case measure => simp [intOf]; omega
      · obtain rfl : m = c := by omega
        have d3 : decide ((m : Int) < (m : Int)) = false := by simp
        clear hx hwi cn fz lb
        go_wp2
        go_region
        go_wp2
        go_ret
        refine ⟨i, unhide HI, ?_, Or.inr ⟨unhide HST, rfl, ?_⟩⟩
        · exact (unhide HWC).trans ((within_put (unhide HWR) (k := m) (by omega) rt0).still (by simpa using lbr) ((Kept.refl _ _).drew))
        · have x1 := ((unhide HXR).put (k := m) (by omega) rt0).still ((Kept.refl _ _).drew)
          rw [dnF_end _ (by omega)] at x1
          exact x1
end Go.Proofs.Ytgndledehlilkaa
