/-
  Walks: district: Insert, Remove, Share.
-/
import Derived.Test.YtgndledehlilkabPrKM
namespace Go.Proofs.Ytgndledehlilkab
open Go.RowKit

theorem XAt.ownAt {w w1 w2 : World} {b : Nat} {p : ProgS} (h : XAt w b p) (h1 : Still w w1) {t : Nat} (ht : t < 8) (h2 : Within b (1 + t * 281 + 24) 257 w1 w2) {l : List RouteD} (hl : LAt w2 b (1 + t * 281 + 24) l.length (pad l)) : XAt w2 b { p with own := upd p.own t l } ∧ Kept (· = b) w w2 :=
  ⟨(h.still h1).setOwn ht h2 hl, (Still.kept h1 _).trans h2.kept⟩
theorem upd_self {α : Type} (f : Nat → α) (i : Nat) : upd f i (f i) = f := by
  funext j
  unfold upd
  by_cases e : j = i
  · subst e; rw [if_pos rfl]
  · rw [if_neg e]
theorem PutL.is {w w' : World} {b o : Nat} {l : List RouteD} {x : RouteD} {most : Int} {en : Ending} (h : PutL w b o l x most en w') : ∃ c : Int, en = .returned (.int .i64 c) ∧ PutL w b o l x most (.returned (.int .i64 c)) w' := by
  have h0 := h
  obtain ⟨_, ⟨_, rfl, _⟩ | ⟨_, _, rfl, _⟩ | ⟨_, _, _, rfl, _⟩⟩ := h
  · exact ⟨_, rfl, h0⟩
  · exact ⟨_, rfl, h0⟩
  · exact ⟨_, rfl, h0⟩
theorem okMask_not {h : Int} (hh : ¬ (0 ≤ h ∧ h ≤ 255)) : okMask h = false := by rw [← Bool.not_eq_true, okMask_iff]; exact hh
set_option maxHeartbeats 400000 in
theorem isHop_any (a : Int) (w : World) :
    Calls Try.prog 61 #[.int .i64 a] w fun e w' => e = .returned (.bool (okMask a)) ∧ w' = w := by
  by_cases h1 : 0 ≤ a
  · by_cases h2 : a ≤ 255
    · rw [(okMask_iff a).2 ⟨h1, h2⟩]
      have d1 : decide (0 ≤ a) = true := by simpa using h1
      have d2 : decide (a ≤ 255) = true := by simpa using h2
      go_enter Try.func61, Try.ntmps61
      go_wp2
      go_ret
      exact ⟨by simp [*], rfl⟩
    · rw [okMask_not (by omega)]
      have d1 : decide (0 ≤ a) = true := by simpa using h1
      have d2 : decide (a ≤ 255) = false := by simpa using h2
      go_enter Try.func61, Try.ntmps61
      go_wp2
      go_ret
      exact ⟨by simp [*], rfl⟩
  · rw [okMask_not (by omega)]
    have d1 : decide (0 ≤ a) = false := by simpa using h1
    go_enter Try.func61, Try.ntmps61
    go_wp2
    go_ret
    exact ⟨by simp [*], rfl⟩
section
variable {w : World} {b : Nat} {p : ProgS}
set_option maxHeartbeats 1000000 in
theorem insert_no (h : XAt w b p) (hf : ProgWf p) {n c : Int} (addr len hop : Int) (hc : checkX p n 2 = c) (hc0 : c ≠ 0) :
    Calls Try.prog 32 #[.pointer (some ⟨b, 0, none⟩), .int .i64 n, .int .i64 addr, .int .i64 len, .int .i64 hop] w fun en w' => en = .returned (.int .i64 c) ∧ w' = w := by
  have hne : (c != 0) = true := by simpa using hc0
  have HC := hide hc
  have HC0 := hide hc0
  clear hc hc0
  go_enter Try.func32, Try.ntmps32
  go_wp2_with (go_at_call 43; refine (check_no h hf (unhide HC) (unhide HC0)).mono ?_; rintro e w' ⟨rfl, hww⟩; replace hww := hww.symm; subst hww)
  go_ret
  exact ⟨rfl, rfl⟩
set_option maxHeartbeats 1000000 in
theorem insert_arg (h : XAt w b p) (hf : ProgWf p) {n : Int} (addr len hop : Int) (hc : checkX p n 2 = 0) (hbad : (isPfx addr len && okMask hop) = false) :
    Calls Try.prog 32 #[.pointer (some ⟨b, 0, none⟩), .int .i64 n, .int .i64 addr, .int .i64 len, .int .i64 hop] w fun en w' => en = .returned (.int .i64 2) ∧ w' = w := by
  have HC := hide hc
  clear hc
  cases hm : okMask hop with
  | false =>
    have HM := hide hm
    clear hbad hm
    go_enter Try.func32, Try.ntmps32
    go_wp2_with fail
    refine (check_yes h hf (unhide HC)).mono ?_
    rintro e w' ⟨rfl, hww⟩
    replace hww := hww.symm
    subst hww
    go_wp2_with fail
    refine (isHop_any _ _).mono ?_
    rintro e w' ⟨rfl, hww⟩
    replace hww := hww.symm
    subst hww
    rw [unhide HM]
    go_wp2
    go_ret
    exact ⟨rfl, rfl⟩
  | true =>
    have hp : isPfx addr len = false := by
      rw [hm, Bool.and_true] at hbad
      exact hbad
    have HP := hide hp
    have HM := hide hm
    clear hbad hp hm
    go_enter Try.func32, Try.ntmps32
    go_wp2_with fail
    refine (check_yes h hf (unhide HC)).mono ?_
    rintro e w' ⟨rfl, hww⟩
    replace hww := hww.symm
    subst hww
    go_wp2_with fail
    refine (isHop_any _ _).mono ?_
    rintro e w' ⟨rfl, hww⟩
    replace hww := hww.symm
    subst hww
    rw [unhide HM]
    go_wp2_with fail
    refine (is_any _ _ _).mono ?_
    rintro e w' ⟨rfl, hww⟩
    replace hww := hww.symm
    subst hww
    rw [unhide HP]
    go_wp2
    go_ret
    exact ⟨rfl, rfl⟩
set_option maxHeartbeats 2000000 in
theorem insert_put (h : XAt w b p) (hf : ProgWf p) (hk : ProgOk p) {n : Int} {t : Nat} (addr len hop : Int) (hc : checkX p n 2 = 0) (htn : p.tenant (n - 1).toNat = (t : Int)) (ht : t < 8) (hgood : (isPfx addr len && okMask hop) = true) :
    Calls Try.prog 32 #[.pointer (some ⟨b, 0, none⟩), .int .i64 n, .int .i64 addr, .int .i64 len, .int .i64 hop] w fun en w' => Kept (· = b) w w' ∧
      (((hasP (p.own t) ⟨addr, len, hop, t⟩ = true ∨ (((p.own t).length : Int) < p.quota t ∧ (p.own t).length < 64)) ∧ en = .returned (.int .i64 0) ∧ XAt w' b { p with own := upd p.own t (putL (p.own t) ⟨addr, len, hop, t⟩) }) ∨
       (hasP (p.own t) ⟨addr, len, hop, t⟩ = false ∧ (p.quota t ≤ ((p.own t).length : Int) ∨ 64 ≤ (p.own t).length) ∧ en = .returned (.int .i64 8) ∧ XAt w' b p)) := by
  rw [Bool.and_eq_true, okMask_iff] at hgood
  obtain ⟨hp, hh1, hh2⟩ := hgood
  obtain ⟨pa, pb, pc, pd⟩ := isPfx_ok hp
  have hx : okRoute ⟨addr, len, hop, t⟩ := ⟨pa, pb, pc, pd, hh1, hh2, by show (0 : Int) ≤ (t : Int); omega, by show (t : Int) < 8; omega, isPfx_mod hp⟩
  have HC := hide hc
  have HP := hide hp
  have HXR := hide hx
  have HX := hide h
  have hb := h.lt
  have cq := h.quota t ht
  have HM := hide ((okMask_iff hop).2 ⟨hh1, hh2⟩)
  have ht0 : (0 : Int) ≤ (t : Int) := by omega
  have ht8 : (t : Int) < 8 := by omega
  have HTN := hide htn
  clear hc hp hx htn
  go_enter Try.func32, Try.ntmps32
  go_wp2_with fail
  refine (check_yes h hf (unhide HC)).mono ?_
  rintro e w' ⟨rfl, hww⟩
  replace hww := hww.symm
  subst hww
  rw [unhide HTN]
  go_wp2_with fail
  refine (isHop_any _ _).mono ?_
  rintro e w' ⟨rfl, hww⟩
  replace hww := hww.symm
  subst hww
  rw [unhide HM]
  go_wp2_with fail
  refine (is_any _ _ _).mono ?_
  rintro e w' ⟨rfl, hww⟩
  replace hww := hww.symm
  subst hww
  rw [unhide HP]
  have hS1 : Still w (w.alloc (.cells #[.int .i64 addr, .int .i64 len, .int .i64 hop, .int .i64 (t : Int)] 42)) := (Kept.refl _ _).alloc _
  have hbx := BoxX.new w ⟨addr, len, hop, t⟩ 42
  have q0 := hbx.c0
  have q1 := hbx.c1
  have q2 := hbx.c2
  have q3 := hbx.c3
  have ql := hbx.lt
  simp only at q0 q1 q2 q3 ql
  have cq' := (hS1.cell b _ hb).trans cq
  have hxV := (unhide HX).still hS1
  have HS1 := hide hS1
  have HXV := hide hxV
  clear hS1 hbx hxV cq h
  go_wp2_with fail
  generalize w.heap.size = s0 at *
  generalize w.alloc (.cells #[.int .i64 addr, .int .i64 len, .int .i64 hop, .int .i64 (t : Int)] 42) = V at *
  have HL : Hid (LAt V.drew b (1 + t * 281 + 24) (p.own t).length (pad (p.own t))) := ((unhide HXV).ow t ht).still ((Kept.refl _ _).drew)
  have hsb : s0 ≠ b := by omega
  have HPF := hide (put_fn (unhide HL) (hk.sorted t ht) (hk.route t ht) (unhide HXR) (p.quota t))
  go_region_held3 (fun w' => w'.cell? ⟨s0, 0, none⟩ = some (.int .i64 addr) ∧ w'.cell? ⟨s0, 1, none⟩ = some (.int .i64 len) ∧ w'.cell? ⟨s0, 2, none⟩ = some (.int .i64 hop) ∧ w'.cell? ⟨s0, 3, none⟩ = some (.int .i64 (t : Int))) (first | go_keep | (go_split_ands; exact ⟨(hw5.1.kept.cell (p := ⟨s0, 0, none⟩) ql hsb).trans q0, (hw5.1.kept.cell (p := ⟨s0, 1, none⟩) ql hsb).trans q1, (hw5.1.kept.cell (p := ⟨s0, 2, none⟩) ql hsb).trans q2, (hw5.1.kept.cell (p := ⟨s0, 3, none⟩) ql hsb).trans q3⟩)) ((go_at_call 63; refine (unhide HPF).mono ?_; rintro e w5 hw5'; obtain ⟨c, rfl, hw5⟩ := hw5'.is))
  have HW5 := hide hw5
  clear hw5 hw5' HPF HL
  go_wp2
  go_ret
  obtain ⟨hwi, hc5⟩ := unhide HW5
  have hst : Still w V.drew := (unhide HS1).drew
  refine ⟨(Still.kept hst _).trans hwi.kept, ?_⟩
  rcases hc5 with ⟨h1, h2, h3, h4⟩ | ⟨h1, h2, h3, h4⟩ | ⟨h1, h2, h3, h4, h5, h6⟩
  · exact .inl ⟨.inl h1, h2, ((unhide HX).ownAt hst ht hwi h3).1⟩
  · refine .inr ⟨h1, h2, h3, ?_⟩
    have := ((unhide HX).ownAt hst ht hwi h4).1
    rw [upd_self] at this
    exact this
  · exact .inl ⟨.inr ⟨h2, h3⟩, h4, ((unhide HX).ownAt hst ht hwi h5).1⟩
end
end Go.Proofs.Ytgndledehlilkab
