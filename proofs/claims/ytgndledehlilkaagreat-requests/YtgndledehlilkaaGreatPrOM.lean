import Derived.Test.YtgndledehlilkaaGreatPrKM
import Derived.Deep.Onto
namespace Go.Proofs.YtgndledehlilkaaGreat
open Go.RowKit

theorem XAt.ownAt {w w1 w2 : World} {b : Nat} {p : ProgS} (h : XAt w b p) (h1 : Still w w1) {t : Nat} (ht : t < 8) (h2 : Within b (1 + t * 281 + 24) 257 w1 w2) {l : List RouteD} (hl : LAt w2 b (1 + t * 281 + 24) l.length (pad l)) : XAt w2 b { p with own := upd p.own t l } ∧ Kept (· = b) w w2 :=
  ⟨(h.still h1).setOwn ht h2 hl, (Still.kept h1 _).trans h2.kept⟩
theorem upd_self {α : Type} (f : Nat → α) (i : Nat) : upd f i (f i) = f := by
  funext j
  unfold upd
  by_cases e : j = i
  · subst e; rw [if_pos rfl]
  · rw [if_neg e]
theorem PutL.is {w w' : World} {b o : Nat} {l : List RouteD} {x : RouteD} {most : Int} {en : Ending} (h : PutL w b o l x most en w') : ∃ c : Int, en = .returned (.int .i64 c) ∧ PutL w b o l x most (.returned (.int .i64 c)) w' := by
  have h0 := h
  obtain ⟨_, ⟨_, rfl, _⟩ | ⟨_, _, rfl, _⟩ | ⟨_, _, _, rfl, _⟩⟩ := h
  · exact ⟨_, rfl, h0⟩
  · exact ⟨_, rfl, h0⟩
  · exact ⟨_, rfl, h0⟩
theorem okMask_not {h : Int} (hh : ¬ (0 ≤ h ∧ h ≤ 255)) : okMask h = false := by rw [← Bool.not_eq_true, okMask_iff]; exact hh
set_option maxHeartbeats 400000 in
theorem isHop_any (a : Int) (w : World) :
    Calls Tryz.prog 60 #[.int .i64 a] w fun e w' => e = .returned (.bool (okMask a)) ∧ w' = w := by
  by_cases h1 : 0 ≤ a
  · by_cases h2 : a ≤ 255
    · rw [(okMask_iff a).2 ⟨h1, h2⟩]
      have d1 : decide (0 ≤ a) = true := by simpa using h1
      have d2 : decide (a ≤ 255) = true := by simpa using h2
      go_enter Tryz.func60, Tryz.ntmps60
      go_wp2
      go_ret
      exact ⟨by simp [*], rfl⟩
    · rw [okMask_not (by omega)]
      have d1 : decide (0 ≤ a) = true := by simpa using h1
      have d2 : decide (a ≤ 255) = false := by simpa using h2
      go_enter Tryz.func60, Tryz.ntmps60
      go_wp2
      go_ret
      exact ⟨by simp [*], rfl⟩
  · rw [okMask_not (by omega)]
    have d1 : decide (0 ≤ a) = false := by simpa using h1
    go_enter Tryz.func60, Tryz.ntmps60
    go_wp2
    go_ret
    exact ⟨by simp [*], rfl⟩
section
variable {w : World} {b : Nat} {p : ProgS}
set_option maxHeartbeats 1000000 in
theorem insert_no (h : XAt w b p) (hf : ProgWf p) {n c : Int} (addr len hop : Int) (hc : checkX p n 2 = c) (hc0 : c ≠ 0) :
    Calls Tryz.prog 29 #[.pointer (some ⟨b, 0, none⟩), .int .i64 n, .int .i64 addr, .int .i64 len, .int .i64 hop] w fun en w' => en = .returned (.int .i64 c) ∧ w' = w := by
  have hne : (c != 0) = true := by simpa using hc0
  have HC := hide hc
  have HC0 := hide hc0
  clear hc hc0
  go_enter Tryz.func29, Tryz.ntmps29
  go_wp2_with (go_at_call 59; refine (check_no h hf (unhide HC) (unhide HC0)).mono ?_; rintro e w' ⟨rfl, hww⟩; replace hww := hww.symm; subst hww)
  go_ret
  exact ⟨rfl, rfl⟩
set_option maxHeartbeats 1000000 in
theorem insert_arg (h : XAt w b p) (hf : ProgWf p) {n : Int} (addr len hop : Int) (hc : checkX p n 2 = 0) (hbad : (isPfx addr len && okMask hop) = false) :
    Calls Tryz.prog 29 #[.pointer (some ⟨b, 0, none⟩), .int .i64 n, .int .i64 addr, .int .i64 len, .int .i64 hop] w fun en w' => en = .returned (.int .i64 2) ∧ w' = w := by
  have HC := hide hc
  clear hc
  cases hm : okMask hop with
  | false =>
    have HM := hide hm
    clear hbad hm
    go_enter Tryz.func29, Tryz.ntmps29
    go_wp2_with fail
    refine (check_yes h hf (unhide HC)).mono ?_
    rintro e w' ⟨rfl, hww⟩
    replace hww := hww.symm
    subst hww
    go_wp2_with fail
    refine (isHop_any _ _).mono ?_
    rintro e w' ⟨rfl, hww⟩
    replace hww := hww.symm
    subst hww
    rw [unhide HM]
    go_wp2
    go_ret
    exact ⟨rfl, rfl⟩
  | true =>
    have hp : isPfx addr len = false := by
      rw [hm, Bool.and_true] at hbad
      exact hbad
    have HP := hide hp
    have HM := hide hm
    clear hbad hp hm
    go_enter Tryz.func29, Tryz.ntmps29
    go_wp2_with fail
    refine (check_yes h hf (unhide HC)).mono ?_
    rintro e w' ⟨rfl, hww⟩
    replace hww := hww.symm
    subst hww
    go_wp2_with fail
    refine (isHop_any _ _).mono ?_
    rintro e w' ⟨rfl, hww⟩
    replace hww := hww.symm
    subst hww
    rw [unhide HM]
    go_wp2_with fail
    refine (is_any _ _ _).mono ?_
    rintro e w' ⟨rfl, hww⟩
    replace hww := hww.symm
    subst hww
    rw [unhide HP]
    go_wp2
    go_ret
    exact ⟨rfl, rfl⟩
set_option maxHeartbeats 2000000 in
theorem insert_put (h : XAt w b p) (hf : ProgWf p) (hk : ProgOk p) {n : Int} {t : Nat} (addr len hop : Int) (hc : checkX p n 2 = 0) (htn : p.tenant (n - 1).toNat = (t : Int)) (ht : t < 8) (hgood : (isPfx addr len && okMask hop) = true) :
    Calls Tryz.prog 29 #[.pointer (some ⟨b, 0, none⟩), .int .i64 n, .int .i64 addr, .int .i64 len, .int .i64 hop] w fun en w' => Kept (· = b) w w' ∧
      (((hasP (p.own t) ⟨addr, len, hop, t⟩ = true ∨ (((p.own t).length : Int) < p.quota t ∧ (p.own t).length < 64)) ∧ en = .returned (.int .i64 0) ∧ XAt w' b { p with own := upd p.own t (putL (p.own t) ⟨addr, len, hop, t⟩) }) ∨
       (hasP (p.own t) ⟨addr, len, hop, t⟩ = false ∧ (p.quota t ≤ ((p.own t).length : Int) ∨ 64 ≤ (p.own t).length) ∧ en = .returned (.int .i64 8) ∧ XAt w' b p)) := by
  rw [Bool.and_eq_true, okMask_iff] at hgood
  obtain ⟨hp, hh1, hh2⟩ := hgood
  obtain ⟨pa, pb, pc, pd⟩ := isPfx_ok hp
  have hx : okRoute ⟨addr, len, hop, t⟩ := ⟨pa, pb, pc, pd, hh1, hh2, by show (0 : Int) ≤ (t : Int); omega, by show (t : Int) < 8; omega, isPfx_mod hp⟩
  have HC := hide hc
  have HP := hide hp
  have HXR := hide hx
  have HX := hide h
  have hb := h.lt
  have cq := h.quota t ht
  have HM := hide ((okMask_iff hop).2 ⟨hh1, hh2⟩)
  have ht0 : (0 : Int) ≤ (t : Int) := by omega
  have ht8 : (t : Int) < 8 := by omega
  have HTN := hide htn
  clear hc hp hx htn
  go_enter Tryz.func29, Tryz.ntmps29
  go_wp2_with fail
  refine (check_yes h hf (unhide HC)).mono ?_
  rintro e w' ⟨rfl, hww⟩
  replace hww := hww.symm
  subst hww
  rw [unhide HTN]
  go_wp2_with fail
  refine (isHop_any _ _).mono ?_
  rintro e w' ⟨rfl, hww⟩
  replace hww := hww.symm
  subst hww
  rw [unhide HM]
  go_wp2_with fail
  refine (is_any _ _ _).mono ?_
  rintro e w' ⟨rfl, hww⟩
  replace hww := hww.symm
  subst hww
  rw [unhide HP]
  have hS1 : Still w (w.alloc (.cells #[.int .i64 addr, .int .i64 len, .int .i64 hop, .int .i64 (t : Int)] 50)) := (Kept.refl _ _).alloc _
  have hbx := BoxX.new w ⟨addr, len, hop, t⟩ 50
  have q0 := hbx.c0
  have q1 := hbx.c1
  have q2 := hbx.c2
  have q3 := hbx.c3
  have ql := hbx.lt
  simp only at q0 q1 q2 q3 ql
  have cq' := (hS1.cell b _ hb).trans cq
  have hxV := (unhide HX).still hS1
  have HS1 := hide hS1
  have HXV := hide hxV
  clear hS1 hbx hxV cq h
  go_wp2_with fail
  generalize w.heap.size = s0 at *
  generalize w.alloc (.cells #[.int .i64 addr, .int .i64 len, .int .i64 hop, .int .i64 (t : Int)] 50) = V at *
  have HL : Hid (LAt V.drew b (1 + t * 281 + 24) (p.own t).length (pad (p.own t))) := ((unhide HXV).ow t ht).still ((Kept.refl _ _).drew)
  have hsb : s0 ≠ b := by omega
  have HPF := hide (put_fn (unhide HL) (hk.sorted t ht) (hk.route t ht) (unhide HXR) (p.quota t))
  go_region_held3 (fun w' => w'.cell? ⟨s0, 0, none⟩ = some (.int .i64 addr) ∧ w'.cell? ⟨s0, 1, none⟩ = some (.int .i64 len) ∧ w'.cell? ⟨s0, 2, none⟩ = some (.int .i64 hop) ∧ w'.cell? ⟨s0, 3, none⟩ = some (.int .i64 (t : Int))) (first | go_keep | (go_split_ands; exact ⟨(hw5.1.kept.cell (p := ⟨s0, 0, none⟩) ql hsb).trans q0, (hw5.1.kept.cell (p := ⟨s0, 1, none⟩) ql hsb).trans q1, (hw5.1.kept.cell (p := ⟨s0, 2, none⟩) ql hsb).trans q2, (hw5.1.kept.cell (p := ⟨s0, 3, none⟩) ql hsb).trans q3⟩)) ((go_at_call 62; refine (unhide HPF).mono ?_; rintro e w5 hw5'; obtain ⟨c, rfl, hw5⟩ := hw5'.is))
  have HW5 := hide hw5
  clear hw5 hw5' HPF HL
  go_wp2
  go_ret
  obtain ⟨hwi, hc5⟩ := unhide HW5
  have hst : Still w V.drew := (unhide HS1).drew
  refine ⟨(Still.kept hst _).trans hwi.kept, ?_⟩
  rcases hc5 with ⟨h1, h2, h3, h4⟩ | ⟨h1, h2, h3, h4⟩ | ⟨h1, h2, h3, h4, h5, h6⟩
  · exact .inl ⟨.inl h1, h2, ((unhide HX).ownAt hst ht hwi h3).1⟩
  · refine .inr ⟨h1, h2, h3, ?_⟩
    have := ((unhide HX).ownAt hst ht hwi h4).1
    rw [upd_self] at this
    exact this
  · exact .inl ⟨.inr ⟨h2, h3⟩, h4, ((unhide HX).ownAt hst ht hwi h5).1⟩
end

section
variable {w : World} {b : Nat} {p : ProgS}
set_option maxHeartbeats 1000000 in
theorem remove_no (h : XAt w b p) (hf : ProgWf p) {n c : Int} (addr len : Int) (hc : checkX p n 2 = c) (hc0 : c ≠ 0) :
    Calls Tryz.prog 31 #[.pointer (some ⟨b, 0, none⟩), .int .i64 n, .int .i64 addr, .int .i64 len] w fun en w' => en = .returned (.int .i64 c) ∧ w' = w := by
  have hne : (c != 0) = true := by simpa using hc0
  have HC := hide hc
  have HC0 := hide hc0
  clear hc hc0
  go_enter Tryz.func31, Tryz.ntmps31
  go_wp2_with (go_at_call 59; refine (check_no h hf (unhide HC) (unhide HC0)).mono ?_; rintro e w' ⟨rfl, hww⟩; replace hww := hww.symm; subst hww)
  go_ret
  exact ⟨rfl, rfl⟩
set_option maxHeartbeats 1000000 in
theorem remove_arg (h : XAt w b p) (hf : ProgWf p) {n : Int} (addr len : Int) (hc : checkX p n 2 = 0) (hbad : isPfx addr len = false) :
    Calls Tryz.prog 31 #[.pointer (some ⟨b, 0, none⟩), .int .i64 n, .int .i64 addr, .int .i64 len] w fun en w' => en = .returned (.int .i64 2) ∧ w' = w := by
  have HC := hide hc
  have HP := hide hbad
  clear hc hbad
  go_enter Tryz.func31, Tryz.ntmps31
  go_wp2_with fail
  refine (check_yes h hf (unhide HC)).mono ?_
  rintro e w' ⟨rfl, hww⟩
  replace hww := hww.symm
  subst hww
  go_wp2_with fail
  refine (is_any _ _ _).mono ?_
  rintro e w' ⟨rfl, hww⟩
  replace hww := hww.symm
  subst hww
  rw [unhide HP]
  go_wp2
  go_ret
  exact ⟨rfl, rfl⟩
set_option maxHeartbeats 2000000 in
theorem remove_del (h : XAt w b p) (hf : ProgWf p) (hk : ProgOk p) {n : Int} {t : Nat} (addr len : Int) (hc : checkX p n 2 = 0) (htn : p.tenant (n - 1).toNat = (t : Int)) (ht : t < 8) (hp : isPfx addr len = true) :
    Calls Tryz.prog 31 #[.pointer (some ⟨b, 0, none⟩), .int .i64 n, .int .i64 addr, .int .i64 len] w fun en w' => Kept (· = b) w w' ∧
      ((hasP (p.own t) (pfxRoute addr len) = true ∧ en = .returned (.int .i64 0) ∧ XAt w' b { p with own := upd p.own t (delL (p.own t) (pfxRoute addr len)) }) ∨
       (hasP (p.own t) (pfxRoute addr len) = false ∧ en = .returned (.int .i64 9) ∧ XAt w' b p)) := by
  obtain ⟨pa, pb, pc, pd⟩ := isPfx_ok hp
  have hx : okRoute (pfxRoute addr len) := ⟨pa, pb, pc, pd, by show (0 : Int) ≤ 0; omega, by show (0 : Int) ≤ 255; omega, by show (0 : Int) ≤ 0; omega, by show (0 : Int) < 8; omega, isPfx_mod hp⟩
  have HC := hide hc
  have HP := hide hp
  have HXR := hide hx
  have HX := hide h
  have hb := h.lt
  have ht0 : (0 : Int) ≤ (t : Int) := by omega
  have ht8 : (t : Int) < 8 := by omega
  have HTN := hide htn
  have HPF := hide (removeL_fn (h.ow t ht) (hk.sorted t ht) (hk.route t ht) hx)
  clear hc hp hx htn
  go_enter Tryz.func31, Tryz.ntmps31
  go_wp2_with fail
  refine (check_yes h hf (unhide HC)).mono ?_
  rintro e w' ⟨rfl, hww⟩
  replace hww := hww.symm
  subst hww
  rw [unhide HTN]
  go_wp2_with fail
  refine (is_any _ _ _).mono ?_
  rintro e w' ⟨rfl, hww⟩
  replace hww := hww.symm
  subst hww
  rw [unhide HP]
  clear h
  go_wp2_with fail
  refine (unhide HPF).mono ?_
  rintro e w5 ⟨hwi, hc5⟩
  have hst : Still w w := Kept.refl _ _
  rcases hc5 with ⟨h1, rfl, h3⟩ | ⟨h1, rfl, h3⟩
  · have hxx := ((unhide HX).ownAt hst ht hwi h3).1
    rw [upd_self] at hxx
    have H1 := hide h1
    have HXX := hide hxx
    have HK := hide hwi.kept
    clear h1 h3 hwi hxx
    go_wp2
    go_ret
    exact ⟨unhide HK, .inr ⟨unhide H1, rfl, unhide HXX⟩⟩
  · have hxx := ((unhide HX).ownAt hst ht hwi h3).1
    have H1 := hide h1
    have HXX := hide hxx
    have HK := hide hwi.kept
    clear h1 h3 hwi hxx
    go_wp2
    go_ret
    exact ⟨unhide HK, .inl ⟨unhide H1, rfl, unhide HXX⟩⟩
set_option maxHeartbeats 1000000 in
theorem share_no (h : XAt w b p) (hf : ProgWf p) {n c : Int} (g k : Int) (hc : checkX p n 4 = c) (hc0 : c ≠ 0) :
    Calls Tryz.prog 33 #[.pointer (some ⟨b, 0, none⟩), .int .i64 n, .int .i64 g, .int .i64 k] w fun en w' => en = .returned (.int .i64 c) ∧ w' = w := by
  have hne : (c != 0) = true := by simpa using hc0
  have HC := hide hc
  have HC0 := hide hc0
  clear hc hc0
  go_enter Tryz.func33, Tryz.ntmps33
  go_wp2_with (go_at_call 59; refine (check_no h hf (unhide HC) (unhide HC0)).mono ?_; rintro e w' ⟨rfl, hww⟩; replace hww := hww.symm; subst hww)
  go_ret
  exact ⟨rfl, rfl⟩
set_option maxHeartbeats 1000000 in
theorem share_arg (h : XAt w b p) (hf : ProgWf p) {n : Int} (g k : Int) (hc : checkX p n 4 = 0) (hbad : (okMask g && okMask k) = false) :
    Calls Tryz.prog 33 #[.pointer (some ⟨b, 0, none⟩), .int .i64 n, .int .i64 g, .int .i64 k] w fun en w' => en = .returned (.int .i64 2) ∧ w' = w := by
  have hb4 : g < 0 ∨ 255 < g ∨ k < 0 ∨ 255 < k := by
    by_cases a1 : 0 ≤ g ∧ g ≤ 255
    · by_cases a2 : 0 ≤ k ∧ k ≤ 255
      · rw [(okMask_iff g).2 a1, (okMask_iff k).2 a2] at hbad
        simp at hbad
      · omega
    · omega
  have HC := hide hc
  clear hc hbad
  by_cases h1 : g < 0
  · clear hb4
    go_enter Tryz.func33, Tryz.ntmps33
    go_wp2_with (go_at_call 59; refine (check_yes h hf (unhide HC)).mono ?_; rintro e w' ⟨rfl, hww⟩; replace hww := hww.symm; subst hww)
    go_ret
    exact ⟨rfl, rfl⟩
  · by_cases h2 : 255 < g
    · have d2 : decide (255 < g) = true := by simpa using h2
      clear hb4
      go_enter Tryz.func33, Tryz.ntmps33
      go_wp2_with (go_at_call 59; refine (check_yes h hf (unhide HC)).mono ?_; rintro e w' ⟨rfl, hww⟩; replace hww := hww.symm; subst hww)
      go_ret
      exact ⟨rfl, rfl⟩
    · have d2 : decide (255 < g) = false := by simpa using h2
      by_cases h3 : k < 0
      · clear hb4
        go_enter Tryz.func33, Tryz.ntmps33
        go_wp2_with (go_at_call 59; refine (check_yes h hf (unhide HC)).mono ?_; rintro e w' ⟨rfl, hww⟩; replace hww := hww.symm; subst hww)
        go_ret
        exact ⟨rfl, rfl⟩
      · have d4 : decide (255 < k) = true := by simp; omega
        clear hb4
        go_enter Tryz.func33, Tryz.ntmps33
        go_wp2_with (go_at_call 59; refine (check_yes h hf (unhide HC)).mono ?_; rintro e w' ⟨rfl, hww⟩; replace hww := hww.symm; subst hww)
        go_ret
        exact ⟨rfl, rfl⟩
set_option maxHeartbeats 2000000 in
theorem share_set (h : XAt w b p) (hf : ProgWf p) {n : Int} {t : Nat} (g k : Int) (hc : checkX p n 4 = 0) (htn : p.tenant (n - 1).toNat = (t : Int)) (ht : t < 8) (hgood : (okMask g && okMask k) = true) :
    Calls Tryz.prog 33 #[.pointer (some ⟨b, 0, none⟩), .int .i64 n, .int .i64 g, .int .i64 k] w fun en w' => Kept (· = b) w w' ∧ en = .returned (.int .i64 0) ∧ XAt w' b { p with gives := upd p.gives t g, takes := upd p.takes t k } := by
  rw [Bool.and_eq_true, okMask_iff, okMask_iff] at hgood
  have HC := hide hc
  have HX := hide h
  have d1 : ¬ g < 0 := by omega
  have d2 : decide (255 < g) = false := by simp; omega
  have d3 : ¬ k < 0 := by omega
  have d4 : decide (255 < k) = false := by simp; omega
  have ht0 : (0 : Int) ≤ (t : Int) := by omega
  have ht8 : (t : Int) < 8 := by omega
  have HTN := hide htn
  have c1 := h.gives t ht
  have c2 := h.takes t ht
  have fz := h.fz
  have hb := h.lt
  clear hc htn hgood
  go_enter Tryz.func33, Tryz.ntmps33
  go_wp2_with fail
  refine (check_yes h hf (unhide HC)).mono ?_
  rintro e w' ⟨rfl, hww⟩
  replace hww := hww.symm
  subst hww
  rw [unhide HTN]
  clear h
  go_wp2
  go_ret
  exact ⟨Kept.setAt (Kept.setAt (Kept.refl _ _) _ _) _ _, rfl, ((unhide HX).setGives ht g).setTakes ht k⟩
end

theorem infoRules' (n : Nat) (f : Nat → RuleD) : (Tryz.prog.info? 58).map (·.size) = some (rulesCells n f).length := by rw [rulesCells_len]; exact infoRules
theorem infoRules'' (n : Nat) (f : Nat → RuleD) : (Tryz.prog.info? 58).map (·.size) = some (rulesCells n f).toArray.size := by rw [List.size_toArray, rulesCells_len]; exact infoRules
theorem RAt.there' {w : World} {b o n : Nat} {f : Nat → RuleD} (h : RAt w b o n f) (m : Nat) (g : Nat → RuleD) : w.there b o (rulesCells m g).toArray.size := by
  have := h.there
  rw [List.size_toArray, rulesCells_len] at this
  rw [List.size_toArray, rulesCells_len]
  exact this
theorem wp_store_key {P : Program} {w : World} {b off : Nat} {cs : List Value} (ty : TypeId) (x y : Operand) (ht : w.there b off cs.toArray.size) (hi : (P.info? ty).map (·.size) = some cs.toArray.size) (h1 : cs.toArray.all (·.oneCell') = true)
    (Q : Exit → Act → World → Prop) (K : Act → World → Prop) (a : Act) (op : Oper) (ho : op.op = .store ty x y) (hx : a.eval x = .pointer (some ⟨b, off, none⟩)) (hy : a.eval y = .agg cs.toArray) (h : K (a.put op.dst undef) (w.setCells b off cs.toArray.toList)) : op.wp P a w K Q :=
  wp_store_mid (P := P) (op := op) (a := a) (w := w) (K := K) (Q := Q) ty x y ho b off cs.toArray hx hy ht hi h1 h
section
variable {w : World} {b : Nat} {p : ProgS}
set_option maxHeartbeats 1000000 in
theorem filter_no (h : XAt w b p) (hf : ProgWf p) {n c : Int} (v : Value) (hc : checkX p n 4 = c) (hc0 : c ≠ 0) :
    Calls Tryz.prog 67 #[.pointer (some ⟨b, 0, none⟩), .int .i64 n, v] w fun en w' => en = .returned (.int .i64 c) ∧ w' = w := by
  have hne : (c != 0) = true := by simpa using hc0
  have HC := hide hc
  have HC0 := hide hc0
  clear hc hc0
  go_enter Tryz.func67, Tryz.ntmps67
  go_wp2_with (go_at_call 59; refine (check_no h hf (unhide HC) (unhide HC0)).mono ?_; rintro e w' ⟨rfl, hww⟩; replace hww := hww.symm; subst hww)
  go_ret
  exact ⟨rfl, rfl⟩
set_option maxHeartbeats 2000000 in
theorem filter_set (h : XAt w b p) (hf : ProgWf p) {n : Int} {t : Nat} {v : Value} {R : List RuleD} (hR : RulesIn w v R) (hc : checkX p n 4 = 0) (htn : p.tenant (n - 1).toNat = (t : Int)) (ht : t < 8) :
    Calls Tryz.prog 67 #[.pointer (some ⟨b, 0, none⟩), .int .i64 n, v] w fun en w' => Kept (· = b) w w' ∧
      ((filterOk R = true ∧ en = .returned (.int .i64 0) ∧ XAt w' b { p with rules := upd p.rules t R }) ∨ (filterOk R = false ∧ en = .returned (.int .i64 2) ∧ XAt w' b p)) := by
  have HC := hide hc
  have HX := hide h
  have HTN := hide htn
  have ht0 : (0 : Int) ≤ (t : Int) := by omega
  have ht8 : (t : Int) < 8 := by omega
  have hb := h.lt
  obtain ⟨ra, rc, rfl, _⟩ := hR.len
  have HR := hide hR
  clear hc htn hR
  go_enter Tryz.func67, Tryz.ntmps67
  go_wp2_with fail
  refine (check_yes h hf (unhide HC)).mono ?_
  rintro e w' ⟨rfl, hww⟩
  replace hww := hww.symm
  subst hww
  rw [unhide HTN]
  clear h
  go_wp2_with fail
  refine (make_any (unhide HR)).mono ?_
  rintro e w3 ⟨hs3, hc3⟩
  have hx3 := (unhide HX).still hs3
  have hz9 := rulesNew w3
  rcases hc3 with ⟨h1, rfl⟩ | ⟨h1, rfl⟩
  · have hR4 : R.length ≤ 4 := by
      unfold filterOk at h1
      rw [Bool.and_eq_true, decide_eq_true_eq] at h1
      exact h1.1
    have h9 := hz9.stored hR4 (padR R)
    have hS9 : Still w3 ((w3.alloc (.cells #[.int .i64 0, .bool false, .int .i64 0, .int .i64 0, .int .i64 0, .int .i64 0, .bool false, .int .i64 0, .int .i64 0, .int .i64 0, .int .i64 0, .bool false, .int .i64 0, .int .i64 0, .int .i64 0, .int .i64 0, .bool false, .int .i64 0, .int .i64 0, .int .i64 0, .int .i64 0] 58)).setCells w3.heap.size 0 (rulesCells R.length (padR R)).toArray.toList) := Kept.setCells ((Kept.refl _ _).alloc _) (.inr (Nat.le_refl _)) _ _
    have ht9 := hz9.there' R.length (padR R)
    have r9 := h9.range
    have hl := rulesCells_len R.length (padR R)
    have hi := infoRules' R.length (padR R)
    have hi2 := infoRules'' R.length (padR R)
    have ho := rulesCells_one R.length (padR R)
    have HRS : Hid (∀ {w : World} {b o n : Nat} {f : Nat → RuleD}, RAt w b o n f → RAt (w.setCells b o (rulesCells R.length (padR R)).toArray.toList) b o R.length (padR R)) := fun h => h.stored hR4 (padR R)
    have HT9 := hide ht9
    have HR9 := hide r9
    have HS9 := hide hS9
    have H1 := hide h1
    have HS3 := hide hs3
    have b3 := hx3.lt
    clear h1 hs3 hx3 hz9 h9 hS9 ht9 r9
    generalize hcs : rulesCells R.length (padR R) = cs at *
    have HCS := hide hcs
    clear hcs
    go_wp2_with (refine wpList_store_mid rfl 58 _ _ rfl _ _ cs.toArray rfl rfl (unhide HT9) hi2 ho (unhide ?_))
    refine hide ?_
    generalize hs9 : w3.heap.size = s9 at *
    generalize (w3.alloc (.cells #[.int .i64 0, .bool false, .int .i64 0, .int .i64 0, .int .i64 0, .int .i64 0, .bool false, .int .i64 0, .int .i64 0, .int .i64 0, .int .i64 0, .bool false, .int .i64 0, .int .i64 0, .int .i64 0, .int .i64 0, .bool false, .int .i64 0, .int .i64 0, .int .i64 0, .int .i64 0] 58)).setCells s9 0 cs.toArray.toList = Y at *
    have hxY := (unhide HX).still ((unhide HS3).trans (unhide HS9))
    have hrb := hxY.rl t ht
    have r9 := unhide HR9
    have tb := hrb.there
    rw [List.size_toArray, rulesCells_len] at tb
    have hu := Tryz.underlying58
    have hne9 : s9 ≠ b := by omega
    have HXY := hide hxY
    have HRB := hide hrb
    clear hxY hrb
    go_wp2_with fail
    have hSd : (fun w' : World => w'.rangeAt s9 0 cs ∧ w'.there b (1 + t * 281 + 3) 21) Y.drew := ⟨by simpa using r9, by simpa using tb⟩
    refine wp_region_held_drew (S := fun w' : World => w'.rangeAt s9 0 cs ∧ w'.there b (1 + t * 281 + 3) 21) (by kernel_rfl) hSd (fun hHeld => ?_)
    refine wpAnyH_take (i := 0) (v := .pointer (some ⟨b, 0, none⟩)) rfl (by kernel_rfl) (by kernel_rfl) (by kernel_rfl) (fun _ _ _ h => h) (Or.inl ⟨by rfl, fun w _ => by rfl⟩) hHeld ?_
    simp only [Act.put, List.getElem_toArray, List.getElem_cons_zero, List.setIfInBounds_toArray, List.set_cons_zero, List.set_cons_succ]
    refine wpAnyH_take (i := 1) (v := .int .i64 (t : Int)) rfl (by kernel_rfl) (by kernel_rfl) (by kernel_rfl) (fun _ _ _ h => h) (Or.inl ⟨by rfl, fun w _ => by rfl⟩) hHeld ?_
    simp only [Act.put, List.getElem_toArray, List.getElem_cons_zero, List.getElem_cons_succ, List.setIfInBounds_toArray, List.set_cons_zero, List.set_cons_succ]
    refine wpAnyH_take (i := 2) (v := .agg cs.toArray) rfl (by kernel_rfl) (by kernel_rfl) (by kernel_rfl) (fun _ _ _ h => h) (yieldsIf_load_mid (by rfl) 58 _ rfl s9 0 rfl cs _ (fun w h => h.1) hu rfl hi) hHeld ?_
    simp only [Act.put, List.getElem_toArray, List.getElem_cons_zero, List.getElem_cons_succ, List.setIfInBounds_toArray, List.set_cons_zero, List.set_cons_succ]
    refine wpAnyH_take (i := 3) (v := .pointer (some ⟨b, 0, none⟩)) rfl (by kernel_rfl) (by kernel_rfl) (by kernel_rfl) (fun _ _ _ h => h) (Or.inl ⟨by rfl, fun w _ => by rfl⟩) hHeld ?_
    simp only [Act.put, List.getElem_toArray, List.getElem_cons_zero, List.getElem_cons_succ, List.setIfInBounds_toArray, List.set_cons_zero, List.set_cons_succ]
    refine wpAnyH_take (i := 4) (v := .pointer (some ⟨b, 1, none⟩)) rfl (by kernel_rfl) (by kernel_rfl) (by kernel_rfl) (fun _ _ _ h => h) (Or.inl ⟨by rfl, fun w _ => by go_simp⟩) hHeld ?_
    simp only [Act.put, List.getElem_toArray, List.getElem_cons_zero, List.getElem_cons_succ, List.setIfInBounds_toArray, List.set_cons_zero, List.set_cons_succ]
    refine wpAnyH_take (i := 5) (v := .pointer (some ⟨b, 1 + t * 281, none⟩)) rfl (by kernel_rfl) (by kernel_rfl) (by kernel_rfl) (fun _ _ _ h => h) (Or.inl ⟨by rfl, fun w _ => by go_simp⟩) hHeld ?_
    simp only [Act.put, List.getElem_toArray, List.getElem_cons_zero, List.getElem_cons_succ, List.setIfInBounds_toArray, List.set_cons_zero, List.set_cons_succ]
    refine wpAnyH_take (i := 6) (v := .pointer (some ⟨b, 1 + t * 281 + 3, none⟩)) rfl (by kernel_rfl) (by kernel_rfl) (by kernel_rfl) (fun _ _ _ h => h) (Or.inl ⟨by rfl, fun w _ => by go_simp⟩) hHeld ?_
    simp only [Act.put, List.getElem_toArray, List.getElem_cons_zero, List.getElem_cons_succ, List.setIfInBounds_toArray, List.set_cons_zero, List.set_cons_succ]
    refine wpAnyH_ready (rs := [7]) (by kernel_rfl) (by simp) ?_
    refine AllReadyH.cons rfl (fun K hK => ?_) AllReadyH.nil
    rw [if_pos (by rfl)]
    simp only [List.getElem_toArray, List.getElem_cons_zero, List.getElem_cons_succ]
    have htb : Y.drew.there b (1 + t * 281 + 3) cs.toArray.size := by rw [List.size_toArray, hl]; exact hHeld.2
    generalize hoff : 1 + t * 281 + 3 = off at *
    refine wp_store_key 58 (.tmp 35) (.tmp 31) htb hi2 ho _ _ _ _ ?b1 ?b2 ?b3 ?b4
    case b1 => rfl
    case b2 => rfl
    case b3 => rfl
    have hS2 : (fun w' : World => w'.rangeAt s9 0 cs ∧ w'.there b off 21) (Y.drew.setCells b off cs.toArray.toList) :=
      ⟨World.rangeAt_setCells_apart hHeld.1 _ _ _ (.inl hne9), World.there_setCells hHeld.2 _ _ _⟩
    refine hK.out _ _ hS2 (fun _ => ?_)
    refine wpAnyH_done (by kernel_rfl) ?_ _
    have hSY : Still w Y.drew := ((unhide HS3).trans (unhide HS9)).drew
    have hrb := ((unhide HRB).still ((Kept.refl _ Y).drew))
    have hst := unhide HRS hrb
    have hwi : Within b off 21 Y.drew (Y.drew.setCells b off cs.toArray.toList) := (Within.refl _ _ _ _).setCells _ _ (Nat.le_refl _) (by rw [List.toList_toArray, hl]; exact Nat.le_refl _)
    have hxf : XAt (Y.drew.setCells b off cs.toArray.toList) b { p with rules := upd p.rules t R } := by
      have hx0 := (unhide HX).still hSY
      subst hoff
      exact hx0.setRules ht hwi hst
    have hkf : Kept (· = b) w (Y.drew.setCells b off cs.toArray.toList) := (Still.kept hSY _).trans hwi.kept
    have HXF := hide hxf
    have HKF := hide hkf
    clear hK hHeld hS2 hSd hSY hrb hst hwi hxf hkf r9 tb htb
    generalize Y.drew.setCells b off cs.toArray.toList = Z at *
    simp only [Act.put]
    go_wp2
    go_ret
    exact ⟨unhide HKF, .inl ⟨unhide H1, rfl, unhide HXF⟩⟩
  · have ht9 := hz9.there' 0 (fun _ => ru0)
    have hi2 := infoRules'' 0 (fun _ => ru0)
    have ho := rulesCells_one 0 (fun _ => ru0)
    have hS9 : Still w ((w3.alloc (.cells #[.int .i64 0, .bool false, .int .i64 0, .int .i64 0, .int .i64 0, .int .i64 0, .bool false, .int .i64 0, .int .i64 0, .int .i64 0, .int .i64 0, .bool false, .int .i64 0, .int .i64 0, .int .i64 0, .int .i64 0, .bool false, .int .i64 0, .int .i64 0, .int .i64 0, .int .i64 0] 58)).setCells w3.heap.size 0 (rulesCells 0 (fun _ => ru0)).toArray.toList) := hs3.trans (Kept.setCells ((Kept.refl _ _).alloc _) (.inr (Nat.le_refl _)) _ _)
    have HT9 := hide ht9
    have HS9 := hide hS9
    have H1 := hide h1
    clear h1 hs3 hx3 hz9 hS9 ht9
    generalize rulesCells 0 (fun _ => ru0) = cs at *
    go_wp2_with (refine wpList_store_mid rfl 58 _ _ rfl _ _ cs.toArray rfl rfl (unhide HT9) hi2 ho (unhide ?_))
    refine hide ?_
    generalize (w3.alloc (.cells #[.int .i64 0, .bool false, .int .i64 0, .int .i64 0, .int .i64 0, .int .i64 0, .bool false, .int .i64 0, .int .i64 0, .int .i64 0, .int .i64 0, .bool false, .int .i64 0, .int .i64 0, .int .i64 0, .int .i64 0, .bool false, .int .i64 0, .int .i64 0, .int .i64 0, .int .i64 0] 58)).setCells w3.heap.size 0 cs.toArray.toList = Y at *
    go_wp2
    go_ret
    exact ⟨Still.kept (unhide HS9) _, .inr ⟨unhide H1, rfl, (unhide HX).still (unhide HS9)⟩⟩
end

/-- The program's table of t, and its sums. -/
def tabX (p : ProgS) (t : Nat) : List RouteD := (tabTo (p.own t) (offTo p t 8) (p.quota t) (offTo p t 8).length).1
def takX (p : ProgS) (t : Nat) : Nat := (tabTo (p.own t) (offTo p t 8) (p.quota t) (offTo p t 8).length).2.1
def droX (p : ProgS) (t : Nat) : Nat := (tabTo (p.own t) (offTo p t 8) (p.quota t) (offTo p t 8).length).2.2
theorem table_fn {w : World} {b : Nat} {p : ProgS} (h : XAt w b p) (hk : ProgOk p) {t : Nat} (ht : t < 8) :
    Calls Tryz.prog 69 #[.pointer (some ⟨b, 0, none⟩), .int .i64 (t : Int)] w fun en w' =>
      en = .returned (.tuple #[.agg (listCells (tabX p t).length (pad (tabX p t))).toArray, .agg ([.int .i64 ((p.own t).length : Int), .int .i64 (takX p t : Int), .int .i64 (droX p t : Int), .int .i64 (p.quota t)] : List Value).toArray]) ∧ (tabX p t).length ≤ 64 ∧ Still w w' := table_any h hk ht
theorem infoSums' (a b c d : Int) : (Tryz.prog.info? 89).map (·.size) = some ([.int .i64 a, .int .i64 b, .int .i64 c, .int .i64 d] : List Value).toArray.size := infoSums
theorem SumAt.there {w : World} {s : Nat} {a b c d : Int} (h : SumAt w s a b c d) : w.there s 0 4 := by
  intro j hj
  refine ⟨?_, h.fz _⟩
  rw [Nat.zero_add]
  rcases j with _ | _ | _ | _ | j
  · rw [h.c0]; rfl
  · rw [h.c1]; rfl
  · rw [h.c2]; rfl
  · rw [h.c3]; rfl
  · omega
section
variable {w : World} {b : Nat} {p : ProgS}
set_option maxHeartbeats 1000000 in
theorem tableT_no (h : XAt w b p) (hf : ProgWf p) {n c : Int} (hc : checkX p n 1 = c) (hc0 : c ≠ 0) :
    Calls Tryz.prog 36 #[.pointer (some ⟨b, 0, none⟩), .int .i64 n] w fun en w' => en = .returned (.tuple #[.slice none 0 0, .int .i64 c]) ∧ w' = w := by
  have hne : (c != 0) = true := by simpa using hc0
  have HC := hide hc
  have HC0 := hide hc0
  clear hc hc0
  go_enter Tryz.func36, Tryz.ntmps36
  go_wp2_with (go_at_call 59; refine (check_no h hf (unhide HC) (unhide HC0)).mono ?_; rintro e w' ⟨rfl, hww⟩; replace hww := hww.symm; subst hww)
  go_ret2
  exact ⟨rfl, rfl⟩
set_option maxHeartbeats 2000000 in
theorem tableT_yes (h : XAt w b p) (hf : ProgWf p) (hk : ProgOk p) {n : Int} {t : Nat} (hc : checkX p n 1 = 0) (htn : p.tenant (n - 1).toNat = (t : Int)) (ht : t < 8) :
    Calls Tryz.prog 36 #[.pointer (some ⟨b, 0, none⟩), .int .i64 n] w fun en w' => ∃ v, en = .returned (.tuple #[v, .int .i64 0]) ∧ w'.ownsRow w.heap.size 50 4 v (tabX p t).length ((tabX p t).flatMap routeCells) ∧ Still w w' := by
  have HC := hide hc
  have HTN := hide htn
  have HX := hide h
  clear hc htn
  go_enter Tryz.func36, Tryz.ntmps36
  go_wp2_with fail
  refine (check_yes h hf (unhide HC)).mono ?_
  rintro e w' ⟨rfl, hww⟩
  replace hww := hww.symm
  subst hww
  rw [unhide HTN]
  clear h
  go_wp2_with fail
  refine (table_fn (unhide HX) hk ht).mono ?_
  rintro e w3 ⟨rfl, h64, hs3⟩
  generalize hl : tabX p t = l at *
  have HLL := hide hl
  clear hl
  have hz := LAt.zero w3
  have hz1 := hz.still ((Kept.refl _ (w3.alloc (.cells Tryz.zeroCells61 61))).alloc (.cells #[.int .i64 0, .int .i64 0, .int .i64 0, .int .i64 0] 89))
  have hsz : (w3.alloc (.cells Tryz.zeroCells61 61)).heap.size = w3.heap.size + 1 := by simp
  have hsm0 := SumAt.new (w3.alloc (.cells Tryz.zeroCells61 61)) 0 0 0 0 89
  rw [hsz] at hsm0
  have hS1 : Still w ((w3.alloc (.cells Tryz.zeroCells61 61)).alloc (.cells #[.int .i64 0, .int .i64 0, .int .i64 0, .int .i64 0] 89)) := (hs3.alloc _).alloc _
  have h1 := hz1.stored h64 (pad l)
  have hth := hz1.there l.length (pad l)
  have hk1 := Kept.setCells (Kept.refl (· = w3.heap.size) ((w3.alloc (.cells Tryz.zeroCells61 61)).alloc (.cells #[.int .i64 0, .int .i64 0, .int .i64 0, .int .i64 0] 89))) (.inl rfl) (listCells l.length (pad l)).toArray.toList 0
  have hsm1 := hsm0.kept hk1 (by omega)
  have hb3 := hs3.size
  have hi2 := infoList'' l.length (pad l)
  have ho := listCells_one l.length (pad l)
  have HTH := hide hth
  have H1 := hide h1
  have HSM1 := hide hsm1
  have HS1 := hide hS1
  have HK1 := hide hk1
  clear hz hz1 hsm0 hS1 h1 hth hk1 hsm1 hs3 hsz
  generalize hcs : listCells l.length (pad l) = cs at *
  go_wp2_with (refine wpList_store_mid rfl 61 _ _ rfl _ _ cs.toArray rfl rfl (unhide HTH) hi2 ho (unhide ?_))
  refine hide ?_
  generalize hs : w3.heap.size = s at *
  have hS2 : Still w (((w3.alloc (.cells Tryz.zeroCells61 61)).alloc (.cells #[.int .i64 0, .int .i64 0, .int .i64 0, .int .i64 0] 89)).setCells s 0 cs.toArray.toList) := Kept.trans' (unhide HS1) (unhide HK1) (fun i hi q => by omega)
  have HS2 := hide hS2
  clear hS2 HK1 HTH HS1
  generalize ((w3.alloc (.cells Tryz.zeroCells61 61)).alloc (.cells #[.int .i64 0, .int .i64 0, .int .i64 0, .int .i64 0] 89)).setCells s 0 cs.toArray.toList = Y at *
  have hth5 := (unhide HSM1).there
  have hk5 := Kept.setCells (Kept.refl (· = s + 1) Y) (.inl rfl) ([.int .i64 ((p.own t).length : Int), .int .i64 (takX p t : Int), .int .i64 (droX p t : Int), .int .i64 (p.quota t)] : List Value).toArray.toList 0
  have hls := infoSums' ((p.own t).length : Int) (takX p t : Int) (droX p t : Int) (p.quota t)
  have hos : ([.int .i64 ((p.own t).length : Int), .int .i64 (takX p t : Int), .int .i64 (droX p t : Int), .int .i64 (p.quota t)] : List Value).toArray.all (·.oneCell') = true := by simp [Value.oneCell']
  have hth5' : Y.there (s + 1) 0 ([.int .i64 ((p.own t).length : Int), .int .i64 (takX p t : Int), .int .i64 (droX p t : Int), .int .i64 (p.quota t)] : List Value).toArray.size := hth5
  generalize ([.int .i64 ((p.own t).length : Int), .int .i64 (takX p t : Int), .int .i64 (droX p t : Int), .int .i64 (p.quota t)] : List Value) = ss at *
  have h5 : LAt (Y.setCells (s + 1) 0 ss.toArray.toList) s 0 l.length (pad l) := (unhide H1).frame (Nat.lt_of_lt_of_le (unhide H1).lt hk5.size) (hk5.block s (unhide H1).lt (by omega))
  have hS5 : Still w (Y.setCells (s + 1) 0 ss.toArray.toList) := Kept.trans' (unhide HS2) hk5 (fun i hi q => by omega)
  have hz5 := hk5.size
  have hzY := (unhide HS2).size
  have H5 := hide h5
  have HS5 := hide hS5
  have HTH5 := hide hth5'
  clear hk5 h5 hS5 hth5 hth5'
  go_wp2_with (refine wpList_store_mid rfl 89 _ _ rfl _ _ ss.toArray rfl rfl (unhide HTH5) hls hos (unhide ?_))
  refine hide ?_
  generalize Y.setCells (s + 1) 0 ss.toArray.toList = Z at *
  go_wp2_with (go_at_call 70; refine (all_any (unhide H5)).mono ?_; rintro e w9 ⟨v, rfl, hown, hs9⟩; obtain ⟨va, vc, rfl, _, _⟩ := ownsRow_slice hown; have HOWN := hide hown; clear hown)
  go_ret2
  have hzS := (unhide HS5).size
  refine ⟨_, rfl, ?_, (unhide HS5).trans hs9⟩
  have hown : w9.ownsRow Z.heap.size 50 4 (.slice va l.length vc) l.length (l.flatMap routeCells) := by
    have h0 := unhide HOWN
    rw [listOf_pad] at h0
    exact h0
  rw [unhide HLL]
  exact hown.mono hzS
set_option maxHeartbeats 1000000 in
theorem countT_no (h : XAt w b p) (hf : ProgWf p) {n c : Int} (hc : checkX p n 1 = c) (hc0 : c ≠ 0) :
    Calls Tryz.prog 39 #[.pointer (some ⟨b, 0, none⟩), .int .i64 n] w fun en w' => en = .returned (.tuple #[.agg #[.int .i64 0, .int .i64 0, .int .i64 0, .int .i64 0], .int .i64 c]) ∧ Still w w' := by
  have hne : (c != 0) = true := by simpa using hc0
  have HC := hide hc
  have HC0 := hide hc0
  have hS1 : Still w (w.alloc (.cells #[.int .i64 0, .int .i64 0, .int .i64 0, .int .i64 0] 89)) := (Kept.refl _ _).alloc _
  have HX1 := hide (h.still hS1)
  have HSM := hide (SumAt.new w 0 0 0 0 89)
  have HS1 := hide hS1
  clear hc hc0 hS1
  go_enter Tryz.func39, Tryz.ntmps39
  go_wp2_with (go_at_call 59; refine (check_no (unhide HX1) hf (unhide HC) (unhide HC0)).mono ?_; rintro e w' ⟨rfl, hww⟩; replace hww := hww.symm; subst hww)
  refine bodyPost_ret (results_range2 rfl _ _ _ _ _ _ rfl (unhide HSM).range Tryz.underlying89 rfl infoSums) rfl ?_
  exact ⟨rfl, unhide HS1⟩
set_option maxHeartbeats 2000000 in
theorem countT_yes (h : XAt w b p) (hf : ProgWf p) (hk : ProgOk p) {n : Int} {t : Nat} (hc : checkX p n 1 = 0) (htn : p.tenant (n - 1).toNat = (t : Int)) (ht : t < 8) :
    Calls Tryz.prog 39 #[.pointer (some ⟨b, 0, none⟩), .int .i64 n] w fun en w' => en = .returned (.tuple #[.agg #[.int .i64 ((p.own t).length : Int), .int .i64 (takX p t : Int), .int .i64 (droX p t : Int), .int .i64 (p.quota t)], .int .i64 0]) ∧ Still w w' := by
  have HC := hide hc
  have HTN := hide htn
  have hS0 : Still w (w.alloc (.cells #[.int .i64 0, .int .i64 0, .int .i64 0, .int .i64 0] 89)) := (Kept.refl _ _).alloc _
  have HX := hide (h.still hS0)
  have HSM0 := hide (SumAt.new w 0 0 0 0 89)
  have HS0 := hide hS0
  clear hc htn hS0 h
  go_enter Tryz.func39, Tryz.ntmps39
  go_wp2_with fail
  generalize hs0 : w.heap.size = s0 at *
  generalize w.alloc (.cells #[.int .i64 0, .int .i64 0, .int .i64 0, .int .i64 0] 89) = W0 at *
  refine (check_yes (unhide HX) hf (unhide HC)).mono ?_
  rintro e w' ⟨rfl, hww⟩
  replace hww := hww.symm
  subst hww
  rw [unhide HTN]
  go_wp2_with fail
  refine (table_fn (unhide HX) hk ht).mono ?_
  rintro e w3 ⟨rfl, h64, hs3⟩
  generalize tabX p t = l at *
  have hz := LAt.zero w3
  have hz1 := hz.still ((Kept.refl _ (w3.alloc (.cells Tryz.zeroCells61 61))).alloc (.cells #[.int .i64 0, .int .i64 0, .int .i64 0, .int .i64 0] 89))
  have hsz : (w3.alloc (.cells Tryz.zeroCells61 61)).heap.size = w3.heap.size + 1 := by simp
  have hsm0 := SumAt.new (w3.alloc (.cells Tryz.zeroCells61 61)) 0 0 0 0 89
  rw [hsz] at hsm0
  have hS1 : Still W0 ((w3.alloc (.cells Tryz.zeroCells61 61)).alloc (.cells #[.int .i64 0, .int .i64 0, .int .i64 0, .int .i64 0] 89)) := (hs3.alloc _).alloc _
  have hth := hz1.there l.length (pad l)
  have hk1 := Kept.setCells (Kept.refl (· = w3.heap.size) ((w3.alloc (.cells Tryz.zeroCells61 61)).alloc (.cells #[.int .i64 0, .int .i64 0, .int .i64 0, .int .i64 0] 89))) (.inl rfl) (listCells l.length (pad l)).toArray.toList 0
  have hsm1 := hsm0.kept hk1 (by omega)
  have hb3 := hs3.size
  have hi2 := infoList'' l.length (pad l)
  have ho := listCells_one l.length (pad l)
  have HTH := hide hth
  have HSM1 := hide hsm1
  have HS1 := hide hS1
  have HK1 := hide hk1
  have b0 := (unhide HSM0).lt
  clear hz hz1 hsm0 hS1 hth hk1 hsm1 hs3 hsz
  generalize listCells l.length (pad l) = cs at *
  go_wp2_with (refine wpList_store_mid rfl 61 _ _ rfl _ _ cs.toArray rfl rfl (unhide HTH) hi2 ho (unhide ?_))
  refine hide ?_
  generalize hs : w3.heap.size = s at *
  have hS2 : Still W0 (((w3.alloc (.cells Tryz.zeroCells61 61)).alloc (.cells #[.int .i64 0, .int .i64 0, .int .i64 0, .int .i64 0] 89)).setCells s 0 cs.toArray.toList) := Kept.trans' (unhide HS1) (unhide HK1) (fun i hi q => by omega)
  have HS2 := hide hS2
  clear hS2 HK1 HTH HS1
  generalize ((w3.alloc (.cells Tryz.zeroCells61 61)).alloc (.cells #[.int .i64 0, .int .i64 0, .int .i64 0, .int .i64 0] 89)).setCells s 0 cs.toArray.toList = Y at *
  have hth5 := (unhide HSM1).there
  have hls := infoSums' ((p.own t).length : Int) (takX p t : Int) (droX p t : Int) (p.quota t)
  have hu := Tryz.underlying89
  have hi5 : (Tryz.prog.info? 89).map (·.size) = some ([.int .i64 ((p.own t).length : Int), .int .i64 (takX p t : Int), .int .i64 (droX p t : Int), .int .i64 (p.quota t)] : List Value).length := infoSums
  have hos : ([.int .i64 ((p.own t).length : Int), .int .i64 (takX p t : Int), .int .i64 (droX p t : Int), .int .i64 (p.quota t)] : List Value).toArray.all (·.oneCell') = true := by simp [Value.oneCell']
  have hsl : ([.int .i64 ((p.own t).length : Int), .int .i64 (takX p t : Int), .int .i64 (droX p t : Int), .int .i64 (p.quota t)] : List Value).length = 4 := rfl
  generalize hss : ([.int .i64 ((p.own t).length : Int), .int .i64 (takX p t : Int), .int .i64 (droX p t : Int), .int .i64 (p.quota t)] : List Value) = ss at *
  have HSS := hide hss
  have hth5' : Y.there (s + 1) 0 ss.toArray.size := by rw [List.size_toArray, hsl]; exact hth5
  have hk5 := Kept.setCells (Kept.refl (· = s + 1) Y) (.inl rfl) ss.toArray.toList 0
  have hr5 : (Y.setCells (s + 1) 0 ss.toArray.toList).rangeAt (s + 1) 0 ss := by
    have := World.rangeAt_setCells_same Y (s + 1) 0 ss (by rw [hsl]; exact hth5)
    rw [List.toList_toArray]
    exact this
  have hS5 : Still W0 (Y.setCells (s + 1) 0 ss.toArray.toList) := Kept.trans' (unhide HS2) hk5 (fun i hi q => by omega)
  have hsm5 := (unhide HSM0).kept hS5 (fun q => q)
  have H5 := hide hr5
  have HS5 := hide hS5
  have HTH5 := hide hth5'
  have HT0 : Hid ((Y.setCells (s + 1) 0 ss.toArray.toList).there s0 0 ss.toArray.size) := by
    show (Y.setCells (s + 1) 0 ss.toArray.toList).there s0 0 ss.toArray.size
    rw [List.size_toArray, hsl]
    exact hsm5.there
  clear hk5 hr5 hS5 hth5 hth5' hsm5 hss
  go_wp2_with (refine wpList_store_mid rfl 89 _ _ rfl _ _ ss.toArray rfl rfl (unhide HTH5) hls hos (unhide ?_))
  refine hide ?_
  generalize Y.setCells (s + 1) 0 ss.toArray.toList = Z at *
  have hrf : (Z.setCells s0 0 ss.toArray.toList).rangeAt s0 0 ss := by
    have h0 := unhide HT0
    rw [List.size_toArray] at h0
    have := World.rangeAt_setCells_same Z s0 0 ss h0
    rw [List.toList_toArray]
    exact this
  have hSf : Still w (Z.setCells s0 0 ss.toArray.toList) := Kept.setCells ((unhide HS0).trans (unhide HS5)) (.inr (by omega)) _ _
  have HRF := hide hrf
  have HSF := hide hSf
  clear hrf hSf
  go_wp2_with (first | (refine wpList_load_mid rfl 89 _ rfl _ _ rfl ss _ (unhide H5) hu rfl hi5 ?_) | (refine wpList_store_mid rfl 89 _ _ rfl _ _ ss.toArray rfl rfl (unhide HT0) hls hos (unhide ?_)))
  refine hide ?_
  generalize Z.setCells s0 0 ss.toArray.toList = Z2 at *
  go_wp2
  refine bodyPost_ret (results_range2 rfl _ _ s0 0 ss _ rfl (unhide HRF) hu rfl hi5) rfl ?_
  exact ⟨by rw [← unhide HSS]; rfl, unhide HSF⟩
end

def memCells (q : Int) : List Value := [.int .i64 q, .int .i64 0, .int .i64 0] ++ (rulesCells 0 (fun _ => ru0) ++ listCells 0 (fun _ => rt0))
theorem memCells_len (q : Int) : (memCells q).length = 281 := by
  unfold memCells
  rw [List.length_append, List.length_append, rulesCells_len, listCells_len]
  rfl
theorem zeroMem : Tryz.zeroCells63 = (memCells 0).toArray := by kernel_rfl
theorem zeroMem_set (q : Int) : Tryz.zeroCells63.setIfInBounds 0 (.int .i64 q) = (memCells q).toArray := by
  rw [zeroMem]
  simp [memCells]
theorem memCells_one (q : Int) : (memCells q).toArray.all (·.oneCell') = true := by
  refine all_oneCell_toArray fun v hv => ?_
  unfold memCells at hv
  rcases List.mem_append.1 hv with h | h
  · simp only [List.mem_cons, List.not_mem_nil, or_false] at h
    rcases h with rfl | rfl | rfl <;> rfl
  · rcases List.mem_append.1 h with h | h
    · exact (Array.all_eq_true_iff_forall_mem.1 (rulesCells_one 0 (fun _ => ru0))) v (by simpa using h)
    · exact listCells_mem 0 (fun _ => rt0) v h
theorem infoMem : (Tryz.prog.info? 63).map (·.size) = some 281 := by kernel_rfl
theorem infoMem' (q : Int) : (Tryz.prog.info? 63).map (·.size) = some (memCells q).toArray.size := by rw [List.size_toArray, memCells_len]; exact infoMem
theorem rangeAt_append {w : World} {b o : Nat} {xs ys : List Value} (h : w.rangeAt b o (xs ++ ys)) : w.rangeAt b o xs ∧ w.rangeAt b (o + xs.length) ys := by
  refine ⟨fun j v hv => h j v ?_, fun j v hv => ?_⟩
  · have hj : j < xs.length := (List.getElem?_eq_some_iff.1 hv).1
    rw [List.getElem?_append_left hj]; exact hv
  · have := h (xs.length + j) v (by rw [List.getElem?_append_right (by omega), Nat.add_sub_cancel_left]; exact hv)
    rw [← Nat.add_assoc] at this
    exact this
theorem XAt.memThere {w : World} {b : Nat} {p : ProgS} (h : XAt w b p) {k : Nat} (hk : k < 8) : w.there b (1 + k * 281) 281 := by
  intro j hj
  refine ⟨?_, h.fz _⟩
  by_cases h0 : j = 0
  · subst h0; rw [Nat.add_zero, h.quota k hk]; rfl
  · by_cases h1 : j = 1
    · subst h1; rw [h.gives k hk]; rfl
    · by_cases h2 : j = 2
      · subst h2; rw [h.takes k hk]; rfl
      · by_cases h3 : j < 24
        · have := (h.rl k hk).range.isSome (j - 3) (by rw [rulesCells_len]; omega)
          rw [show 1 + k * 281 + 3 + (j - 3) = 1 + k * 281 + j from by omega] at this
          exact this
        · have := (h.ow k hk).range.isSome (j - 24) (by rw [listCells_len]; omega)
          rw [show 1 + k * 281 + 24 + (j - 24) = 1 + k * 281 + j from by omega] at this
          exact this
theorem XAt.memSet {w : World} {b : Nat} {p : ProgS} (h : XAt w b p) {k : Nat} (hk : k < 8) (q : Int) : XAt (w.setCells b (1 + k * 281) (memCells q).toArray.toList) b { p with quota := upd p.quota k q, gives := upd p.gives k 0, takes := upd p.takes k 0, rules := upd p.rules k [], own := upd p.own k [] } ∧ Kept (· = b) w (w.setCells b (1 + k * 281) (memCells q).toArray.toList) := by
  have ht := h.memThere hk
  have hr := World.rangeAt_setCells_same w b (1 + k * 281) (memCells q) (by rw [memCells_len]; exact ht)
  have hw : Within b (1 + k * 281) 281 w (w.setCells b (1 + k * 281) (memCells q)) := (Within.refl _ _ _ _).setCells _ _ (Nat.le_refl _) (by rw [memCells_len]; exact Nat.le_refl _)
  rw [List.toList_toArray]
  have hl : b < (w.setCells b (1 + k * 281) (memCells q)).heap.size := Nat.lt_of_lt_of_le h.lt hw.kept.size
  have hf : ∀ j, (w.setCells b (1 + k * 281) (memCells q)).frozen? ⟨b, j, none⟩ = false := fun j => (hw.fz j).trans (h.fz j)
  generalize w.setCells b (1 + k * 281) (memCells q) = w' at *
  unfold memCells at hr
  obtain ⟨r1, r2⟩ := rangeAt_append hr
  obtain ⟨r3, r4⟩ := rangeAt_append r2
  have e4 : 1 + k * 281 + ([.int .i64 q, .int .i64 0, .int .i64 0] : List Value).length + (rulesCells 0 (fun _ => ru0)).length = 1 + k * 281 + 24 := by rw [rulesCells_len]; simp
  rw [e4] at r4
  have ep : padR [] = fun _ => ru0 := by funext j; simp [padR]
  have eq : pad [] = fun _ => rt0 := by funext j; simp [pad]
  refine ⟨h.setMember hk hw (r1 0 _ rfl) (r1 1 _ rfl) (r1 2 _ rfl) ?_ ?_, hw.kept⟩
  · rw [ep]; exact RAt.ofRange hl hf (Nat.zero_le _) r3
  · rw [eq]; exact LAt.ofRange hl hf (Nat.zero_le _) r4
def clrX (p : ProgS) (k : Nat) (q : Int) : ProgS := { p with quota := upd p.quota k q, gives := upd p.gives k 0, takes := upd p.takes k 0, rules := upd p.rules k [], own := upd p.own k [] }
theorem clrX_wf {p : ProgS} (hf : ProgWf p) {k : Nat} {q : Int} (h0 : 0 ≤ q) (h1 : q ≤ 64) : ProgWf (clrX p k q) := ⟨hf.room, fun i hi => by
  show 0 ≤ upd p.quota k q i ∧ upd p.quota k q i ≤ 64
  by_cases e : i = k
  · subst e; rw [upd_same]; exact ⟨h0, h1⟩
  · rw [upd_other _ _ e]; exact hf.quota i hi, hf.given, hf.rights, hf.parent⟩
def dropX (p : ProgS) (n : Int) : ProgS := endTo (clrX p n.toNat 0) n p.given
set_option maxHeartbeats 1000000 in
theorem engDrop_any {w : World} {b : Nat} {p : ProgS} (h : XAt w b p) (hf : ProgWf p) (n : Int) :
    Calls Tryz.prog 23 #[.pointer (some ⟨b, 0, none⟩), .int .i64 n] w fun en w' =>
      (isT p n = true ∧ en = .returned (.int .i64 0) ∧ XAt w' b (dropX p n) ∧ Kept (· = b) w w') ∨ (isT p n = false ∧ en = .returned (.int .i64 5) ∧ XAt w' b p ∧ Kept (· = b) w w') := by
  cases ht : isT p n with
  | false =>
    have HT := hide ht
    clear ht
    go_enter Tryz.func23, Tryz.ntmps23
    go_wp2_with (go_at_call 52; refine (isTenant_any h _).mono ?_; rintro e w' ⟨rfl, hww⟩; replace hww := hww.symm; subst hww; rw [unhide HT])
    go_ret
    exact Or.inr ⟨trivial, rfl, h, Kept.refl _ _⟩
  | true =>
    have HT := hide ht
    have hn : 0 ≤ n ∧ n < 8 := by
      simp only [isT, Bool.and_eq_true, decide_eq_true_eq] at ht
      exact ht.1
    clear ht
    obtain ⟨k, rfl⟩ : ∃ k : Nat, n = (k : Int) := ⟨n.toNat, by omega⟩
    have hk : k < 8 := by omega
    obtain ⟨hx, hkp⟩ := h.memSet hk 0
    have hth : w.there b (1 + k * 281) (memCells 0).toArray.size := by rw [List.size_toArray, memCells_len]; exact h.memThere hk
    have hzm := zeroMem
    have hi := infoMem' 0
    have ho := memCells_one 0
    have HX := hide hx
    have HKP := hide hkp
    have HTH := hide hth
    clear hx hkp hth
    go_enter Tryz.func23, Tryz.ntmps23
    go_wp2_with fail
    refine (isTenant_any h _).mono ?_
    rintro e w' ⟨rfl, hww⟩
    replace hww := hww.symm
    subst hww
    rw [unhide HT]
    generalize memCells 0 = cs at *
    go_wp2_with (refine wpList_store_mid rfl 63 _ _ rfl _ _ cs.toArray rfl (by rw [← hzm]; rfl) (unhide HTH) hi ho (unhide ?_))
    refine hide ?_
    generalize w.setCells b (1 + k * 281) cs.toArray.toList = Y at *
    have hpf := clrX_wf hf (k := k) (q := 0) (by omega) (by omega)
    go_wp2_with (go_at_call 53; refine (endAll_any (p := clrX p k 0) (unhide HX) hpf _).mono ?_; rintro e w' ⟨rfl, hx2, hw⟩)
    go_ret
    exact Or.inl ⟨trivial, rfl, by unfold dropX; rw [Int.toNat_natCast]; exact hx2, Kept.trans (unhide HKP) hw⟩

def newP (room : Int) : ProgS := ⟨room, fun _ => 0, fun _ => 0, fun _ => 0, fun _ => [], fun _ => [], 0, fun _ => 0, fun _ => 0, fun _ => 0, fun _ => false⟩
def entry0 : List Value := [.int .i64 0, .int .i64 0, .int .i64 0, .bool false]
def engCells (n : Int) : List Value := [.int .i64 n] ++ (enc 8 (fun _ => memCells 0) ++ ([.int .i64 0] ++ enc 100 (fun _ => entry0)))
theorem zeroEng : Tryz.zeroCells71 = (engCells 0).toArray := by kernel_rfl
theorem zeroEng_set (n : Int) : Tryz.zeroCells71.setIfInBounds 0 (.int .i64 n) = (engCells n).toArray := by
  rw [zeroEng]
  simp [engCells]
theorem enc_range {w : World} {b o n s : Nat} {f : Nat → List Value} (h : w.rangeAt b o (enc n f)) (hs : ∀ i, i < n → (f i).length = s) {i : Nat} (hi : i < n) : w.rangeAt b (o + i * s) (f i) := by
  intro j v hv
  have hj : j < s := by have := (List.getElem?_eq_some_iff.1 hv).1; rw [hs i hi] at this; exact this
  have := h (i * s + j) v (by rw [enc_at hs hi hj]; exact hv)
  rw [← Nat.add_assoc] at this
  exact this
theorem newP_at (n : Int) (w : World) : XAt (w.alloc (.cells (Tryz.zeroCells71.setIfInBounds 0 (.int .i64 n)) 71)) w.heap.size (newP n) := by
  rw [zeroEng_set]
  have hr : (w.alloc (.cells (engCells n).toArray 71)).rangeAt w.heap.size 0 (engCells n) := by
    intro j v hv
    rw [World.cell?_alloc_new, Nat.zero_add]
    simpa using hv
  have hl : w.heap.size < (w.alloc (.cells (engCells n).toArray 71)).heap.size := by simp
  have hf : ∀ j, (w.alloc (.cells (engCells n).toArray 71)).frozen? ⟨w.heap.size, j, none⟩ = false := fun j => World.frozen?_alloc_new _ _ _ _
  generalize w.alloc (.cells (engCells n).toArray 71) = w' at *
  generalize w.heap.size = s at *
  unfold engCells at hr
  obtain ⟨r0, r1⟩ := rangeAt_append hr
  obtain ⟨r2, r3⟩ := rangeAt_append r1
  have hm : ∀ i, i < 8 → (memCells 0).length = 281 := fun _ _ => memCells_len 0
  rw [enc_length hm] at r3
  obtain ⟨r4, r5⟩ := rangeAt_append r3
  simp only [List.length_cons, List.length_nil, Nat.zero_add] at r2 r4 r5
  have he : ∀ i, i < 100 → entry0.length = 4 := fun _ _ => rfl
  have ep : padR [] = fun _ => ru0 := by funext j; simp [padR]
  have eq : pad [] = fun _ => rt0 := by funext j; simp [pad]
  have key : ∀ i, i < 8 → w'.rangeAt s (1 + i * 281) [.int .i64 0, .int .i64 0, .int .i64 0] ∧ w'.rangeAt s (1 + i * 281 + 3) (rulesCells 0 (fun _ => ru0)) ∧ w'.rangeAt s (1 + i * 281 + 24) (listCells 0 (fun _ => rt0)) := fun i hi => by
    have h0 := enc_range r2 hm hi
    unfold memCells at h0
    obtain ⟨a1, a2⟩ := rangeAt_append h0
    obtain ⟨a3, a4⟩ := rangeAt_append a2
    rw [rulesCells_len] at a4
    exact ⟨a1, a3, a4⟩
  have key2 : ∀ i, i < 100 → w'.rangeAt s (2250 + i * 4) entry0 := fun i hi => enc_range r5 he hi
  refine ⟨hl, hf, r0 0 _ rfl, ?_, ?_, ?_, ?_, ?_, r4 0 _ rfl, ?_, ?_, ?_, ?_⟩
  · intro i hi; exact (key i hi).1 0 _ rfl
  · intro i hi; exact (key i hi).1 1 _ rfl
  · intro i hi; exact (key i hi).1 2 _ rfl
  · intro i hi; show RAt w' s (1 + i * 281 + 3) 0 (padR []); rw [ep]; exact RAt.ofRange hl hf (Nat.zero_le _) (key i hi).2.1
  · intro i hi; show LAt w' s (1 + i * 281 + 24) 0 (pad []); rw [eq]; exact LAt.ofRange hl hf (Nat.zero_le _) (key i hi).2.2
  · intro i hi; exact key2 i hi 0 _ rfl
  · intro i hi; exact key2 i hi 1 _ rfl
  · intro i hi; exact key2 i hi 2 _ rfl
  · intro i hi; exact key2 i hi 3 _ rfl
set_option maxHeartbeats 400000 in
theorem engNew_yes (n : Int) (w : World) (h1 : 1 ≤ n) (h2 : n ≤ 64) :
    Calls Tryz.prog 11 #[.int .i64 n] w fun e w' => e = .returned (.tuple #[.pointer (some ⟨w.heap.size, 0, none⟩), .int .i64 0]) ∧ XAt w' w.heap.size (newP n) ∧ Still w w' ∧ w'.heap.size = w.heap.size + 1 := by
  have h3 : decide (64 < n) = false := by simp; omega
  have HX := hide (newP_at n w)
  go_enter Tryz.func11, Tryz.ntmps11
  go_wp2
  go_ret2
  exact ⟨rfl, unhide HX, (Kept.refl _ _).alloc _, by simp⟩
set_option maxHeartbeats 400000 in
theorem engNew_no (n : Int) (w : World) (h : n < 1 ∨ 64 < n) :
    Calls Tryz.prog 11 #[.int .i64 n] w fun e w' => e = .returned (.tuple #[.pointer none, .int .i64 2]) ∧ w' = w := by
  by_cases h1 : n < 1
  · clear h
    go_enter Tryz.func11, Tryz.ntmps11
    go_wp2
    go_ret2
    exact ⟨rfl, rfl⟩
  · have h3 : decide (64 < n) = true := by simp; omega
    clear h
    go_enter Tryz.func11, Tryz.ntmps11
    go_wp2
    go_ret2
    exact ⟨rfl, rfl⟩

def createX (p : ProgS) (n : Nat) (quota : Int) : Int :=
  if quota < 1 ∨ 64 < quota then 2 else if 8 ≤ n then 5 else if p.room < qsum p 8 + quota then 6 else if 100 ≤ p.given then 7 else 0
def createXS (p : ProgS) (n : Nat) (quota : Int) : ProgS := clrX (addS p n 15 0) n quota
def createXPost (w : World) (b : Nat) (p : ProgS) (quota : Int) (en : Ending) (w' : World) : Prop := ∃ n : Nat, freeX p n ∧
  ((createX p n quota ≠ 0 ∧ en = .returned (.tuple #[.int .i64 0, .int .i64 0, .int .i64 (createX p n quota)]) ∧ XAt w' b p ∧ Kept (· = b) w w') ∨
  (createX p n quota = 0 ∧ en = .returned (.tuple #[.int .i64 n, .int .i64 ((p.given : Int) + 1), .int .i64 0]) ∧ XAt w' b (createXS p n quota) ∧ Kept (· = b) w w'))
theorem free_exists (p : ProgS) : ∃ n, freeX p n := by
  have key : ∀ m, m ≤ 8 → (∃ n, freeX p n) ∨ ∀ j, j < m → 0 < p.quota j := by
    intro m
    induction m with
    | zero => intro _; right; intro j hj; omega
    | succ m ih =>
      intro hm
      rcases ih (by omega) with h | h
      · exact Or.inl h
      · by_cases hq : 0 < p.quota m
        · right
          intro j hj
          by_cases e : j = m
          · subst e; exact hq
          · exact h j (by omega)
        · exact Or.inl ⟨m, by omega, fun _ => by omega, h⟩
  rcases key 8 (Nat.le_refl _) with h | h
  · exact h
  · exact ⟨8, Nat.le_refl _, fun hh => absurd hh (by omega), h⟩
set_option maxHeartbeats 2000000 in
theorem engCreate_any {w : World} {b : Nat} {p : ProgS} (h : XAt w b p) (hf : ProgWf p) (quota : Int) :
    Calls Tryz.prog 21 #[.pointer (some ⟨b, 0, none⟩), .int .i64 quota] w fun en w' => createXPost w b p quota en w' := by
  by_cases hq : quota < 1 ∨ 64 < quota
  · obtain ⟨n, hn⟩ := free_exists p
    have e1 : createX p n quota = 2 := by unfold createX; rw [if_pos hq]
    have HP : Hid (createXPost w b p quota (.returned (.tuple #[.int .i64 0, .int .i64 0, .int .i64 2])) w) := ⟨n, hn, Or.inl ⟨by rw [e1]; omega, by rw [e1], h, Kept.refl _ _⟩⟩
    clear e1 hn
    by_cases h1 : quota < 1
    · clear hq
      go_enter Tryz.func21, Tryz.ntmps21
      go_wp2
      go_ret3
      exact unhide HP
    · have h3 : decide (64 < quota) = true := by simp; omega
      clear hq
      go_enter Tryz.func21, Tryz.ntmps21
      go_wp2
      go_ret3
      exact unhide HP
  · have h1 : ¬ quota < 1 := by omega
    have h3 : decide (64 < quota) = false := by simp; omega
    have hq1 : 1 ≤ quota := by omega
    have hq2 : quota ≤ 64 := by omega
    have HQ := hide hq
    clear hq
    have hs := qsum_le hf 8 (Nat.le_refl _)
    have hrm := hf.room
    go_enter Tryz.func21, Tryz.ntmps21
    go_wp2_with fail
    refine (freeNumber_any h).mono ?_
    rintro e w' ⟨n, hn, rfl, hww⟩
    replace hww := hww.symm
    subst hww
    have HN := hide hn
    have hn8 := hn.1
    clear hn
    by_cases hn1 : 8 ≤ n
    · have e1 : createX p n quota = 5 := by unfold createX; rw [if_neg (unhide HQ), if_pos hn1]
      have HP : Hid (createXPost w b p quota (.returned (.tuple #[.int .i64 0, .int .i64 0, .int .i64 5])) w) := ⟨n, unhide HN, Or.inl ⟨by rw [e1]; omega, by rw [e1], h, Kept.refl _ _⟩⟩
      clear e1
      go_wp2
      go_ret3
      exact unhide HP
    · have c0 := h.room
      have hb := h.lt
      go_wp2_with fail
      go_quiet ((go_at_call 49; exact Calls.quiet_of_same (quotas_any (h.still ((Kept.refl _ _).drewN _)) hf)))
      by_cases hs6 : p.room < qsum p 8 + quota
      · have e1 : createX p n quota = 6 := by unfold createX; rw [if_neg (unhide HQ), if_neg hn1, if_pos hs6]
        have HP : Hid (createXPost w b p quota (.returned (.tuple #[.int .i64 0, .int .i64 0, .int .i64 6])) (w.drewN nq)) := ⟨n, unhide HN, Or.inl ⟨by rw [e1]; omega, by rw [e1], h.still ((Kept.refl _ _).drewN _), (Kept.refl _ _).drewN _⟩⟩
        clear e1
        go_wp2
        go_ret3
        exact unhide HP
      · have hx : XAt (w.drewN nq) b p := h.still ((Kept.refl _ _).drewN _)
        have hk : Kept (· = b) w (w.drewN nq) := (Kept.refl _ _).drewN _
        have HX := hide hx
        have HK := hide hk
        clear hx hk h
        generalize w.drewN nq = W at *
        by_cases h100 : 100 ≤ p.given
        · have e1 : createX p n quota = 7 := by unfold createX; rw [if_neg (unhide HQ), if_neg hn1, if_neg hs6, if_pos h100]
          have E1 := hide e1
          clear e1
          go_wp2_with (go_at_call 50; refine (first_no (unhide HX) _ h100).mono ?_; rintro e w' ⟨rfl, hx2, hw2⟩)
          go_ret3
          exact ⟨n, unhide HN, Or.inl ⟨by rw [unhide E1]; omega, by rw [unhide E1]; rfl, hx2, Kept.trans (unhide HK) hw2⟩⟩
        · have e1 : createX p n quota = 0 := by unfold createX; rw [if_neg (unhide HQ), if_neg hn1, if_neg hs6, if_neg h100]
          have E1 := hide e1
          clear e1
          go_wp2_with fail
          refine (first_yes (unhide HX) _ (by omega)).mono ?_
          rintro e w' ⟨rfl, hx2, hw2⟩
          obtain ⟨hx3, hk3⟩ := hx2.memSet (show n < 8 by omega) quota
          have hth : w'.there b (1 + n * 281) (memCells quota).toArray.size := by rw [List.size_toArray, memCells_len]; exact hx2.memThere (by omega)
          have hzm := zeroMem_set quota
          have hi := infoMem' quota
          have ho := memCells_one quota
          have b2 := hx2.lt
          have HX3 := hide hx3
          have HK3 := hide (Kept.trans (Kept.trans (unhide HK) hw2) hk3)
          have HTH := hide hth
          clear hx2 hw2 hx3 hk3 hth
          generalize memCells quota = cs at *
          go_wp2_with (refine wpList_store_mid rfl 63 _ _ rfl _ _ cs.toArray rfl (by rw [← hzm]; rfl) (unhide HTH) hi ho (unhide ?_))
          refine hide ?_
          generalize w'.setCells b (1 + n * 281) cs.toArray.toList = Y at *
          go_wp2
          go_ret3
          exact ⟨n, unhide HN, Or.inr ⟨unhide E1, rfl, unhide HX3, unhide HK3⟩⟩
end Go.Proofs.YtgndledehlilkaaGreat
