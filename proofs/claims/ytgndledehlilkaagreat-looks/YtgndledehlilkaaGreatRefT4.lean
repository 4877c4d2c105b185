/-
  Walks: districtref: offer.
-/
import Derived.Test.YtgndledehlilkaaGreatPure
import Derived.Test.YtgndledehlilkaaGreatRefT3
namespace Go.Proofs.YtgndledehlilkaaGreat
open Go.RowKit
attribute [local go_sem ↓] Go.wp_at_zero Go.wp_at_succ
set_option maxHeartbeats 2000000 in
theorem offer_no {w : World} {O : Nat → Nat × Nat × Nat} {e b : Nat} {r : RefS} (h : RefRep w O e b r) (hf : RefWf r) (t u : Nat) (ht : t < r.nl) (hu : u < r.nl) (x : RouteD) (hno : t = u ∨ (r.life t).gone = true ∨ (r.life u).gone = true) :
    Calls Tryz.prog 133 #[.pointer (some ⟨b, 0, none⟩), .int .i64 t, .int .i64 u, .agg #[.int .i64 x.addr, .int .i64 x.len, .int .i64 x.hop, .int .i64 x.from_]] w fun en w' => en = .returned (.bool false) ∧ Still w w' := by
  obtain ⟨lv, tv, ov, rv, ln, h⟩ := h
  have hb := h.lt
  obtain ⟨_, c1, _, _⟩ := h.cells
  obtain ⟨a, cap, rfl, h1, h2, h3⟩ := h.livesAt
  obtain ⟨g, rfl⟩ := h3 t ht
  have hg : g < w.heap.size := ownsRow_lt h.lives rfl
  have t6 : w.cell? ⟨g, t * 7 + 6, none⟩ = some (.bool (r.life t).gone) := h.lifeCell ht 6 (by omega)
  have u6 : w.cell? ⟨g, u * 7 + 6, none⟩ = some (.bool (r.life u).gone) := h.lifeCell hu 6 (by omega)
  have hn := hf.nt
  have hl := hf.nl
  unfold maxLen at h2
  clear h h3 hf
  by_cases htu : t = u
  · have e1 : ((t : Int) == (u : Int)) = true := by simp [htu]
    clear hno htu
    go_enter Tryz.func133, Tryz.ntmps133
    go_wp2
    go_ret
    exact ⟨rfl, (Kept.refl _ _).alloc _⟩
  · have e1 : ((t : Int) == (u : Int)) = false := by rw [beq_eq_false_iff_ne]; omega
    cases hgt : (r.life t).gone with
    | true =>
      rw [hgt] at t6
      clear hno htu hgt
      go_enter Tryz.func133, Tryz.ntmps133
      go_wp2
      go_ret
      exact ⟨rfl, (Kept.refl _ _).alloc _⟩
    | false =>
      have hgu : (r.life u).gone = true := by
        rcases hno with hh | hh | hh
        · exact absurd hh htu
        · rw [hgt] at hh; cases hh
        · exact hh
      rw [hgt] at t6
      rw [hgu] at u6
      clear hno htu hgt hgu
      go_enter Tryz.func133, Tryz.ntmps133
      go_wp2
      go_ret
      exact ⟨rfl, (Kept.refl _ _).alloc _⟩
set_option maxRecDepth 100000 in
set_option maxHeartbeats 4000000 in
theorem offer_yes {w : World} {O : Nat → Nat × Nat × Nat} {e b : Nat} {r : RefS} (h : RefRep w O e b r) (hf : RefWf r) (htb : RefTab r) (t u : Nat) (ht : t < r.nl) (hu : u < r.nl) (x : RouteD) (hx : okRoute x) (htu : t ≠ u) (hgt : (r.life t).gone = false) (hgu : (r.life u).gone = false) :
    Calls Tryz.prog 133 #[.pointer (some ⟨b, 0, none⟩), .int .i64 t, .int .i64 u, .agg #[.int .i64 x.addr, .int .i64 x.len, .int .i64 x.hop, .int .i64 x.from_]] w fun en w' => en = .returned (.bool (commonB (r.life u).gives (r.life t).takes && letsB (r.life t).rules x && decide (findI (r.life t).own x < 0))) ∧ Still w w' := by
  obtain ⟨lv, tv, ov, rv, ln, h⟩ := h
  have hb := h.lt
  obtain ⟨_, c1, _, _⟩ := h.cells
  obtain ⟨a, cap, rfl, h1, h2, h3⟩ := h.livesAt
  obtain ⟨g, rfl⟩ := h3 t ht
  have hg : g < w.heap.size := ownsRow_lt h.lives rfl
  have t6 : w.cell? ⟨g, t * 7 + 6, none⟩ = some (.bool (r.life t).gone) := h.lifeCell ht 6 (by omega)
  have u6 : w.cell? ⟨g, u * 7 + 6, none⟩ = some (.bool (r.life u).gone) := h.lifeCell hu 6 (by omega)
  have t3 : w.cell? ⟨g, t * 7 + 3, none⟩ = some (.int .i64 (r.life t).takes) := h.lifeCell ht 3 (by omega)
  have t4 : w.cell? ⟨g, t * 7 + 4, none⟩ = some (ov t) := h.lifeCell ht 4 (by omega)
  have t5 : w.cell? ⟨g, t * 7 + 5, none⟩ = some (rv t) := h.lifeCell ht 5 (by omega)
  have u2 : w.cell? ⟨g, u * 7 + 2, none⟩ = some (.int .i64 (r.life u).gives) := h.lifeCell hu 2 (by omega)
  rw [hgt] at t6
  rw [hgu] at u6
  have hro := h.owns t ht
  have hrr := h.rules t ht
  obtain ⟨oa, oc, oe, ol1, ol2⟩ := ownsRow_slice hro
  obtain ⟨ra, rc, re, rl1, rl2⟩ := ownsRow_slice hrr
  rw [oe] at t4 hro
  rw [re] at t5 hrr
  have hn := hf.nt
  have hl := hf.nl
  have hgv := htb.gives u hu
  have htk := htb.takes t ht
  have HRL := hide (htb.rules t ht)
  unfold maxLen at h2
  have e1 : ((t : Int) == (u : Int)) = false := by rw [beq_eq_false_iff_ne]; omega
  have HRO := hide hro
  have HRR := hide hrr
  have ht0 : (0 : Int) ≤ (t : Int) := by omega
  have ht1 : (t : Int) < (r.nl : Int) := by omega
  have hu0 : (0 : Int) ≤ (u : Int) := by omega
  have hu1 : (u : Int) < (r.nl : Int) := by omega
  have hxa0 := hx.a0
  have hxa1 := hx.a1
  clear h h3 hf htb hgt hgu htu oe re hro hrr
  have hs0 : Still w (w.alloc (.cells #[.int .i64 x.addr, .int .i64 x.len, .int .i64 x.hop, .int .i64 x.from_] 50)) := (Kept.refl _ _).alloc _
  have HB := hide hs0
  go_enter Tryz.func133, Tryz.ntmps133
  go_wp2_with fail
  have d0 : (w.alloc (.cells #[.int .i64 x.addr, .int .i64 x.len, .int .i64 x.hop, .int .i64 x.from_] 50)).cell? ⟨w.heap.size, 0, none⟩ = some (.int .i64 x.addr) := by rw [World.cell?_alloc_new]; rfl
  have d1 : (w.alloc (.cells #[.int .i64 x.addr, .int .i64 x.len, .int .i64 x.hop, .int .i64 x.from_] 50)).cell? ⟨w.heap.size, 1, none⟩ = some (.int .i64 x.len) := by rw [World.cell?_alloc_new]; rfl
  have d2 : (w.alloc (.cells #[.int .i64 x.addr, .int .i64 x.len, .int .i64 x.hop, .int .i64 x.from_] 50)).cell? ⟨w.heap.size, 2, none⟩ = some (.int .i64 x.hop) := by rw [World.cell?_alloc_new]; rfl
  have d3 : (w.alloc (.cells #[.int .i64 x.addr, .int .i64 x.len, .int .i64 x.hop, .int .i64 x.from_] 50)).cell? ⟨w.heap.size, 3, none⟩ = some (.int .i64 x.from_) := by rw [World.cell?_alloc_new]; rfl
  have hsz : w.heap.size < (w.alloc (.cells #[.int .i64 x.addr, .int .i64 x.len, .int .i64 x.hop, .int .i64 x.from_] 50)).heap.size := by simp
  have c1' := (hs0.cell _ 1 hb).trans c1
  have t3' := (hs0.cell _ _ hg).trans t3
  have t4' := (hs0.cell _ _ hg).trans t4
  have t5' := (hs0.cell _ _ hg).trans t5
  have u2' := (hs0.cell _ _ hg).trans u2
  clear c1 t3 t4 t5 u2 t6 u6 hs0
  generalize w.alloc (.cells #[.int .i64 x.addr, .int .i64 x.len, .int .i64 x.hop, .int .i64 x.from_] 50) = W at *
  generalize hse : w.heap.size = s0 at *
  have Hse := hide hse
  clear hse
  go_quiet ((go_at_call 135; exact Calls.quiet_of_same (common_any _ _ _ (by omega) (by omega) (by omega) (by omega))))
  have HV : Hid (Still W (W.drewN nq)) := (Kept.refl _ _).drewN _
  have c1v : (W.drewN nq).cell? ⟨b, 1, none⟩ = _ := c1'
  have t4v : (W.drewN nq).cell? ⟨g, t * 7 + 4, none⟩ = _ := t4'
  have t5v : (W.drewN nq).cell? ⟨g, t * 7 + 5, none⟩ = _ := t5'
  have d0v : (W.drewN nq).cell? ⟨s0, 0, none⟩ = _ := d0
  have d1v : (W.drewN nq).cell? ⟨s0, 1, none⟩ = _ := d1
  have d2v : (W.drewN nq).cell? ⟨s0, 2, none⟩ = _ := d2
  have d3v : (W.drewN nq).cell? ⟨s0, 3, none⟩ = _ := d3
  have szv : s0 < (W.drewN nq).heap.size := hsz
  clear c1' t4' t5' d0 d1 d2 d3 t3' u2'
  generalize W.drewN nq = V at *
  have hVs : b < V.heap.size := by omega
  have gVs : g < V.heap.size := by omega
  generalize hcm : commonB (r.life u).gives (r.life t).takes = cm at *
  have HCM := hide hcm
  clear hcm
  go_wp2_with fail
  have HRV : Hid (V.drew.ownsRow 0 55 5 (.slice ra (r.life t).rules.length rc) (r.life t).rules.length ((r.life t).rules.flatMap ruleCells)) := ownsRow_of_block (unhide HRR) (fun y hy => by
    have := ownsRow_lt (unhide HRR) hy
    have h1 := (unhide HV).heap (k := y) (by have := (unhide HB).size; omega)
    have h2 := (unhide HB).heap this
    exact h1.trans h2)
  go_region_held3 (fun w' => w'.cell? ⟨b, 1, none⟩ = some (.slice (some ⟨g, 0, none⟩) r.nl cap) ∧ w'.cell? ⟨g, t * 7 + 5, none⟩ = some (.slice ra (r.life t).rules.length rc) ∧ w'.cell? ⟨s0, 0, none⟩ = some (.int .i64 x.addr) ∧ w'.cell? ⟨s0, 1, none⟩ = some (.int .i64 x.len) ∧ w'.cell? ⟨s0, 2, none⟩ = some (.int .i64 x.hop) ∧ w'.cell? ⟨s0, 3, none⟩ = some (.int .i64 x.from_)) (first | go_keep | (go_split_ands; exact ⟨(hw3.cell _ _ hVs).trans c1v, (hw3.cell _ _ gVs).trans t5v, (hw3.cell _ _ szv).trans d0v, (hw3.cell _ _ szv).trans d1v, (hw3.cell _ _ szv).trans d2v, (hw3.cell _ _ szv).trans d3v⟩)) ((go_at_call 136; refine (lets_any (unhide HRV) (unhide HRL) x hxa0 hxa1).mono ?_; rintro e w3 ⟨rfl, hw3⟩))
  have hw3' : Still V w3 := Kept.trans ((Kept.refl _ _).drew) hw3
  have c1x := (hw3'.cell _ 1 hVs).trans c1v
  have t4x := (hw3'.cell _ _ gVs).trans t4v
  have d0x := (hw3'.cell _ 0 szv).trans d0v
  have d1x := (hw3'.cell _ 1 szv).trans d1v
  have d2x := (hw3'.cell _ 2 szv).trans d2v
  have d3x := (hw3'.cell _ 3 szv).trans d3v
  have sz3 := hw3'.size
  have HRX : Hid (w3.drew.ownsRow 0 50 4 (.slice oa (r.life t).own.length oc) (r.life t).own.length ((r.life t).own.flatMap routeCells)) := ownsRow_of_block (unhide HRO) (fun y hy => by
    have h0 := ownsRow_lt (unhide HRO) hy
    have h1 := (unhide HV).heap (k := y) (by have := (unhide HB).size; omega)
    have h2 := (unhide HB).heap h0
    have h3 := hw3'.heap (k := y) (by have z1 := (unhide HB).size; have z2 := (unhide HV).size; omega)
    exact h3.trans (h1.trans h2))
  have HW3 : Hid (Still w w3) := Kept.trans (Kept.trans (unhide HB) (unhide HV)) hw3'
  have hbx : b < w3.heap.size := by omega
  have gbx : g < w3.heap.size := by omega
  have szx : s0 < w3.heap.size := by omega
  clear hw3 hw3' c1v t4v t5v d0v d1v d2v d3v HRV
  generalize hlt : letsB (r.life t).rules x = lt at *
  have HLT := hide hlt
  clear hlt
  go_wp2_with fail
  go_region_held3 (fun w' => w'.cell? ⟨b, 1, none⟩ = some (.slice (some ⟨g, 0, none⟩) r.nl cap) ∧ w'.cell? ⟨g, t * 7 + 4, none⟩ = some (.slice oa (r.life t).own.length oc) ∧ w'.cell? ⟨s0, 0, none⟩ = some (.int .i64 x.addr) ∧ w'.cell? ⟨s0, 1, none⟩ = some (.int .i64 x.len) ∧ w'.cell? ⟨s0, 2, none⟩ = some (.int .i64 x.hop) ∧ w'.cell? ⟨s0, 3, none⟩ = some (.int .i64 x.from_)) (first | go_keep | (go_split_ands; exact ⟨(hw4.cell _ _ hbx).trans c1x, (hw4.cell _ _ gbx).trans t4x, (hw4.cell _ _ szx).trans d0x, (hw4.cell _ _ szx).trans d1x, (hw4.cell _ _ szx).trans d2x, (hw4.cell _ _ szx).trans d3x⟩)) ((go_at_call 64; refine (find_any (unhide HRX) x).mono ?_; rintro e w4 ⟨rfl, hw4⟩))
  have HW4 : Hid (Still w w4) := Kept.trans (Kept.drew (unhide HW3)) hw4
  clear hw4 c1x t4x d0x d1x d2x d3x
  generalize hfi : findI (r.life t).own x = fi at *
  have HFI := hide hfi
  clear hfi
  cases cm
  all_goals cases lt
  all_goals
    go_wp2
    go_ret
    exact ⟨by rw [unhide HCM, unhide HLT, unhide HFI]; rfl, unhide HW4⟩
theorem offer_any {w : World} {O : Nat → Nat × Nat × Nat} {e b : Nat} {r : RefS} (h : RefRep w O e b r) (hf : RefWf r) (htb : RefTab r) (t u : Nat) (ht : t < r.nl) (hu : u < r.nl) (x : RouteD) (hx : okRoute x) :
    Calls Tryz.prog 133 #[.pointer (some ⟨b, 0, none⟩), .int .i64 t, .int .i64 u, .agg #[.int .i64 x.addr, .int .i64 x.len, .int .i64 x.hop, .int .i64 x.from_]] w fun en w' => en = .returned (.bool (offerB r t u x)) ∧ Still w w' := by
  by_cases hno : t = u ∨ (r.life t).gone = true ∨ (r.life u).gone = true
  · have e1 : offerB r t u x = false := by
      unfold offerB
      rcases hno with hh | hh | hh <;> simp [hh]
    rw [e1]
    exact offer_no h hf t u ht hu x hno
  · have h1 : t ≠ u := fun hh => hno (.inl hh)
    have h2 : (r.life t).gone = false := by
      cases hh : (r.life t).gone with
      | true => exact absurd (.inr (.inl hh)) hno
      | false => rfl
    have h3 : (r.life u).gone = false := by
      cases hh : (r.life u).gone with
      | true => exact absurd (.inr (.inr hh)) hno
      | false => rfl
    have e1 : offerB r t u x = (commonB (r.life u).gives (r.life t).takes && letsB (r.life t).rules x && decide (findI (r.life t).own x < 0)) := by
      unfold offerB
      simp [h1, h2, h3]
    rw [e1]
    exact offer_yes h hf htb t u ht hu x hx h1 h2 h3
end Go.Proofs.YtgndledehlilkaaGreat
