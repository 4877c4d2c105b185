/-
  Held: the walk.
-/
import Derived.Test.YtgndledehlilkaaHeld3
namespace Go.Proofs.Ytgndledehlilkaa
open Go.RowKit

theorem toldArr (t : ToldD) (lv : Value) : (toldCells t lv).toArray = #[.int .i64 t.e, lv, .int .i64 t.s.own, .int .i64 t.s.taken, .int .i64 t.s.dropped, .int .i64 t.s.quota, .int .i64 t.r.addr, .int .i64 t.r.len, .int .i64 t.r.hop, .int .i64 t.r.from_, .bool t.b] := rfl
theorem ToldAt.make (w : World) (t : ToldD) (lv : Value) (ty : TypeId) : ToldAt (w.alloc (.cells #[.int .i64 t.e, lv, .int .i64 t.s.own, .int .i64 t.s.taken, .int .i64 t.s.dropped, .int .i64 t.s.quota, .int .i64 t.r.addr, .int .i64 t.r.len, .int .i64 t.r.hop, .int .i64 t.r.from_, .bool t.b] ty)) w.heap.size t lv := by
  refine ⟨by simp, fun j => World.frozen?_alloc_new _ _ _ _, ?_, ?_, ?_, ?_, ?_, ?_, ?_, ?_, ?_, ?_, ?_⟩ <;> rw [World.cell?_alloc_new] <;> rfl
/-- The quotas, and the engine. -/
structure HeldAt (V0 w : World) (sq bx : Nat) (r : RefS) : Prop where
  on : On V0 w (oneTag bx) 1 bx r
  three : Three (quota3 3 2 5) r
theorem quotaCell {V0 w : World} {sq : Nat} (h : ∀ t : Nat, t < 3 → V0.cell? ⟨sq, t, none⟩ = some (.int .i64 (quota3 3 2 5 t))) (hl : sq < V0.heap.size) (hs : Still V0 w) {t : Nat} (ht : t < 3) : w.cell? ⟨sq, t, none⟩ = some (.int .i64 (quota3 3 2 5 t)) := (hs.cell sq t hl).trans (h t ht)
set_option maxRecDepth 20000 in
set_option maxHeartbeats 16000000 in
theorem held_any {w : World} {a : Option Addr} {n cap : Nat} {X : Nat → OpD} (h : OpsIn w a n X) :
    Calls Try.prog 6 #[.slice a n cap] w fun e w' => e = .returned (.bool true) ∧ Still w w' := by
  have HB := hide (begun3 w (q1 := 3) (q2 := 2) (q3 := 5) (by omega) (by omega) (by omega) (by omega))
  have hS0 : Still w (w.alloc (.cells #[.int .i64 3, .int .i64 2, .int .i64 5] 3)) := (Kept.refl _ _).alloc _
  have HS0 := hide hS0
  have hq0 : ∀ t : Nat, t < 3 → (w.alloc (.cells #[.int .i64 3, .int .i64 2, .int .i64 5] 3)).cell? ⟨w.heap.size, t, none⟩ = some (.int .i64 (quota3 3 2 5 t)) := fun t ht => by
    rw [World.cell?_alloc_new]
    have : t = 0 ∨ t = 1 ∨ t = 2 := by omega
    rcases this with rfl | rfl | rfl <;> rfl
  have hql : w.heap.size < (w.alloc (.cells #[.int .i64 3, .int .i64 2, .int .i64 5] 3)).heap.size := by simp
  have HQ := hide hq0
  have HOPS := hide h
  have hnm := h.most
  clear h hS0 hq0
  go_enter Try.func6, Try.ntmps6
  go_wp2_with fail
  refine (unhide HB).mono ?_
  rintro en w1 ⟨bx, rfl, hx⟩
  have HH : Hid (HeldAt (w.alloc (.cells #[.int .i64 3, .int .i64 2, .int .i64 5] 3)) w1 w.heap.size bx (sR (quota3 3 2 5) (fun _ => 0) (fun _ => 0) [])) := ⟨hx, Three.start 3 2 5⟩
  clear hx HB
  generalize hsq : w.heap.size = sq at *
  generalize w.alloc (.cells #[.int .i64 3, .int .i64 2, .int .i64 5] 3) = V0 at *
  generalize sR (quota3 3 2 5) (fun _ => 0) (fun _ => 0) [] = r0 at *
  go_wp2
  go_loopw [5, 6, 7, 8, 9, 10, 11, 12, 13, 14, 15, 16, 17, 18, 19] (fun i _ _ _ _ _ _ _ _ _ _ _ _ _ _ w' => ∃ k : Nat, k ≤ n ∧ i = .int .i64 k ∧ ∃ r, HeldAt V0 w' sq bx r) (fun i _ _ _ _ _ _ _ _ _ _ _ _ _ _ _ => n - (intOf i).toNat)
  case atStart => exact ⟨0, by omega, rfl, r0, unhide HH⟩
  case round =>
    obtain ⟨k, hk, rfl, r, hh⟩ := hrel
    have HHR := hide hh
    clear hh HH
    by_cases hkn : k < n
    · obtain ⟨bs, off, rfl, hbs, hX⟩ := (unhide HOPS).at_ (by omega)
      obtain ⟨ho, d0, d1, d2, d3, d4, d5⟩ := hX k hkn
      have hst : Still w wr := (unhide HS0).trans (unhide HHR).on.still
      have x0 := (hst.cell bs _ hbs).trans d0
      have x1 := (hst.cell bs _ hbs).trans d1
      have x2 := (hst.cell bs _ hbs).trans d2
      have x3 := (hst.cell bs _ hbs).trans d3
      have x4 := (hst.cell bs _ hbs).trans d4
      have x5 := (hst.cell bs _ hbs).trans d5
      have hbsw : bs < wr.heap.size := Nat.lt_of_lt_of_le hbs hst.size
      have hk0 : (0 : Int) ≤ (k : Int) := by omega
      have hkl : (k : Int) < (n : Int) := by omega
      generalize X k = o at *
      have hSA : Still wr (wr.alloc (.cells #[.int .i64 o.kind, .int .i64 o.who, .int .i64 o.a, .int .i64 o.b, .int .i64 o.c, .int .i64 o.d] 27)) := (Kept.refl _ _).alloc _
      have hbo := BoxO.new wr o 27
      have HBO := hide hbo
      have HON := hide ((unhide HHR).on.again hSA)
      have H3 := hide (unhide HHR).three
      have HO := hide ho
      have hbl : bx < wr.heap.size := (unhide HHR).on.lt
      have hwr := pickF_range o.who (n := 3) (by omega)
      obtain ⟨t, hpt⟩ : ∃ t : Nat, pickF o.who 3 = (t : Int) := ⟨(pickF o.who 3).toNat, by omega⟩
      have ht : t < 3 := by omega
      have HPT := hide hpt
      have b1 := hbo.c1
      have bl := hbo.lt
      clear hX ho d0 d1 d2 d3 d4 d5 hst hSA hbo HHR hwr hpt
      go_wp2_with fail
      generalize hso : wr.heap.size = s6 at *
      generalize wr.alloc (.cells #[.int .i64 o.kind, .int .i64 o.who, .int .i64 o.a, .int .i64 o.b, .int .i64 o.c, .int .i64 o.d] 27) = U at *
      refine (pickK _ _ _ (by omega) (unhide HO).w0 (unhide HO).w1).mono ?_
      rintro en w' ⟨rfl, hw⟩
      replace hw := hw.symm
      subst hw
      rw [unhide HPT]
      have qc := quotaCell (unhide HQ) hql (unhide HON).still ht
      have hqU : sq < U.heap.size := Nat.lt_of_lt_of_le hql (unhide HON).still.size
      obtain ⟨s, l, m1, m2, m3, hl64, hsq', hs1, hs2, hs3, hs4, hs5, hs6, hs7, hs8⟩ := told_count (unhide HON).ok (unhide H3) ht
      obtain ⟨so, sk, sd, sqt⟩ := s
      simp only at hsq' hs1 hs2 hs4 hs5 hs6
      subst hsq'
      have hstep := fun hkd => held_step (unhide HON).ok (unhide H3) ht hs6 hs8 o hkd (ob := oldTo l (t : Int) (pfxA o.a o.b) (pfxL o.b) l.length) (oldTo_is _ _ _ _).symm 255
      have HCK := hide (countedK (unhide HON) ht m1 m2 m3 hl64 hs1 hs2 hs3 hs4 hs5 hs7)
      generalize hqt : quota3 3 2 5 t = qt at *
      have QT := hide hqt
      clear hqt
      have M1 := hide m1
      have M3 := hide m3
      have HSTEP := hide hstep
      have hwt : IntKind.i64.wrap ((t : Int) + 1) = (t : Int) + 1 := wrap_small (by omega) (by omega)
      have ht0 : (0 : Int) ≤ (t : Int) := by omega
      have ht3 : (t : Int) < 3 := by omega
      clear m1 m2 m3 hs1 hs2 hs3 hs4 hs5 hs6 hs7 hs8 hstep x0 x1 x2 x3 x4 x5 b1
      go_wp2_with fail
      refine (unhide HCK).mono ?_
      rintro en w2 ⟨rfl, hon2, hk2⟩
      have hS2 : Still w2 (w2.alloc (.cells #[.int .i64 so, .int .i64 sk, .int .i64 sd, .int .i64 qt] 32)) := (Kept.refl _ _).alloc _
      have HWAS := hide (SumAt.new w2 so sk sd qt 32)
      have hbo2 := ((unhide HBO).kept hk2 (by omega)).kept hS2 (fun q => q)
      have b2 := hbo2.c2
      have b3 := hbo2.c3
      have bl2 := hbo2.lt
      have HBO2 := hide hbo2
      have HON2 := hide (hon2.again hS2)
      have hbl2 : bx < w2.heap.size := hon2.lt
      have hs62 : s6 < w2.heap.size := ((unhide HBO).kept hk2 (by omega)).lt
      clear hon2 hk2 hS2 hbo2 HBO HON HCK bl qc hqU
      go_wp2_with fail
      generalize hs8' : w2.heap.size = s8 at *
      generalize w2.alloc (.cells #[.int .i64 so, .int .i64 sk, .int .i64 sd, .int .i64 qt] 32) = U2 at *
      refine (prefixK _ _ _ (unhide HO).a0 (unhide HO).a1 (unhide HO).b0 (unhide HO).b1).mono ?_
      rintro en w' ⟨rfl, hw⟩
      replace hw := hw.symm
      subst hw
      generalize pfxA o.a o.b = pa at *
      generalize pfxL o.b = pn at *
      go_wp2_with fail
      refine (on_table0 (unhide HON2) (unhide M1) (unhide M3)).mono ?_
      rintro en w3 ⟨ta, tc, rfl, hr3, O3, hO3, hon3', hk3', _, hnew3⟩
      obtain ⟨hon3, hk3⟩ := (unhide HON2).stepP ⟨O3, hO3, hon3', hk3', hnew3⟩
      obtain ⟨_, _, _, ht1, ht2⟩ := ownsRow_slice hr3
      have HR3 := hide hr3
      have HON3 := hide hon3
      have HWAS3 := hide ((unhide HWAS).kept hk3 (by omega))
      have HBO3 := hide ((unhide HBO2).kept hk3 (by omega))
      clear hr3 hO3 hon3' hk3' hnew3 hon3 hk3 HON2 HBO2 HWAS b2 b3 bl2
      generalize U2.heap.size = s12 at *
      go_wp2
      go_loopw [14, 15] (fun od i w' => ∃ j : Nat, j ≤ l.length ∧ i = .int .i64 j ∧ od = .bool (oldTo l (t : Int) pa pn j) ∧ Still w3 w') (fun _ i _ => l.length - (intOf i).toNat)
      case atStart => exact ⟨0, by omega, rfl, rfl, Kept.refl _ _⟩
      case round =>
        obtain ⟨j, hj, rfl, rfl, hwj⟩ := hrel
        have HWJ := hide hwj
        have HRJ := hide (kept_row (unhide HR3) hwj (fun _ _ q => q))
        clear hwj
        by_cases hjl : j < l.length
        · obtain ⟨g, rfl, hg⟩ := ownsRow_some (unhide HRJ) (by omega)
          obtain ⟨y0, y1, _, y3⟩ := rowCell (unhide HRJ) rfl hjl
          have hnx : oldTo l (t : Int) pa pn (j + 1) = (oldTo l (t : Int) pa pn j || oldB (t : Int) pa pn (l.getD j rt0)) := rfl
          have hj0 : (0 : Int) ≤ (j : Int) := by omega
          have hjl' : (j : Int) < (l.length : Int) := by omega
          generalize l.getD j rt0 = x at *
          cases hod : oldTo l (t : Int) pa pn j with
          | true =>
            rw [hod] at hnx
            have NX := hide hnx
            clear hnx hod
            go_wp2
            go_roundw
            case rel => exact ⟨j + 1, by omega, by go_num, by rw [unhide NX]; rfl, unhide HWJ⟩
            case measure => simp [intOf]; omega
          | false =>
            rw [hod, Bool.false_or] at hnx
            unfold oldB at hnx
            clear hod
            cases e1 : (x.from_ == (t : Int)) with
            | false =>
              rw [e1] at hnx
              have NX := hide hnx
              clear hnx
              go_wp2
              go_roundw
              case rel => exact ⟨j + 1, by omega, by go_num, by rw [unhide NX]; rfl, unhide HWJ⟩
              case measure => simp [intOf]; omega
            | true =>
              cases e2 : (x.addr == pa) with
              | false =>
                rw [e1, e2] at hnx
                have NX := hide hnx
                clear hnx
                go_wp2
                go_roundw
                case rel => exact ⟨j + 1, by omega, by go_num, by rw [unhide NX]; rfl, unhide HWJ⟩
                case measure => simp [intOf]; omega
              | true =>
                cases e3 : (x.len == pn) with
                | false =>
                  rw [e1, e2, e3] at hnx
                  have NX := hide hnx
                  clear hnx
                  go_wp2
                  go_roundw
                  case rel => exact ⟨j + 1, by omega, by go_num, by rw [unhide NX]; rfl, unhide HWJ⟩
                  case measure => simp [intOf]; omega
                | true =>
                  rw [e1, e2, e3] at hnx
                  have NX := hide hnx
                  clear hnx
                  go_wp2
                  go_roundw
                  case rel => exact ⟨j + 1, by omega, by go_num, by rw [unhide NX]; rfl, unhide HWJ⟩
                  case measure => simp [intOf]; omega
        · obtain rfl : j = l.length := by omega
          have HON4 := hide ((unhide HON3).again (unhide HWJ))
          have was4 := (unhide HWAS3).kept (unhide HWJ) (fun q => q)
          have bo4 := (unhide HBO3).kept (unhide HWJ) (fun q => q)
          generalize oldTo l (t : Int) pa pn l.length = ob at *
          have c0 := bo4.c0
          have c1 := bo4.c1
          have c2 := bo4.c2
          have c3 := bo4.c3
          have c4 := bo4.c4
          have c5 := bo4.c5
          have cl := bo4.lt
          have HWAS4 := hide was4
          have HBO4 := hide bo4
          have H5 := hide ((unhide H3).play ((t : Int) + 1) o 255)
          clear was4 bo4 HWJ HRJ HON3 HWAS3 HBO3 HR3
          go_wp2_with fail
          refine (playK (unhide HON4) o (unhide HO) ((t : Int) + 1) 255).mono ?_
          intro en w5 hp5
          obtain ⟨la5, lc5, rfl, hrow5, hon5, hk5⟩ := hp5
          rw [toldArr]
          generalize playT r ((t : Int) + 1) o 255 = td at *
          generalize playS r ((t : Int) + 1) o 255 = r5 at *
          have hbx5 : bx < w5.heap.size := hon5.lt
          have hS5 : Still w5 (w5.alloc (.cells #[.int .i64 td.e, .slice la5 td.l.length lc5, .int .i64 td.s.own, .int .i64 td.s.taken, .int .i64 td.s.dropped, .int .i64 td.s.quota, .int .i64 td.r.addr, .int .i64 td.r.len, .int .i64 td.r.hop, .int .i64 td.r.from_, .bool td.b] 36)) := (Kept.refl _ _).alloc _
          have htd := ToldAt.make w5 td (.slice la5 td.l.length lc5) 36
          have was5 := ((unhide HWAS4).kept hk5 (by omega)).kept hS5 (fun q => q)
          have bo5 := ((unhide HBO4).kept hk5 (by omega)).kept hS5 (fun q => q)
          have z0 := htd.c0
          have zl := htd.lt
          have w0' := was5.c0
          have wl := was5.lt
          have b0 := bo5.c0
          have bl5 := bo5.lt
          have HON5 := hide (hon5.again hS5)
          have qc := quotaCell (unhide HQ) hql (unhide HON5).still ht
          have hqU : sq < (w5.alloc (.cells #[.int .i64 td.e, .slice la5 td.l.length lc5, .int .i64 td.s.own, .int .i64 td.s.taken, .int .i64 td.s.dropped, .int .i64 td.s.quota, .int .i64 td.r.addr, .int .i64 td.r.len, .int .i64 td.r.hop, .int .i64 td.r.from_, .bool td.b] 36)).heap.size := Nat.lt_of_lt_of_le hql (unhide HON5).still.size
          rw [unhide QT] at qc
          clear hrow5 hon5 hk5 hS5 htd was5 bo5 HWAS4 HBO4 HON4 c0 c1 c2 c3 c4 c5 cl
          go_wp2_with fail
          generalize w5.heap.size = s16 at *
          generalize w5.alloc (.cells #[.int .i64 td.e, .slice la5 td.l.length lc5, .int .i64 td.s.own, .int .i64 td.s.taken, .int .i64 td.s.dropped, .int .i64 td.s.quota, .int .i64 td.r.addr, .int .i64 td.r.len, .int .i64 td.r.hop, .int .i64 td.r.from_, .bool td.b] 36) = Z at *
          by_cases hkd : pickF o.kind 8 = 0
          · have he := unhide HSTEP hkd
            cases ob with
            | true =>
              rw [if_neg (by simp)] at he
              rw [he] at z0
              clear he
              go_wp2_with fail
              go_quiet ((go_at_call 11; exact Calls.quiet_of_same (pickK _ _ _ (by omega) (unhide HO).k0 (unhide HO).k1)))
              have HON6 := hide ((unhide HON5).again ((Kept.refl _ Z).drewN nq))
              clear z0 w0' b0 qc hqU zl wl bl5 HON5 hkd HSTEP
              go_wp2
              go_loopw [17, 18, 19] (fun i _ _ w' => ∃ m : Nat, m ≤ 3 ∧ i = .int .i64 m ∧ On V0 w' (oneTag bx) 1 bx r5) (fun i _ _ _ => 3 - (intOf i).toNat)
              case atStart => exact ⟨0, by omega, rfl, unhide HON6⟩
              case round =>
                obtain ⟨m, hm, rfl, hon⟩ := hrel
                have HON7 := hide hon
                clear hon HON6
                by_cases hm3 : m < 3
                · have qc := quotaCell (unhide HQ) hql (unhide HON7).still hm3
                  have hqU : sq < wr.heap.size := Nat.lt_of_lt_of_le hql (unhide HON7).still.size
                  obtain ⟨s', l', m1, m2, m3, hl64', hsq', hs1, hs2, hs3, hs4, hs5, hs6, hs7, hs8⟩ := told_count (unhide HON7).ok (unhide H5) hm3
                  obtain ⟨so', sk', sd', sqt'⟩ := s'
                  clear hs6 hs8
                  simp only at hsq' hs1 hs2 hs4 hs5
                  subst hsq'
                  have HCK := hide (countedK (unhide HON7) hm3 m1 m2 m3 hl64' hs1 hs2 hs3 hs4 hs5 hs7)
                  generalize quota3 3 2 5 m = qm at *
                  have hwm : IntKind.i64.wrap ((m : Int) + 1) = (m : Int) + 1 := wrap_small (by omega) (by omega)
                  have hm0 : (0 : Int) ≤ (m : Int) := by omega
                  have hm3' : (m : Int) < 3 := by omega
                  clear m1 m2 m3 hs1 hs2 hs3 hs4 hs5 hs7
                  go_wp2_with fail
                  refine (unhide HCK).mono ?_
                  rintro en w8 ⟨rfl, hon8, _⟩
                  have HON9 := hide (hon8.again ((Kept.refl _ w8).alloc (.cells #[.int .i64 so', .int .i64 sk', .int .i64 sd', .int .i64 qm] 32)))
                  clear hon8 HCK HON7
                  go_wp2
                  go_roundw
                  case rel => exact ⟨m + 1, by omega, by go_num, unhide HON9⟩
                  case measure => simp [intOf]; omega
                · have hmi : ¬ (m : Int) < 3 := by omega
                  generalize (m : Int) = mi at *
                  go_wp2
                  go_roundw
                  case rel => exact ⟨k + 1, by omega, by go_num, r5, ⟨unhide HON7, unhide H5⟩⟩
                  case measure => simp [intOf]; omega
            | false =>
              by_cases hsoq : so = qt
              · rw [if_pos ⟨rfl, hsoq⟩] at he
                rw [he] at z0
                rw [hsoq] at w0'
                clear he hsoq
                go_wp2_with fail
                go_quiet ((go_at_call 11; exact Calls.quiet_of_same (pickK _ _ _ (by omega) (unhide HO).k0 (unhide HO).k1)))
                have HON6 := hide ((unhide HON5).again ((Kept.refl _ Z).drewN nq))
                clear z0 w0' b0 qc hqU zl wl bl5 HON5 hkd HSTEP
                go_wp2
                go_loopw [17, 18, 19] (fun i _ _ w' => ∃ m : Nat, m ≤ 3 ∧ i = .int .i64 m ∧ On V0 w' (oneTag bx) 1 bx r5) (fun i _ _ _ => 3 - (intOf i).toNat)
                case atStart => exact ⟨0, by omega, rfl, unhide HON6⟩
                case round =>
                  obtain ⟨m, hm, rfl, hon⟩ := hrel
                  have HON7 := hide hon
                  clear hon HON6
                  by_cases hm3 : m < 3
                  · have qc := quotaCell (unhide HQ) hql (unhide HON7).still hm3
                    have hqU : sq < wr.heap.size := Nat.lt_of_lt_of_le hql (unhide HON7).still.size
                    obtain ⟨s', l', m1, m2, m3, hl64', hsq', hs1, hs2, hs3, hs4, hs5, hs6, hs7, hs8⟩ := told_count (unhide HON7).ok (unhide H5) hm3
                    obtain ⟨so', sk', sd', sqt'⟩ := s'
                    clear hs6 hs8
                    simp only at hsq' hs1 hs2 hs4 hs5
                    subst hsq'
                    have HCK := hide (countedK (unhide HON7) hm3 m1 m2 m3 hl64' hs1 hs2 hs3 hs4 hs5 hs7)
                    generalize quota3 3 2 5 m = qm at *
                    have hwm : IntKind.i64.wrap ((m : Int) + 1) = (m : Int) + 1 := wrap_small (by omega) (by omega)
                    have hm0 : (0 : Int) ≤ (m : Int) := by omega
                    have hm3' : (m : Int) < 3 := by omega
                    clear m1 m2 m3 hs1 hs2 hs3 hs4 hs5 hs7
                    go_wp2_with fail
                    refine (unhide HCK).mono ?_
                    rintro en w8 ⟨rfl, hon8, _⟩
                    have HON9 := hide (hon8.again ((Kept.refl _ w8).alloc (.cells #[.int .i64 so', .int .i64 sk', .int .i64 sd', .int .i64 qm] 32)))
                    clear hon8 HCK HON7
                    go_wp2
                    go_roundw
                    case rel => exact ⟨m + 1, by omega, by go_num, unhide HON9⟩
                    case measure => simp [intOf]; omega
                  · have hmi : ¬ (m : Int) < 3 := by omega
                    generalize (m : Int) = mi at *
                    go_wp2
                    go_roundw
                    case rel => exact ⟨k + 1, by omega, by go_num, r5, ⟨unhide HON7, unhide H5⟩⟩
                    case measure => simp [intOf]; omega
              · rw [if_neg (fun q => hsoq q.2)] at he
                rw [he] at z0
                have hsoq' : (so == qt) = false := by simpa using hsoq
                clear he hsoq
                go_wp2_with fail
                go_quiet ((go_at_call 11; exact Calls.quiet_of_same (pickK _ _ _ (by omega) (unhide HO).k0 (unhide HO).k1)))
                have HON6 := hide ((unhide HON5).again ((Kept.refl _ Z).drewN nq))
                clear z0 w0' b0 qc hqU zl wl bl5 HON5 hkd HSTEP
                go_wp2
                go_loopw [17, 18, 19] (fun i _ _ w' => ∃ m : Nat, m ≤ 3 ∧ i = .int .i64 m ∧ On V0 w' (oneTag bx) 1 bx r5) (fun i _ _ _ => 3 - (intOf i).toNat)
                case atStart => exact ⟨0, by omega, rfl, unhide HON6⟩
                case round =>
                  obtain ⟨m, hm, rfl, hon⟩ := hrel
                  have HON7 := hide hon
                  clear hon HON6
                  by_cases hm3 : m < 3
                  · have qc := quotaCell (unhide HQ) hql (unhide HON7).still hm3
                    have hqU : sq < wr.heap.size := Nat.lt_of_lt_of_le hql (unhide HON7).still.size
                    obtain ⟨s', l', m1, m2, m3, hl64', hsq', hs1, hs2, hs3, hs4, hs5, hs6, hs7, hs8⟩ := told_count (unhide HON7).ok (unhide H5) hm3
                    obtain ⟨so', sk', sd', sqt'⟩ := s'
                    clear hs6 hs8
                    simp only at hsq' hs1 hs2 hs4 hs5
                    subst hsq'
                    have HCK := hide (countedK (unhide HON7) hm3 m1 m2 m3 hl64' hs1 hs2 hs3 hs4 hs5 hs7)
                    generalize quota3 3 2 5 m = qm at *
                    have hwm : IntKind.i64.wrap ((m : Int) + 1) = (m : Int) + 1 := wrap_small (by omega) (by omega)
                    have hm0 : (0 : Int) ≤ (m : Int) := by omega
                    have hm3' : (m : Int) < 3 := by omega
                    clear m1 m2 m3 hs1 hs2 hs3 hs4 hs5 hs7
                    go_wp2_with fail
                    refine (unhide HCK).mono ?_
                    rintro en w8 ⟨rfl, hon8, _⟩
                    have HON9 := hide (hon8.again ((Kept.refl _ w8).alloc (.cells #[.int .i64 so', .int .i64 sk', .int .i64 sd', .int .i64 qm] 32)))
                    clear hon8 HCK HON7
                    go_wp2
                    go_roundw
                    case rel => exact ⟨m + 1, by omega, by go_num, unhide HON9⟩
                    case measure => simp [intOf]; omega
                  · have hmi : ¬ (m : Int) < 3 := by omega
                    generalize (m : Int) = mi at *
                    go_wp2
                    go_roundw
                    case rel => exact ⟨k + 1, by omega, by go_num, r5, ⟨unhide HON7, unhide H5⟩⟩
                    case measure => simp [intOf]; omega
          · have hkd' : (pickF o.kind 8 == 0) = false := by simpa using hkd
            go_wp2_with fail
            go_quiet ((go_at_call 11; exact Calls.quiet_of_same (pickK _ _ _ (by omega) (unhide HO).k0 (unhide HO).k1)))
            have HON6 := hide ((unhide HON5).again ((Kept.refl _ Z).drewN nq))
            clear z0 w0' b0 qc hqU zl wl bl5 HON5 hkd HSTEP
            go_wp2
            go_loopw [17, 18, 19] (fun i _ _ w' => ∃ m : Nat, m ≤ 3 ∧ i = .int .i64 m ∧ On V0 w' (oneTag bx) 1 bx r5) (fun i _ _ _ => 3 - (intOf i).toNat)
            case atStart => exact ⟨0, by omega, rfl, unhide HON6⟩
            case round =>
              obtain ⟨m, hm, rfl, hon⟩ := hrel
              have HON7 := hide hon
              clear hon HON6
              by_cases hm3 : m < 3
              · have qc := quotaCell (unhide HQ) hql (unhide HON7).still hm3
                have hqU : sq < wr.heap.size := Nat.lt_of_lt_of_le hql (unhide HON7).still.size
                obtain ⟨s', l', m1, m2, m3, hl64', hsq', hs1, hs2, hs3, hs4, hs5, hs6, hs7, hs8⟩ := told_count (unhide HON7).ok (unhide H5) hm3
                obtain ⟨so', sk', sd', sqt'⟩ := s'
                clear hs6 hs8
                simp only at hsq' hs1 hs2 hs4 hs5
                subst hsq'
                have HCK := hide (countedK (unhide HON7) hm3 m1 m2 m3 hl64' hs1 hs2 hs3 hs4 hs5 hs7)
                generalize quota3 3 2 5 m = qm at *
                have hwm : IntKind.i64.wrap ((m : Int) + 1) = (m : Int) + 1 := wrap_small (by omega) (by omega)
                have hm0 : (0 : Int) ≤ (m : Int) := by omega
                have hm3' : (m : Int) < 3 := by omega
                clear m1 m2 m3 hs1 hs2 hs3 hs4 hs5 hs7
                go_wp2_with fail
                refine (unhide HCK).mono ?_
                rintro en w8 ⟨rfl, hon8, _⟩
                have HON9 := hide (hon8.again ((Kept.refl _ w8).alloc (.cells #[.int .i64 so', .int .i64 sk', .int .i64 sd', .int .i64 qm] 32)))
                clear hon8 HCK HON7
                go_wp2
                go_roundw
                case rel => exact ⟨m + 1, by omega, by go_num, unhide HON9⟩
                case measure => simp [intOf]; omega
              · have hmi : ¬ (m : Int) < 3 := by omega
                generalize (m : Int) = mi at *
                go_wp2
                go_roundw
                case rel => exact ⟨k + 1, by omega, by go_num, r5, ⟨unhide HON7, unhide H5⟩⟩
                case measure => simp [intOf]; omega
    · obtain rfl : k = n := by omega
      obtain ⟨hr, hi⟩ := held_last (unhide HHR).three
      have HON := hide (unhide HHR).on
      obtain ⟨e1, he1⟩ : ∃ e1, removeR r 3 0 0 = e1 := ⟨_, rfl⟩
      obtain ⟨e2, he2⟩ : ∃ e2, insertR (removedR r 3 0 0) 3 0 0 1 = e2 := ⟨_, rfl⟩
      rw [he1] at hr
      rw [he2] at hi
      have E1 := hide he1
      have E2 := hide he2
      clear he1 he2 HHR
      go_wp2_with fail
      refine (on_remove0 (unhide HON) (unhide E1) rfl).mono ?_
      rintro en w2 ⟨rfl, hn2⟩
      obtain ⟨hon2, _⟩ := (unhide HON).stepP hn2
      have HON2 := hide hon2
      clear hn2 hon2 HON
      go_wp2_with fail
      refine (on_insert0 (unhide HON2) (unhide E2) rfl).mono ?_
      rintro en w3 ⟨rfl, hn3⟩
      obtain ⟨hon3, _⟩ := (unhide HON2).stepP hn3
      have HST : Hid (Still w w3) := (unhide HS0).trans hon3.still
      clear hn3 hon3 HON2
      rcases hr with rfl | rfl
      · rcases hi with rfl | rfl
        · go_wp2
          go_ret
          exact ⟨rfl, unhide HST⟩
        · go_wp2
          go_ret
          exact ⟨rfl, unhide HST⟩
      · rcases hi with rfl | rfl
        · go_wp2
          go_ret
          exact ⟨rfl, unhide HST⟩
        · go_wp2
          go_ret
          exact ⟨rfl, unhide HST⟩
end Go.Proofs.Ytgndledehlilkaa
