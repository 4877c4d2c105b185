/-
  Isolated: the walk.
-/
import Derived.Test.YtgndledehlilkaaIso2
namespace Go.Proofs.Ytgndledehlilkaa
open Go.RowKit

theorem tableL_le {r : RefS} (hk : RefOk r) (n : Int) : (tableL r n).length ≤ 64 := by
  unfold tableL
  split
  · rename_i h
    have hl := may_life hk h
    have hq := hk.wf.quota _ hl
    exact (tableR_le hq.1 hq.2 (hk.tab.ownN _ hl)).2
  · simp
theorem told_len {r : RefS} (hk : RefOk r) (n : Int) (o : OpD) (mk : Int) : (playT r n o mk).l.length ≤ 1000000 := by
  have := tableL_le hk n
  unfold playT
  repeat' split
  all_goals first | (show ([] : List RouteD).length ≤ _; simp) | (show (tableL r n).length ≤ _; omega)
theorem begun4 (w : World) :
    Calls Try.prog 10 #[.slice (some ⟨w.heap.size, 0, none⟩) 4 4] (w.alloc (.cells #[.int .i64 6, .int .i64 6, .int .i64 20, .int .i64 9] 3)) fun en w' =>
      ∃ b, en = .returned (.pointer (some ⟨b, 0, none⟩)) ∧ On (w.alloc (.cells #[.int .i64 6, .int .i64 6, .int .i64 20, .int .i64 9] 3)) w' (oneTag b) 1 b (begF [6, 6, 20, 9] 4) := by
  have hcell : ∀ j, j < ([6, 6, 20, 9] : List Int).length → (w.alloc (.cells #[.int .i64 6, .int .i64 6, .int .i64 20, .int .i64 9] 3)).cell? ⟨w.heap.size, j, none⟩ = some (.int .i64 (([6, 6, 20, 9] : List Int).getD j 0)) := by
    intro j hj
    rw [World.cell?_alloc_new]
    have hj' : j < 4 := hj
    have : j = 0 ∨ j = 1 ∨ j = 2 ∨ j = 3 := by omega
    rcases this with rfl | rfl | rfl | rfl <;> rfl
  have hg : w.heap.size < (w.alloc (.cells #[.int .i64 6, .int .i64 6, .int .i64 20, .int .i64 9] 3)).heap.size := by simp
  have hB := begunK (w := w.alloc (.cells #[.int .i64 6, .int .i64 6, .int .i64 20, .int .i64 9] 3)) (g := w.heap.size) (cap := 4) (Q := [6, 6, 20, 9]) (fun _ => (0, 0, 0)) 1 (fun _ _ => by simp) (by
    intro j hj
    have hj' : j < 4 := hj
    have : j = 0 ∨ j = 1 ∨ j = 2 ∨ j = 3 := by omega
    rcases this with rfl | rfl | rfl | rfl <;> decide) (by decide) (by decide) hg hcell
  refine Calls.mono hB ?_
  rintro en w' ⟨b, O', rfl, _, hon⟩
  exact ⟨b, rfl, On.alone hon⟩
/-- The two engines. -/
structure IsoAt (V0 w : World) (bx by_ : Nat) (r s : RefS) : Prop where
  pair : Pair V0 w bx by_ r s
  fr : Four r
  fs : Four s
  same : Same2 r s
theorem Pair.leftK {w0 w w' : World} {b c : Nat} {r s r' : RefS} (h : Pair w0 w b c r s) (hon : On w0 w' (oneTag b) 1 b r') (hk : Kept (· = b) w w') : Pair w0 w' b c r' s := ⟨hon, h.y.past hk h.ne h.x.here, h.ne⟩
theorem Pair.rightK {w0 w w' : World} {b c : Nat} {r s s' : RefS} (h : Pair w0 w b c r s) (hon : On w0 w' (oneTag c) 1 c s') (hk : Kept (· = c) w w') : Pair w0 w' b c r s' := ⟨h.x.past hk (fun e => h.ne e.symm) h.y.here, hon, h.ne⟩
theorem iso_high {r s : RefS} (hr : Four r) (h : Same2 r s) {t : Nat} (h2 : 2 ≤ t) (h4 : t < 4) (o : OpD) : Four (playS r ((t : Int) + 1) o 240) ∧ Same2 (playS r ((t : Int) + 1) o 240) s := by
  have hm := playS_marks r ((t : Int) + 1) o 240
  rw [hr.lifeOf h4] at hm
  exact ⟨hr.play o (.inr ⟨h2, h4, rfl⟩), h.high h2 hm⟩
set_option maxRecDepth 20000 in
set_option maxHeartbeats 16000000 in
theorem isolated_any {w : World} {a : Option Addr} {n cap : Nat} {X : Nat → OpD} (h : OpsIn w a n X) :
    Calls Try.prog 3 #[.slice a n cap] w fun e w' => e = .returned (.bool true) ∧ Still w w' := by
  have HB := hide (begun4 w)
  have hS0 : Still w (w.alloc (.cells #[.int .i64 6, .int .i64 6, .int .i64 20, .int .i64 9] 3)) := (Kept.refl _ _).alloc _
  have HS0 := hide hS0
  have HOPS := hide h
  have hnm := h.most
  clear h hS0
  go_enter Try.func3, Try.ntmps3
  go_wp2_with fail
  refine (unhide HB).mono ?_
  rintro en w1 ⟨bx, rfl, hx⟩
  have HX := hide hx
  clear hx HB
  generalize w.alloc (.cells #[.int .i64 6, .int .i64 6, .int .i64 20, .int .i64 9] 3) = V0 at *
  have HB := hide (begun4 w1)
  have hS1 : Still w1 (w1.alloc (.cells #[.int .i64 6, .int .i64 6, .int .i64 20, .int .i64 9] 3)) := (Kept.refl _ _).alloc _
  have HS1 := hide hS1
  clear hS1
  go_wp2_with fail
  refine (unhide HB).mono ?_
  rintro en w2 ⟨by_, rfl, hy⟩
  have HI : Hid (IsoAt V0 w2 bx by_ (begF [6, 6, 20, 9] 4) (begF [6, 6, 20, 9] 4)) := ⟨pair_start (unhide HX) (unhide HS1) hy, Four.start, Four.start, fun _ _ => rfl⟩
  clear hy HB HX HS1
  generalize begF [6, 6, 20, 9] 4 = r0 at *
  go_wp2
  go_loopw [5, 6, 7, 8, 9, 10, 11, 12, 13] (fun la i _ _ _ _ _ _ _ w' => ∃ k : Nat, k ≤ n ∧ i = .int .i64 k ∧ ∃ lv : Int, la = .int .i64 lv ∧ ∃ r s, IsoAt V0 w' bx by_ r s) (fun _ i _ _ _ _ _ _ _ _ => n - (intOf i).toNat)
  case atStart => exact ⟨0, by omega, rfl, 3, rfl, r0, r0, unhide HI⟩
  case round =>
    obtain ⟨k, hk, rfl, lv, rfl, r, s, hi⟩ := hrel
    have HIR := hide hi
    clear hi HI
    by_cases hkn : k < n
    · obtain ⟨bs, off, rfl, hbs, hX⟩ := (unhide HOPS).at_ (by omega)
      obtain ⟨ho, d0, d1, d2, d3, d4, d5⟩ := hX k hkn
      have hst : Still w wr := (unhide HS0).trans (unhide HIR).pair.x.still
      have x0 := (hst.cell bs _ hbs).trans d0
      have x1 := (hst.cell bs _ hbs).trans d1
      have x2 := (hst.cell bs _ hbs).trans d2
      have x3 := (hst.cell bs _ hbs).trans d3
      have x4 := (hst.cell bs _ hbs).trans d4
      have x5 := (hst.cell bs _ hbs).trans d5
      have hbsw : bs < wr.heap.size := Nat.lt_of_lt_of_le hbs hst.size
      have hk0 : (0 : Int) ≤ (k : Int) := by omega
      have hkl : (k : Int) < (n : Int) := by omega
      generalize X k = o at *
      have hSA : Still wr (wr.alloc (.cells #[.int .i64 o.kind, .int .i64 o.who, .int .i64 o.a, .int .i64 o.b, .int .i64 o.c, .int .i64 o.d] 27)) := (Kept.refl _ _).alloc _
      have hbo := BoxO.new wr o 27
      have HBO := hide hbo
      have HP := hide ((unhide HIR).pair.again hSA)
      have HFR := hide (unhide HIR).fr
      have HFS := hide (unhide HIR).fs
      have HSM := hide (unhide HIR).same
      have HO := hide ho
      have hbl : bx < wr.heap.size := (unhide HIR).pair.x.lt
      have hyl : by_ < wr.heap.size := (unhide HIR).pair.y.lt
      have hwr := pickF_range o.who (n := 4) (by omega)
      obtain ⟨t, hpt⟩ : ∃ t : Nat, pickF o.who 4 = (t : Int) := ⟨(pickF o.who 4).toNat, by omega⟩
      have ht : t < 4 := by omega
      have HPT := hide hpt
      have b0 := hbo.c0
      have b1 := hbo.c1
      have b2 := hbo.c2
      have b3 := hbo.c3
      have b4 := hbo.c4
      have b5 := hbo.c5
      have bl := hbo.lt
      clear hX ho d0 d1 d2 d3 d4 d5 hst hSA hbo HIR hwr hpt
      go_wp2_with fail
      generalize hso : wr.heap.size = s7 at *
      generalize wr.alloc (.cells #[.int .i64 o.kind, .int .i64 o.who, .int .i64 o.a, .int .i64 o.b, .int .i64 o.c, .int .i64 o.d] 27) = U at *
      refine (pickK _ _ _ (by omega) (unhide HO).w0 (unhide HO).w1).mono ?_
      rintro en w' ⟨rfl, hw⟩
      replace hw := hw.symm
      subst hw
      rw [unhide HPT]
      have hwt : IntKind.i64.wrap ((t : Int) + 1) = (t : Int) + 1 := wrap_small (by omega) (by omega)
      clear x0 x1 x2 x3 x4 x5
      by_cases ht2 : t < 2
      · have hd : decide ((t : Int) < 2) = true := decide_eq_true (by omega)
        have HT := hide (iso_told (unhide HFR) (unhide HFS) (unhide HSM) (unhide HP).x.ok (unhide HP).y.ok ht2 o 15)
        have HTL := hide (told_len (unhide HP).x.ok ((t : Int) + 1) o 15)
        have HF1 := hide ((unhide HFR).play (t := t) o (mk := 15) (.inl ⟨ht2, rfl⟩))
        have HF2 := hide ((unhide HFS).play (t := t) o (mk := 15) (.inl ⟨ht2, rfl⟩))
        have HS2 := hide (iso_play (unhide HFR) (unhide HFS) (unhide HSM) ht2 o 15)
        go_wp2_with fail
        refine (playK (unhide HP).x o (unhide HO) ((t : Int) + 1) 15).mono ?_
        intro en w3 hp3
        obtain ⟨la3, lc3, rfl, hrow3, hon3, hk3⟩ := hp3
        rw [toldArr2]
        generalize htd : playT r ((t : Int) + 1) o 15 = td at *
        generalize playS r ((t : Int) + 1) o 15 = r3 at *
        have hS3 : Still w3 (w3.alloc (.cells #[.int .i64 td.e, .slice la3 td.l.length lc3, .int .i64 td.s.own, .int .i64 td.s.taken, .int .i64 td.s.dropped, .int .i64 td.s.quota, .int .i64 td.r.addr, .int .i64 td.r.len, .int .i64 td.r.hop, .int .i64 td.r.from_, .bool td.b] 36)) := (Kept.refl _ _).alloc _
        have ht3 := ToldAt.make2 w3 td (.slice la3 td.l.length lc3) 36
        have hbo3 := ((unhide HBO).kept hk3 (by omega)).kept hS3 (fun q => q)
        have HP3 := hide (((unhide HP).leftK hon3 hk3).again hS3)
        have HR3 := hide (kept_row hrow3 hS3 (fun _ _ q => q))
        have HT3 := hide ht3
        have HBO3 := hide hbo3
        have hx3 : bx < w3.heap.size := hon3.lt
        have hy3 : by_ < w3.heap.size := Nat.lt_of_lt_of_le (by have := (unhide HP).y.lt; exact this) hk3.size
        have e0 := hbo3.c0
        have e1 := hbo3.c1
        have e2 := hbo3.c2
        have e3 := hbo3.c3
        have e4 := hbo3.c4
        have e5 := hbo3.c5
        have el := hbo3.lt
        have hUs : by_ < U.heap.size := (unhide HP).y.lt
        clear hrow3 hon3 hk3 hS3 ht3 hbo3 HBO HP b0 b1 b2 b3 b4 b5 bl htd
        go_wp2_with fail
        generalize hs9 : w3.heap.size = s9 at *
        generalize w3.alloc (.cells #[.int .i64 td.e, .slice la3 td.l.length lc3, .int .i64 td.s.own, .int .i64 td.s.taken, .int .i64 td.s.dropped, .int .i64 td.s.quota, .int .i64 td.r.addr, .int .i64 td.r.len, .int .i64 td.r.hop, .int .i64 td.r.from_, .bool td.b] 36) = W3 at *
        refine (playK (unhide HP3).y o (unhide HO) ((t : Int) + 1) 15).mono ?_
        intro en w4 hp4
        obtain ⟨la4, lc4, rfl, hrow4, hon4, hk4⟩ := hp4
        have hte := unhide HT
        rw [← hte] at hrow4 ⊢
        rw [toldArr2]
        generalize playS s ((t : Int) + 1) o 15 = s4 at *
        have hS4 : Still w4 (w4.alloc (.cells #[.int .i64 td.e, .slice la4 td.l.length lc4, .int .i64 td.s.own, .int .i64 td.s.taken, .int .i64 td.s.dropped, .int .i64 td.s.quota, .int .i64 td.r.addr, .int .i64 td.r.len, .int .i64 td.r.hop, .int .i64 td.r.from_, .bool td.b] 36)) := (Kept.refl _ _).alloc _
        have ht4 := ToldAt.make2 w4 td (.slice la4 td.l.length lc4) 36
        have ht3 := ((unhide HT3).kept hk4 (by omega)).kept hS4 (fun q => q)
        have HR3b := hide (kept_row (kept_row (unhide HR3) hk4 (fun g hg => by have := ((unhide HR3).lt g hg).1; omega)) hS4 (fun _ _ q => q))
        have HR4 := hide (kept_row hrow4 hS4 (fun _ _ q => q))
        have HP4 := hide (((unhide HP3).rightK hon4 hk4).again hS4)
        have hs9l : s9 < w4.heap.size := ((unhide HT3).kept hk4 (by omega)).lt
        have hs9n : s9 ≠ w4.heap.size := by omega
        have a0 := ht3.c0
        have a1 := ht3.c1
        have a2 := ht3.c2
        have a3 := ht3.c3
        have a4 := ht3.c4
        have a5 := ht3.c5
        have a6 := ht3.c6
        have a7 := ht3.c7
        have a8 := ht3.c8
        have a9 := ht3.c9
        have a10 := ht3.c10
        have al := ht3.lt
        have f0 := ht4.c0
        have f1 := ht4.c1
        have f2 := ht4.c2
        have f3 := ht4.c3
        have f4 := ht4.c4
        have f5 := ht4.c5
        have f6 := ht4.c6
        have f7 := ht4.c7
        have f8 := ht4.c8
        have f9 := ht4.c9
        have f10 := ht4.c10
        have fl := ht4.lt
        clear hrow4 hon4 hk4 hS4 ht4 ht3 HT3 HR3 HP3 HBO3 e0 e1 e2 e3 e4 e5 el hte
        go_wp2_with fail
        generalize w4.heap.size = s10 at *
        generalize w4.alloc (.cells #[.int .i64 td.e, .slice la4 td.l.length lc4, .int .i64 td.s.own, .int .i64 td.s.taken, .int .i64 td.s.dropped, .int .i64 td.s.quota, .int .i64 td.r.addr, .int .i64 td.r.len, .int .i64 td.r.hop, .int .i64 td.r.from_, .bool td.b] 36) = W4 at *
        refine (sameK td (unhide HR3b) (unhide HR4) (unhide HTL)).mono ?_
        rintro en w5 ⟨rfl, hs5⟩
        have HI5 : Hid (IsoAt V0 w5 bx by_ r3 s4) := ⟨(unhide HP4).again hs5, unhide HF1, unhide HF2, unhide HS2⟩
        clear hs5 HP4 HR3b HR4 a0 a1 a2 a3 a4 a5 a6 a7 a8 a9 a10 al f0 f1 f2 f3 f4 f5 f6 f7 f8 f9 f10 fl
        go_wp2
        go_roundw
        case rel => exact ⟨k + 1, by omega, by go_num, lv, rfl, r3, s4, unhide HI5⟩
        case measure => simp [intOf]; omega
      · have hd : decide ((t : Int) < 2) = false := decide_eq_false (by omega)
        have hlt2 : ¬ (t : Int) < 2 := by omega
        by_cases h7 : bits .and .i64 o.d 7 = 7
        · have h7' : (bits .and .i64 o.d 7 == 7) = true := by simpa using h7
          have h6' : (bits .and .i64 o.d 7 == 6) = false := by rw [h7]; rfl
          obtain ⟨c, hc⟩ : ∃ c, deriveR r ((t : Int) + 1) (pickF o.a 16) = c := ⟨_, rfl⟩
          obtain ⟨av, hav⟩ : ∃ av, deriveA r ((t : Int) + 1) (pickF o.a 16) = av := ⟨_, rfl⟩
          obtain ⟨r2, hr2⟩ : ∃ r2, derivedR r ((t : Int) + 1) (pickF o.a 16) = r2 := ⟨_, rfl⟩
          obtain ⟨hf2, hl2⟩ := (unhide HFR).derived ((t : Int) + 1) (pickF o.a 16)
          rw [hr2] at hf2 hl2
          have HF2 := hide hf2
          have HSM2 := hide ((unhide HSM).life hl2)
          have HC := hide hc
          have HAV := hide hav
          have HR2 := hide hr2
          clear hc hav hr2 hf2 hl2 h7
          go_wp2_with fail
          refine (pickK _ _ _ (by omega) (unhide HO).a0 (unhide HO).a1).mono ?_
          rintro en w' ⟨rfl, hw⟩
          replace hw := hw.symm
          subst hw
          go_wp2_with fail
          refine (on_derive0 (unhide HP).x (unhide HC) (unhide HAV) (unhide HR2)).mono ?_
          rintro en w3 ⟨rfl, hn3⟩
          obtain ⟨hp3, hk3⟩ := (unhide HP).left hn3
          have HP3 := hide hp3
          have HBO3 := hide ((unhide HBO).kept hk3 (by omega))
          have b5' := ((unhide HBO).kept hk3 (by omega)).c5
          have bl' := ((unhide HBO).kept hk3 (by omega)).lt
          clear hn3 hp3 hk3 b0 b1 b2 b3 b4 b5 bl HP HBO
          by_cases hc0 : c = 0
          · subst hc0
            have hbp := unhide HBO3
            have e0 := hbp.c0
            have e1 := hbp.c1
            have e2 := hbp.c2
            have e3 := hbp.c3
            have e4 := hbp.c4
            have e5 := hbp.c5
            have el := hbp.lt
            clear hbp
            have HIH := hide (iso_high (unhide HF2) (unhide HSM2) (show 2 ≤ t by omega) ht o)
            go_wp2_with fail
            refine (playK (unhide HP3).x o (unhide HO) ((t : Int) + 1) 240).mono ?_
            intro en w9 hp9
            obtain ⟨la9, lc9, rfl, _, hon9, hk9⟩ := hp9
            have HI9 : Hid (IsoAt V0 w9 bx by_ (playS r2 ((t : Int) + 1) o 240) s) := ⟨(unhide HP3).leftK hon9 hk9, (unhide HIH).1, unhide HFS, (unhide HIH).2⟩
            clear hon9 hk9 e0 e1 e2 e3 e4 e5 el
            generalize playS r2 ((t : Int) + 1) o 240 = r9 at *
            go_wp2
            go_roundw
            case rel => exact ⟨k + 1, by omega, by go_num, av, rfl, r9, s, unhide HI9⟩
            case measure => simp [intOf]; omega
          · have hc0' : (c == 0) = false := by simpa using hc0
            have hbp := unhide HBO3
            have e0 := hbp.c0
            have e1 := hbp.c1
            have e2 := hbp.c2
            have e3 := hbp.c3
            have e4 := hbp.c4
            have e5 := hbp.c5
            have el := hbp.lt
            clear hbp
            have HIH := hide (iso_high (unhide HF2) (unhide HSM2) (show 2 ≤ t by omega) ht o)
            go_wp2_with fail
            refine (playK (unhide HP3).x o (unhide HO) ((t : Int) + 1) 240).mono ?_
            intro en w9 hp9
            obtain ⟨la9, lc9, rfl, _, hon9, hk9⟩ := hp9
            have HI9 : Hid (IsoAt V0 w9 bx by_ (playS r2 ((t : Int) + 1) o 240) s) := ⟨(unhide HP3).leftK hon9 hk9, (unhide HIH).1, unhide HFS, (unhide HIH).2⟩
            clear hon9 hk9 e0 e1 e2 e3 e4 e5 el
            generalize playS r2 ((t : Int) + 1) o 240 = r9 at *
            go_wp2
            go_roundw
            case rel => exact ⟨k + 1, by omega, by go_num, lv, rfl, r9, s, unhide HI9⟩
            case measure => simp [intOf]; omega
        · have h7' : (bits .and .i64 o.d 7 == 7) = false := by simpa using h7
          by_cases h6 : bits .and .i64 o.d 7 = 6
          · have h6' : (bits .and .i64 o.d 7 == 6) = true := by simpa using h6
            obtain ⟨c, hc⟩ : ∃ c, revokeR r ((t : Int) + 1) lv = c := ⟨_, rfl⟩
            obtain ⟨r2, hr2⟩ : ∃ r2, revokedR r ((t : Int) + 1) lv = r2 := ⟨_, rfl⟩
            obtain ⟨hf2, hl2⟩ := (unhide HFR).revoked ((t : Int) + 1) lv
            rw [hr2] at hf2 hl2
            have HF2 := hide hf2
            have HSM2 := hide ((unhide HSM).life hl2)
            have HC := hide hc
            have HR2 := hide hr2
            clear hc hr2 hf2 hl2 h7 h6
            go_wp2_with fail
            refine (on_revoke0 (unhide HP).x (unhide HC) (unhide HR2)).mono ?_
            rintro en w3 ⟨rfl, hn3⟩
            obtain ⟨hp3, hk3⟩ := (unhide HP).left hn3
            have HP3 := hide hp3
            have HBO3 := hide ((unhide HBO).kept hk3 (by omega))
            clear hn3 hp3 hk3 b0 b1 b2 b3 b4 b5 bl HP HBO
            have hbp := unhide HBO3
            have e0 := hbp.c0
            have e1 := hbp.c1
            have e2 := hbp.c2
            have e3 := hbp.c3
            have e4 := hbp.c4
            have e5 := hbp.c5
            have el := hbp.lt
            clear hbp
            have HIH := hide (iso_high (unhide HF2) (unhide HSM2) (show 2 ≤ t by omega) ht o)
            go_wp2_with fail
            refine (playK (unhide HP3).x o (unhide HO) ((t : Int) + 1) 240).mono ?_
            intro en w9 hp9
            obtain ⟨la9, lc9, rfl, _, hon9, hk9⟩ := hp9
            have HI9 : Hid (IsoAt V0 w9 bx by_ (playS r2 ((t : Int) + 1) o 240) s) := ⟨(unhide HP3).leftK hon9 hk9, (unhide HIH).1, unhide HFS, (unhide HIH).2⟩
            clear hon9 hk9 e0 e1 e2 e3 e4 e5 el
            generalize playS r2 ((t : Int) + 1) o 240 = r9 at *
            go_wp2
            go_roundw
            case rel => exact ⟨k + 1, by omega, by go_num, lv, rfl, r9, s, unhide HI9⟩
            case measure => simp [intOf]; omega
          · have h6' : (bits .and .i64 o.d 7 == 6) = false := by simpa using h6
            clear h7 h6 b0 b1 b2 b3 b4 b5 bl
            have hbp := unhide HBO
            have e0 := hbp.c0
            have e1 := hbp.c1
            have e2 := hbp.c2
            have e3 := hbp.c3
            have e4 := hbp.c4
            have e5 := hbp.c5
            have el := hbp.lt
            clear hbp
            have HIH := hide (iso_high (unhide HFR) (unhide HSM) (show 2 ≤ t by omega) ht o)
            go_wp2_with fail
            refine (playK (unhide HP).x o (unhide HO) ((t : Int) + 1) 240).mono ?_
            intro en w9 hp9
            obtain ⟨la9, lc9, rfl, _, hon9, hk9⟩ := hp9
            have HI9 : Hid (IsoAt V0 w9 bx by_ (playS r ((t : Int) + 1) o 240) s) := ⟨(unhide HP).leftK hon9 hk9, (unhide HIH).1, unhide HFS, (unhide HIH).2⟩
            clear hon9 hk9 e0 e1 e2 e3 e4 e5 el
            generalize playS r ((t : Int) + 1) o 240 = r9 at *
            go_wp2
            go_roundw
            case rel => exact ⟨k + 1, by omega, by go_num, lv, rfl, r9, s, unhide HI9⟩
            case measure => simp [intOf]; omega
    · obtain rfl : k = n := by omega
      obtain ⟨m1, m2, m3, m4, m5, m6⟩ := iso_end (unhide HIR).fr (unhide HIR).fs (unhide HIR).same (unhide HIR).pair.x.ok (unhide HIR).pair.y.ok
      have HP := hide (unhide HIR).pair
      generalize htb : tableL r 1 = tb at *
      generalize hcs : countF r 1 = cs at *
      obtain ⟨so, sk, sd, sq⟩ := cs
      simp only at m4 m5
      subst m4
      have M1 := hide m1
      have M2 := hide m2
      have M3 := hide m3
      have TB := hide htb
      have CS := hide hcs
      have hws : IntKind.i64.wrap (so + sk) = (tb.length : Int) := by rw [← m5]; exact wrap_small (by omega) (by omega)
      clear m1 m2 m3 m5 htb hcs HIR
      go_wp2_with fail
      refine ((unhide HP).table (unhide M1) (unhide TB)).mono ?_
      rintro en w3 ⟨ta, tc, rfl, hr3, hp3, hk3⟩
      have HP3 := hide hp3
      have HR3 := hide hr3
      have hx3 : bx < wr.heap.size := (unhide HP).x.lt
      have hy3 : by_ < wr.heap.size := (unhide HP).y.lt
      obtain ⟨_, _, _, ht1, ht2⟩ := ownsRow_slice hr3
      clear hr3 hp3 hk3 HP
      go_wp2_with fail
      refine ((unhide HP3).table2 (unhide M2) (unhide M3)).mono ?_
      rintro en w4 ⟨ua, uc, rfl, hr4, hp4, hk4⟩
      have HP4 := hide hp4
      have HR4 := hide hr4
      have HR3b := hide (kept_row (unhide HR3) hk4 (fun g hg => by have := ((unhide HR3).lt g hg).1; omega))
      have hx4 : bx < w3.heap.size := (unhide HP3).x.lt
      clear hr4 hp4 hk4 HP3 HR3
      go_wp2_with fail
      refine (on_count0 (unhide HP4).x (unhide M1) (unhide CS)).mono ?_
      rintro en w5 ⟨rfl, hn5⟩
      obtain ⟨hp5, hk5⟩ := (unhide HP4).left hn5
      have hS5 : Still w5 (w5.alloc (.cells #[.int .i64 so, .int .i64 sk, .int .i64 sd, .int .i64 6] 32)) := (Kept.refl _ _).alloc _
      have hbx : BoxX (w5.alloc (.cells #[.int .i64 so, .int .i64 sk, .int .i64 sd, .int .i64 6] 32)) w5.heap.size ⟨so, sk, sd, 6⟩ := BoxX.new w5 ⟨so, sk, sd, 6⟩ 32
      have HB5 := hide hbx
      have HP5 := hide (hp5.again hS5)
      have HR3c := hide (kept_row (kept_row (unhide HR3b) hk5 (fun g hg => by have := ((unhide HR3b).lt g hg).1; omega)) hS5 (fun _ _ q => q))
      have HR4c := hide (kept_row (kept_row (unhide HR4) hk5 (fun g hg => by have := ((unhide HR4).lt g hg).1; omega)) hS5 (fun _ _ q => q))
      clear hn5 hp5 hk5 hS5 hbx HP4 HR3b HR4
      go_wp2_with fail
      generalize w5.heap.size = s5 at *
      generalize w5.alloc (.cells #[.int .i64 so, .int .i64 sk, .int .i64 sd, .int .i64 6] 32) = W5 at *
      refine (alikeK (unhide HR3c) (unhide HR4c) (by omega)).mono ?_
      rintro en w6 ⟨rfl, hs6⟩
      have hb6 := (unhide HB5).kept hs6 (fun q => q)
      have p0 := hb6.c0
      have p1 := hb6.c1
      have p3 := hb6.c3
      have pl := hb6.lt
      simp only at p0 p1 p3
      have HST : Hid (Still w w6) := (unhide HS0).trans ((unhide HP5).x.still.trans hs6)
      clear hb6 hs6 HB5 HP5 HR3c HR4c
      go_wp2
      go_ret
      exact ⟨rfl, unhide HST⟩
end Go.Proofs.Ytgndledehlilkaa
