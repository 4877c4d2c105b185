/-
  Walks: districtref: next (its walk).
-/
import Derived.Test.YtgndledehlilkaaGreatPure
import Derived.Test.YtgndledehlilkaaGreatRefT5
namespace Go.Proofs.YtgndledehlilkaaGreat
open Go.RowKit
theorem Kept.setAt4 {a w : World} {b : Nat} (h : Kept (· = b) a w) (u0 u1 u2 u3 : Value) : Kept (· = b) a ((((w.setCell ⟨b, 0, none⟩ u0).setCell ⟨b, 1, none⟩ u1).setCell ⟨b, 2, none⟩ u2).setCell ⟨b, 3, none⟩ u3) :=
  Kept.setCell (Kept.setCell (Kept.setCell (Kept.setCell h (p := ⟨b, 0, none⟩) (.inl rfl) u0) (p := ⟨b, 1, none⟩) (.inl rfl) u1) (p := ⟨b, 2, none⟩) (.inl rfl) u2) (p := ⟨b, 3, none⟩) (.inl rfl) u3
set_option maxRecDepth 100000 in
set_option maxHeartbeats 8000000 in
theorem next_any {w : World} {O : Nat → Nat × Nat × Nat} {e b : Nat} {r : RefS} (h : RefRep w O e b r) (hf : RefWf r) (htb : RefTab r) (t : Nat) (ht : t < r.nl) (last : RouteD) (an : Bool) :
    Calls Tryz.prog 126 #[.pointer (some ⟨b, 0, none⟩), .int .i64 t, .agg #[.int .i64 last.addr, .int .i64 last.len, .int .i64 last.hop, .int .i64 last.from_], .bool an] w fun en w' => en = .returned (.tuple #[.agg #[.int .i64 (nxAll r t last an r.nl).1.addr, .int .i64 (nxAll r t last an r.nl).1.len, .int .i64 (nxAll r t last an r.nl).1.hop, .int .i64 (nxAll r t last an r.nl).1.from_], .bool (nxAll r t last an r.nl).2]) ∧ Still w w' := by
  obtain ⟨lv, tv, ov, rv, ln, h⟩ := h
  obtain ⟨al, cap, rfl, h1, h2, h3⟩ := h.livesAt
  unfold maxLen at h2
  have hn := hf.nt
  have hl := hf.nl
  have bl := h.lt
  have HT := hide h
  have H3 := hide h3
  have HF := hide hf
  have HTB := hide htb
  clear h h3 hf htb
  go_enter Tryz.func126, Tryz.ntmps126
  go_wp2
  have hW0 : Still w (((w.alloc (.cells #[.int .i64 last.addr, .int .i64 last.len, .int .i64 last.hop, .int .i64 last.from_] 50)).alloc (.cells #[.int .i64 0, .int .i64 0, .int .i64 0, .int .i64 0] 50)).alloc (.cells #[.int .i64 0, .int .i64 0, .int .i64 0, .int .i64 0] 50)) := (((Kept.refl _ _).alloc _).alloc _).alloc _
  have b0 : Box4 (((w.alloc (.cells #[.int .i64 last.addr, .int .i64 last.len, .int .i64 last.hop, .int .i64 last.from_] 50)).alloc (.cells #[.int .i64 0, .int .i64 0, .int .i64 0, .int .i64 0] 50)).alloc (.cells #[.int .i64 0, .int .i64 0, .int .i64 0, .int .i64 0] 50)) w.heap.size last := (Box4.new w last _).still (((Kept.refl _ _).alloc _).alloc _)
  have b1 : Box4 (((w.alloc (.cells #[.int .i64 last.addr, .int .i64 last.len, .int .i64 last.hop, .int .i64 last.from_] 50)).alloc (.cells #[.int .i64 0, .int .i64 0, .int .i64 0, .int .i64 0] 50)).alloc (.cells #[.int .i64 0, .int .i64 0, .int .i64 0, .int .i64 0] 50)) (w.heap.size + 1) rt0 := by
    have := Box4.new (w.alloc (.cells #[.int .i64 last.addr, .int .i64 last.len, .int .i64 last.hop, .int .i64 last.from_] 50)) rt0 50
    rw [World.size_alloc] at this
    exact this.still ((Kept.refl _ _).alloc _)
  have b2 : Box4 (((w.alloc (.cells #[.int .i64 last.addr, .int .i64 last.len, .int .i64 last.hop, .int .i64 last.from_] 50)).alloc (.cells #[.int .i64 0, .int .i64 0, .int .i64 0, .int .i64 0] 50)).alloc (.cells #[.int .i64 0, .int .i64 0, .int .i64 0, .int .i64 0] 50)) (w.heap.size + 1 + 1) rt0 := by
    have := Box4.new ((w.alloc (.cells #[.int .i64 last.addr, .int .i64 last.len, .int .i64 last.hop, .int .i64 last.from_] 50)).alloc (.cells #[.int .i64 0, .int .i64 0, .int .i64 0, .int .i64 0] 50)) rt0 50
    rwa [World.size_alloc, World.size_alloc] at this
  generalize (((w.alloc (.cells #[.int .i64 last.addr, .int .i64 last.len, .int .i64 last.hop, .int .i64 last.from_] 50)).alloc (.cells #[.int .i64 0, .int .i64 0, .int .i64 0, .int .i64 0] 50)).alloc (.cells #[.int .i64 0, .int .i64 0, .int .i64 0, .int .i64 0] 50)) = W at *
  have hs1 : w.heap.size < w.heap.size + 1 := by omega
  have hs2 : w.heap.size + 1 < w.heap.size + 1 + 1 := by omega
  generalize w.heap.size + 1 + 1 = s2 at *
  generalize w.heap.size + 1 = s1 at *
  have hsw : w.heap.size ≤ w.heap.size := Nat.le_refl _
  generalize hs0 : w.heap.size = s0 at hs1 hsw b0 ⊢
  have Hs0 := hide hs0
  clear hs0 hsw
  have HW0 := hide hW0
  have B0 := hide b0
  have B1 := hide b1
  have B2 := hide b2
  clear hW0 b0 b1 b2
  have HK : Hid (∀ w', Kept (· = s2) W w' → RefAt w' O e b r (.slice al r.nl cap) tv ov rv ln) := fun w' hk => (unhide HT).frame (fun k hk' _ _ => by
    have hz := (unhide HW0).size
    have h0 := unhide Hs0
    rw [hk.block k (by omega) (by show ¬ k = s2; omega), (unhide HW0).heap hk']) (fun _ _ => rfl)
  go_loopw [11, 12] (fun f i w' => ∃ u : Nat, u ≤ r.nl ∧ i = .int .i64 u ∧ f = .bool (nxAll r t last an u).2 ∧ Box4 w' s2 (nxAll r t last an u).1 ∧ Kept (· = s2) W w') (fun _ i _ => r.nl - (intOf i).toNat)
  case atStart => exact ⟨0, Nat.zero_le _, rfl, rfl, unhide B2, Kept.refl _ _⟩
  case round =>
    obtain ⟨u, hu, rfl, rfl, hb2, hk2⟩ := hrel
    have BB := hide hb2
    have KK := hide hk2
    have hra := unhide HK _ hk2
    obtain ⟨_, c1, _, _⟩ := hra.cells
    clear hb2 hk2
    by_cases hlt : u < r.nl
    · obtain ⟨g, rfl⟩ := unhide H3 u hlt
      have t4 : wr.cell? ⟨g, u * 7 + 4, none⟩ = some (ov u) := hra.lifeCell hlt 4 (by omega)
      obtain ⟨oa, oc, oe, ol1, ol2⟩ := ownsRow_slice (hra.owns u hlt)
      rw [oe] at t4
      have OE := hide oe
      unfold maxLen at ol2
      have hu0 : (0 : Int) ≤ (u : Int) := by omega
      have hu1 : (u : Int) < (r.nl : Int) := by omega
      clear hra oe
      go_wp2
      go_loopw [11, 13] (fun f i w' => ∃ k : Nat, k ≤ (r.life u).own.length ∧ i = .int .i64 k ∧ f = .bool (nxTo r t last an u k).2 ∧ Box4 w' s2 (nxTo r t last an u k).1 ∧ Kept (· = s2) W w') (fun _ i _ => (r.life u).own.length - (intOf i).toNat)
      case atStart => exact ⟨0, Nat.zero_le _, rfl, by rw [nxTo_zero], by rw [nxTo_zero]; exact unhide BB, unhide KK⟩
      case round =>
        obtain ⟨k, hk, rfl, rfl, hb2, hk2⟩ := hrel
        have BB2 := hide hb2
        have KK2 := hide hk2
        have hra := unhide HK _ hk2
        obtain ⟨_, c1x, _, _⟩ := hra.cells
        have t4x : wr.cell? ⟨g, u * 7 + 4, none⟩ = some (ov u) := hra.lifeCell hlt 4 (by omega)
        rw [unhide OE] at t4x
        have hro := hra.owns u hlt
        rw [unhide OE] at hro
        clear hb2 hk2 c1 t4 hra
        by_cases hkl : k < (r.life u).own.length
        · obtain ⟨go, rfl, hgo⟩ := ownsRow_some hro (by omega)
          obtain ⟨r0, r1, r2, r3⟩ := routeCell hro rfl hkl
          have hsu := hide (nxTo_succ r t last an u hkl)
          have hokx := (unhide HTB).own u hlt ((r.life u).own.getD k rt0) (by simp [List.getD_eq_getElem?_getD, hkl])
          have HOK := hide hokx
          have hk0 : (0 : Int) ≤ (k : Int) := by omega
          have hk1 : (k : Int) < ((r.life u).own.length : Int) := by omega
          clear hro hokx
          generalize (r.life u).own.getD k rt0 = x at *
          generalize nxTo r t last an u k = st at *
          go_wp2_with fail
          have hst1 : Still wr (wr.alloc (.cells #[.int .i64 x.addr, .int .i64 x.len, .int .i64 x.hop, .int .i64 x.from_] 50)) := (Kept.refl _ _).alloc _
          have hbr := Box4.new wr x 50
          refine (offer_any ⟨_, _, _, _, _, (unhide HK _ (unhide KK2)).still hst1⟩ (unhide HF) (unhide HTB) t u ht hlt x (unhide HOK)).mono ?_
          rintro en w3 ⟨rfl, hs3⟩
          have hst3 : Still wr w3 := Kept.trans hst1 hs3
          have BL : Hid (Box4 w3 s0 last) := ((unhide B0).kept (unhide KK2) (by show ¬ s0 = s2; omega)).still hst3
          have BR : Hid (Box4 w3 wr.heap.size x) := hbr.still hs3
          have BS : Hid (Box4 w3 s2 st.1) := (unhide BB2).still hst3
          have KW : Hid (Kept (· = s2) W w3) := Kept.trans (unhide KK2) (Still.kept hst3 _)
          have hsr : s2 < wr.heap.size := (unhide BB2).lt
          have l0 := (unhide BL).c0
          have l1 := (unhide BL).c1
          have l2 := (unhide BL).c2
          have l3 := (unhide BL).c3
          have x0 := (unhide BR).c0
          have x1 := (unhide BR).c1
          have x2 := (unhide BR).c2
          have x3 := (unhide BR).c3
          clear hst1 hbr hs3 hst3 r0 r1 r2 r3 c1x t4x BB2 KK2
          generalize wr.heap.size = sr at *
          generalize hok : offerB r t u x = ok at *
          have HOF := hide hok
          clear hok
          go_wp2_with fail
          refine (less_any last x _).mono ?_
          rintro en w4 ⟨rfl, hs4⟩
          have BR4 : Hid (Box4 w4 sr x) := (unhide BR).still hs4
          have BS4 : Hid (Box4 w4 s2 st.1) := (unhide BS).still hs4
          have KW4 : Hid (Kept (· = s2) W w4) := Kept.trans (unhide KW) (Still.kept hs4 _)
          have x0' := (unhide BR4).c0
          have x1' := (unhide BR4).c1
          have x2' := (unhide BR4).c2
          have x3' := (unhide BR4).c3
          have q0' := (unhide BS4).c0
          have q1' := (unhide BS4).c1
          have q2' := (unhide BS4).c2
          have q3' := (unhide BS4).c3
          clear hs4 BR BS KW l0 l1 l2 l3 x0 x1 x2 x3 BL
          generalize hbe : lessB last x = be at *
          have HBE := hide hbe
          clear hbe
          by_cases hskip : ok = false ∨ (an = false ∧ be = false)
          · have hnx : nx r t last an u st x = st := by
              rcases hskip with hh | ⟨hh, hh2⟩
              · exact wanted_no1 (by rw [unhide HOF]; exact hh)
              · exact wanted_no2 hh (by rw [unhide HBE]; exact hh2)
            have HNX := hide hnx
            clear hnx
            cases ok
            case false =>
              clear hskip
              go_wp2
              go_roundw
              case rel => exact ⟨k + 1, by omega, by go_num, by rw [unhide hsu, unhide HNX], by rw [unhide hsu, unhide HNX]; exact unhide BS4, unhide KW4⟩
              case measure => simp [intOf]; omega
            case true =>
              obtain ⟨ha, hb⟩ : an = false ∧ be = false := by simpa using hskip
              subst ha hb
              clear hskip
              go_wp2
              go_roundw
              case rel => exact ⟨k + 1, by omega, by go_num, by rw [unhide hsu, unhide HNX], by rw [unhide hsu, unhide HNX]; exact unhide BS4, unhide KW4⟩
              case measure => simp [intOf]; omega
          · have hok : ok = true := by
              cases ok
              · exact absurd (.inl rfl) hskip
              · rfl
            subst hok
            have hab : an = true ∨ be = true := by
              cases an
              · cases be
                · exact absurd (.inr ⟨rfl, rfl⟩) hskip
                · exact .inr rfl
              · exact .inl rfl
            have hnx := wanted_yes (st := st) (unhide HOF) (by rw [unhide HBE]; exact hab)
            have HNX := hide hnx
            clear hnx hskip
            generalize hfo : st.2 = fo at *
            have HFO := hide hfo
            clear hfo
            cases an
            all_goals cases be
            case false.false => simp at hab
            all_goals
              clear hab
              go_wp2_with fail
              refine (less_any x st.1 _).mono ?_
              rintro en w5 ⟨rfl, hs5⟩
              have BR5 : Hid (Box4 w5 sr x) := (unhide BR4).still hs5
              have BS5 : Hid (Box4 w5 s2 st.1) := (unhide BS4).still hs5
              have KW5 : Hid (Kept (· = s2) W w5) := Kept.trans (unhide KW4) (Still.kept hs5 _)
              have y0 := (unhide BR5).c0
              have y1 := (unhide BR5).c1
              have y2 := (unhide BR5).c2
              have y3 := (unhide BR5).c3
              have z0 := (unhide BS5).c0
              have z1 := (unhide BS5).c1
              have z2 := (unhide BS5).c2
              have z3 := (unhide BS5).c3
              clear hs5 x0' x1' x2' x3' q0' q1' q2' q3'
              generalize hbt : lessB x st.1 = bt at *
              have HBT := hide hbt
              clear hbt
              go_wp2_with fail
              refine (same_any x st.1 _).mono ?_
              rintro en w6 ⟨rfl, hs6⟩
              have BR6 : Hid (Box4 w6 sr x) := (unhide BR5).still hs6
              have BS6 : Hid (Box4 w6 s2 st.1) := (unhide BS5).still hs6
              have KW6 : Hid (Kept (· = s2) W w6) := Kept.trans (unhide KW5) (Still.kept hs6 _)
              have y0' := (unhide BR6).c0
              have y1' := (unhide BR6).c1
              have y2' := (unhide BR6).c2
              have y3' := (unhide BR6).c3
              have z0' := (unhide BS6).c0
              have z1' := (unhide BS6).c1
              have z2' := (unhide BS6).c2
              have z3' := (unhide BS6).c3
              have zf := (unhide BS6).fz
              clear hs6 y0 y1 y2 y3 z0 z1 z2 z3
              generalize hev : sameB x st.1 = ev at *
              have HEV := hide hev
              clear hev
              cases fo
              case false =>
                go_wp2
                go_roundw
                case rel => exact ⟨k + 1, by omega, by go_num, by rw [unhide hsu, unhide HNX, if_pos (by simp)], by rw [unhide hsu, unhide HNX, if_pos (by simp)]; exact (unhide BS6).put x, Kept.setAt4 (unhide KW6) _ _ _ _⟩
                case measure => simp [intOf]; omega
              case true =>
                cases bt
                case true =>
                  go_wp2
                  go_roundw
                  case rel => exact ⟨k + 1, by omega, by go_num, by rw [unhide hsu, unhide HNX, if_pos (by unfold betterB; simp [unhide HBT])], by rw [unhide hsu, unhide HNX, if_pos (by unfold betterB; simp [unhide HBT])]; exact (unhide BS6).put x, Kept.setAt4 (unhide KW6) _ _ _ _⟩
                  case measure => simp [intOf]; omega
                case false =>
                  cases ev
                  case false =>
                    go_wp2
                    go_roundw
                    case rel => exact ⟨k + 1, by omega, by go_num, by rw [unhide hsu, unhide HNX, if_neg (by unfold betterB; simp [unhide HBT, unhide HEV])]; exact congrArg Value.bool (unhide HFO).symm, by rw [unhide hsu, unhide HNX, if_neg (by unfold betterB; simp [unhide HBT, unhide HEV])]; exact unhide BS6, unhide KW6⟩
                    case measure => simp [intOf]; omega
                  case true =>
                    by_cases hfr : x.from_ < st.1.from_
                    · have hfd : decide (x.from_ < st.1.from_) = true := by simpa using hfr
                      go_wp2
                      go_roundw
                      case rel => exact ⟨k + 1, by omega, by go_num, by rw [unhide hsu, unhide HNX, if_pos (by unfold betterB; simp [unhide HBT, unhide HEV, hfr])], by rw [unhide hsu, unhide HNX, if_pos (by unfold betterB; simp [unhide HBT, unhide HEV, hfr])]; exact (unhide BS6).put x, Kept.setAt4 (unhide KW6) _ _ _ _⟩
                      case measure => simp [intOf]; omega
                    · have hfd : decide (x.from_ < st.1.from_) = false := by simpa using hfr
                      go_wp2
                      go_roundw
                      case rel => exact ⟨k + 1, by omega, by go_num, by rw [unhide hsu, unhide HNX, if_neg (by unfold betterB; simp [unhide HBT, unhide HEV]; omega)]; exact congrArg Value.bool (unhide HFO).symm, by rw [unhide hsu, unhide HNX, if_neg (by unfold betterB; simp [unhide HBT, unhide HEV]; omega)]; exact unhide BS6, unhide KW6⟩
                      case measure => simp [intOf]; omega
        · have e1 := nxTo_all r t last an u (i := k) (by omega)
          have E1 := hide e1
          clear e1 hro
          go_wp2
          go_roundw
          case rel => exact ⟨u + 1, by omega, by go_num, by rw [unhide E1], by rw [← unhide E1]; exact unhide BB2, unhide KK2⟩
          case measure => simp [intOf]; omega
    · obtain rfl : u = r.nl := by omega
      have B1w : Box4 wr s1 rt0 := (unhide B1).kept (unhide KK) (by show ¬ s1 = s2; omega)
      have q0 := (unhide BB).c0
      have q1 := (unhide BB).c1
      have q2 := (unhide BB).c2
      have q3 := (unhide BB).c3
      have m0 := B1w.c0
      have m1 := B1w.c1
      have m2 := B1w.c2
      have m3 := B1w.c3
      have mf := B1w.fz
      have BP := hide (B1w.put (nxAll r t last an r.nl).1)
      have KP : Hid (Still w ((((wr.setCell ⟨s1, 0, none⟩ (.int .i64 (nxAll r t last an r.nl).1.addr)).setCell ⟨s1, 1, none⟩ (.int .i64 (nxAll r t last an r.nl).1.len)).setCell ⟨s1, 2, none⟩ (.int .i64 (nxAll r t last an r.nl).1.hop)).setCell ⟨s1, 3, none⟩ (.int .i64 (nxAll r t last an r.nl).1.from_))) := by
        have hh := unhide Hs0
        refine Kept.setCell (Kept.setCell (Kept.setCell (Kept.setCell ?_ (.inr ?_) _) (.inr ?_) _) (.inr ?_) _) (.inr ?_) _
        · exact Kept.trans' (unhide HW0) (unhide KK) (fun i hi hq => by have hq' : i = s2 := hq; omega)
        all_goals (show w.heap.size ≤ s1; omega)
      clear hra B1w
      generalize hst : nxAll r t last an r.nl = st at *
      have HST := hide hst
      clear hst
      go_wp2
      have o0 := (unhide BP).c0
      have o1 := (unhide BP).c1
      have o2 := (unhide BP).c2
      have o3 := (unhide BP).c3
      refine bodyPost_ret (v := .tuple #[.agg #[.int .i64 st.1.addr, .int .i64 st.1.len, .int .i64 st.1.hop, .int .i64 st.1.from_], .bool st.2]) ?_ rfl ⟨by rw [unhide HST], unhide KP⟩
      simp [results, Tryz.results126, go_sem, o0, o1, o2, o3]
end Go.Proofs.YtgndledehlilkaaGreat
