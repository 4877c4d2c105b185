import Derived.Test.YtgndledehlilkaaGreatPure
import Derived.Test.YtgndledehlilkaaGreatRefT1M
import Derived.Deep.Onto
namespace Go.Proofs.YtgndledehlilkaaGreat
open Go.RowKit
/-- A route in a block of its own. -/
structure Box4 (w : World) (b : Nat) (x : RouteD) : Prop where
  lt : b < w.heap.size
  c0 : w.cell? ⟨b, 0, none⟩ = some (.int .i64 x.addr)
  c1 : w.cell? ⟨b, 1, none⟩ = some (.int .i64 x.len)
  c2 : w.cell? ⟨b, 2, none⟩ = some (.int .i64 x.hop)
  c3 : w.cell? ⟨b, 3, none⟩ = some (.int .i64 x.from_)
  fz : ∀ j, w.frozen? ⟨b, j, none⟩ = false
theorem Box4.heap {w w' : World} {b : Nat} {x : RouteD} (h : Box4 w b x) (hk : w'.heap[b]? = w.heap[b]?) : Box4 w' b x := by
  have hc : ∀ j, w'.cell? ⟨b, j, none⟩ = w.cell? ⟨b, j, none⟩ := fun j => World.cell?_of_block (w := w) (a := ⟨b, j, none⟩) hk
  have hf : ∀ j, w'.frozen? ⟨b, j, none⟩ = w.frozen? ⟨b, j, none⟩ := fun j => World.frozen?_of_block (w := w) (a := ⟨b, j, none⟩) hk
  exact ⟨World.block_lt_of_cell? w' ⟨b, 0, none⟩ ((hc 0).trans h.c0), (hc _).trans h.c0, (hc _).trans h.c1, (hc _).trans h.c2, (hc _).trans h.c3, fun j => (hf j).trans (h.fz j)⟩
theorem Box4.still {w w' : World} {b : Nat} {x : RouteD} (h : Box4 w b x) (hs : Still w w') : Box4 w' b x := h.heap (hs.heap h.lt)
theorem Box4.kept {w w' : World} {P : Nat → Prop} {b : Nat} {x : RouteD} (h : Box4 w b x) (hs : Kept P w w') (hp : ¬ P b) : Box4 w' b x := h.heap (hs.block b h.lt hp)
theorem Box4.new (w : World) (x : RouteD) (T : TypeId) : Box4 (w.alloc (.cells #[.int .i64 x.addr, .int .i64 x.len, .int .i64 x.hop, .int .i64 x.from_] T)) w.heap.size x := by
  refine ⟨by simp, ?_, ?_, ?_, ?_, fun j => World.frozen?_alloc_new _ _ _ _⟩ <;> (rw [World.cell?_alloc_new]; rfl)
theorem Box4.put {w : World} {b : Nat} {x : RouteD} (h : Box4 w b x) (y : RouteD) : Box4 ((((w.setCell ⟨b, 0, none⟩ (.int .i64 y.addr)).setCell ⟨b, 1, none⟩ (.int .i64 y.len)).setCell ⟨b, 2, none⟩ (.int .i64 y.hop)).setCell ⟨b, 3, none⟩ (.int .i64 y.from_)) b y := by
  have n : ∀ i j : Nat, i ≠ j → (⟨b, i, none⟩ : Addr) ≠ ⟨b, j, none⟩ := fun i j hij hh => hij (congrArg Addr.off hh)
  have k0 := World.cell?_setCell_same w ⟨b, 0, none⟩ (.int .i64 y.addr) h.c0
  have k1 := World.cell?_setCell_same (w.setCell ⟨b, 0, none⟩ (.int .i64 y.addr)) ⟨b, 1, none⟩ (.int .i64 y.len) ((World.cell?_setCell_other _ _ _ _ (n 0 1 (by omega))).trans h.c1)
  have k2 := World.cell?_setCell_same ((w.setCell ⟨b, 0, none⟩ (.int .i64 y.addr)).setCell ⟨b, 1, none⟩ (.int .i64 y.len)) ⟨b, 2, none⟩ (.int .i64 y.hop) ((World.cell?_setCell_other _ _ _ _ (n 1 2 (by omega))).trans ((World.cell?_setCell_other _ _ _ _ (n 0 2 (by omega))).trans h.c2))
  have k3 := World.cell?_setCell_same (((w.setCell ⟨b, 0, none⟩ (.int .i64 y.addr)).setCell ⟨b, 1, none⟩ (.int .i64 y.len)).setCell ⟨b, 2, none⟩ (.int .i64 y.hop)) ⟨b, 3, none⟩ (.int .i64 y.from_) ((World.cell?_setCell_other _ _ _ _ (n 2 3 (by omega))).trans ((World.cell?_setCell_other _ _ _ _ (n 1 3 (by omega))).trans ((World.cell?_setCell_other _ _ _ _ (n 0 3 (by omega))).trans h.c3)))
  refine ⟨by simpa using h.lt, ?_, ?_, ?_, k3, fun j => by simpa using h.fz j⟩
  · exact (World.cell?_setCell_other _ _ _ _ (n 3 0 (by omega))).trans ((World.cell?_setCell_other _ _ _ _ (n 2 0 (by omega))).trans ((World.cell?_setCell_other _ _ _ _ (n 1 0 (by omega))).trans k0))
  · exact (World.cell?_setCell_other _ _ _ _ (n 3 1 (by omega))).trans ((World.cell?_setCell_other _ _ _ _ (n 2 1 (by omega))).trans k1)
  · exact (World.cell?_setCell_other _ _ _ _ (n 3 2 (by omega))).trans k2
theorem Kept.setAt4 {a w : World} {b : Nat} (h : Kept (· = b) a w) (u0 u1 u2 u3 : Value) : Kept (· = b) a ((((w.setCell ⟨b, 0, none⟩ u0).setCell ⟨b, 1, none⟩ u1).setCell ⟨b, 2, none⟩ u2).setCell ⟨b, 3, none⟩ u3) :=
  Kept.setCell (Kept.setCell (Kept.setCell (Kept.setCell h (p := ⟨b, 0, none⟩) (.inl rfl) u0) (p := ⟨b, 1, none⟩) (.inl rfl) u1) (p := ⟨b, 2, none⟩) (.inl rfl) u2) (p := ⟨b, 3, none⟩) (.inl rfl) u3
set_option maxRecDepth 100000 in
set_option maxHeartbeats 8000000 in
theorem next_any {w : World} {O : Nat → Nat × Nat × Nat} {e b : Nat} {r : RefS} (h : RefRep w O e b r) (hf : RefWf r) (htb : RefTab r) (t : Nat) (ht : t < r.nl) (last : RouteD) (an : Bool) :
    Calls Tryz.prog 126 #[.pointer (some ⟨b, 0, none⟩), .int .i64 t, .agg #[.int .i64 last.addr, .int .i64 last.len, .int .i64 last.hop, .int .i64 last.from_], .bool an] w fun en w' => en = .returned (.tuple #[.agg #[.int .i64 (nxAll r t last an r.nl).1.addr, .int .i64 (nxAll r t last an r.nl).1.len, .int .i64 (nxAll r t last an r.nl).1.hop, .int .i64 (nxAll r t last an r.nl).1.from_], .bool (nxAll r t last an r.nl).2]) ∧ Still w w' := by
  obtain ⟨lv, tv, ov, rv, ln, h⟩ := h
  obtain ⟨al, cap, rfl, h1, h2, h3⟩ := h.livesAt
  unfold maxLen at h2
  have hn := hf.nt
  have hl := hf.nl
  have bl := h.lt
  have HT := hide h
  have H3 := hide h3
  have HF := hide hf
  have HTB := hide htb
  clear h h3 hf htb
  go_enter Tryz.func126, Tryz.ntmps126
  go_wp2
  have hW0 : Still w (((w.alloc (.cells #[.int .i64 last.addr, .int .i64 last.len, .int .i64 last.hop, .int .i64 last.from_] 50)).alloc (.cells #[.int .i64 0, .int .i64 0, .int .i64 0, .int .i64 0] 50)).alloc (.cells #[.int .i64 0, .int .i64 0, .int .i64 0, .int .i64 0] 50)) := (((Kept.refl _ _).alloc _).alloc _).alloc _
  have b0 : Box4 (((w.alloc (.cells #[.int .i64 last.addr, .int .i64 last.len, .int .i64 last.hop, .int .i64 last.from_] 50)).alloc (.cells #[.int .i64 0, .int .i64 0, .int .i64 0, .int .i64 0] 50)).alloc (.cells #[.int .i64 0, .int .i64 0, .int .i64 0, .int .i64 0] 50)) w.heap.size last := (Box4.new w last _).still (((Kept.refl _ _).alloc _).alloc _)
  have b1 : Box4 (((w.alloc (.cells #[.int .i64 last.addr, .int .i64 last.len, .int .i64 last.hop, .int .i64 last.from_] 50)).alloc (.cells #[.int .i64 0, .int .i64 0, .int .i64 0, .int .i64 0] 50)).alloc (.cells #[.int .i64 0, .int .i64 0, .int .i64 0, .int .i64 0] 50)) (w.heap.size + 1) rt0 := by
    have := Box4.new (w.alloc (.cells #[.int .i64 last.addr, .int .i64 last.len, .int .i64 last.hop, .int .i64 last.from_] 50)) rt0 50
    rw [World.size_alloc] at this
    exact this.still ((Kept.refl _ _).alloc _)
  have b2 : Box4 (((w.alloc (.cells #[.int .i64 last.addr, .int .i64 last.len, .int .i64 last.hop, .int .i64 last.from_] 50)).alloc (.cells #[.int .i64 0, .int .i64 0, .int .i64 0, .int .i64 0] 50)).alloc (.cells #[.int .i64 0, .int .i64 0, .int .i64 0, .int .i64 0] 50)) (w.heap.size + 1 + 1) rt0 := by
    have := Box4.new ((w.alloc (.cells #[.int .i64 last.addr, .int .i64 last.len, .int .i64 last.hop, .int .i64 last.from_] 50)).alloc (.cells #[.int .i64 0, .int .i64 0, .int .i64 0, .int .i64 0] 50)) rt0 50
    rwa [World.size_alloc, World.size_alloc] at this
  generalize (((w.alloc (.cells #[.int .i64 last.addr, .int .i64 last.len, .int .i64 last.hop, .int .i64 last.from_] 50)).alloc (.cells #[.int .i64 0, .int .i64 0, .int .i64 0, .int .i64 0] 50)).alloc (.cells #[.int .i64 0, .int .i64 0, .int .i64 0, .int .i64 0] 50)) = W at *
  have hs1 : w.heap.size < w.heap.size + 1 := by omega
  have hs2 : w.heap.size + 1 < w.heap.size + 1 + 1 := by omega
  generalize w.heap.size + 1 + 1 = s2 at *
  generalize w.heap.size + 1 = s1 at *
  have hsw : w.heap.size ≤ w.heap.size := Nat.le_refl _
  generalize hs0 : w.heap.size = s0 at hs1 hsw b0 ⊢
  have Hs0 := hide hs0
  clear hs0 hsw
  have HW0 := hide hW0
  have B0 := hide b0
  have B1 := hide b1
  have B2 := hide b2
  clear hW0 b0 b1 b2
  have HK : Hid (∀ w', Kept (· = s2) W w' → RefAt w' O e b r (.slice al r.nl cap) tv ov rv ln) := fun w' hk => (unhide HT).frame (fun k hk' _ _ => by
    have hz := (unhide HW0).size
    have h0 := unhide Hs0
    rw [hk.block k (by omega) (by show ¬ k = s2; omega), (unhide HW0).heap hk']) (fun _ _ => rfl)
  go_loopw [11, 12] (fun f i w' => ∃ u : Nat, u ≤ r.nl ∧ i = .int .i64 u ∧ f = .bool (nxAll r t last an u).2 ∧ Box4 w' s2 (nxAll r t last an u).1 ∧ Kept (· = s2) W w') (fun _ i _ => r.nl - (intOf i).toNat)
  case atStart => exact ⟨0, Nat.zero_le _, rfl, rfl, unhide B2, Kept.refl _ _⟩
  case round =>
    obtain ⟨u, hu, rfl, rfl, hb2, hk2⟩ := hrel
    have BB := hide hb2
    have KK := hide hk2
    have hra := unhide HK _ hk2
    obtain ⟨_, c1, _, _⟩ := hra.cells
    clear hb2 hk2
    by_cases hlt : u < r.nl
    · obtain ⟨g, rfl⟩ := unhide H3 u hlt
      have t4 : wr.cell? ⟨g, u * 7 + 4, none⟩ = some (ov u) := hra.lifeCell hlt 4 (by omega)
      obtain ⟨oa, oc, oe, ol1, ol2⟩ := ownsRow_slice (hra.owns u hlt)
      rw [oe] at t4
      have OE := hide oe
      unfold maxLen at ol2
      have hu0 : (0 : Int) ≤ (u : Int) := by omega
      have hu1 : (u : Int) < (r.nl : Int) := by omega
      clear hra oe
      go_wp2
      go_loopw [11, 13] (fun f i w' => ∃ k : Nat, k ≤ (r.life u).own.length ∧ i = .int .i64 k ∧ f = .bool (nxTo r t last an u k).2 ∧ Box4 w' s2 (nxTo r t last an u k).1 ∧ Kept (· = s2) W w') (fun _ i _ => (r.life u).own.length - (intOf i).toNat)
      case atStart => exact ⟨0, Nat.zero_le _, rfl, by rw [nxTo_zero], by rw [nxTo_zero]; exact unhide BB, unhide KK⟩
      case round =>
        obtain ⟨k, hk, rfl, rfl, hb2, hk2⟩ := hrel
        have BB2 := hide hb2
        have KK2 := hide hk2
        have hra := unhide HK _ hk2
        obtain ⟨_, c1x, _, _⟩ := hra.cells
        have t4x : wr.cell? ⟨g, u * 7 + 4, none⟩ = some (ov u) := hra.lifeCell hlt 4 (by omega)
        rw [unhide OE] at t4x
        have hro := hra.owns u hlt
        rw [unhide OE] at hro
        clear hb2 hk2 c1 t4 hra
        by_cases hkl : k < (r.life u).own.length
        · obtain ⟨go, rfl, hgo⟩ := ownsRow_some hro (by omega)
          obtain ⟨r0, r1, r2, r3⟩ := routeCell hro rfl hkl
          have hsu := hide (nxTo_succ r t last an u hkl)
          have hokx := (unhide HTB).own u hlt ((r.life u).own.getD k rt0) (by simp [List.getD_eq_getElem?_getD, hkl])
          have HOK := hide hokx
          have hk0 : (0 : Int) ≤ (k : Int) := by omega
          have hk1 : (k : Int) < ((r.life u).own.length : Int) := by omega
          clear hro hokx
          generalize (r.life u).own.getD k rt0 = x at *
          generalize nxTo r t last an u k = st at *
          go_wp2_with fail
          have hst1 : Still wr (wr.alloc (.cells #[.int .i64 x.addr, .int .i64 x.len, .int .i64 x.hop, .int .i64 x.from_] 50)) := (Kept.refl _ _).alloc _
          have hbr := Box4.new wr x 50
          refine (offer_any ⟨_, _, _, _, _, (unhide HK _ (unhide KK2)).still hst1⟩ (unhide HF) (unhide HTB) t u ht hlt x (unhide HOK)).mono ?_
          rintro en w3 ⟨rfl, hs3⟩
          have hst3 : Still wr w3 := Kept.trans hst1 hs3
          have BL : Hid (Box4 w3 s0 last) := ((unhide B0).kept (unhide KK2) (by show ¬ s0 = s2; omega)).still hst3
          have BR : Hid (Box4 w3 wr.heap.size x) := hbr.still hs3
          have BS : Hid (Box4 w3 s2 st.1) := (unhide BB2).still hst3
          have KW : Hid (Kept (· = s2) W w3) := Kept.trans (unhide KK2) (Still.kept hst3 _)
          have hsr : s2 < wr.heap.size := (unhide BB2).lt
          have l0 := (unhide BL).c0
          have l1 := (unhide BL).c1
          have l2 := (unhide BL).c2
          have l3 := (unhide BL).c3
          have x0 := (unhide BR).c0
          have x1 := (unhide BR).c1
          have x2 := (unhide BR).c2
          have x3 := (unhide BR).c3
          clear hst1 hbr hs3 hst3 r0 r1 r2 r3 c1x t4x BB2 KK2
          generalize wr.heap.size = sr at *
          generalize hok : offerB r t u x = ok at *
          have HOF := hide hok
          clear hok
          go_wp2_with fail
          refine (less_any last x _).mono ?_
          rintro en w4 ⟨rfl, hs4⟩
          have BR4 : Hid (Box4 w4 sr x) := (unhide BR).still hs4
          have BS4 : Hid (Box4 w4 s2 st.1) := (unhide BS).still hs4
          have KW4 : Hid (Kept (· = s2) W w4) := Kept.trans (unhide KW) (Still.kept hs4 _)
          have x0' := (unhide BR4).c0
          have x1' := (unhide BR4).c1
          have x2' := (unhide BR4).c2
          have x3' := (unhide BR4).c3
          have q0' := (unhide BS4).c0
          have q1' := (unhide BS4).c1
          have q2' := (unhide BS4).c2
          have q3' := (unhide BS4).c3
          clear hs4 BR BS KW l0 l1 l2 l3 x0 x1 x2 x3 BL
          generalize hbe : lessB last x = be at *
          have HBE := hide hbe
          clear hbe
          by_cases hskip : ok = false ∨ (an = false ∧ be = false)
          · have hnx : nx r t last an u st x = st := by
              rcases hskip with hh | ⟨hh, hh2⟩
              · exact wanted_no1 (by rw [unhide HOF]; exact hh)
              · exact wanted_no2 hh (by rw [unhide HBE]; exact hh2)
            have HNX := hide hnx
            clear hnx
            cases ok
            case false =>
              clear hskip
              go_wp2
              go_roundw
              case rel => exact ⟨k + 1, by omega, by go_num, by rw [unhide hsu, unhide HNX], by rw [unhide hsu, unhide HNX]; exact unhide BS4, unhide KW4⟩
              case measure => simp [intOf]; omega
            case true =>
              obtain ⟨ha, hb⟩ : an = false ∧ be = false := by simpa using hskip
              subst ha hb
              clear hskip
              go_wp2
              go_roundw
              case rel => exact ⟨k + 1, by omega, by go_num, by rw [unhide hsu, unhide HNX], by rw [unhide hsu, unhide HNX]; exact unhide BS4, unhide KW4⟩
              case measure => simp [intOf]; omega
          · have hok : ok = true := by
              cases ok
              · exact absurd (.inl rfl) hskip
              · rfl
            subst hok
            have hab : an = true ∨ be = true := by
              cases an
              · cases be
                · exact absurd (.inr ⟨rfl, rfl⟩) hskip
                · exact .inr rfl
              · exact .inl rfl
            have hnx := wanted_yes (st := st) (unhide HOF) (by rw [unhide HBE]; exact hab)
            have HNX := hide hnx
            clear hnx hskip
            generalize hfo : st.2 = fo at *
            have HFO := hide hfo
            clear hfo
            cases an
            all_goals cases be
            case false.false => simp at hab
            all_goals
              clear hab
              go_wp2_with fail
              refine (less_any x st.1 _).mono ?_
              rintro en w5 ⟨rfl, hs5⟩
              have BR5 : Hid (Box4 w5 sr x) := (unhide BR4).still hs5
              have BS5 : Hid (Box4 w5 s2 st.1) := (unhide BS4).still hs5
              have KW5 : Hid (Kept (· = s2) W w5) := Kept.trans (unhide KW4) (Still.kept hs5 _)
              have y0 := (unhide BR5).c0
              have y1 := (unhide BR5).c1
              have y2 := (unhide BR5).c2
              have y3 := (unhide BR5).c3
              have z0 := (unhide BS5).c0
              have z1 := (unhide BS5).c1
              have z2 := (unhide BS5).c2
              have z3 := (unhide BS5).c3
              clear hs5 x0' x1' x2' x3' q0' q1' q2' q3'
              generalize hbt : lessB x st.1 = bt at *
              have HBT := hide hbt
              clear hbt
              go_wp2_with fail
              refine (same_any x st.1 _).mono ?_
              rintro en w6 ⟨rfl, hs6⟩
              have BR6 : Hid (Box4 w6 sr x) := (unhide BR5).still hs6
              have BS6 : Hid (Box4 w6 s2 st.1) := (unhide BS5).still hs6
              have KW6 : Hid (Kept (· = s2) W w6) := Kept.trans (unhide KW5) (Still.kept hs6 _)
              have y0' := (unhide BR6).c0
              have y1' := (unhide BR6).c1
              have y2' := (unhide BR6).c2
              have y3' := (unhide BR6).c3
              have z0' := (unhide BS6).c0
              have z1' := (unhide BS6).c1
              have z2' := (unhide BS6).c2
              have z3' := (unhide BS6).c3
              have zf := (unhide BS6).fz
              clear hs6 y0 y1 y2 y3 z0 z1 z2 z3
              generalize hev : sameB x st.1 = ev at *
              have HEV := hide hev
              clear hev
              cases fo
              case false =>
                go_wp2
                go_roundw
                case rel => exact ⟨k + 1, by omega, by go_num, by rw [unhide hsu, unhide HNX, if_pos (by simp)], by rw [unhide hsu, unhide HNX, if_pos (by simp)]; exact (unhide BS6).put x, Kept.setAt4 (unhide KW6) _ _ _ _⟩
                case measure => simp [intOf]; omega
              case true =>
                cases bt
                case true =>
                  go_wp2
                  go_roundw
                  case rel => exact ⟨k + 1, by omega, by go_num, by rw [unhide hsu, unhide HNX, if_pos (by unfold betterB; simp [unhide HBT])], by rw [unhide hsu, unhide HNX, if_pos (by unfold betterB; simp [unhide HBT])]; exact (unhide BS6).put x, Kept.setAt4 (unhide KW6) _ _ _ _⟩
                  case measure => simp [intOf]; omega
                case false =>
                  cases ev
                  case false =>
                    go_wp2
                    go_roundw
                    case rel => exact ⟨k + 1, by omega, by go_num, by rw [unhide hsu, unhide HNX, if_neg (by unfold betterB; simp [unhide HBT, unhide HEV])]; exact congrArg Value.bool (unhide HFO).symm, by rw [unhide hsu, unhide HNX, if_neg (by unfold betterB; simp [unhide HBT, unhide HEV])]; exact unhide BS6, unhide KW6⟩
                    case measure => simp [intOf]; omega
                  case true =>
                    by_cases hfr : x.from_ < st.1.from_
                    · have hfd : decide (x.from_ < st.1.from_) = true := by simpa using hfr
                      go_wp2
                      go_roundw
                      case rel => exact ⟨k + 1, by omega, by go_num, by rw [unhide hsu, unhide HNX, if_pos (by unfold betterB; simp [unhide HBT, unhide HEV, hfr])], by rw [unhide hsu, unhide HNX, if_pos (by unfold betterB; simp [unhide HBT, unhide HEV, hfr])]; exact (unhide BS6).put x, Kept.setAt4 (unhide KW6) _ _ _ _⟩
                      case measure => simp [intOf]; omega
                    · have hfd : decide (x.from_ < st.1.from_) = false := by simpa using hfr
                      go_wp2
                      go_roundw
                      case rel => exact ⟨k + 1, by omega, by go_num, by rw [unhide hsu, unhide HNX, if_neg (by unfold betterB; simp [unhide HBT, unhide HEV]; omega)]; exact congrArg Value.bool (unhide HFO).symm, by rw [unhide hsu, unhide HNX, if_neg (by unfold betterB; simp [unhide HBT, unhide HEV]; omega)]; exact unhide BS6, unhide KW6⟩
                      case measure => simp [intOf]; omega
        · have e1 := nxTo_all r t last an u (i := k) (by omega)
          have E1 := hide e1
          clear e1 hro
          go_wp2
          go_roundw
          case rel => exact ⟨u + 1, by omega, by go_num, by rw [unhide E1], by rw [← unhide E1]; exact unhide BB2, unhide KK2⟩
          case measure => simp [intOf]; omega
    · obtain rfl : u = r.nl := by omega
      have B1w : Box4 wr s1 rt0 := (unhide B1).kept (unhide KK) (by show ¬ s1 = s2; omega)
      have q0 := (unhide BB).c0
      have q1 := (unhide BB).c1
      have q2 := (unhide BB).c2
      have q3 := (unhide BB).c3
      have m0 := B1w.c0
      have m1 := B1w.c1
      have m2 := B1w.c2
      have m3 := B1w.c3
      have mf := B1w.fz
      have BP := hide (B1w.put (nxAll r t last an r.nl).1)
      have KP : Hid (Still w ((((wr.setCell ⟨s1, 0, none⟩ (.int .i64 (nxAll r t last an r.nl).1.addr)).setCell ⟨s1, 1, none⟩ (.int .i64 (nxAll r t last an r.nl).1.len)).setCell ⟨s1, 2, none⟩ (.int .i64 (nxAll r t last an r.nl).1.hop)).setCell ⟨s1, 3, none⟩ (.int .i64 (nxAll r t last an r.nl).1.from_))) := by
        have hh := unhide Hs0
        refine Kept.setCell (Kept.setCell (Kept.setCell (Kept.setCell ?_ (.inr ?_) _) (.inr ?_) _) (.inr ?_) _) (.inr ?_) _
        · exact Kept.trans' (unhide HW0) (unhide KK) (fun i hi hq => by have hq' : i = s2 := hq; omega)
        all_goals (show w.heap.size ≤ s1; omega)
      clear hra B1w
      generalize hst : nxAll r t last an r.nl = st at *
      have HST := hide hst
      clear hst
      go_wp2
      have o0 := (unhide BP).c0
      have o1 := (unhide BP).c1
      have o2 := (unhide BP).c2
      have o3 := (unhide BP).c3
      refine bodyPost_ret (v := .tuple #[.agg #[.int .i64 st.1.addr, .int .i64 st.1.len, .int .i64 st.1.hop, .int .i64 st.1.from_], .bool st.2]) ?_ rfl ⟨by rw [unhide HST], unhide KP⟩
      simp [results, Tryz.results126, go_sem, o0, o1, o2, o3]
section
theorem infoRoute : (Tryz.prog.info? 50).map (fun i => (i.zero, i.size, i.bytes)) = some (some (.agg #[.int .i64 0, .int .i64 0, .int .i64 0, .int .i64 0]), 4, 32) := by kernel_rfl
def offMu (s : Nat) (f : Value) (w : World) : Nat := match f with
  | .bool true => (1114112 - (cellInt (w.cell? ⟨s, 0, none⟩) * 17 + cellInt (w.cell? ⟨s, 1, none⟩))).toNat + 1
  | _ => 0
theorem offMu_true {w : World} {s : Nat} {x : RouteD} (h : Box4 w s x) : offMu s (.bool true) w = (1114112 - key x).toNat + 1 := by
  unfold offMu key
  rw [h.c0, h.c1]
  rfl
theorem offMu_false (w : World) (s : Nat) : offMu s (.bool false) w = 0 := rfl
attribute [local go_sem ↓] Go.wp_at_zero Go.wp_at_succ
set_option maxRecDepth 100000 in
set_option maxHeartbeats 8000000 in
theorem offered_any {w : World} {O : Nat → Nat × Nat × Nat} {e b : Nat} {r : RefS} (h : RefRep w O e b r) (hf : RefWf r) (htb : RefTab r) (t : Nat) (ht : t < r.nl) :
    Calls Tryz.prog 105 #[.pointer (some ⟨b, 0, none⟩), .int .i64 t] w fun en w' => ∃ (l : List RouteD) (v : Value), Chain r t (nxAll r t rt0 true r.nl) l ∧ l.length ≤ 1114112 ∧ en = .returned v ∧ w'.ownsRow w.heap.size 50 4 v l.length (l.flatMap routeCells) ∧ Still w w' := by
  have HR := hide h
  have HF := hide hf
  have HTB := hide htb
  clear h hf htb
  obtain ⟨i0, hi0, hz0, hz1, hz2⟩ := info_parts infoRoute
  go_enter Tryz.func105, Tryz.ntmps105
  go_wp2_with fail
  refine (next_any (unhide HR) (unhide HF) (unhide HTB) t ht rt0 true).mono ?_
  rintro en w1 ⟨rfl, hs1⟩
  have HS1 := hide hs1
  have hz1' := hs1.size
  clear hs1
  generalize hst : nxAll r t rt0 true r.nl = st0 at *
  have HST := hide hst
  clear hst
  go_wp2
  have hb0 := Box4.new w1 st0.1 50
  have hsw : Still w (w1.alloc (.cells #[.int .i64 st0.1.addr, .int .i64 st0.1.len, .int .i64 st0.1.hop, .int .i64 st0.1.from_] 50)) := Kept.alloc (unhide HS1) _
  have HB0 := hide hb0
  have HSW := hide hsw
  clear hb0 hsw
  generalize hse : w1.heap.size = s0 at *
  clear hse
  generalize w1.alloc (.cells #[.int .i64 st0.1.addr, .int .i64 st0.1.len, .int .i64 st0.1.hop, .int .i64 st0.1.from_] 50) = W at *
  go_loopw [5, 7] (fun v f w' => ∃ (k : Nat) (l : List RouteD) (st : RouteD × Bool), l.length = k ∧ f = .bool st.2 ∧ (st.2 = true → okRoute st.1 ∧ (k : Int) ≤ key st.1) ∧ (k : Int) ≤ 1114112 ∧ (∀ rest, Chain r t st rest → Chain r t st0 (l ++ rest)) ∧ w'.ownsRow w.heap.size 50 4 v k (l.flatMap routeCells) ∧ v.ownBlock ≠ some s0 ∧ Box4 w' s0 st.1 ∧ Still w w') (fun v f w' => offMu s0 f w')
  case atStart => exact ⟨0, [], st0, rfl, rfl, fun hh => by
      have hok : okRoute st0.1 := by rw [← unhide HST] at hh ⊢; exact nxAll_ok (unhide HTB) hh
      exact ⟨hok, (key_le hok).1⟩, by omega, chain_start, World.ownsRow_nil _ _ _ _, by simp [Value.ownBlock], unhide HB0, unhide HSW⟩
  case round =>
    obtain ⟨k, l, st, hlk, rfl, hok, hkb, hch, hown, hnb, hbx, hst⟩ := hrel
    obtain ⟨va, vc, rfl, hv1, hv2⟩ := ownsRow_slice hown
    have HLK := hide hlk
    have HOK := hide hok
    have HCH := hide hch
    have HOWN := hide hown
    have HBX := hide hbx
    have HSTL := hide hst
    have hzz := hst.size
    have bsl := hbx.lt
    have q0 := hbx.c0
    have q1 := hbx.c1
    have q2 := hbx.c2
    have q3 := hbx.c3
    have qf := hbx.fz
    clear hlk hok hch hown hbx hst
    cases hfo : st.2 with
    | false =>
      have hfin := unhide HCH [] hfo
      rw [List.append_nil] at hfin
      have HFIN := hide hfin
      clear hfin hfo
      go_wp2
      go_ret
      refine ⟨l, _, by rw [unhide HST]; exact unhide HFIN, by have := unhide HLK; omega, rfl, ?_, unhide HSTL⟩
      rw [unhide HLK]
      exact unhide HOWN
    | true =>
      obtain ⟨hok1, hkk⟩ := unhide HOK hfo
      have hkl := key_le hok1
      have HCS := hide (chain_step (unhide HCH) hfo)
      have HMU : Hid (offMu s0 (.bool true) wr = (1114112 - key st.1).toNat + 1) := offMu_true (unhide HBX)
      have HOK1 := hide hok1
      have HKK := hide hkk
      have HKL := hide hkl
      clear hfo hok1 hkk hkl
      have hkb2 : k ≤ 1114111 := by have h1 := unhide HKK; have h2 := unhide HKL; omega
      generalize hx : st.1 = x at *
      clear hx
      go_wp2_with (first | (at_builtin; refine wpList_append_lies _ rfl _ _ _ rfl w.heap.size 50 i0 _ 4 32 Tryz.underlying52 hi0 hz0 hz1 hz2 rfl (by omega) (.slice va k vc) k _ rfl ((unhide HOWN).alloc _) ⟨wr.heap.size, 0, none⟩ 1 1 [.int .i64 x.addr, .int .i64 x.len, .int .i64 x.hop, .int .i64 x.from_] rfl rfl (World.news_of_block (cs := #[.int .i64 x.addr, .int .i64 x.len, .int .i64 x.hop, .int .i64 x.from_]) (t := 50) (fr := (0, 0)) (heap_alloc_new wr _)) (by simp [Value.oneCell']) (by omega) (by unfold maxLen; omega) (by omega) (by simp; omega) (wr.heap.size + 1) (by simp) ?_; intro g2 cap2 w2 hown2 hgrow hat hlt2; have e0 := (hgrow.cell_far ⟨s0, 0, none⟩ (by simp; omega) (Ne.symm hnb)).trans ((World.cell?_alloc_lt _ _ _ bsl).trans q0); have e1 := (hgrow.cell_far ⟨s0, 1, none⟩ (by simp; omega) (Ne.symm hnb)).trans ((World.cell?_alloc_lt _ _ _ bsl).trans q1); have e2 := (hgrow.cell_far ⟨s0, 2, none⟩ (by simp; omega) (Ne.symm hnb)).trans ((World.cell?_alloc_lt _ _ _ bsl).trans q2); have e3 := (hgrow.cell_far ⟨s0, 3, none⟩ (by simp; omega) (Ne.symm hnb)).trans ((World.cell?_alloc_lt _ _ _ bsl).trans q3)) | fail)
      have hst2 : Still w w2 := Kept.grown (Kept.alloc (unhide HSTL) _) hgrow (fun y hy => .inr ((unhide HOWN).lt y hy).1)
      have hbx2 : Box4 w2 s0 x := ((unhide HBX).still ((Kept.refl _ _).alloc _)).heap (hgrow.block s0 (by simp; omega) (Ne.symm hnb))
      have hg2 : g2 ≠ s0 := by
        rcases hat with hh | hh
        · intro h0; rw [h0] at hh; exact hnb hh
        · omega
      have HST2 := hide hst2
      have HBX2 := hide hbx2
      have HOW2 := hide hown2
      clear hgrow hat q0 q1 q2 q3 qf hst2 hbx2 hown2
      refine (next_any ((unhide HR).still (unhide HST2)) (unhide HF) (unhide HTB) t ht x false).mono ?_
      rintro en w3 ⟨rfl, hs3⟩
      have hbx3 := (unhide HBX2).still hs3
      have hst3 : Still w w3 := Kept.trans (unhide HST2) hs3
      have hown3 : w3.ownsRow w.heap.size 50 4 (.slice (some ⟨g2, 0, none⟩) (k + 1) cap2) (k + 1) (l.flatMap routeCells ++ [.int .i64 x.addr, .int .i64 x.len, .int .i64 x.hop, .int .i64 x.from_]) := ownsRow_of_block (unhide HOW2) (fun y hy => hs3.heap (by
        have : g2 = y := by simpa [Value.ownBlock] using hy
        omega))
      have q0 := hbx3.c0
      have q1 := hbx3.c1
      have q2 := hbx3.c2
      have q3 := hbx3.c3
      have qf := hbx3.fz
      have hnok : (nxAll r t x false r.nl).2 = true → okRoute (nxAll r t x false r.nl).1 ∧ ((k + 1 : Nat) : Int) ≤ key (nxAll r t x false r.nl).1 := fun hh => by
        have h1 := nxAll_ok (unhide HTB) hh
        have h2 := key_less (unhide HOK1) h1 (nxAll_less hh)
        have h3 := unhide HKK
        exact ⟨h1, by omega⟩
      have HBX3 := hide hbx3
      have HST3 := hide hst3
      have HOW3 := hide hown3
      have HNOK := hide hnok
      have HNL : Hid ((nxAll r t x false r.nl).2 = true → key x < key (nxAll r t x false r.nl).1 ∧ key (nxAll r t x false r.nl).1 ≤ 1114111) := fun hh => ⟨key_less (unhide HOK1) (nxAll_ok (unhide HTB) hh) (nxAll_less hh), (key_le (nxAll_ok (unhide HTB) hh)).2⟩
      clear hs3 hbx3 hst3 hown3 hnok e0 e1 e2 e3
      generalize nxAll r t x false r.nl = st' at *
      go_wp2
      go_roundw
      case rel =>
        refine ⟨k + 1, l ++ [x], st', by rw [List.length_append, unhide HLK]; rfl, rfl, unhide HNOK, by omega, unhide HCS, ?_, ?_, (unhide HBX3).put st'.1, ?_⟩
        · rw [List.flatMap_append]
          exact ownsRow_of_block (unhide HOW3) (fun y hy => by
            have : g2 = y := by simpa [Value.ownBlock] using hy
            subst this
            rw [Below.heap_setCell _ _ _ _ hg2, Below.heap_setCell _ _ _ _ hg2, Below.heap_setCell _ _ _ _ hg2, Below.heap_setCell _ _ _ _ hg2])
        · simp [Value.ownBlock]; exact hg2
        · exact Kept.setCell (Kept.setCell (Kept.setCell (Kept.setCell (unhide HST3) (.inr (by show w.heap.size ≤ s0; omega)) _) (.inr (by show w.heap.size ≤ s0; omega)) _) (.inr (by show w.heap.size ≤ s0; omega)) _) (.inr (by show w.heap.size ≤ s0; omega)) _
      case measure =>
        show offMu s0 (.bool st'.2) _ < offMu s0 (.bool true) wr
        rw [unhide HMU]
        cases hfo : st'.2 with
        | false => rw [offMu_false]; omega
        | true =>
          rw [offMu_true ((unhide HBX3).put st'.1)]
          have h1 := unhide HNL hfo
          have h2 := unhide HKL
          omega
end
section
attribute [local go_sem ↓] Go.wp_at_zero Go.wp_at_succ
set_option maxRecDepth 100000 in
set_option maxHeartbeats 8000000 in
theorem sorted_any {w : World} {l : List RouteD} {v : Value} (h : w.ownsRow 0 50 4 v l.length (l.flatMap routeCells)) (hll : l.length ≤ 2000000) :
    Calls Tryz.prog 106 #[v] w fun en w' => ∃ v', en = .returned v' ∧ w'.ownsRow w.heap.size 50 4 v' l.length ((sortR l).flatMap routeCells) ∧ Still w w' := by
  obtain ⟨la, lc, rfl, h1, h2⟩ := ownsRow_slice h
  unfold maxLen at h2
  have HO := hide h
  clear h
  obtain ⟨i0, hi0, hz0, hz1, hz2⟩ := info_parts infoRoute
  go_enter Tryz.func106, Tryz.ntmps106
  go_wp2
  go_loopw [3, 4] (fun o i w' => ∃ k : Nat, k ≤ l.length ∧ i = .int .i64 k ∧ w'.ownsRow w.heap.size 50 4 o k ((sortTo l k).flatMap routeCells) ∧ Still w w') (fun _ i _ => l.length - (intOf i).toNat)
  case atStart => exact ⟨0, Nat.zero_le _, rfl, by rw [sortTo_zero]; exact World.ownsRow_nil _ _ _ _, Kept.refl _ _⟩
  case round =>
    rename World => W1
    obtain ⟨i, hi, rfl, hown, hst⟩ := hrel
    obtain ⟨oa, oc, rfl, ho1, ho2⟩ := ownsRow_slice hown
    unfold maxLen at ho2
    have HOW := hide hown
    have HST := hide hst
    have hzz := hst.size
    clear hown hst
    by_cases hlt : i < l.length
    · obtain ⟨gl, rfl, hgl⟩ := ownsRow_some (unhide HO) (by omega)
      have hlw : W1.ownsRow 0 50 4 (.slice (some ⟨gl, 0, none⟩) l.length lc) l.length (l.flatMap routeCells) := ownsRow_of_block (unhide HO) (fun y hy => (unhide HST).heap (by
        have : gl = y := by simpa [Value.ownBlock] using hy
        omega))
      obtain ⟨x0, x1, x2, x3⟩ := routeCell hlw rfl hlt
      have hsu := hide (sortTo_succ l hlt)
      have hsl := sortTo_len l i (by omega)
      have hglr : gl < W1.heap.size := by omega
      have hi0' : (0 : Int) ≤ (i : Int) := by omega
      have hi1' : (i : Int) < (l.length : Int) := by omega
      clear hlw
      generalize l.getD i rt0 = x at *
      generalize sortTo l i = out at *
      have hin := fun k hk => insTo_len x out k hk
      have HIN := hide hin
      clear hin
      go_wp2
      go_loopw [5, 6, 7] (fun m f k w' => ∃ j : Nat, j ≤ i ∧ k = .int .i64 j ∧ f = .bool (insTo x out j).2 ∧ w'.ownsRow W1.heap.size 50 4 m (insTo x out j).1.length ((insTo x out j).1.flatMap routeCells) ∧ Still W1 w') (fun _ _ k _ => i - (intOf k).toNat)
      case atStart => exact ⟨0, Nat.zero_le _, rfl, by rw [insTo_zero], by rw [insTo_zero]; exact World.ownsRow_nil _ _ _ _, Kept.refl _ _⟩
      case round =>
        obtain ⟨j, hj, rfl, rfl, hmo, hms⟩ := hrel
        obtain ⟨ma, mc, rfl, hm1, hm2⟩ := ownsRow_slice hmo
        unfold maxLen at hm2
        have HMO := hide hmo
        have HMS := hide hms
        have hzm := hms.size
        have hlen := unhide HIN j (by omega)
        clear hmo hms
        have x0' := (unhide HMS).cell _ (i * 4) hglr
        have x1' := (unhide HMS).cell _ (i * 4 + 1) hglr
        have x2' := (unhide HMS).cell _ (i * 4 + 2) hglr
        have x3' := (unhide HMS).cell _ (i * 4 + 3) hglr
        rw [x0] at x0'
        rw [x1] at x1'
        rw [x2] at x2'
        rw [x3] at x3'
        by_cases hjl : j < i
        · obtain ⟨go, rfl, hgo⟩ := ownsRow_some (unhide HOW) (by omega)
          have how : wr.ownsRow 0 50 4 (.slice (some ⟨go, 0, none⟩) i oc) i (out.flatMap routeCells) := ownsRow_of_block ((unhide HOW).mono (Nat.zero_le _)) (fun z hz => (unhide HMS).heap (ownsRow_lt (unhide HOW) hz))
          obtain ⟨y0, y1, y2, y3⟩ := routeCell how (by omega) hjl
          have his := hide (insTo_succ x out (k := j) (by omega))
          have hj0' : (0 : Int) ≤ (j : Int) := by omega
          have hj1' : (j : Int) < (i : Int) := by omega
          have hglw : gl < wr.heap.size := by omega
          have hgow : go < wr.heap.size := by omega
          have hln : (insTo x out j).1.length ≤ 2000002 := by
            rw [hlen]
            split <;> omega
          clear how hlen
          generalize out.getD j rt0 = y at *
          generalize insTo x out j = st at *
          generalize hfi : st.2 = fi at *
          have HFI := hide hfi
          clear hfi
          by_cases hyes : lessB x y = true ∧ fi = false
          · obtain ⟨hle, rfl⟩ := hyes
            have HLE := hide hle
            clear hle
            have HI2 := hide (ins_yes (unhide HLE) (unhide HFI))
            go_wp2_with fail
            go_region_held3 (fun w' => w'.cell? ⟨gl, i * 4, none⟩ = some (.int .i64 x.addr) ∧ w'.cell? ⟨gl, i * 4 + 1, none⟩ = some (.int .i64 x.len) ∧ w'.cell? ⟨gl, i * 4 + 2, none⟩ = some (.int .i64 x.hop) ∧ w'.cell? ⟨gl, i * 4 + 3, none⟩ = some (.int .i64 x.from_) ∧ w'.cell? ⟨go, j * 4, none⟩ = some (.int .i64 y.addr) ∧ w'.cell? ⟨go, j * 4 + 1, none⟩ = some (.int .i64 y.len) ∧ w'.cell? ⟨go, j * 4 + 2, none⟩ = some (.int .i64 y.hop) ∧ w'.cell? ⟨go, j * 4 + 3, none⟩ = some (.int .i64 y.from_)) (first | go_keep | (go_split_ands; exact ⟨(hw3.cell _ _ hglw).trans x0', (hw3.cell _ _ hglw).trans x1', (hw3.cell _ _ hglw).trans x2', (hw3.cell _ _ hglw).trans x3', (hw3.cell _ _ hgow).trans y0, (hw3.cell _ _ hgow).trans y1, (hw3.cell _ _ hgow).trans y2, (hw3.cell _ _ hgow).trans y3⟩)) ((go_at_call 127; refine (less_any x y _).mono ?_; rintro e w3 ⟨rfl, hw3⟩; rw [unhide HLE]))
            have hs3 : Still W1 w3 := Kept.trans (Kept.drew (unhide HMS)) hw3
            have hw3' : Still wr w3 := Kept.trans ((Kept.refl _ _).drew) hw3
            have hmo3 : w3.ownsRow W1.heap.size 50 4 (.slice ma st.1.length mc) st.1.length (st.1.flatMap routeCells) := ownsRow_of_block (unhide HMO) (fun z hz => hw3'.heap (ownsRow_lt (unhide HMO) hz))
            have a0 := (hw3'.cell _ _ hglw).trans x0'
            have a1 := (hw3'.cell _ _ hglw).trans x1'
            have a2 := (hw3'.cell _ _ hglw).trans x2'
            have a3 := (hw3'.cell _ _ hglw).trans x3'
            have o0 := (hw3'.cell _ _ hgow).trans y0
            have o1 := (hw3'.cell _ _ hgow).trans y1
            have o2 := (hw3'.cell _ _ hgow).trans y2
            have o3 := (hw3'.cell _ _ hgow).trans y3
            have HS3 := hide hs3
            have HM3 := hide hmo3
            have hz3 := hs3.size
            clear hw3 hw3' hs3 hmo3 x0' x1' x2' x3' y0 y1 y2 y3 HMO HMS
            have hgm : (Value.slice ma st.1.length mc).ownBlock ≠ some go := fun hh => by have := ((unhide HM3).lt go hh).1; omega
            have hgo3 : go < w3.heap.size := by omega
            go_wp2_with (first | (at_builtin; refine wpList_append_lies _ rfl _ _ _ rfl W1.heap.size 50 i0 _ 4 32 Tryz.underlying52 hi0 hz0 hz1 hz2 rfl (by omega) (.slice ma st.1.length mc) st.1.length _ rfl ((unhide HM3).alloc _) ⟨w3.heap.size, 0, none⟩ 1 1 [.int .i64 x.addr, .int .i64 x.len, .int .i64 x.hop, .int .i64 x.from_] rfl rfl (World.news_of_block (cs := #[.int .i64 x.addr, .int .i64 x.len, .int .i64 x.hop, .int .i64 x.from_]) (t := 50) (fr := (0, 0)) (heap_alloc_new w3 _)) (by simp [Value.oneCell']) (by omega) (by unfold maxLen; omega) (by omega) (by simp; omega) (w3.heap.size + 1) (by simp) ?_; intro g4 cap4 w4 hown4 hgrow4 hat4 hlt4; have p0 := (hgrow4.cell_far ⟨go, j * 4, none⟩ (by simp; omega) (Ne.symm hgm)).trans ((World.cell?_alloc_lt _ _ _ hgo3).trans o0); have p1 := (hgrow4.cell_far ⟨go, j * 4 + 1, none⟩ (by simp; omega) (Ne.symm hgm)).trans ((World.cell?_alloc_lt _ _ _ hgo3).trans o1); have p2 := (hgrow4.cell_far ⟨go, j * 4 + 2, none⟩ (by simp; omega) (Ne.symm hgm)).trans ((World.cell?_alloc_lt _ _ _ hgo3).trans o2); have p3 := (hgrow4.cell_far ⟨go, j * 4 + 3, none⟩ (by simp; omega) (Ne.symm hgm)).trans ((World.cell?_alloc_lt _ _ _ hgo3).trans o3); have hz4 := hgrow4.size; simp only [World.size_alloc] at hz4) | (at_builtin; refine wpList_append_lies _ rfl _ _ _ rfl W1.heap.size 50 i0 _ 4 32 Tryz.underlying52 hi0 hz0 hz1 hz2 rfl (by omega) (.slice (some ⟨g4, 0, none⟩) (st.1.length + 1) cap4) (st.1.length + 1) _ rfl (hown4.alloc _) ⟨w4.heap.size, 0, none⟩ 1 1 [.int .i64 y.addr, .int .i64 y.len, .int .i64 y.hop, .int .i64 y.from_] rfl rfl (World.news_of_block (cs := #[.int .i64 y.addr, .int .i64 y.len, .int .i64 y.hop, .int .i64 y.from_]) (t := 50) (fr := (0, 0)) (heap_alloc_new w4 _)) (by simp [Value.oneCell']) (by omega) (by unfold maxLen; omega) (by omega) (by simp; omega) (w4.heap.size + 1) (by simp) ?_; intro g5 cap5 w5 hown5 hgrow5 hat5 hlt5))
            have hks4 : Still W1 w4 := Kept.grown (Kept.alloc (unhide HS3) _) hgrow4 (fun z hz => .inr ((unhide HM3).lt z hz).1)
            have hks5 : Still W1 w5 := Kept.grown (Kept.alloc hks4 _) hgrow5 (fun z hz => .inr (hown4.lt z hz).1)
            go_roundw
            case rel =>
              refine ⟨j + 1, by omega, by go_num, by rw [unhide his, unhide HI2], ?_, hks5⟩
              rw [unhide his, unhide HI2]
              show w5.ownsRow _ _ _ _ (st.1 ++ [x] ++ [y]).length ((st.1 ++ [x] ++ [y]).flatMap routeCells)
              rw [flat_snoc2, List.length_append, List.length_append]
              exact hown5
            case measure => simp [intOf]; omega
          · have hno : lessB x y = false ∨ st.2 = true := by
              cases hh : lessB x y
              · exact .inl rfl
              · right
                rw [unhide HFI]
                cases fi
                · exact absurd ⟨hh, rfl⟩ hyes
                · rfl
            have HI2 := hide (ins_no (x := x) (y := y) (st := st) hno)
            clear hno
            cases hle : lessB x y
            all_goals cases fi
            case true.false => exact absurd ⟨hle, rfl⟩ hyes
            all_goals
              have HLE := hide hle
              clear hle hyes
              go_wp2_with fail
              go_region_held3 (fun w' => w'.cell? ⟨gl, i * 4, none⟩ = some (.int .i64 x.addr) ∧ w'.cell? ⟨gl, i * 4 + 1, none⟩ = some (.int .i64 x.len) ∧ w'.cell? ⟨gl, i * 4 + 2, none⟩ = some (.int .i64 x.hop) ∧ w'.cell? ⟨gl, i * 4 + 3, none⟩ = some (.int .i64 x.from_) ∧ w'.cell? ⟨go, j * 4, none⟩ = some (.int .i64 y.addr) ∧ w'.cell? ⟨go, j * 4 + 1, none⟩ = some (.int .i64 y.len) ∧ w'.cell? ⟨go, j * 4 + 2, none⟩ = some (.int .i64 y.hop) ∧ w'.cell? ⟨go, j * 4 + 3, none⟩ = some (.int .i64 y.from_)) (first | go_keep | (go_split_ands; exact ⟨(hw3.cell _ _ hglw).trans x0', (hw3.cell _ _ hglw).trans x1', (hw3.cell _ _ hglw).trans x2', (hw3.cell _ _ hglw).trans x3', (hw3.cell _ _ hgow).trans y0, (hw3.cell _ _ hgow).trans y1, (hw3.cell _ _ hgow).trans y2, (hw3.cell _ _ hgow).trans y3⟩)) ((go_at_call 127; refine (less_any x y _).mono ?_; rintro e w3 ⟨rfl, hw3⟩; rw [unhide HLE]))
              have hs3 : Still W1 w3 := Kept.trans (Kept.drew (unhide HMS)) hw3
              have hw3' : Still wr w3 := Kept.trans ((Kept.refl _ _).drew) hw3
              have hmo3 : w3.ownsRow W1.heap.size 50 4 (.slice ma st.1.length mc) st.1.length (st.1.flatMap routeCells) := ownsRow_of_block (unhide HMO) (fun z hz => hw3'.heap (ownsRow_lt (unhide HMO) hz))
              have a0 := (hw3'.cell _ _ hglw).trans x0'
              have a1 := (hw3'.cell _ _ hglw).trans x1'
              have a2 := (hw3'.cell _ _ hglw).trans x2'
              have a3 := (hw3'.cell _ _ hglw).trans x3'
              have o0 := (hw3'.cell _ _ hgow).trans y0
              have o1 := (hw3'.cell _ _ hgow).trans y1
              have o2 := (hw3'.cell _ _ hgow).trans y2
              have o3 := (hw3'.cell _ _ hgow).trans y3
              have HS3 := hide hs3
              have HM3 := hide hmo3
              have hz3 := hs3.size
              clear hw3 hw3' hs3 hmo3 x0' x1' x2' x3' y0 y1 y2 y3 HMO HMS
              have hgm : (Value.slice ma st.1.length mc).ownBlock ≠ some go := fun hh => by have := ((unhide HM3).lt go hh).1; omega
              have hgo3 : go < w3.heap.size := by omega
              go_wp2_with (at_builtin; refine wpList_append_lies _ rfl _ _ _ rfl W1.heap.size 50 i0 _ 4 32 Tryz.underlying52 hi0 hz0 hz1 hz2 rfl (by omega) (.slice ma st.1.length mc) st.1.length _ rfl ((unhide HM3).alloc _) ⟨w3.heap.size, 0, none⟩ 1 1 [.int .i64 y.addr, .int .i64 y.len, .int .i64 y.hop, .int .i64 y.from_] rfl rfl (World.news_of_block (cs := #[.int .i64 y.addr, .int .i64 y.len, .int .i64 y.hop, .int .i64 y.from_]) (t := 50) (fr := (0, 0)) (heap_alloc_new w3 _)) (by simp [Value.oneCell']) (by omega) (by unfold maxLen; omega) (by omega) (by simp; omega) (w3.heap.size + 1) (by simp) ?_; intro g4 cap4 w4 hown4 hgrow4 hat4 hlt4)
              have hks4 : Still W1 w4 := Kept.grown (Kept.alloc (unhide HS3) _) hgrow4 (fun z hz => .inr ((unhide HM3).lt z hz).1)
              go_roundw
              case rel =>
                refine ⟨j + 1, by omega, by go_num, by rw [unhide his, unhide HI2]; exact congrArg Value.bool (unhide HFI).symm, ?_, hks4⟩
                rw [unhide his, unhide HI2]
                show w4.ownsRow _ _ _ _ (st.1 ++ [y]).length ((st.1 ++ [y]).flatMap routeCells)
                rw [flat_snoc, List.length_append]
                exact hown4
              case measure => simp [intOf]; omega
        · obtain rfl : j = i := by omega
          have hef : Hid (insF x out = if (insTo x out j).2 = true then (insTo x out j).1 else (insTo x out j).1 ++ [x]) := by
            show insF x out = _
            unfold insF
            rw [hsl]
          have hln : (insTo x out j).1.length ≤ 2000002 := by
            rw [hlen]
            split <;> omega
          have HLN := hide hlen
          clear hlen
          generalize insTo x out j = st at *
          generalize hfi : st.2 = fi at *
          have HFI := hide hfi
          clear hfi
          cases fi with
          | true =>
            have e1 : st.1.length = j + 1 := unhide HLN
            have E1 := hide e1
            clear e1
            go_wp2
            go_roundw
            case rel =>
              refine ⟨j + 1, by omega, by go_num, ?_, Kept.trans (unhide HST) (unhide HMS)⟩
              rw [unhide hsu, unhide hef, if_pos rfl]
              have hq := (unhide HMO).mono hzz
              rw [unhide E1] at hq
              rw [unhide E1]
              exact hq
            case measure => simp [intOf]; omega
          | false =>
            have e1 : st.1.length = j := unhide HLN
            have E1 := hide e1
            clear e1
            have hglw : gl < wr.heap.size := by omega
            go_wp2_with (at_builtin; refine wpList_append_lies _ rfl _ _ _ rfl W1.heap.size 50 i0 _ 4 32 Tryz.underlying52 hi0 hz0 hz1 hz2 rfl (by omega) (.slice ma st.1.length mc) st.1.length _ rfl ((unhide HMO).alloc _) ⟨wr.heap.size, 0, none⟩ 1 1 [.int .i64 x.addr, .int .i64 x.len, .int .i64 x.hop, .int .i64 x.from_] rfl rfl (World.news_of_block (cs := #[.int .i64 x.addr, .int .i64 x.len, .int .i64 x.hop, .int .i64 x.from_]) (t := 50) (fr := (0, 0)) (heap_alloc_new wr _)) (by simp [Value.oneCell']) (by omega) (by unfold maxLen; omega) (by omega) (by simp; omega) (wr.heap.size + 1) (by simp) ?_; intro g4 cap4 w4 hown4 hgrow4 hat4 hlt4)
            have hks4 : Still W1 w4 := Kept.grown (Kept.alloc (unhide HMS) _) hgrow4 (fun z hz => .inr ((unhide HMO).lt z hz).1)
            go_roundw
            case rel =>
              refine ⟨j + 1, by omega, by go_num, ?_, Kept.trans (unhide HST) hks4⟩
              rw [unhide hsu, unhide hef, if_neg (by simp), flat_snoc]
              have hq := hown4.mono hzz
              rw [unhide E1] at hq
              rw [unhide E1]
              exact hq
            case measure => simp [intOf]; omega
    · obtain rfl : i = l.length := by omega
      go_wp2
      go_ret
      exact ⟨_, rfl, unhide HOW, unhide HST⟩
end
end Go.Proofs.YtgndledehlilkaaGreat
