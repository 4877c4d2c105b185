/-
  Walks: districtlaw: filter.
-/
import Derived.Test.YtgndledehlilkaaGreatLawI6M
import Derived.Laws.Cover3
import Derived.Laws.StructEq
namespace Go.Proofs.YtgndledehlilkaaGreat
open Go.RowKit
attribute [local go_sem ↓] Go.wp_at_zero Go.wp_at_succ

theorem eqlNil {P : Program} (w : World) (t e : TypeId) (a : Option Addr) (l c : Nat) (h : P.underlying t = some (.slice e)) : (binOp .eql t (.slice a l c) (.slice none 0 0)).run P w = .ok (.bool a.isNone) w := by
  simp [binOp, run_equal_slice_nil w t e a l c h]
theorem eqRuleJ (x : RuleD) (w : World) : (binOp .eql 55 (.agg #[.bool x.allow, .int .i64 x.addr, .int .i64 x.len, .int .i64 x.ge, .int .i64 x.le]) (.agg #[.bool x.allow, .int .i64 x.addr, .int .i64 x.len, .int .i64 x.ge, .int .i64 x.le])).run Tryz.prog w = .ok (.bool true) w := by
  have hu := Tryz.underlying55
  have hf : Tryz.prog.underlying 55 = some (.struct (Tryz.prog.fieldsOf 55)) := by unfold Program.fieldsOf; rw [hu]
  have hp : Tryz.prog.stoodInHeld 55 = false := by kernel_rfl
  rw [run_eql_struct, run_equalIn_struct w 9999 _ _ _ hf hp]
  unfold Program.fieldsOf
  rw [hu]
  cases x.allow <;> simp [Op.eqFields, go_sem, Tryz.underlying3, Tryz.underlying4]
theorem copy_run {P : Program} {w : World} {t ty e : TypeId} {i : TypeInfo} (hu : P.underlying t = some (.slice e)) (hi : P.info? e = some i) (hsize : i.size = 5) {base g m c : Nat} {xs : List Value}
    (hown : w.ownsRow base e 5 (.slice (some ⟨g, 0, none⟩) m c) m xs) {u : Value} {R : List RuleD} (hR : RulesIn w u R) (hm : R.length ≤ m) :
    ∃ w', (Builtin.copy_ #[t, t] ty #[.slice (some ⟨g, 0, none⟩) m c, u]).run P w = .ok (goInt R.length) w' ∧ w'.ownsRow base e 5 (.slice (some ⟨g, 0, none⟩) m c) m (R.flatMap ruleCells ++ xs.drop (R.length * 5)) ∧ w.grownBy w' (some g) := by
  rcases hR with ⟨rfl, rfl⟩ | ⟨ad, c', rfl, _, hc⟩
  · have hr := run_copy_nil (P := P) w t t ty e ⟨g, 0, none⟩ m c hu (by rw [hi]; rfl)
    exact ⟨w, hr, by simpa using hown, ⟨rfl, rfl, rfl, Nat.le_refl _, fun _ _ _ => rfl⟩⟩
  · rcases hown.2 with ⟨e1, _⟩ | ⟨g', cap, cur, e1, hb, hg, hnc, hcm, hcs, htake⟩
    · simp at e1
    · simp only [Value.slice.injEq, Option.some.injEq, Addr.mk.injEq, and_true, true_and] at e1
      obtain ⟨rfl, rfl⟩ := e1
      have hl5 := ruleCells_len R
      have hmul : R.length * 5 ≤ m * 5 := Nat.mul_le_mul_right 5 hm
      have hmul2 : m * 5 ≤ c * 5 := Nat.mul_le_mul_right 5 hnc
      have hmin : Nat.min R.length m = R.length := Nat.min_eq_left hm
      have hr := run_copy_wide (P := P) w t t ty e i g 0 m c ad R.length c' cur e (R.flatMap ruleCells) hu hi hg (by rw [hmin, hsize]; exact hl5) hc (by rw [hl5, hcs]; omega) (ruleCells_one R)
      rw [hmin] at hr
      generalize R.flatMap ruleCells = cs at *
      refine ⟨_, hr, ⟨?_, .inr ⟨g, c, _, rfl, hb, setRow_heap w g cur _ e _ hg, hnc, hcm, ?_, ?_⟩⟩, ⟨rfl, rfl, rfl, by simp, fun k _ hk => setRow_other w g k _ (fun e => hk (by simp [e]))⟩⟩
      · rw [List.length_append, List.length_drop, hown.1, hl5]; omega
      · simp [hl5, hcs]; omega
      · have := take_over cur.toList cs (m * 5) (by omega)
        rw [htake, hl5] at this
        simpa [hl5] using this
set_option maxRecDepth 100000 in
set_option maxHeartbeats 8000000 in
theorem lawI_filter (I : EngI) (J : EngI2 I) {w : World} {O : Tag} {e bx by_ : Nat} {r : RefS} (h : PairI I w O e bx by_ r) (ei a b c d : Int) (f : Bool) (ra : Option Addr) (rn rc : Nat) (sa : Option Addr) (sn sc : Nat) {R : List RuleD}
    (hR : RulesIn w (.slice ra rn rc) R) (hRn : R.length * 40 ≤ 140737488351232) (hRo : ∀ ad, ra = some ad → 0 < R.length → (O ad.block).1 ≠ e) (he1 : 1 ≤ e) :
    Calls Tryz.prog 35 #[engW bx by_, stepW 9 ei a b c d f (.slice ra rn rc) (.slice sa sn sc)] w fun en w' => en = .returned (.bool true) ∧ AfterI I w O e bx by_ w' := by
  obtain ⟨ra', rc', e0, _⟩ := hR.len
  simp only [Value.slice.injEq] at e0
  obtain ⟨rfl, rfl, rfl⟩ := e0
  obtain ⟨i0, hi0, hz0, hz1, hz2⟩ := info_parts infoRule
  unfold engW stepW
  have HP := hide h
  have HR := hide hR
  have HRO := hide hRo
  clear h hR hRo
  have HST : Hid (Still w ((w.alloc (.cells #[.pointer (some ⟨bx, 0, none⟩), .pointer (some ⟨by_, 0, none⟩)] 46)).alloc (.cells #[.int .i64 9, .int .i64 ei, .int .i64 a, .int .i64 b, .int .i64 c, .int .i64 d, .bool f, .slice ra R.length rc, .slice sa sn sc] 35))) := ((Kept.refl _ _).alloc _).alloc _
  obtain ⟨b1, b2⟩ := box_two (P := fun _ => False) (w := w) (.cells #[.pointer (some ⟨bx, 0, none⟩), .pointer (some ⟨by_, 0, none⟩)] 46) (.cells #[.int .i64 9, .int .i64 ei, .int .i64 a, .int .i64 b, .int .i64 c, .int .i64 d, .bool f, .slice ra R.length rc, .slice sa sn sc] 35) (Kept.refl _ _) (fun x => x) (fun x => x)
  have y0 : ((w.alloc (.cells #[.pointer (some ⟨bx, 0, none⟩), .pointer (some ⟨by_, 0, none⟩)] 46)).alloc (.cells #[.int .i64 9, .int .i64 ei, .int .i64 a, .int .i64 b, .int .i64 c, .int .i64 d, .bool f, .slice ra R.length rc, .slice sa sn sc] 35)).cell? ⟨w.heap.size, 0, none⟩ = some (.pointer (some ⟨bx, 0, none⟩)) := by rw [b1, World.cell?_alloc_new]; rfl
  have y1 : ((w.alloc (.cells #[.pointer (some ⟨bx, 0, none⟩), .pointer (some ⟨by_, 0, none⟩)] 46)).alloc (.cells #[.int .i64 9, .int .i64 ei, .int .i64 a, .int .i64 b, .int .i64 c, .int .i64 d, .bool f, .slice ra R.length rc, .slice sa sn sc] 35)).cell? ⟨w.heap.size, 1, none⟩ = some (.pointer (some ⟨by_, 0, none⟩)) := by rw [b1, World.cell?_alloc_new]; rfl
  have y2 : ((w.alloc (.cells #[.pointer (some ⟨bx, 0, none⟩), .pointer (some ⟨by_, 0, none⟩)] 46)).alloc (.cells #[.int .i64 9, .int .i64 ei, .int .i64 a, .int .i64 b, .int .i64 c, .int .i64 d, .bool f, .slice ra R.length rc, .slice sa sn sc] 35)).cell? ⟨w.heap.size + 1, 2, none⟩ = some (.int .i64 a) := by rw [b2, ← World.size_alloc w, World.cell?_alloc_new]; rfl
  have y7 : ((w.alloc (.cells #[.pointer (some ⟨bx, 0, none⟩), .pointer (some ⟨by_, 0, none⟩)] 46)).alloc (.cells #[.int .i64 9, .int .i64 ei, .int .i64 a, .int .i64 b, .int .i64 c, .int .i64 d, .bool f, .slice ra R.length rc, .slice sa sn sc] 35)).cell? ⟨w.heap.size + 1, 7, none⟩ = some (.slice ra R.length rc) := by rw [b2, ← World.size_alloc w, World.cell?_alloc_new]; rfl
  have hW0 : ((w.alloc (.cells #[.pointer (some ⟨bx, 0, none⟩), .pointer (some ⟨by_, 0, none⟩)] 46)).alloc (.cells #[.int .i64 9, .int .i64 ei, .int .i64 a, .int .i64 b, .int .i64 c, .int .i64 d, .bool f, .slice ra R.length rc, .slice sa sn sc] 35)).heap.size = w.heap.size + 2 := by simp
  clear b1 b2
  go_enter Tryz.func35, Tryz.ntmps35
  go_wp2_with (at_make; refine wpList_make_full _ rfl _ _ _ rfl 0 55 i0 _ 5 Tryz.underlying32 hi0 hz0 hz1 .i64 .i64 _ _ (R.length + 8) rfl rfl (by omega) (by omega) (by rw [hz2]; omega) (by unfold maxLen; omega) (Nat.zero_le _) ?_; intro w1 hown1 hgrow1; refine unhide ?_)
  refine hide ?_
  generalize (w.alloc (.cells #[.pointer (some ⟨bx, 0, none⟩), .pointer (some ⟨by_, 0, none⟩)] 46)).alloc (.cells #[.int .i64 9, .int .i64 ei, .int .i64 a, .int .i64 b, .int .i64 c, .int .i64 d, .bool f, .slice ra R.length rc, .slice sa sn sc] 35) = W0 at *
  generalize hs1 : w.heap.size = s1 at *
  have HS1 := hide hs1
  clear hs1
  have hS1 : Still W0 w1 := Kept.grown (Kept.refl _ _) hgrow1 (fun k hk => by simp at hk)
  have hin1 : RulesIn w1 (.slice ra R.length rc) R := ((unhide HR).still (unhide HST)).still hS1
  have z0 := (hS1.cell s1 0 (by omega)).trans y0
  have z1 := (hS1.cell s1 1 (by omega)).trans y1
  have z2 := (hS1.cell (s1 + 1) 2 (by omega)).trans y2
  have z7 := (hS1.cell (s1 + 1) 7 (by omega)).trans y7
  have HIN1 := hide hin1
  have HY0 := hide y0
  have HY1 := hide y1
  have HY2 := hide y2
  have HY7 := hide y7
  rw [hW0] at hown1
  generalize hgA : s1 + 2 = gA at *
  have HGA : Hid (W0.heap.size = gA) := hW0
  have HGS := hide hgA
  clear hW0
  have HO1 := hide hown1
  have HSS1 := hide hS1
  clear hS1 hin1 hgrow1 hown1 y0 y1 y2 y7 hgA
  obtain ⟨w2, hcr, hown2, hgrow2⟩ := copy_run (P := Tryz.prog) (ty := 3) Tryz.underlying32 hi0 hz1 (unhide HO1) (unhide HIN1) (by omega)
  have HCR := hide hcr
  clear hcr
  go_wp2_with fail
  rw [unhide HCR]
  obtain ⟨ys, hys, hrow2⟩ : ∃ ys : List Value, ys.length = 40 ∧ w2.ownsRow 0 55 5 (.slice (some ⟨gA, 0, none⟩) (R.length + 8) (R.length + 8)) (R.length + 8) (R.flatMap ruleCells ++ ys) := ⟨_, by rw [List.length_drop, (unhide HO1).1]; omega, hown2⟩
  rw [full_start R ys hys] at hrow2
  have hgl : ∀ j, j < 8 → ((fun j => (ys.drop (j * 5)).take 5) j).length = 5 := fun j hj => full_tail hys hj
  generalize (fun j => (ys.drop (j * 5)).take 5) = gf at hrow2 hgl
  have hS2 : Still W0 w2 := Kept.grown (unhide HSS1) hgrow2 (fun k hk => .inr (by have := unhide HGA; simp at hk; omega))
  have HSS2 := hide hS2
  have HRW2 := hide hrow2
  have HGL := hide hgl
  clear hS2 hrow2 hown2 hgrow2 hys hgl z0 z1 z2 z7 HIN1 HSS1 HO1
  go_wp2
  go_loopw [7] (fun t w' => ∃ i : Nat, R.length ≤ i ∧ i ≤ R.length + 8 ∧ t = .int .i64 i ∧ w'.ownsRow 0 55 5 (.slice (some ⟨gA, 0, none⟩) (R.length + 8) (R.length + 8)) (R.length + 8) (enc (R.length + 8) (fullF R gf i)) ∧ Still W0 w') (fun t _ => R.length + 8 - (intOf t).toNat)
  case atStart => exact ⟨R.length, Nat.le_refl _, by omega, rfl, unhide HRW2, unhide HSS2⟩
  case round =>
    obtain ⟨i, hin, hi, rfl, hrow, hst⟩ := hrel
    have HROW := hide hrow
    have HSTR := hide hst
    clear hrow hst
    by_cases hlt : i < R.length + 8
    · have hi0' : (0 : Int) ≤ (i : Int) := by omega
      have hi1' : (i : Int) < ((R.length + 8 : Nat) : Int) := by omega
      go_wp2_with fail
      refine (foreign_any _).mono ?_
      rintro en wf ⟨rfl, hw⟩
      have hrowf := ownsRow_of_block (unhide HROW) (fun x hx => hw.heap (ownsRow_lt (unhide HROW) hx))
      have hlen := fun a (ha : a < R.length + 8) => fullF_len R (unhide HGL) i ha
      obtain ⟨ca, cb, cc, cd, ce, hmx⟩ := five (hlen i hlt)
      have q := fun (j : Nat) (hj : j < 5) => ownsRow_cell hrowf hlen hlt hj
      have q0 := (q 0 (by omega)).trans (by rw [hmx]; rfl : _ = some ca)
      have q1 := (q 1 (by omega)).trans (by rw [hmx]; rfl : _ = some cb)
      have q2 := (q 2 (by omega)).trans (by rw [hmx]; rfl : _ = some cc)
      have q3 := (q 3 (by omega)).trans (by rw [hmx]; rfl : _ = some cd)
      have q4 := (q 4 (by omega)).trans (by rw [hmx]; rfl : _ = some ce)
      rw [Nat.add_zero] at q0
      have ff : ∀ j, wf.frozen? ⟨gA, j, none⟩ = false := fun j => hrowf.frozenAt j
      have HR5 : Hid ((((((wf.setCell ⟨gA, i * 5, none⟩ (.bool true)).setCell ⟨gA, i * 5 + 1, none⟩ (.int .i64 (-1))).setCell ⟨gA, i * 5 + 2, none⟩ (.int .i64 77)).setCell ⟨gA, i * 5 + 3, none⟩ (.int .i64 77)).setCell ⟨gA, i * 5 + 4, none⟩ (.int .i64 77)).ownsRow 0 55 5 (.slice (some ⟨gA, 0, none⟩) (R.length + 8) (R.length + 8)) (R.length + 8) (enc (R.length + 8) (fullF R gf (i + 1)))) := by
        have := ownsRow_store5 hrowf hlen hlt (.bool true) (.int .i64 (-1)) (.int .i64 77) (.int .i64 77) (.int .i64 77)
        rw [← fullF_step R gf hin]
        exact this
      have hge : W0.heap.size ≤ gA := by have := unhide HGA; omega
      have HK5 : Hid (Still W0 (((((wf.setCell ⟨gA, i * 5, none⟩ (.bool true)).setCell ⟨gA, i * 5 + 1, none⟩ (.int .i64 (-1))).setCell ⟨gA, i * 5 + 2, none⟩ (.int .i64 77)).setCell ⟨gA, i * 5 + 3, none⟩ (.int .i64 77)).setCell ⟨gA, i * 5 + 4, none⟩ (.int .i64 77))) :=
        Kept.setCell (p := ⟨gA, i * 5 + 4, none⟩) (Kept.setCell (p := ⟨gA, i * 5 + 3, none⟩) (Kept.setCell (p := ⟨gA, i * 5 + 2, none⟩) (Kept.setCell (p := ⟨gA, i * 5 + 1, none⟩) (Kept.setCell (p := ⟨gA, i * 5, none⟩) (Kept.trans (unhide HSTR) hw) (.inr hge) _) (.inr hge) _) (.inr hge) _) (.inr hge) _) (.inr hge) _
      clear q hmx hrowf hlen hw
      go_wp2
      go_roundw
      case rel => exact ⟨i + 1, by omega, by omega, by go_num, unhide HR5, unhide HK5⟩
      case measure => simp [intOf]; omega
    · obtain rfl : i = R.length + 8 := by omega
      have hro : wr.ownsRow 0 55 5 (.slice (some ⟨gA, 0, none⟩) (R.length + 8) (R.length + 8)) (R.length + 8) (enc (R.length + 8) (overF R 0)) := by rw [← full_over R gf]; exact unhide HROW
      have HRO0 := hide hro
      clear hro HROW HGL HRW2 HSS2
      have z0 := ((unhide HSTR).cell s1 0 (by have := unhide HGA; have := unhide HGS; omega)).trans (unhide HY0)
      have z1 := ((unhide HSTR).cell s1 1 (by have := unhide HGA; have := unhide HGS; omega)).trans (unhide HY1)
      have z2 := ((unhide HSTR).cell (s1 + 1) 2 (by have := unhide HGA; have := unhide HGS; omega)).trans (unhide HY2)
      have z7 := ((unhide HSTR).cell (s1 + 1) 7 (by have := unhide HGA; have := unhide HGS; omega)).trans (unhide HY7)
      have hSW : Still w wr := (unhide HST).trans (unhide HSTR)
      have hp1 := (unhide HP).boxed hSW
      have hgl' : gA < wr.heap.size := ownsRow_lt (unhide HRO0) rfl
      have hsw : s1 + 1 < wr.heap.size := by have := unhide HGS; omega
      have HP1 := hide hp1
      have HSW := hide hSW
      have hRw : RulesIn wr (.slice ra R.length rc) R := (unhide HR).still hSW
      have HRW := hide hRw
      clear hp1 hSW hRw
      rcases unhide HR with ⟨hnil, hR0⟩ | ⟨ad, c', hsome, hx1, hx2⟩
      · simp only [Value.slice.injEq] at hnil
        obtain ⟨hra, hq1, hq2⟩ := hnil
        subst hra
        have HR0 := hide hR0
        clear hR0 hq1 hq2
        have hN := fun w => eqlNil w 32 55 none R.length rc Tryz.underlying32
        simp only [Option.isNone_none] at hN
        go_wp2_with fail
        have HRV : Hid (RulesIn wr (.slice none 0 0) R) := .inl ⟨rfl, unhide HR0⟩
        refine (J.filter (unhide HP1).x (unhide HP1).ok _ _ R (unhide HRV)).mono ?_
        rintro en w3 ⟨rfl, O1, hO1, hX, hk3⟩
        have hnx : ∀ k, w.heap.size ≤ k → ¬ mineX (cutO O w.heap.size) e k := fun k hk => cutO_not hk
        have hs1 := unhide HS1
        have hgs := unhide HGS
        have u1 := (hk3.cell (p := ⟨s1, 1, none⟩) (by show s1 < wr.heap.size; omega) (hnx s1 (by omega))).trans z1
        have u2 := (hk3.cell (p := ⟨s1 + 1, 2, none⟩) hsw (hnx (s1 + 1) (by omega))).trans z2
        have u7 := (hk3.cell (p := ⟨s1 + 1, 7, none⟩) hsw (hnx (s1 + 1) (by omega))).trans z7
        have hz3 := hk3.size
        have hr3 := (unhide HP1).ref hk3 hO1
        have hrow3 : w3.ownsRow 0 55 5 (.slice (some ⟨gA, 0, none⟩) (R.length + 8) (R.length + 8)) (R.length + 8) (enc (R.length + 8) (overF R 0)) := ownsRow_of_block (unhide HRO0) (fun g hg => hk3.block g (ownsRow_lt (unhide HRO0) hg) (by
          have : gA = g := by simpa [Value.ownBlock] using hg
          exact hnx g (by omega)))
        have hcut : ∀ ad' c', Value.slice none R.length rc = .slice (some ad') R.length c' → 0 < R.length → ¬ mineX (cutO O w.heap.size) e ad'.block ∧ (ad'.block < w.heap.size) ∧ (O ad'.block).1 ≠ e := fun ad' c' he hpos => by
          have he2 : none = some ad' := by simpa using (Value.slice.inj he).1
          have hne := unhide HRO ad' he2 hpos
          have hlt : ad'.block < w.heap.size := by
            obtain ⟨bs, off, hb, hbl, _⟩ := (unhide HR).at hpos
            rw [he2] at hb
            have : ad' = ⟨bs, off, none⟩ := by simpa using hb
            rw [this]; exact hbl
          refine ⟨fun hm => ?_, hlt, hne⟩
          unfold mineX at hm
          rw [cutO_lt hlt] at hm
          exact hne hm.1
        have hR3 : RulesIn w3 (.slice none R.length rc) R := (unhide HRW).kept hk3 (fun ad' c' he hpos => (hcut ad' c' he hpos).1)
        have HR3 := hide hR3
        have HRF := hide (refFilter_any hr3 (unhide HP1).ok.wf a hR3)
        have HK3 := hide hk3
        have HO1 := hide hO1
        have HX := hide hX
        have HROW3 := hide hrow3
        have HCUT := hide hcut
        have HNX := hide hnx
        clear hk3 hO1 hX hr3 hrow3 hR3 hcut hnx z0 z1 z2 z7 HRV
        generalize filterR r a R = fe at *
        go_wp2_with fail
        refine (unhide HRF).mono ?_
        rintro en w4 ⟨rfl, O2, hO2, hRf, hk4⟩
        have hnr : ∀ k, w.heap.size ≤ k → k < wr.heap.size → ¬ mineR O1 e k := fun k h1 h2 hm => by
          unfold mineR at hm
          rw [unhide HO1 k h2, cutO_ge h1] at hm
          simp at hm
        have v7 := (hk4.cell (p := ⟨s1 + 1, 7, none⟩) (by show s1 + 1 < w3.heap.size; omega) (hnr (s1 + 1) (by omega) hsw)).trans u7
        have hrow4 : w4.ownsRow 0 55 5 (.slice (some ⟨gA, 0, none⟩) (R.length + 8) (R.length + 8)) (R.length + 8) (enc (R.length + 8) (overF R 0)) := ownsRow_of_block (unhide HROW3) (fun g hg => hk4.block g (ownsRow_lt (unhide HROW3) hg) (by
          have : gA = g := by simpa [Value.ownBlock] using hg
          exact hnr g (by omega) (by omega)))
        have hR4 : RulesIn w4 (.slice none R.length rc) R := (unhide HR3).kept hk4 (fun ad' c' he hpos hm => by
          obtain ⟨_, q2, q3⟩ := unhide HCUT ad' c' he hpos
          unfold mineR at hm
          have hz := (unhide HSW).size
          rw [unhide HO1 _ (by omega), cutO_lt q2] at hm
          exact q3 hm.1)
        have hzw := (unhide HSW).size
        have hz4 := hk4.size
        have hpair : PairI I w4 O2 e bx by_ (filteredR r a R) := ⟨I.frame (unhide HX) (fun k hk hm => hk4.block k hk (fun hq => by have := hq.2; have := hm.2; omega)) (fun k hk _ => hO2 k hk), hRf, (unhide HP1).ok.filtered a R⟩
        have hO2g : O2 gA = (0, 8, 0) := by rw [hO2 gA (by omega), unhide HO1 gA hgl', cutO_ge (by omega)]
        have hO2w : ∀ k, k < w.heap.size → O2 k = O k := fun k hk => by rw [hO2 k (by omega), unhide HO1 k (by omega), cutO_lt hk]
        have hkw : Kept (mineA O e) w w4 := by
          refine Kept.trans' (Kept.trans' (Still.kept (unhide HSW) _) (unhide HK3) ?_) hk4 ?_
          · intro i hi hq
            have := hq.1
            rw [cutO_lt hi] at this
            exact this
          · intro i hi hq
            have := hq.1
            rw [unhide HO1 i (by omega), cutO_lt hi] at this
            exact this
        have HAFT : Hid (∀ w9, Kept (· = gA) w4 w9 → AfterI I w O e bx by_ w9) := fun w9 hk9 => ⟨O2, hO2w, ⟨_, hpair.frame (fun k hk ht => hk9.block k hk (fun hq => by rw [hq, hO2g] at ht; simp at ht; omega)) (fun _ _ _ => rfl)⟩, Kept.trans' hkw hk9 (fun i hi hq => by omega)⟩
        have HROW4 := hide hrow4
        have HR4 := hide hR4
        have HV7 := hide v7
        have hgA4 : gA < w4.heap.size := by omega
        have hs4 : s1 + 1 < w4.heap.size := by omega
        have hsg : s1 + 1 ≠ gA := by omega
        clear hnr v7 hrow4 hR4 hpair hO2g hO2w hkw hO2 hRf hk4 u1 u2 u7 HX HK3 HO1 HROW3 HR3 HRF
        go_wp2
        go_loopw [11, 12] (fun ok t w' => ∃ i : Nat, i ≤ R.length + 8 ∧ t = .int .i64 i ∧ ok = .bool true ∧ w'.ownsRow 0 55 5 (.slice (some ⟨gA, 0, none⟩) (R.length + 8) (R.length + 8)) (R.length + 8) (enc (R.length + 8) (overF R i)) ∧ Kept (· = gA) w4 w') (fun _ t _ => R.length + 8 - (intOf t).toNat)
        case atStart => exact ⟨0, by omega, rfl, rfl, unhide HROW4, Kept.refl _ _⟩
        case round =>
          obtain ⟨i, hi, rfl, rfl, hrow, hkk⟩ := hrel
          have HROW := hide hrow
          have HKK := hide hkk
          have v7 := (hkk.cell (p := ⟨s1 + 1, 7, none⟩) hs4 hsg).trans (unhide HV7)
          have hszr := hkk.size
          clear hrow hkk
          by_cases hlt : i < R.length + 8
          · have hi0' : (0 : Int) ≤ (i : Int) := by omega
            have hi1' : (i : Int) < ((R.length + 8 : Nat) : Int) := by omega
            have hlenO := fun a (_ : a < R.length + 8) => overF_len R i a
            by_cases hin : i < R.length
            · have ho : overF R i i = ruleCells (R.getD i ru0) := by unfold overF; rw [if_neg (by omega), if_pos hin]
              have hRr : RulesIn wr (.slice none R.length rc) R := (unhide HR4).kept (unhide HKK) (fun ad' c' he hpos hm => by
                obtain ⟨_, q2, _⟩ := unhide HCUT ad' c' he hpos
                omega)
              obtain ⟨bs, off, hra, hbs, c0, c1, c2, c3, c4⟩ := hRr.at hin
              cases hra
            · have ho : overF R i i = foreignC := by unfold overF; rw [if_neg (by omega), if_neg hin]
              have q := fun (j : Nat) (hj : j < 5) => ownsRow_cell (unhide HROW) hlenO hlt hj
              have q0 := (q 0 (by omega)).trans (by rw [ho]; rfl : _ = some (.bool true))
              have q1 := (q 1 (by omega)).trans (by rw [ho]; rfl : _ = some (.int .i64 (-1)))
              have q2 := (q 2 (by omega)).trans (by rw [ho]; rfl : _ = some (.int .i64 77))
              have q3 := (q 3 (by omega)).trans (by rw [ho]; rfl : _ = some (.int .i64 77))
              have q4 := (q 4 (by omega)).trans (by rw [ho]; rfl : _ = some (.int .i64 77))
              rw [Nat.add_zero] at q0
              have hE : ∀ w, (binOp .eql 55 (.agg #[.bool true, .int .i64 (-1), .int .i64 77, .int .i64 77, .int .i64 77]) (.agg #[.bool true, .int .i64 (-1), .int .i64 77, .int .i64 77, .int .i64 77])).run Tryz.prog w = .ok (.bool true) w := fun w => eqRuleJ ⟨true, -1, 77, 77, 77⟩ w
              have hgr : gA < wr.heap.size := ownsRow_lt (unhide HROW) rfl
              have hin' : ¬ (i : Int) < (R.length : Int) := by omega
              clear q ho hlenO
              go_wp2_with fail
              go_region_held3 (fun w' => w'.cell? ⟨gA, i * 5, none⟩ = some (.bool true) ∧ w'.cell? ⟨gA, i * 5 + 1, none⟩ = some (.int .i64 (-1)) ∧ w'.cell? ⟨gA, i * 5 + 2, none⟩ = some (.int .i64 77) ∧ w'.cell? ⟨gA, i * 5 + 3, none⟩ = some (.int .i64 77) ∧ w'.cell? ⟨gA, i * 5 + 4, none⟩ = some (.int .i64 77)) (first | go_keep | (go_split_ands; exact ⟨(hwf.cell gA (i * 5) hgr).trans q0, (hwf.cell gA (i * 5 + 1) hgr).trans q1, (hwf.cell gA (i * 5 + 2) hgr).trans q2, (hwf.cell gA (i * 5 + 3) hgr).trans q3, (hwf.cell gA (i * 5 + 4) hgr).trans q4⟩)) ((go_at_call 66; refine (foreign_any _).mono ?_; rintro en wx ⟨rfl, hwf⟩))
              have hwx : Still wr wx := Kept.trans ((Kept.refl (fun _ => False) wr).drew) hwf
              have HROWQ := hide (ownsRow_of_block (unhide HROW) (fun x hx => hwx.heap (ownsRow_lt (unhide HROW) hx)))
              have HKKQ := hide (Kept.trans (unhide HKK) (Still.kept hwx (· = gA)))
              clear hwf hwx q0 q1 q2 q3 q4 hE v7
              go_wp2_with fail
              refine (foreign_any _).mono ?_
              rintro en wf ⟨rfl, hw⟩
              have hrowf := ownsRow_of_block (unhide HROWQ) (fun x hx => hw.heap (ownsRow_lt (unhide HROWQ) hx))
              have hlen := fun a (_ : a < R.length + 8) => overF_len R i a
              obtain ⟨ca, cb, cc, cd, ce, hmx⟩ := five (hlen i hlt)
              have q := fun (j : Nat) (hj : j < 5) => ownsRow_cell hrowf hlen hlt hj
              have p0 := (q 0 (by omega)).trans (by rw [hmx]; rfl : _ = some ca)
              have p1 := (q 1 (by omega)).trans (by rw [hmx]; rfl : _ = some cb)
              have p2 := (q 2 (by omega)).trans (by rw [hmx]; rfl : _ = some cc)
              have p3 := (q 3 (by omega)).trans (by rw [hmx]; rfl : _ = some cd)
              have p4 := (q 4 (by omega)).trans (by rw [hmx]; rfl : _ = some ce)
              rw [Nat.add_zero] at p0
              have ff : ∀ j, wf.frozen? ⟨gA, j, none⟩ = false := fun j => hrowf.frozenAt j
              have HR5 : Hid ((((((wf.setCell ⟨gA, i * 5, none⟩ (.bool true)).setCell ⟨gA, i * 5 + 1, none⟩ (.int .i64 (-1))).setCell ⟨gA, i * 5 + 2, none⟩ (.int .i64 77)).setCell ⟨gA, i * 5 + 3, none⟩ (.int .i64 77)).setCell ⟨gA, i * 5 + 4, none⟩ (.int .i64 77)).ownsRow 0 55 5 (.slice (some ⟨gA, 0, none⟩) (R.length + 8) (R.length + 8)) (R.length + 8) (enc (R.length + 8) (overF R (i + 1)))) := by
                have := ownsRow_store5 hrowf hlen hlt (.bool true) (.int .i64 (-1)) (.int .i64 77) (.int .i64 77) (.int .i64 77)
                rw [← overF_step R i]
                exact this
              have HK5 : Hid (Kept (· = gA) w4 (((((wf.setCell ⟨gA, i * 5, none⟩ (.bool true)).setCell ⟨gA, i * 5 + 1, none⟩ (.int .i64 (-1))).setCell ⟨gA, i * 5 + 2, none⟩ (.int .i64 77)).setCell ⟨gA, i * 5 + 3, none⟩ (.int .i64 77)).setCell ⟨gA, i * 5 + 4, none⟩ (.int .i64 77))) := Kept.setCell (p := ⟨gA, i * 5 + 4, none⟩) (Kept.setCell (p := ⟨gA, i * 5 + 3, none⟩) (Kept.setCell (p := ⟨gA, i * 5 + 2, none⟩) (Kept.setCell (p := ⟨gA, i * 5 + 1, none⟩) (Kept.setCell (p := ⟨gA, i * 5, none⟩) (Kept.trans (unhide HKKQ) (Still.kept hw _)) (.inl rfl) _) (.inl rfl) _) (.inl rfl) _) (.inl rfl) _) (.inl rfl) _
              clear q hmx hrowf hlen hw
              go_wp2
              go_roundw
              case rel => exact ⟨i + 1, by omega, by go_num, rfl, unhide HR5, unhide HK5⟩
              case measure => simp [intOf]; omega
          · obtain rfl : i = R.length + 8 := by omega
            have HF := hide (unhide HAFT _ (unhide HKK))
            go_wp2
            go_ret
            exact ⟨rfl, unhide HF⟩
      · simp only [Value.slice.injEq] at hsome
        obtain ⟨hra, hq1, hq2⟩ := hsome
        subst hra
        clear hx1 hx2 hq2
        have hN := fun w => eqlNil w 32 55 (some ad) R.length rc Tryz.underlying32
        simp only [Option.isNone_some] at hN
        go_wp2_with fail
        have HRV : Hid (RulesIn wr (.slice (some ⟨gA, 0, none⟩) R.length (R.length + 8)) R) := RulesIn.row (unhide HRO0) (by omega) (by omega)
        refine (J.filter (unhide HP1).x (unhide HP1).ok _ _ R (unhide HRV)).mono ?_
        rintro en w3 ⟨rfl, O1, hO1, hX, hk3⟩
        have hnx : ∀ k, w.heap.size ≤ k → ¬ mineX (cutO O w.heap.size) e k := fun k hk => cutO_not hk
        have hs1 := unhide HS1
        have hgs := unhide HGS
        have u1 := (hk3.cell (p := ⟨s1, 1, none⟩) (by show s1 < wr.heap.size; omega) (hnx s1 (by omega))).trans z1
        have u2 := (hk3.cell (p := ⟨s1 + 1, 2, none⟩) hsw (hnx (s1 + 1) (by omega))).trans z2
        have u7 := (hk3.cell (p := ⟨s1 + 1, 7, none⟩) hsw (hnx (s1 + 1) (by omega))).trans z7
        have hz3 := hk3.size
        have hr3 := (unhide HP1).ref hk3 hO1
        have hrow3 : w3.ownsRow 0 55 5 (.slice (some ⟨gA, 0, none⟩) (R.length + 8) (R.length + 8)) (R.length + 8) (enc (R.length + 8) (overF R 0)) := ownsRow_of_block (unhide HRO0) (fun g hg => hk3.block g (ownsRow_lt (unhide HRO0) hg) (by
          have : gA = g := by simpa [Value.ownBlock] using hg
          exact hnx g (by omega)))
        have hcut : ∀ ad' c', Value.slice (some ad) R.length rc = .slice (some ad') R.length c' → 0 < R.length → ¬ mineX (cutO O w.heap.size) e ad'.block ∧ (ad'.block < w.heap.size) ∧ (O ad'.block).1 ≠ e := fun ad' c' he hpos => by
          have he2 : (some ad) = some ad' := by simpa using (Value.slice.inj he).1
          have hne := unhide HRO ad' he2 hpos
          have hlt : ad'.block < w.heap.size := by
            obtain ⟨bs, off, hb, hbl, _⟩ := (unhide HR).at hpos
            rw [he2] at hb
            have : ad' = ⟨bs, off, none⟩ := by simpa using hb
            rw [this]; exact hbl
          refine ⟨fun hm => ?_, hlt, hne⟩
          unfold mineX at hm
          rw [cutO_lt hlt] at hm
          exact hne hm.1
        have hR3 : RulesIn w3 (.slice (some ad) R.length rc) R := (unhide HRW).kept hk3 (fun ad' c' he hpos => (hcut ad' c' he hpos).1)
        have HR3 := hide hR3
        have HRF := hide (refFilter_any hr3 (unhide HP1).ok.wf a hR3)
        have HK3 := hide hk3
        have HO1 := hide hO1
        have HX := hide hX
        have HROW3 := hide hrow3
        have HCUT := hide hcut
        have HNX := hide hnx
        clear hk3 hO1 hX hr3 hrow3 hR3 hcut hnx z0 z1 z2 z7 HRV
        generalize filterR r a R = fe at *
        go_wp2_with fail
        refine (unhide HRF).mono ?_
        rintro en w4 ⟨rfl, O2, hO2, hRf, hk4⟩
        have hnr : ∀ k, w.heap.size ≤ k → k < wr.heap.size → ¬ mineR O1 e k := fun k h1 h2 hm => by
          unfold mineR at hm
          rw [unhide HO1 k h2, cutO_ge h1] at hm
          simp at hm
        have v7 := (hk4.cell (p := ⟨s1 + 1, 7, none⟩) (by show s1 + 1 < w3.heap.size; omega) (hnr (s1 + 1) (by omega) hsw)).trans u7
        have hrow4 : w4.ownsRow 0 55 5 (.slice (some ⟨gA, 0, none⟩) (R.length + 8) (R.length + 8)) (R.length + 8) (enc (R.length + 8) (overF R 0)) := ownsRow_of_block (unhide HROW3) (fun g hg => hk4.block g (ownsRow_lt (unhide HROW3) hg) (by
          have : gA = g := by simpa [Value.ownBlock] using hg
          exact hnr g (by omega) (by omega)))
        have hR4 : RulesIn w4 (.slice (some ad) R.length rc) R := (unhide HR3).kept hk4 (fun ad' c' he hpos hm => by
          obtain ⟨_, q2, q3⟩ := unhide HCUT ad' c' he hpos
          unfold mineR at hm
          have hz := (unhide HSW).size
          rw [unhide HO1 _ (by omega), cutO_lt q2] at hm
          exact q3 hm.1)
        have hzw := (unhide HSW).size
        have hz4 := hk4.size
        have hpair : PairI I w4 O2 e bx by_ (filteredR r a R) := ⟨I.frame (unhide HX) (fun k hk hm => hk4.block k hk (fun hq => by have := hq.2; have := hm.2; omega)) (fun k hk _ => hO2 k hk), hRf, (unhide HP1).ok.filtered a R⟩
        have hO2g : O2 gA = (0, 8, 0) := by rw [hO2 gA (by omega), unhide HO1 gA hgl', cutO_ge (by omega)]
        have hO2w : ∀ k, k < w.heap.size → O2 k = O k := fun k hk => by rw [hO2 k (by omega), unhide HO1 k (by omega), cutO_lt hk]
        have hkw : Kept (mineA O e) w w4 := by
          refine Kept.trans' (Kept.trans' (Still.kept (unhide HSW) _) (unhide HK3) ?_) hk4 ?_
          · intro i hi hq
            have := hq.1
            rw [cutO_lt hi] at this
            exact this
          · intro i hi hq
            have := hq.1
            rw [unhide HO1 i (by omega), cutO_lt hi] at this
            exact this
        have HAFT : Hid (∀ w9, Kept (· = gA) w4 w9 → AfterI I w O e bx by_ w9) := fun w9 hk9 => ⟨O2, hO2w, ⟨_, hpair.frame (fun k hk ht => hk9.block k hk (fun hq => by rw [hq, hO2g] at ht; simp at ht; omega)) (fun _ _ _ => rfl)⟩, Kept.trans' hkw hk9 (fun i hi hq => by omega)⟩
        have HROW4 := hide hrow4
        have HR4 := hide hR4
        have HV7 := hide v7
        have hgA4 : gA < w4.heap.size := by omega
        have hs4 : s1 + 1 < w4.heap.size := by omega
        have hsg : s1 + 1 ≠ gA := by omega
        clear hnr v7 hrow4 hR4 hpair hO2g hO2w hkw hO2 hRf hk4 u1 u2 u7 HX HK3 HO1 HROW3 HR3 HRF
        go_wp2
        go_loopw [11, 12] (fun ok t w' => ∃ i : Nat, i ≤ R.length + 8 ∧ t = .int .i64 i ∧ ok = .bool true ∧ w'.ownsRow 0 55 5 (.slice (some ⟨gA, 0, none⟩) (R.length + 8) (R.length + 8)) (R.length + 8) (enc (R.length + 8) (overF R i)) ∧ Kept (· = gA) w4 w') (fun _ t _ => R.length + 8 - (intOf t).toNat)
        case atStart => exact ⟨0, by omega, rfl, rfl, unhide HROW4, Kept.refl _ _⟩
        case round =>
          obtain ⟨i, hi, rfl, rfl, hrow, hkk⟩ := hrel
          have HROW := hide hrow
          have HKK := hide hkk
          have v7 := (hkk.cell (p := ⟨s1 + 1, 7, none⟩) hs4 hsg).trans (unhide HV7)
          have hszr := hkk.size
          clear hrow hkk
          by_cases hlt : i < R.length + 8
          · have hi0' : (0 : Int) ≤ (i : Int) := by omega
            have hi1' : (i : Int) < ((R.length + 8 : Nat) : Int) := by omega
            have hlenO := fun a (_ : a < R.length + 8) => overF_len R i a
            by_cases hin : i < R.length
            · have ho : overF R i i = ruleCells (R.getD i ru0) := by unfold overF; rw [if_neg (by omega), if_pos hin]
              have hRr : RulesIn wr (.slice (some ad) R.length rc) R := (unhide HR4).kept (unhide HKK) (fun ad' c' he hpos hm => by
                obtain ⟨_, q2, _⟩ := unhide HCUT ad' c' he hpos
                omega)
              obtain ⟨bs, off, hra, hbs, c0, c1, c2, c3, c4⟩ := hRr.at hin
              have had : ad = ⟨bs, off, none⟩ := by simpa using hra
              subst had
              have q := fun (j : Nat) (hj : j < 5) => ownsRow_cell (unhide HROW) hlenO hlt hj
              have q0 := (q 0 (by omega)).trans (by rw [ho]; rfl : _ = some (.bool (R.getD i ru0).allow))
              have q1 := (q 1 (by omega)).trans (by rw [ho]; rfl : _ = some (.int .i64 (R.getD i ru0).addr))
              have q2 := (q 2 (by omega)).trans (by rw [ho]; rfl : _ = some (.int .i64 (R.getD i ru0).len))
              have q3 := (q 3 (by omega)).trans (by rw [ho]; rfl : _ = some (.int .i64 (R.getD i ru0).ge))
              have q4 := (q 4 (by omega)).trans (by rw [ho]; rfl : _ = some (.int .i64 (R.getD i ru0).le))
              rw [Nat.add_zero] at q0
              generalize R.getD i ru0 = x at *
              have hE := fun w => eqRuleJ x w
              have hgr : gA < wr.heap.size := ownsRow_lt (unhide HROW) rfl
              have hsr : s1 + 1 < wr.heap.size := by omega
              have hdn : decide (i < R.length) = true := decide_eq_true hin
              have hin' : (i : Int) < (R.length : Int) := by omega
              have hin0 : (i : Int) < ((R.length : Nat) : Int) := by omega
              clear hra hRr q ho hlenO
              go_wp2_with fail
              go_quiet (fail)
              have hrowq := ownsRow_of_block (unhide HROW) (w' := wr.drewN nq) (fun _ _ => rfl)
              have HROWQ := hide hrowq
              have HKKQ := hide ((unhide HKK).drewN nq)
              clear hrowq q0 q1 q2 q3 q4 c0 c1 c2 c3 c4 hE v7
              generalize wr.drewN nq = WQ at *
              go_wp2_with fail
              refine (foreign_any _).mono ?_
              rintro en wf ⟨rfl, hw⟩
              have hrowf := ownsRow_of_block (unhide HROWQ) (fun x hx => hw.heap (ownsRow_lt (unhide HROWQ) hx))
              have hlen := fun a (_ : a < R.length + 8) => overF_len R i a
              obtain ⟨ca, cb, cc, cd, ce, hmx⟩ := five (hlen i hlt)
              have q := fun (j : Nat) (hj : j < 5) => ownsRow_cell hrowf hlen hlt hj
              have p0 := (q 0 (by omega)).trans (by rw [hmx]; rfl : _ = some ca)
              have p1 := (q 1 (by omega)).trans (by rw [hmx]; rfl : _ = some cb)
              have p2 := (q 2 (by omega)).trans (by rw [hmx]; rfl : _ = some cc)
              have p3 := (q 3 (by omega)).trans (by rw [hmx]; rfl : _ = some cd)
              have p4 := (q 4 (by omega)).trans (by rw [hmx]; rfl : _ = some ce)
              rw [Nat.add_zero] at p0
              have ff : ∀ j, wf.frozen? ⟨gA, j, none⟩ = false := fun j => hrowf.frozenAt j
              have HR5 : Hid ((((((wf.setCell ⟨gA, i * 5, none⟩ (.bool true)).setCell ⟨gA, i * 5 + 1, none⟩ (.int .i64 (-1))).setCell ⟨gA, i * 5 + 2, none⟩ (.int .i64 77)).setCell ⟨gA, i * 5 + 3, none⟩ (.int .i64 77)).setCell ⟨gA, i * 5 + 4, none⟩ (.int .i64 77)).ownsRow 0 55 5 (.slice (some ⟨gA, 0, none⟩) (R.length + 8) (R.length + 8)) (R.length + 8) (enc (R.length + 8) (overF R (i + 1)))) := by
                have := ownsRow_store5 hrowf hlen hlt (.bool true) (.int .i64 (-1)) (.int .i64 77) (.int .i64 77) (.int .i64 77)
                rw [← overF_step R i]
                exact this
              have HK5 : Hid (Kept (· = gA) w4 (((((wf.setCell ⟨gA, i * 5, none⟩ (.bool true)).setCell ⟨gA, i * 5 + 1, none⟩ (.int .i64 (-1))).setCell ⟨gA, i * 5 + 2, none⟩ (.int .i64 77)).setCell ⟨gA, i * 5 + 3, none⟩ (.int .i64 77)).setCell ⟨gA, i * 5 + 4, none⟩ (.int .i64 77))) := Kept.setCell (p := ⟨gA, i * 5 + 4, none⟩) (Kept.setCell (p := ⟨gA, i * 5 + 3, none⟩) (Kept.setCell (p := ⟨gA, i * 5 + 2, none⟩) (Kept.setCell (p := ⟨gA, i * 5 + 1, none⟩) (Kept.setCell (p := ⟨gA, i * 5, none⟩) (Kept.trans (unhide HKKQ) (Still.kept hw _)) (.inl rfl) _) (.inl rfl) _) (.inl rfl) _) (.inl rfl) _) (.inl rfl) _
              clear q hmx hrowf hlen hw
              go_wp2
              go_roundw
              case rel => exact ⟨i + 1, by omega, by go_num, rfl, unhide HR5, unhide HK5⟩
              case measure => simp [intOf]; omega
            · have ho : overF R i i = foreignC := by unfold overF; rw [if_neg (by omega), if_neg hin]
              have q := fun (j : Nat) (hj : j < 5) => ownsRow_cell (unhide HROW) hlenO hlt hj
              have q0 := (q 0 (by omega)).trans (by rw [ho]; rfl : _ = some (.bool true))
              have q1 := (q 1 (by omega)).trans (by rw [ho]; rfl : _ = some (.int .i64 (-1)))
              have q2 := (q 2 (by omega)).trans (by rw [ho]; rfl : _ = some (.int .i64 77))
              have q3 := (q 3 (by omega)).trans (by rw [ho]; rfl : _ = some (.int .i64 77))
              have q4 := (q 4 (by omega)).trans (by rw [ho]; rfl : _ = some (.int .i64 77))
              rw [Nat.add_zero] at q0
              have hE : ∀ w, (binOp .eql 55 (.agg #[.bool true, .int .i64 (-1), .int .i64 77, .int .i64 77, .int .i64 77]) (.agg #[.bool true, .int .i64 (-1), .int .i64 77, .int .i64 77, .int .i64 77])).run Tryz.prog w = .ok (.bool true) w := fun w => eqRuleJ ⟨true, -1, 77, 77, 77⟩ w
              have hgr : gA < wr.heap.size := ownsRow_lt (unhide HROW) rfl
              have hin' : ¬ (i : Int) < (R.length : Int) := by omega
              clear q ho hlenO
              go_wp2_with fail
              go_region_held3 (fun w' => w'.cell? ⟨gA, i * 5, none⟩ = some (.bool true) ∧ w'.cell? ⟨gA, i * 5 + 1, none⟩ = some (.int .i64 (-1)) ∧ w'.cell? ⟨gA, i * 5 + 2, none⟩ = some (.int .i64 77) ∧ w'.cell? ⟨gA, i * 5 + 3, none⟩ = some (.int .i64 77) ∧ w'.cell? ⟨gA, i * 5 + 4, none⟩ = some (.int .i64 77)) (first | go_keep | (go_split_ands; exact ⟨(hwf.cell gA (i * 5) hgr).trans q0, (hwf.cell gA (i * 5 + 1) hgr).trans q1, (hwf.cell gA (i * 5 + 2) hgr).trans q2, (hwf.cell gA (i * 5 + 3) hgr).trans q3, (hwf.cell gA (i * 5 + 4) hgr).trans q4⟩)) ((go_at_call 66; refine (foreign_any _).mono ?_; rintro en wx ⟨rfl, hwf⟩))
              have hwx : Still wr wx := Kept.trans ((Kept.refl (fun _ => False) wr).drew) hwf
              have HROWQ := hide (ownsRow_of_block (unhide HROW) (fun x hx => hwx.heap (ownsRow_lt (unhide HROW) hx)))
              have HKKQ := hide (Kept.trans (unhide HKK) (Still.kept hwx (· = gA)))
              clear hwf hwx q0 q1 q2 q3 q4 hE v7
              go_wp2_with fail
              refine (foreign_any _).mono ?_
              rintro en wf ⟨rfl, hw⟩
              have hrowf := ownsRow_of_block (unhide HROWQ) (fun x hx => hw.heap (ownsRow_lt (unhide HROWQ) hx))
              have hlen := fun a (_ : a < R.length + 8) => overF_len R i a
              obtain ⟨ca, cb, cc, cd, ce, hmx⟩ := five (hlen i hlt)
              have q := fun (j : Nat) (hj : j < 5) => ownsRow_cell hrowf hlen hlt hj
              have p0 := (q 0 (by omega)).trans (by rw [hmx]; rfl : _ = some ca)
              have p1 := (q 1 (by omega)).trans (by rw [hmx]; rfl : _ = some cb)
              have p2 := (q 2 (by omega)).trans (by rw [hmx]; rfl : _ = some cc)
              have p3 := (q 3 (by omega)).trans (by rw [hmx]; rfl : _ = some cd)
              have p4 := (q 4 (by omega)).trans (by rw [hmx]; rfl : _ = some ce)
              rw [Nat.add_zero] at p0
              have ff : ∀ j, wf.frozen? ⟨gA, j, none⟩ = false := fun j => hrowf.frozenAt j
              have HR5 : Hid ((((((wf.setCell ⟨gA, i * 5, none⟩ (.bool true)).setCell ⟨gA, i * 5 + 1, none⟩ (.int .i64 (-1))).setCell ⟨gA, i * 5 + 2, none⟩ (.int .i64 77)).setCell ⟨gA, i * 5 + 3, none⟩ (.int .i64 77)).setCell ⟨gA, i * 5 + 4, none⟩ (.int .i64 77)).ownsRow 0 55 5 (.slice (some ⟨gA, 0, none⟩) (R.length + 8) (R.length + 8)) (R.length + 8) (enc (R.length + 8) (overF R (i + 1)))) := by
                have := ownsRow_store5 hrowf hlen hlt (.bool true) (.int .i64 (-1)) (.int .i64 77) (.int .i64 77) (.int .i64 77)
                rw [← overF_step R i]
                exact this
              have HK5 : Hid (Kept (· = gA) w4 (((((wf.setCell ⟨gA, i * 5, none⟩ (.bool true)).setCell ⟨gA, i * 5 + 1, none⟩ (.int .i64 (-1))).setCell ⟨gA, i * 5 + 2, none⟩ (.int .i64 77)).setCell ⟨gA, i * 5 + 3, none⟩ (.int .i64 77)).setCell ⟨gA, i * 5 + 4, none⟩ (.int .i64 77))) := Kept.setCell (p := ⟨gA, i * 5 + 4, none⟩) (Kept.setCell (p := ⟨gA, i * 5 + 3, none⟩) (Kept.setCell (p := ⟨gA, i * 5 + 2, none⟩) (Kept.setCell (p := ⟨gA, i * 5 + 1, none⟩) (Kept.setCell (p := ⟨gA, i * 5, none⟩) (Kept.trans (unhide HKKQ) (Still.kept hw _)) (.inl rfl) _) (.inl rfl) _) (.inl rfl) _) (.inl rfl) _) (.inl rfl) _
              clear q hmx hrowf hlen hw
              go_wp2
              go_roundw
              case rel => exact ⟨i + 1, by omega, by go_num, rfl, unhide HR5, unhide HK5⟩
              case measure => simp [intOf]; omega
          · obtain rfl : i = R.length + 8 := by omega
            have HF := hide (unhide HAFT _ (unhide HKK))
            go_wp2
            go_ret
            exact ⟨rfl, unhide HF⟩
end Go.Proofs.YtgndledehlilkaaGreat
