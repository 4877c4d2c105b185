/-
  Walks: districtlaw: step and plays for the kinds of Looks.
-/
import Derived.Test.YtgndledehlilkaaGreatLawL1
import Derived.Test.YtgndledehlilkaaGreatLawJ4M
namespace Go.Proofs.YtgndledehlilkaaGreat
open Go.RowKit

theorem RulesIn.below {w w' : World} {B : Nat} {a : Option Addr} {n c : Nat} {R : List RuleD} (h : RulesIn w (.slice a n c) R) (hb : Below B w w') (hB : ∀ ad, a = some ad → 0 < R.length → ad.block < B) : RulesIn w' (.slice a n c) R := by
  rcases h with h | ⟨ad, c', e, hl, hc⟩
  · exact .inl h
  · refine .inr ⟨ad, c', e, hl, fun j u hu => ?_⟩
    have hpos : 0 < R.length := by
      rcases Nat.eq_zero_or_pos R.length with h0 | h0
      · rw [List.eq_nil_of_length_eq_zero h0] at hu; simp at hu
      · exact h0
    have he : a = some ad := (Value.slice.inj e).1
    have hlt := hB ad he hpos
    have hbk : (ad.add j).block = ad.block := by unfold Addr.add; split <;> rfl
    rw [← hc j u hu]
    exact hb.cell (by rw [hbk]; exact hlt)
/-- A step's rules can be read. -/
def RulesAt (w : World) (s : StepD) : Prop := ∃ R : List RuleD, RulesIn w (.slice s.ra s.rn s.rc) R ∧ R.length * 40 ≤ 140737488351232 ∧ ∀ ad, s.ra = some ad → 0 < R.length → ad.block < w.heap.size
theorem inK_looks {kind : Int} (h : inK [1, 2, 3, 4, 5, 6, 7, 8, 9, 12, 13] kind 11 = true) : kind = 1 ∨ (2 ≤ kind ∧ kind ≤ 9) ∨ kind = 12 ∨ kind = 13 := by
  simp [inK] at h
  omega
/-- A step of the kinds of Looks. -/
theorem stepL_any {I : EngI} (J : EngI2 I) (K : EngI3 I) {w : World} {B bw ne : Nat} (h : LawRepI I w B bw ne) (hB : B ≤ w.heap.size) (kind ei a b c d : Int) (f : Bool) (ra : Option Addr) (rn rc : Nat) (sa : Option Addr) (sn sc : Nat) (hk : kind = 1 ∨ (2 ≤ kind ∧ kind ≤ 9) ∨ kind = 12 ∨ kind = 13) {R : List RuleD} (hR : RulesIn w (.slice ra rn rc) R) (hRn : R.length * 40 ≤ 140737488351232) (hRB : ∀ ad, ra = some ad → 0 < R.length → ad.block < B) (hne : (ne + 1) * 16 ≤ 140737488355328) (h1 : -9223372036854775808 ≤ ei) (h2 : ei ≤ 9223372036854775807) :
    Calls Tryz.prog 9 #[.pointer (some ⟨bw, 0, none⟩), .agg #[.int .i64 kind, .int .i64 ei, .int .i64 a, .int .i64 b, .int .i64 c, .int .i64 d, .bool f, .slice ra rn rc, .slice sa sn sc]] w fun en w' => en = .returned (.bool true) ∧ (∃ ne', ne' ≤ ne + 1 ∧ LawRepI I w' B bw ne') ∧ Below B w w' := by
  by_cases hk1 : kind = 1
  · subst hk1
    by_cases ha : a < 1 ∨ 64 < a
    · refine (stepJ_new_no h ei a b c d f ra rn rc sa sn sc ha).mono ?_
      rintro en w' ⟨h1, h2, h3⟩
      exact ⟨h1, ⟨ne, by omega, h2⟩, h3.mono hB⟩
    · refine (stepJ_new_yes h ei a b c d f ra rn rc sa sn sc (by omega) (by omega) hne).mono ?_
      rintro en w' ⟨h1, h2, h3⟩
      exact ⟨h1, ⟨ne + 1, by omega, h2⟩, h3⟩
  · by_cases h0 : ne = 0
    · subst h0
      refine (stepJ_none h kind ei a b c d f ra rn rc sa sn sc (by rw [beq_eq_false_iff_ne]; exact hk1)).mono ?_
      rintro en w' ⟨h1, h2, h3⟩
      exact ⟨h1, ⟨0, by omega, h2⟩, h3.mono hB⟩
    · refine (stepL_eng J K h kind ei a b c d f ra rn rc sa sn sc (by omega) hR hRn hRB (by omega) (by omega) h1 h2).mono ?_
      rintro en w' ⟨h1, h2, h3⟩
      exact ⟨h1, ⟨ne, by omega, h2⟩, h3⟩
set_option maxRecDepth 100000 in
set_option maxHeartbeats 4000000 in
theorem playsL_looks {I : EngI} (J : EngI2 I) (K : EngI3 I) {w : World} (sa : Option Addr) (n cap gk : Nat) (S : Nat → StepD) (hs : 0 < n → ∃ bs off, sa = some ⟨bs, off, none⟩ ∧ bs < w.heap.size ∧ ScriptAt w bs off n S) (hrl : ∀ i, i < n → RulesAt w (S i))
    (hgk : gk < w.heap.size) (hks : ∀ j, j < 11 → w.cell? ⟨gk, j, none⟩ = some (.int .i64 (([1, 2, 3, 4, 5, 6, 7, 8, 9, 12, 13] : List Int).getD j 0))) (hn : n * 104 ≤ 140737488355328) :
    Calls Tryz.prog 8 #[.slice sa n cap, .slice (some ⟨gk, 0, none⟩) 11 11] w fun en w' => en = .returned (.bool true) ∧ Below w.heap.size w w' := by
  have HS := hide hs
  have HRL := hide hrl
  clear hrl
  have HK := hide hks
  have HL0 := hide (lawRepI_new I w)
  clear hs hks
  go_enter Tryz.func8, Tryz.ntmps8
  go_wp2
  go_loopw [6] (fun t w' => ∃ i : Nat, i ≤ n ∧ t = .int .i64 i ∧ (∃ ne, ne ≤ i ∧ LawRepI I w' w.heap.size w.heap.size ne) ∧ Below w.heap.size w w') (fun t _ => n - (intOf t).toNat)
  case atStart => exact ⟨0, Nat.zero_le _, rfl, ⟨0, Nat.le_refl _, unhide HL0⟩, (Below.refl _ _).alloc (Nat.le_refl _) _⟩
  case round =>
    obtain ⟨i, hi, rfl, ⟨ne, hne, hlaw⟩, hb⟩ := hrel
    have HLW := hide hlaw
    have HBL := hide hb
    clear hlaw hb
    by_cases hlt : i < n
    · obtain ⟨bs, off, rfl, hbs, hscr⟩ := unhide HS (by omega)
      have hsr := hscr.below (unhide HBL) hbs
      have s0 := hsr.c0 i hlt
      have s1 := hsr.c1 i hlt
      have s2 := hsr.c2 i hlt
      have s3 := hsr.c3 i hlt
      have s4 := hsr.c4 i hlt
      have s5 := hsr.c5 i hlt
      have s6 := hsr.c6 i hlt
      have s7 := hsr.c7 i hlt
      have s8 := hsr.c8 i hlt
      have lo := hsr.lo i hlt
      have hi' := hsr.hi i hlt
      clear hscr hsr
      obtain ⟨R, hR0, hRn, hRB⟩ := unhide HRL i hlt
      have hRw := hR0.below (unhide HBL) hRB
      have HRI0 := hide hRw
      have HRB := hide hRB
      clear hR0 hRw hRB
      generalize S i = s at *
      have hkr : Hid (∀ j, j < 11 → wr.cell? ⟨gk, j, none⟩ = some (.int .i64 (([1, 2, 3, 4, 5, 6, 7, 8, 9, 12, 13] : List Int).getD j 0))) := fun j hj => ((unhide HBL).cell (p := ⟨gk, j, none⟩) hgk).trans (unhide HK j hj)
      go_wp2
      go_loopw [7, 8] (fun t k w' => ∃ j : Nat, j ≤ 11 ∧ k = .int .i64 j ∧ t = .bool (inK [1, 2, 3, 4, 5, 6, 7, 8, 9, 12, 13] s.kind j) ∧ ∃ m, w' = wr.drewN m) (fun _ k _ => 11 - (intOf k).toNat)
      case atStart => exact ⟨0, Nat.zero_le _, rfl, by rw [inK_zero], 0, rfl⟩
      case round =>
        obtain ⟨j, hj, rfl, rfl, m, rfl⟩ := hrel
        by_cases hj5 : j < 11
        · have ck := unhide hkr j hj5
          have hsu := hide (inK_succ [1, 2, 3, 4, 5, 6, 7, 8, 9, 12, 13] s.kind (j := j) hj5)
          generalize ([1, 2, 3, 4, 5, 6, 7, 8, 9, 12, 13] : List Int).getD j 0 = kj at *
          cases hin : inK [1, 2, 3, 4, 5, 6, 7, 8, 9, 12, 13] s.kind j
          all_goals
            have HIN := hide hin
            clear hin
            go_wp2_with fail
            go_quiet (fail)
            go_wp2
            go_roundw
            case rel => exact ⟨j + 1, by omega, by go_num, by rw [unhide hsu, unhide HIN]; simp, m + nq, rfl⟩
            case measure => simp [intOf]; omega
        · obtain rfl : j = 11 := by omega
          have hlw : LawRepI I (wr.drewN m) w.heap.size w.heap.size ne := (unhide HLW).still (drewN_heap _ _)
          have hbd : Below w.heap.size w (wr.drewN m) := ⟨(unhide HBL).os, (unhide HBL).tape, (unhide HBL).output, (unhide HBL).size, (unhide HBL).block⟩
          have s0' : (wr.drewN m).cell? ⟨bs, off + i * 9, none⟩ = some (.int .i64 s.kind) := s0
          have s1' : (wr.drewN m).cell? ⟨bs, off + i * 9 + 1, none⟩ = some (.int .i64 s.e) := s1
          have s2' : (wr.drewN m).cell? ⟨bs, off + i * 9 + 2, none⟩ = some (.int .i64 s.a) := s2
          have s3' : (wr.drewN m).cell? ⟨bs, off + i * 9 + 3, none⟩ = some (.int .i64 s.b) := s3
          have s4' : (wr.drewN m).cell? ⟨bs, off + i * 9 + 4, none⟩ = some (.int .i64 s.c) := s4
          have s5' : (wr.drewN m).cell? ⟨bs, off + i * 9 + 5, none⟩ = some (.int .i64 s.d) := s5
          have s6' : (wr.drewN m).cell? ⟨bs, off + i * 9 + 6, none⟩ = some (.bool s.f) := s6
          have s7' : (wr.drewN m).cell? ⟨bs, off + i * 9 + 7, none⟩ = some (.slice s.ra s.rn s.rc) := s7
          have s8' : (wr.drewN m).cell? ⟨bs, off + i * 9 + 8, none⟩ = some (.slice s.sa s.sn s.sc) := s8
          clear s0 s1 s2 s3 s4 s5 s6 s7 s8 HLW HBL hkr
          have HRI : Hid (RulesIn (wr.drewN m) (.slice s.ra s.rn s.rc) R) := (unhide HRI0).still (drewN_heap _ _)
          clear HRI0
          generalize wr.drewN m = V at *
          have HLW := hide hlw
          have HBL := hide hbd
          clear hlw hbd
          cases hin : inK [1, 2, 3, 4, 5, 6, 7, 8, 9, 12, 13] s.kind 11 with
          | false =>
            clear hin
            go_wp2
            go_roundw
            case rel => exact ⟨i + 1, by omega, by go_num, ⟨ne, by omega, unhide HLW⟩, unhide HBL⟩
            case measure => simp [intOf]; omega
          | true =>
            have hkk := inK_looks hin
            clear hin
            go_wp2_with fail
            refine (stepL_any J K (unhide HLW) (unhide HBL).size _ _ _ _ _ _ _ _ _ _ _ _ _ hkk (unhide HRI) hRn (unhide HRB) (by omega) (by omega) (by omega)).mono ?_
            rintro en w5 ⟨rfl, ⟨ne', hne', hlw5⟩, hbl5⟩
            have hb5 := Below.trans (unhide HBL) hbl5
            have HL5 := hide hlw5
            have HB5 := hide hb5
            clear hlw5 hbl5 hb5
            go_wp2_with (go_at_call 10; refine (looksJ_none (unhide HL5)).mono ?_; rintro en w6 ⟨rfl, hw6⟩; replace hw6 := hw6.symm; subst hw6)
            go_roundw
            case rel => exact ⟨i + 1, by omega, by go_num, ⟨ne', by omega, unhide HL5⟩, unhide HB5⟩
            case measure => simp [intOf]; omega
    · go_wp2
      go_ret
      exact ⟨rfl, unhide HBL⟩
set_option maxRecDepth 100000 in
set_option maxHeartbeats 2000000 in
theorem looksL_any {I : EngI} (J : EngI2 I) (K : EngI3 I) {w : World} (sa : Option Addr) (n cap : Nat) (S : Nat → StepD) (hs : 0 < n → ∃ bs off, sa = some ⟨bs, off, none⟩ ∧ bs < w.heap.size ∧ ScriptAt w bs off n S) (hrl : ∀ i, i < n → RulesAt w (S i)) (hn : n * 104 ≤ 140737488355328) :
    Calls Tryz.prog 5 #[.slice sa n cap] w fun en w' => en = .returned (.bool true) ∧ Below w.heap.size w w' := by
  have HS := hide hs
  have HRL := hide hrl
  clear hs hrl
  go_enter Tryz.func5, Tryz.ntmps5
  go_wp2_with fail
  have hb : Below w.heap.size w (w.alloc (.cells #[.int .i64 1, .int .i64 2, .int .i64 3, .int .i64 4, .int .i64 5, .int .i64 6, .int .i64 7, .int .i64 8, .int .i64 9, .int .i64 12, .int .i64 13] 3)) := (Below.refl _ _).alloc (Nat.le_refl _) _
  refine (playsL_looks J K sa n cap w.heap.size S ?_ ?_ (by simp) ?_ hn).mono ?_
  · intro h0
    obtain ⟨bs, off, e1, e2, e3⟩ := unhide HS h0
    exact ⟨bs, off, e1, by simp; omega, e3.below hb e2⟩
  · intro i hi
    obtain ⟨R, q1, q2, q3⟩ := unhide HRL i hi
    exact ⟨R, q1.below hb q3, q2, fun ad h1 h2 => by have := q3 ad h1 h2; simp; omega⟩
  · intro j hj
    rw [World.cell?_alloc_new]
    rcases (by omega : j = 0 ∨ j = 1 ∨ j = 2 ∨ j = 3 ∨ j = 4 ∨ j = 5 ∨ j = 6 ∨ j = 7 ∨ j = 8 ∨ j = 9 ∨ j = 10) with rfl | rfl | rfl | rfl | rfl | rfl | rfl | rfl | rfl | rfl | rfl <;> rfl
  · rintro en w1 ⟨rfl, hb1⟩
    have HB := hide (Below.trans hb (hb1.mono (by simp)))
    clear hb hb1
    go_wp2
    go_ret
    exact ⟨rfl, unhide HB⟩
end Go.Proofs.YtgndledehlilkaaGreat
