/-
  Walks: districtlaw: step and plays, with the lists that came out.
-/
import Derived.Test.YtgndledehlilkaaGreatLawM7
import Derived.Test.YtgndledehlilkaaGreatLawL2
namespace Go.Proofs.YtgndledehlilkaaGreat
open Go.RowKit

theorem BytesIn.below {w w' : World} {B : Nat} {a : Option Addr} {n c : Nat} {S : List Int} (h : BytesIn w (.slice a n c) S) (hb : Below B w w') (hB : ∀ ad, a = some ad → 0 < S.length → ad.block < B) : BytesIn w' (.slice a n c) S := by
  obtain ⟨h0, h⟩ := h
  refine ⟨h0, ?_⟩
  rcases h with h | ⟨ad, c', e, h1, h2, h4⟩
  · exact .inl h
  · refine .inr ⟨ad, c', e, h1, h2, fun j hj => ?_⟩
    obtain ⟨bs, off, rfl, q1, q2⟩ := h4 j hj
    have ea : a = some ⟨bs, off, none⟩ := (Value.slice.inj e).1
    refine ⟨bs, off, rfl, Nat.lt_of_lt_of_le q1 hb.size, ?_⟩
    rw [← q2]
    exact hb.cell (p := ⟨bs, off + j, none⟩) (hB ⟨bs, off, none⟩ ea (by omega))
/-- A step's bytes can be read. -/
def BytesAt (w : World) (s : StepD) : Prop := ∃ S : List Int, BytesIn w (.slice s.sa s.sn s.sc) S ∧ S.length ≤ 140737488351232 ∧ ∀ ad, s.sa = some ad → 0 < S.length → ad.block < w.heap.size
theorem lawRepM_new (I : EngI) (w : World) : LawRepM I (w.alloc (.cells #[.slice none 0 0, .slice none 0 0, .slice none 0 0, .slice none 0 0, .slice none 0 0] 31)) w.heap.size w.heap.size 0 0 0 := by
  have nob : ∀ (g : Nat), ¬ (Value.slice none 0 0).ownBlock = some g := fun g hg => by simp [Value.ownBlock] at hg
  refine ⟨fun k => if k = w.heap.size then (0, 6, 0) else (0, 8, 0), .slice none 0 0, .slice none 0 0, .slice none 0 0, .slice none 0 0, .slice none 0 0, fun _ => 0, fun _ => 0, fun _ => ⟨0, 0, (fun _ => ⟨0, 0, 0, 0, [], [], false⟩), 0, (fun _ => ⟨0, 0, [], false⟩)⟩, fun _ => .slice none 0 0, fun _ => 0, fun _ => .slice none 0 0, fun _ => 0, heap_alloc_new w _, by simp, World.ownsRow_nil _ _ _ _, ?_, ?_, by simp, ?_, ?_, ?_⟩
  · intro g hg; exact absurd hg (nob g)
  · intro k hk; rw [if_neg (by omega)]
  · intro i hi; omega
  · exact ⟨World.ownsRow_nil _ _ _ _, fun g hg => absurd hg (nob g), World.ownsRow_nil _ _ _ _, fun g hg => absurd hg (nob g), fun i hi => absurd hi (Nat.not_lt_zero _), fun i hi => absurd hi (Nat.not_lt_zero _)⟩
  · exact ⟨World.ownsRow_nil _ _ _ _, fun g hg => absurd hg (nob g), World.ownsRow_nil _ _ _ _, fun g hg => absurd hg (nob g), fun i hi => absurd hi (Nat.not_lt_zero _), fun i hi => absurd hi (Nat.not_lt_zero _)⟩
/-- A step. -/
theorem stepM_any {I : EngI} (J : EngI2 I) (K3 : EngI3 I) {w : World} {B bw ne nt nb : Nat} (h : LawRepM I w B bw ne nt nb) (hB : B ≤ w.heap.size) (kind ei a b c d : Int) (f : Bool) (ra : Option Addr) (rn rc : Nat) (sa : Option Addr) (sn sc : Nat) (hk : 1 ≤ kind ∧ kind ≤ 14) (hdo : kind = 14 → DoSpec I) {R : List RuleD} (hR : RulesIn w (.slice ra rn rc) R) (hRn : R.length * 40 ≤ 140737488351232) (hRB : ∀ ad, ra = some ad → 0 < R.length → ad.block < B)
    {S : List Int} (hS : BytesIn w (.slice sa sn sc) S) (hSn : S.length ≤ 140737488351232) (hSB : ∀ ad, sa = some ad → 0 < S.length → ad.block < B) (hne : (ne + 1) * 16 ≤ 140737488355328) (hnt : nt ≤ 5864062014800) (hnb : nb ≤ 5864062014800) (h1 : -9223372036854775808 ≤ ei) (h2 : ei ≤ 9223372036854775807) :
    Calls Tryz.prog 9 #[.pointer (some ⟨bw, 0, none⟩), .agg #[.int .i64 kind, .int .i64 ei, .int .i64 a, .int .i64 b, .int .i64 c, .int .i64 d, .bool f, .slice ra rn rc, .slice sa sn sc]] w fun en w' => en = .returned (.bool true) ∧ (∃ ne' nt' nb', ne' ≤ ne + 1 ∧ nt' ≤ nt + 4 ∧ nb' ≤ nb + 4 ∧ LawRepM I w' B bw ne' nt' nb') ∧ Below B w w' := by
  by_cases hk1 : kind = 1
  · subst hk1
    by_cases ha : a < 1 ∨ 64 < a
    · refine (stepM_new_no h ei a b c d f ra rn rc sa sn sc ha).mono ?_
      rintro en w' ⟨h1, h2, h3⟩
      exact ⟨h1, ⟨ne, nt, nb, by omega, by omega, by omega, h2⟩, h3.mono hB⟩
    · refine (stepM_new_yes h ei a b c d f ra rn rc sa sn sc (by omega) (by omega) hne).mono ?_
      rintro en w' ⟨h1, h2, h3⟩
      exact ⟨h1, ⟨ne + 1, nt, nb, by omega, by omega, by omega, h2⟩, h3⟩
  · by_cases h0 : ne = 0
    · subst h0
      refine (stepM_none h kind ei a b c d f ra rn rc sa sn sc (by rw [beq_eq_false_iff_ne]; exact hk1)).mono ?_
      rintro en w' ⟨h1, h2, h3⟩
      exact ⟨h1, ⟨0, nt, nb, by omega, by omega, by omega, h2⟩, h3.mono hB⟩
    · refine (stepM_eng J K3 h kind ei a b c d f ra rn rc sa sn sc (by omega) hdo hR hRn hRB hS hSn hSB (by omega) (by omega) hnt hnb h1 h2).mono ?_
      rintro en w' ⟨h1, ⟨nt', nb', q1, q2, q3⟩, h3⟩
      exact ⟨h1, ⟨ne, nt', nb', by omega, q1, q2, q3⟩, h3⟩
set_option maxRecDepth 100000 in
set_option maxHeartbeats 4000000 in
theorem playsM_any {I : EngI} (J : EngI2 I) (K3 : EngI3 I) {w : World} (sa : Option Addr) (n cap gk : Nat) (S : Nat → StepD) (hs : 0 < n → ∃ bs off, sa = some ⟨bs, off, none⟩ ∧ bs < w.heap.size ∧ ScriptAt w bs off n S) (hrl : ∀ i, i < n → RulesAt w (S i)) (hbl : ∀ i, i < n → BytesAt w (S i))
    (hgk : gk < w.heap.size) (ks : List Int) (M : Nat) (hM : ks.length = M) (hM1 : M ≤ 1000) (hkr : ∀ kind, inK ks kind M = true → 1 ≤ kind ∧ kind ≤ 14) (hdo : inK ks 14 M = true → DoSpec I) (hks : ∀ j, j < M → w.cell? ⟨gk, j, none⟩ = some (.int .i64 (ks.getD j 0))) (hn : n * 104 ≤ 140737488355328) :
    Calls Tryz.prog 8 #[.slice sa n cap, .slice (some ⟨gk, 0, none⟩) M M] w fun en w' => en = .returned (.bool true) ∧ Below w.heap.size w w' := by
  have HS := hide hs
  have HRL := hide hrl
  have HSL := hide hbl
  have HDO := hide hdo
  have HKR := hide hkr
  clear hrl hbl hdo hkr
  have HK := hide hks
  have HL0 := hide (lawRepM_new I w)
  clear hs hks
  go_enter Tryz.func8, Tryz.ntmps8
  go_wp2
  go_loopw [6] (fun t w' => ∃ i : Nat, i ≤ n ∧ t = .int .i64 i ∧ (∃ ne nt nb, ne ≤ i ∧ nt ≤ 4 * i ∧ nb ≤ 4 * i ∧ LawRepM I w' w.heap.size w.heap.size ne nt nb) ∧ Below w.heap.size w w') (fun t _ => n - (intOf t).toNat)
  case atStart => exact ⟨0, Nat.zero_le _, rfl, ⟨0, 0, 0, Nat.le_refl _, Nat.zero_le _, Nat.zero_le _, unhide HL0⟩, (Below.refl _ _).alloc (Nat.le_refl _) _⟩
  case round =>
    obtain ⟨i, hi, rfl, ⟨ne, nt, nb, hne, hnt, hnb, hlaw⟩, hb⟩ := hrel
    have HLW := hide hlaw
    have HBL := hide hb
    clear hlaw hb
    by_cases hlt : i < n
    · obtain ⟨bs, off, rfl, hbs, hscr⟩ := unhide HS (by omega)
      have hsr := hscr.below (unhide HBL) hbs
      have s0 := hsr.c0 i hlt
      have s1 := hsr.c1 i hlt
      have s2 := hsr.c2 i hlt
      have s3 := hsr.c3 i hlt
      have s4 := hsr.c4 i hlt
      have s5 := hsr.c5 i hlt
      have s6 := hsr.c6 i hlt
      have s7 := hsr.c7 i hlt
      have s8 := hsr.c8 i hlt
      have lo := hsr.lo i hlt
      have hi' := hsr.hi i hlt
      clear hscr hsr
      obtain ⟨R, hR0, hRn, hRB⟩ := unhide HRL i hlt
      have hRw := hR0.below (unhide HBL) hRB
      have HRI0 := hide hRw
      have HRB := hide hRB
      obtain ⟨Sb, hS0, hSn, hSB⟩ := unhide HSL i hlt
      have hSw := hS0.below (unhide HBL) hSB
      have HSI0 := hide hSw
      have HSB := hide hSB
      clear hR0 hRw hRB hS0 hSw hSB
      generalize S i = s at *
      have hkr : Hid (∀ j, j < M → wr.cell? ⟨gk, j, none⟩ = some (.int .i64 (ks.getD j 0))) := fun j hj => ((unhide HBL).cell (p := ⟨gk, j, none⟩) hgk).trans (unhide HK j hj)
      go_wp2
      go_loopw [7, 8] (fun t k w' => ∃ j : Nat, j ≤ M ∧ k = .int .i64 j ∧ t = .bool (inK ks s.kind j) ∧ ∃ m, w' = wr.drewN m) (fun _ k _ => M - (intOf k).toNat)
      case atStart => exact ⟨0, Nat.zero_le _, rfl, by rw [inK_zero], 0, rfl⟩
      case round =>
        obtain ⟨j, hj, rfl, rfl, m, rfl⟩ := hrel
        by_cases hj5 : j < M
        · have ck := unhide hkr j hj5
          have hsu := hide (inK_succ ks s.kind (j := j) (by omega))
          generalize ks.getD j 0 = kj at *
          cases hin : inK ks s.kind j
          all_goals
            have HIN := hide hin
            clear hin
            go_wp2_with fail
            go_quiet (fail)
            go_wp2
            go_roundw
            case rel => exact ⟨j + 1, by omega, by go_num, by rw [unhide hsu, unhide HIN]; simp, m + nq, rfl⟩
            case measure => simp [intOf]; omega
        · obtain rfl : j = M := by omega
          have hlw : LawRepM I (wr.drewN m) w.heap.size w.heap.size ne nt nb := (unhide HLW).still (drewN_heap _ _)
          have hbd : Below w.heap.size w (wr.drewN m) := ⟨(unhide HBL).os, (unhide HBL).tape, (unhide HBL).output, (unhide HBL).size, (unhide HBL).block⟩
          have s0' : (wr.drewN m).cell? ⟨bs, off + i * 9, none⟩ = some (.int .i64 s.kind) := s0
          have s1' : (wr.drewN m).cell? ⟨bs, off + i * 9 + 1, none⟩ = some (.int .i64 s.e) := s1
          have s2' : (wr.drewN m).cell? ⟨bs, off + i * 9 + 2, none⟩ = some (.int .i64 s.a) := s2
          have s3' : (wr.drewN m).cell? ⟨bs, off + i * 9 + 3, none⟩ = some (.int .i64 s.b) := s3
          have s4' : (wr.drewN m).cell? ⟨bs, off + i * 9 + 4, none⟩ = some (.int .i64 s.c) := s4
          have s5' : (wr.drewN m).cell? ⟨bs, off + i * 9 + 5, none⟩ = some (.int .i64 s.d) := s5
          have s6' : (wr.drewN m).cell? ⟨bs, off + i * 9 + 6, none⟩ = some (.bool s.f) := s6
          have s7' : (wr.drewN m).cell? ⟨bs, off + i * 9 + 7, none⟩ = some (.slice s.ra s.rn s.rc) := s7
          have s8' : (wr.drewN m).cell? ⟨bs, off + i * 9 + 8, none⟩ = some (.slice s.sa s.sn s.sc) := s8
          clear s0 s1 s2 s3 s4 s5 s6 s7 s8 HLW HBL hkr
          have HRI : Hid (RulesIn (wr.drewN m) (.slice s.ra s.rn s.rc) R) := (unhide HRI0).still (drewN_heap _ _)
          have HSI : Hid (BytesIn (wr.drewN m) (.slice s.sa s.sn s.sc) Sb) := (unhide HSI0).still (drewN_heap _ _)
          clear HRI0 HSI0
          generalize wr.drewN m = V at *
          have HLW := hide hlw
          have HBL := hide hbd
          clear hlw hbd
          cases hin : inK ks s.kind j with
          | false =>
            clear hin
            go_wp2
            go_roundw
            case rel => exact ⟨i + 1, by omega, by go_num, ⟨ne, nt, nb, by omega, by omega, by omega, unhide HLW⟩, unhide HBL⟩
            case measure => simp [intOf]; omega
          | true =>
            have hkk := unhide HKR _ hin
            have HD1 : Hid (s.kind = 14 → DoSpec I) := fun e => unhide HDO (by rw [← e]; exact hin)
            clear hin
            go_wp2_with fail
            refine (stepM_any J K3 (unhide HLW) (unhide HBL).size _ _ _ _ _ _ _ _ _ _ _ _ _ hkk (unhide HD1) (unhide HRI) hRn (unhide HRB) (unhide HSI) hSn (unhide HSB) (by omega) (by omega) (by omega) (by omega) (by omega)).mono ?_
            rintro en w5 ⟨rfl, ⟨ne', nt', nb', hne', hnt', hnb', hlw5⟩, hbl5⟩
            have hb5 := Below.trans (unhide HBL) hbl5
            have HL5 := hide hlw5
            have HB5 := hide hb5
            clear hlw5 hbl5 hb5
            go_wp2_with (go_at_call 10; refine (looksM_any (unhide HL5) (by omega) (by omega)).mono ?_; rintro en w6 ⟨rfl, hs6⟩; have HL6 := hide ((unhide HL5).still hs6); have HB6 := hide (Below.trans (unhide HB5) (Kept.below hs6 (unhide HB5).size (fun _ _ x => x))); clear hs6)
            go_roundw
            case rel => exact ⟨i + 1, by omega, by go_num, ⟨ne', nt', nb', by omega, by omega, by omega, unhide HL6⟩, unhide HB6⟩
            case measure => simp [intOf]; omega
    · go_wp2
      go_ret
      exact ⟨rfl, unhide HBL⟩
set_option maxRecDepth 100000 in
set_option maxHeartbeats 2000000 in
theorem routesM_any {I : EngI} (J : EngI2 I) (K3 : EngI3 I) {w : World} (sa : Option Addr) (n cap : Nat) (S : Nat → StepD) (hs : 0 < n → ∃ bs off, sa = some ⟨bs, off, none⟩ ∧ bs < w.heap.size ∧ ScriptAt w bs off n S) (hrl : ∀ i, i < n → RulesAt w (S i)) (hbl : ∀ i, i < n → BytesAt w (S i)) (hn : n * 104 ≤ 140737488355328) :
    Calls Tryz.prog 4 #[.slice sa n cap] w fun en w' => en = .returned (.bool true) ∧ Below w.heap.size w w' := by
  have HS := hide hs
  have HRL := hide hrl
  have HSL := hide hbl
  clear hs hrl hbl
  go_enter Tryz.func4, Tryz.ntmps4
  go_wp2_with fail
  have hb : Below w.heap.size w (w.alloc (.cells #[.int .i64 1, .int .i64 2, .int .i64 3, .int .i64 4, .int .i64 5, .int .i64 6, .int .i64 7, .int .i64 8, .int .i64 9, .int .i64 10, .int .i64 11] 3)) := (Below.refl _ _).alloc (Nat.le_refl _) _
  refine (playsM_any J K3 sa n cap w.heap.size S ?_ ?_ ?_ (by simp) [1, 2, 3, 4, 5, 6, 7, 8, 9, 10, 11] 11 rfl (by omega) (fun kind hk => by simp [inK] at hk; omega) (fun hk => by simp [inK] at hk) ?_ hn).mono ?_
  · intro h0
    obtain ⟨bs, off, e1, e2, e3⟩ := unhide HS h0
    exact ⟨bs, off, e1, by simp; omega, e3.below hb e2⟩
  · intro i hi
    obtain ⟨R, q1, q2, q3⟩ := unhide HRL i hi
    exact ⟨R, q1.below hb q3, q2, fun ad h1 h2 => by have := q3 ad h1 h2; simp; omega⟩
  · intro i hi
    obtain ⟨R, q1, q2, q3⟩ := unhide HSL i hi
    exact ⟨R, q1.below hb q3, q2, fun ad h1 h2 => by have := q3 ad h1 h2; simp; omega⟩
  · intro j hj
    rw [World.cell?_alloc_new]
    rcases (by omega : j = 0 ∨ j = 1 ∨ j = 2 ∨ j = 3 ∨ j = 4 ∨ j = 5 ∨ j = 6 ∨ j = 7 ∨ j = 8 ∨ j = 9 ∨ j = 10) with rfl | rfl | rfl | rfl | rfl | rfl | rfl | rfl | rfl | rfl | rfl <;> rfl
  · rintro en w1 ⟨rfl, hb1⟩
    have HB := hide (Below.trans hb (hb1.mono (by simp)))
    clear hb hb1
    go_wp2
    go_ret
    exact ⟨rfl, unhide HB⟩
end Go.Proofs.YtgndledehlilkaaGreat
