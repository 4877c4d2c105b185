import Derived.Test.YtgndledehlilkaaGreatLawJ3
namespace Go.Proofs.YtgndledehlilkaaGreat
open Go.RowKit

set_option maxHeartbeats 2000000 in
theorem looksJ_none {I : EngI} {w : World} {B bw ne : Nat} (h : LawRepI I w B bw ne) :
    Calls Tryz.prog 10 #[.pointer (some ⟨bw, 0, none⟩)] w fun en w' => en = .returned (.bool true) ∧ w' = w := by
  obtain ⟨O, lv, bx, by_, rs, h⟩ := h
  obtain ⟨_, cs, _⟩ := h.cells
  have c1 := cs 1 (by omega) (by omega)
  have c3 := cs 3 (by omega) (by omega)
  clear h cs
  go_enter Tryz.func10, Tryz.ntmps10
  go_wp2
  go_loop [3] (fun t => t = .int .i64 0) (fun _ => 0)
  case atStart => rfl
  case round =>
    subst hrel
    go_wp2
    go_loop [6] (fun t => t = .int .i64 0) (fun _ => 0)
    case atStart => rfl
    case round =>
      subst hrel
      go_wp2
      go_ret
      exact ⟨rfl, rfl⟩

/-- A step of a script. -/
structure StepD where
  kind : Int
  e : Int
  a : Int
  b : Int
  c : Int
  d : Int
  f : Bool
  ra : Option Addr
  rn : Nat
  rc : Nat
  sa : Option Addr
  sn : Nat
  sc : Nat
def StepD.val (s : StepD) : Value := stepW s.kind s.e s.a s.b s.c s.d s.f (.slice s.ra s.rn s.rc) (.slice s.sa s.sn s.sc)
/-- The script lies in block bs from off on. -/
structure ScriptAt (w : World) (bs off n : Nat) (S : Nat → StepD) : Prop where
  c0 : ∀ i, i < n → w.cell? ⟨bs, off + i * 9, none⟩ = some (.int .i64 (S i).kind)
  c1 : ∀ i, i < n → w.cell? ⟨bs, off + i * 9 + 1, none⟩ = some (.int .i64 (S i).e)
  c2 : ∀ i, i < n → w.cell? ⟨bs, off + i * 9 + 2, none⟩ = some (.int .i64 (S i).a)
  c3 : ∀ i, i < n → w.cell? ⟨bs, off + i * 9 + 3, none⟩ = some (.int .i64 (S i).b)
  c4 : ∀ i, i < n → w.cell? ⟨bs, off + i * 9 + 4, none⟩ = some (.int .i64 (S i).c)
  c5 : ∀ i, i < n → w.cell? ⟨bs, off + i * 9 + 5, none⟩ = some (.int .i64 (S i).d)
  c6 : ∀ i, i < n → w.cell? ⟨bs, off + i * 9 + 6, none⟩ = some (.bool (S i).f)
  c7 : ∀ i, i < n → w.cell? ⟨bs, off + i * 9 + 7, none⟩ = some (.slice (S i).ra (S i).rn (S i).rc)
  c8 : ∀ i, i < n → w.cell? ⟨bs, off + i * 9 + 8, none⟩ = some (.slice (S i).sa (S i).sn (S i).sc)
  lo : ∀ i, i < n → -9223372036854775808 ≤ (S i).e
  hi : ∀ i, i < n → (S i).e ≤ 9223372036854775807
theorem ScriptAt.below {w w' : World} {bs off n B : Nat} {S : Nat → StepD} (h : ScriptAt w bs off n S) (hb : Below B w w') (hl : bs < B) : ScriptAt w' bs off n S := by
  have hc : ∀ o, w'.cell? ⟨bs, o, none⟩ = w.cell? ⟨bs, o, none⟩ := fun o => hb.cell (p := ⟨bs, o, none⟩) hl
  exact ⟨fun i hi => (hc _).trans (h.c0 i hi), fun i hi => (hc _).trans (h.c1 i hi), fun i hi => (hc _).trans (h.c2 i hi), fun i hi => (hc _).trans (h.c3 i hi), fun i hi => (hc _).trans (h.c4 i hi), fun i hi => (hc _).trans (h.c5 i hi), fun i hi => (hc _).trans (h.c6 i hi), fun i hi => (hc _).trans (h.c7 i hi), fun i hi => (hc _).trans (h.c8 i hi), h.lo, h.hi⟩
/-- A step of the kinds 1 to 8. -/
theorem stepJ_any {I : EngI} (J : EngI2 I) {w : World} {B bw ne : Nat} (h : LawRepI I w B bw ne) (hB : B ≤ w.heap.size) (kind ei a b c d : Int) (f : Bool) (ra : Option Addr) (rn rc : Nat) (sa : Option Addr) (sn sc : Nat) (hk : 1 ≤ kind ∧ kind ≤ 8) (hne : (ne + 1) * 16 ≤ 140737488355328) (h1 : -9223372036854775808 ≤ ei) (h2 : ei ≤ 9223372036854775807) :
    Calls Tryz.prog 9 #[.pointer (some ⟨bw, 0, none⟩), .agg #[.int .i64 kind, .int .i64 ei, .int .i64 a, .int .i64 b, .int .i64 c, .int .i64 d, .bool f, .slice ra rn rc, .slice sa sn sc]] w fun en w' => en = .returned (.bool true) ∧ (∃ ne', ne' ≤ ne + 1 ∧ LawRepI I w' B bw ne') ∧ Below B w w' := by
  by_cases hk1 : kind = 1
  · subst hk1
    by_cases ha : a < 1 ∨ 64 < a
    · refine (stepJ_new_no h ei a b c d f ra rn rc sa sn sc ha).mono ?_
      rintro en w' ⟨h1, h2, h3⟩
      exact ⟨h1, ⟨ne, by omega, h2⟩, h3.mono hB⟩
    · refine (stepJ_new_yes h ei a b c d f ra rn rc sa sn sc (by omega) (by omega) hne).mono ?_
      rintro en w' ⟨h1, h2, h3⟩
      exact ⟨h1, ⟨ne + 1, by omega, h2⟩, h3⟩
  · by_cases h0 : ne = 0
    · subst h0
      refine (stepJ_none h kind ei a b c d f ra rn rc sa sn sc (by rw [beq_eq_false_iff_ne]; exact hk1)).mono ?_
      rintro en w' ⟨h1, h2, h3⟩
      exact ⟨h1, ⟨0, by omega, h2⟩, h3.mono hB⟩
    · refine (stepJ_eng J h kind ei a b c d f ra rn rc sa sn sc (by omega) (by omega) (by omega) h1 h2).mono ?_
      rintro en w' ⟨h1, h2, h3⟩
      exact ⟨h1, ⟨ne, by omega, h2⟩, h3⟩

def inK (ks : List Int) (kind : Int) (j : Nat) : Bool := (ks.take j).any fun x => kind == x
theorem inK_zero (ks : List Int) (kind : Int) : inK ks kind 0 = false := by simp [inK]
theorem inK_succ (ks : List Int) (kind : Int) {j : Nat} (h : j < ks.length) : inK ks kind (j + 1) = (inK ks kind j || (kind == ks.getD j 0)) := by
  unfold inK
  rw [List.take_succ_eq_append_getElem h, List.any_append]
  simp [h]
theorem inK_five {kind : Int} (h : inK [1, 2, 3, 4, 5] kind 5 = true) : 1 ≤ kind ∧ kind ≤ 5 := by
  simp [inK] at h
  omega
theorem lawRepI_new (I : EngI) (w : World) : LawRepI I (w.alloc (.cells #[.slice none 0 0, .slice none 0 0, .slice none 0 0, .slice none 0 0, .slice none 0 0] 31)) w.heap.size w.heap.size 0 := by
  refine ⟨fun k => if k = w.heap.size then (0, 6, 0) else (0, 8, 0), .slice none 0 0, fun _ => 0, fun _ => 0, fun _ => ⟨0, 0, (fun _ => ⟨0, 0, 0, 0, [], [], false⟩), 0, (fun _ => ⟨0, 0, [], false⟩)⟩, heap_alloc_new w _, by simp, World.ownsRow_nil _ _ _ _, ?_, ?_, by simp, ?_⟩
  · intro g hg; simp [Value.ownBlock] at hg
  · intro k hk; rw [if_neg (by omega)]
  · intro i hi; omega
theorem drewN_heap (w : World) (m : Nat) : Still w (w.drewN m) := (Kept.refl _ _).drewN m

set_option maxRecDepth 100000 in
set_option maxHeartbeats 4000000 in
theorem playsJ_admits {I : EngI} (J : EngI2 I) {w : World} (sa : Option Addr) (n cap gk : Nat) (S : Nat → StepD) (hs : 0 < n → ∃ bs off, sa = some ⟨bs, off, none⟩ ∧ bs < w.heap.size ∧ ScriptAt w bs off n S)
    (hgk : gk < w.heap.size) (hks : ∀ j, j < 5 → w.cell? ⟨gk, j, none⟩ = some (.int .i64 (([1, 2, 3, 4, 5] : List Int).getD j 0))) (hn : n * 104 ≤ 140737488355328) :
    Calls Tryz.prog 8 #[.slice sa n cap, .slice (some ⟨gk, 0, none⟩) 5 5] w fun en w' => en = .returned (.bool true) ∧ Below w.heap.size w w' := by
  have HS := hide hs
  have HK := hide hks
  have HL0 := hide (lawRepI_new I w)
  clear hs hks
  go_enter Tryz.func8, Tryz.ntmps8
  go_wp2
  go_loopw [6] (fun t w' => ∃ i : Nat, i ≤ n ∧ t = .int .i64 i ∧ (∃ ne, ne ≤ i ∧ LawRepI I w' w.heap.size w.heap.size ne) ∧ Below w.heap.size w w') (fun t _ => n - (intOf t).toNat)
  case atStart => exact ⟨0, Nat.zero_le _, rfl, ⟨0, Nat.le_refl _, unhide HL0⟩, (Below.refl _ _).alloc (Nat.le_refl _) _⟩
  case round =>
    obtain ⟨i, hi, rfl, ⟨ne, hne, hlaw⟩, hb⟩ := hrel
    have HLW := hide hlaw
    have HBL := hide hb
    clear hlaw hb
    by_cases hlt : i < n
    · obtain ⟨bs, off, rfl, hbs, hscr⟩ := unhide HS (by omega)
      have hsr := hscr.below (unhide HBL) hbs
      have s0 := hsr.c0 i hlt
      have s1 := hsr.c1 i hlt
      have s2 := hsr.c2 i hlt
      have s3 := hsr.c3 i hlt
      have s4 := hsr.c4 i hlt
      have s5 := hsr.c5 i hlt
      have s6 := hsr.c6 i hlt
      have s7 := hsr.c7 i hlt
      have s8 := hsr.c8 i hlt
      have lo := hsr.lo i hlt
      have hi' := hsr.hi i hlt
      clear hscr hsr
      generalize S i = s at *
      have hkr : Hid (∀ j, j < 5 → wr.cell? ⟨gk, j, none⟩ = some (.int .i64 (([1, 2, 3, 4, 5] : List Int).getD j 0))) := fun j hj => ((unhide HBL).cell (p := ⟨gk, j, none⟩) hgk).trans (unhide HK j hj)
      go_wp2
      go_loopw [7, 8] (fun t k w' => ∃ j : Nat, j ≤ 5 ∧ k = .int .i64 j ∧ t = .bool (inK [1, 2, 3, 4, 5] s.kind j) ∧ ∃ m, w' = wr.drewN m) (fun _ k _ => 5 - (intOf k).toNat)
      case atStart => exact ⟨0, Nat.zero_le _, rfl, by rw [inK_zero], 0, rfl⟩
      case round =>
        obtain ⟨j, hj, rfl, rfl, m, rfl⟩ := hrel
        by_cases hj5 : j < 5
        · have ck := unhide hkr j hj5
          have hsu := hide (inK_succ [1, 2, 3, 4, 5] s.kind (j := j) hj5)
          generalize ([1, 2, 3, 4, 5] : List Int).getD j 0 = kj at *
          cases hin : inK [1, 2, 3, 4, 5] s.kind j
          all_goals
            have HIN := hide hin
            clear hin
            go_wp2_with fail
            go_quiet (fail)
            go_wp2
            go_roundw
            case rel => exact ⟨j + 1, by omega, by go_num, by rw [unhide hsu, unhide HIN]; simp, m + nq, rfl⟩
            case measure => simp [intOf]; omega
        · obtain rfl : j = 5 := by omega
          have hlw : LawRepI I (wr.drewN m) w.heap.size w.heap.size ne := (unhide HLW).still (drewN_heap _ _)
          have hbd : Below w.heap.size w (wr.drewN m) := ⟨(unhide HBL).os, (unhide HBL).tape, (unhide HBL).output, (unhide HBL).size, (unhide HBL).block⟩
          have s0' : (wr.drewN m).cell? ⟨bs, off + i * 9, none⟩ = some (.int .i64 s.kind) := s0
          have s1' : (wr.drewN m).cell? ⟨bs, off + i * 9 + 1, none⟩ = some (.int .i64 s.e) := s1
          have s2' : (wr.drewN m).cell? ⟨bs, off + i * 9 + 2, none⟩ = some (.int .i64 s.a) := s2
          have s3' : (wr.drewN m).cell? ⟨bs, off + i * 9 + 3, none⟩ = some (.int .i64 s.b) := s3
          have s4' : (wr.drewN m).cell? ⟨bs, off + i * 9 + 4, none⟩ = some (.int .i64 s.c) := s4
          have s5' : (wr.drewN m).cell? ⟨bs, off + i * 9 + 5, none⟩ = some (.int .i64 s.d) := s5
          have s6' : (wr.drewN m).cell? ⟨bs, off + i * 9 + 6, none⟩ = some (.bool s.f) := s6
          have s7' : (wr.drewN m).cell? ⟨bs, off + i * 9 + 7, none⟩ = some (.slice s.ra s.rn s.rc) := s7
          have s8' : (wr.drewN m).cell? ⟨bs, off + i * 9 + 8, none⟩ = some (.slice s.sa s.sn s.sc) := s8
          clear s0 s1 s2 s3 s4 s5 s6 s7 s8 HLW HBL hkr
          generalize wr.drewN m = V at *
          have HLW := hide hlw
          have HBL := hide hbd
          clear hlw hbd
          cases hin : inK [1, 2, 3, 4, 5] s.kind 5 with
          | false =>
            clear hin
            go_wp2
            go_roundw
            case rel => exact ⟨i + 1, by omega, by go_num, ⟨ne, by omega, unhide HLW⟩, unhide HBL⟩
            case measure => simp [intOf]; omega
          | true =>
            obtain ⟨hk1, hk5⟩ := inK_five hin
            clear hin
            go_wp2_with fail
            refine (stepJ_any J (unhide HLW) (unhide HBL).size _ _ _ _ _ _ _ _ _ _ _ _ _ ⟨hk1, by omega⟩ (by omega) (by omega) (by omega)).mono ?_
            rintro en w5 ⟨rfl, ⟨ne', hne', hlw5⟩, hbl5⟩
            have hb5 := Below.trans (unhide HBL) hbl5
            have HL5 := hide hlw5
            have HB5 := hide hb5
            clear hlw5 hbl5 hb5
            go_wp2_with (go_at_call 10; refine (looksJ_none (unhide HL5)).mono ?_; rintro en w6 ⟨rfl, hw6⟩; replace hw6 := hw6.symm; subst hw6)
            go_roundw
            case rel => exact ⟨i + 1, by omega, by go_num, ⟨ne', by omega, unhide HL5⟩, unhide HB5⟩
            case measure => simp [intOf]; omega
    · go_wp2
      go_ret
      exact ⟨rfl, unhide HBL⟩
set_option maxRecDepth 100000 in
set_option maxHeartbeats 2000000 in
theorem admitsJ_any {I : EngI} (J : EngI2 I) {w : World} (sa : Option Addr) (n cap : Nat) (S : Nat → StepD) (hs : 0 < n → ∃ bs off, sa = some ⟨bs, off, none⟩ ∧ bs < w.heap.size ∧ ScriptAt w bs off n S) (hn : n * 104 ≤ 140737488355328) :
    Calls Tryz.prog 3 #[.slice sa n cap] w fun en w' => en = .returned (.bool true) ∧ Below w.heap.size w w' := by
  have HS := hide hs
  clear hs
  go_enter Tryz.func3, Tryz.ntmps3
  go_wp2_with fail
  have hb : Below w.heap.size w (w.alloc (.cells #[.int .i64 1, .int .i64 2, .int .i64 3, .int .i64 4, .int .i64 5] 3)) := (Below.refl _ _).alloc (Nat.le_refl _) _
  refine (playsJ_admits J sa n cap w.heap.size S ?_ (by simp) ?_ hn).mono ?_
  · intro h0
    obtain ⟨bs, off, e1, e2, e3⟩ := unhide HS h0
    exact ⟨bs, off, e1, by simp; omega, e3.below hb e2⟩
  · intro j hj
    rw [World.cell?_alloc_new]
    rcases (by omega : j = 0 ∨ j = 1 ∨ j = 2 ∨ j = 3 ∨ j = 4) with rfl | rfl | rfl | rfl | rfl <;> rfl
  · rintro en w1 ⟨rfl, hb1⟩
    have HB := hide (Below.trans hb (hb1.mono (by simp)))
    clear hb hb1
    go_wp2
    go_ret
    exact ⟨rfl, unhide HB⟩
end Go.Proofs.YtgndledehlilkaaGreat
