/-
  Walks: districtlaw: looks (where no list has come out), plays, Admits.
-/
import Derived.Test.YtgndledehlilkaaGreatLawJ3
namespace Go.Proofs.YtgndledehlilkaaGreat
open Go.RowKit

set_option maxHeartbeats 2000000 in
theorem looksJ_none {I : EngI} {w : World} {B bw ne : Nat} (h : LawRepI I w B bw ne) :
    Calls Tryz.prog 10 #[.pointer (some ⟨bw, 0, none⟩)] w fun en w' => en = .returned (.bool true) ∧ w' = w := by
  obtain ⟨O, lv, bx, by_, rs, h⟩ := h
  obtain ⟨_, cs, _⟩ := h.cells
  have c1 := cs 1 (by omega) (by omega)
  have c3 := cs 3 (by omega) (by omega)
  clear h cs
  go_enter Tryz.func10, Tryz.ntmps10
  go_wp2
  go_loop [3] (fun t => t = .int .i64 0) (fun _ => 0)
  case atStart => rfl
  case round =>
    subst hrel
    go_wp2
    go_loop [6] (fun t => t = .int .i64 0) (fun _ => 0)
    case atStart => rfl
    case round =>
      subst hrel
      go_wp2
      go_ret
      exact ⟨rfl, rfl⟩

/-- A step of a script. -/
structure StepD where
  kind : Int
  e : Int
  a : Int
  b : Int
  c : Int
  d : Int
  f : Bool
  ra : Option Addr
  rn : Nat
  rc : Nat
  sa : Option Addr
  sn : Nat
  sc : Nat
def StepD.val (s : StepD) : Value := stepW s.kind s.e s.a s.b s.c s.d s.f (.slice s.ra s.rn s.rc) (.slice s.sa s.sn s.sc)
/-- The script lies in block bs from off on. -/
structure ScriptAt (w : World) (bs off n : Nat) (S : Nat → StepD) : Prop where
  c0 : ∀ i, i < n → w.cell? ⟨bs, off + i * 9, none⟩ = some (.int .i64 (S i).kind)
  c1 : ∀ i, i < n → w.cell? ⟨bs, off + i * 9 + 1, none⟩ = some (.int .i64 (S i).e)
  c2 : ∀ i, i < n → w.cell? ⟨bs, off + i * 9 + 2, none⟩ = some (.int .i64 (S i).a)
  c3 : ∀ i, i < n → w.cell? ⟨bs, off + i * 9 + 3, none⟩ = some (.int .i64 (S i).b)
  c4 : ∀ i, i < n → w.cell? ⟨bs, off + i * 9 + 4, none⟩ = some (.int .i64 (S i).c)
  c5 : ∀ i, i < n → w.cell? ⟨bs, off + i * 9 + 5, none⟩ = some (.int .i64 (S i).d)
  c6 : ∀ i, i < n → w.cell? ⟨bs, off + i * 9 + 6, none⟩ = some (.bool (S i).f)
  c7 : ∀ i, i < n → w.cell? ⟨bs, off + i * 9 + 7, none⟩ = some (.slice (S i).ra (S i).rn (S i).rc)
  c8 : ∀ i, i < n → w.cell? ⟨bs, off + i * 9 + 8, none⟩ = some (.slice (S i).sa (S i).sn (S i).sc)
  lo : ∀ i, i < n → -9223372036854775808 ≤ (S i).e
  hi : ∀ i, i < n → (S i).e ≤ 9223372036854775807
theorem ScriptAt.below {w w' : World} {bs off n B : Nat} {S : Nat → StepD} (h : ScriptAt w bs off n S) (hb : Below B w w') (hl : bs < B) : ScriptAt w' bs off n S := by
  have hc : ∀ o, w'.cell? ⟨bs, o, none⟩ = w.cell? ⟨bs, o, none⟩ := fun o => hb.cell (p := ⟨bs, o, none⟩) hl
  exact ⟨fun i hi => (hc _).trans (h.c0 i hi), fun i hi => (hc _).trans (h.c1 i hi), fun i hi => (hc _).trans (h.c2 i hi), fun i hi => (hc _).trans (h.c3 i hi), fun i hi => (hc _).trans (h.c4 i hi), fun i hi => (hc _).trans (h.c5 i hi), fun i hi => (hc _).trans (h.c6 i hi), fun i hi => (hc _).trans (h.c7 i hi), fun i hi => (hc _).trans (h.c8 i hi), h.lo, h.hi⟩
/-- A step of the kinds 1 to 8. -/
theorem stepJ_any {I : EngI} (J : EngI2 I) {w : World} {B bw ne : Nat} (h : LawRepI I w B bw ne) (hB : B ≤ w.heap.size) (kind ei a b c d : Int) (f : Bool) (ra : Option Addr) (rn rc : Nat) (sa : Option Addr) (sn sc : Nat) (hk : 1 ≤ kind ∧ kind ≤ 8) (hne : (ne + 1) * 16 ≤ 140737488355328) (h1 : -9223372036854775808 ≤ ei) (h2 : ei ≤ 9223372036854775807) :
    Calls Tryz.prog 9 #[.pointer (some ⟨bw, 0, none⟩), .agg #[.int .i64 kind, .int .i64 ei, .int .i64 a, .int .i64 b, .int .i64 c, .int .i64 d, .bool f, .slice ra rn rc, .slice sa sn sc]] w fun en w' => en = .returned (.bool true) ∧ (∃ ne', ne' ≤ ne + 1 ∧ LawRepI I w' B bw ne') ∧ Below B w w' := by
  by_cases hk1 : kind = 1
  · subst hk1
    by_cases ha : a < 1 ∨ 64 < a
    · refine (stepJ_new_no h ei a b c d f ra rn rc sa sn sc ha).mono ?_
      rintro en w' ⟨h1, h2, h3⟩
      exact ⟨h1, ⟨ne, by omega, h2⟩, h3.mono hB⟩
    · refine (stepJ_new_yes h ei a b c d f ra rn rc sa sn sc (by omega) (by omega) hne).mono ?_
      rintro en w' ⟨h1, h2, h3⟩
      exact ⟨h1, ⟨ne + 1, by omega, h2⟩, h3⟩
  · by_cases h0 : ne = 0
    · subst h0
      refine (stepJ_none h kind ei a b c d f ra rn rc sa sn sc (by rw [beq_eq_false_iff_ne]; exact hk1)).mono ?_
      rintro en w' ⟨h1, h2, h3⟩
      exact ⟨h1, ⟨0, by omega, h2⟩, h3.mono hB⟩
    · refine (stepJ_eng J h kind ei a b c d f ra rn rc sa sn sc (by omega) (by omega) (by omega) h1 h2).mono ?_
      rintro en w' ⟨h1, h2, h3⟩
      exact ⟨h1, ⟨ne, by omega, h2⟩, h3⟩
end Go.Proofs.YtgndledehlilkaaGreat
