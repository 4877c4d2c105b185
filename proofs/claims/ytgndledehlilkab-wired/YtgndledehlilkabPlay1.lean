/-
  Steps of a script: rules.
-/
import Derived.Test.YtgndledehlilkabKeepL
namespace Go.Proofs.Ytgndledehlilkab
open Go.RowKit

/-- A step. -/
structure OpD where
  kind : Int
  who : Int
  a : Int
  b : Int
  c : Int
  d : Int
structure OpOk (o : OpD) : Prop where
  k0 : -9223372036854775808 ≤ o.kind
  k1 : o.kind ≤ 9223372036854775807
  w0 : -9223372036854775808 ≤ o.who
  w1 : o.who ≤ 9223372036854775807
  a0 : -9223372036854775808 ≤ o.a
  a1 : o.a ≤ 9223372036854775807
  b0 : -9223372036854775808 ≤ o.b
  b1 : o.b ≤ 9223372036854775807
  c0 : -9223372036854775808 ≤ o.c
  c1 : o.c ≤ 9223372036854775807
  d0 : -9223372036854775808 ≤ o.d
  d1 : o.d ≤ 9223372036854775807
def opCells (o : OpD) : List Value := [.int .i64 o.kind, .int .i64 o.who, .int .i64 o.a, .int .i64 o.b, .int .i64 o.c, .int .i64 o.d]
/-- A step in a block of its own. -/
structure BoxO (w : World) (s : Nat) (o : OpD) : Prop where
  lt : s < w.heap.size
  c0 : w.cell? ⟨s, 0, none⟩ = some (.int .i64 o.kind)
  c1 : w.cell? ⟨s, 1, none⟩ = some (.int .i64 o.who)
  c2 : w.cell? ⟨s, 2, none⟩ = some (.int .i64 o.a)
  c3 : w.cell? ⟨s, 3, none⟩ = some (.int .i64 o.b)
  c4 : w.cell? ⟨s, 4, none⟩ = some (.int .i64 o.c)
  c5 : w.cell? ⟨s, 5, none⟩ = some (.int .i64 o.d)
theorem BoxO.new (w : World) (o : OpD) (t : TypeId) : BoxO (w.alloc (.cells #[.int .i64 o.kind, .int .i64 o.who, .int .i64 o.a, .int .i64 o.b, .int .i64 o.c, .int .i64 o.d] t)) w.heap.size o := by
  refine ⟨by simp, ?_, ?_, ?_, ?_, ?_, ?_⟩ <;> rw [World.cell?_alloc_new] <;> rfl
theorem BoxO.kept {w w' : World} {s : Nat} {o : OpD} {P : Nat → Prop} (h : BoxO w s o) (hk : Kept P w w') (hp : ¬ P s) : BoxO w' s o :=
  ⟨Nat.lt_of_lt_of_le h.lt hk.size, (hk.cell (p := ⟨s, 0, none⟩) h.lt hp).trans h.c0, (hk.cell (p := ⟨s, 1, none⟩) h.lt hp).trans h.c1, (hk.cell (p := ⟨s, 2, none⟩) h.lt hp).trans h.c2, (hk.cell (p := ⟨s, 3, none⟩) h.lt hp).trans h.c3, (hk.cell (p := ⟨s, 4, none⟩) h.lt hp).trans h.c4, (hk.cell (p := ⟨s, 5, none⟩) h.lt hp).trans h.c5⟩
/-- The rules of a step. -/
def geF (o : OpD) : Int := pfxL o.b + pickF o.c (17 - pfxL o.b)
def leF (o : OpD) : Int := geF o + pickF (o.c / 16) (17 - geF o)
def ruleF (o : OpD) (i : Nat) : RuleD := ⟨decide (0 < pickF o.c 3), pfxA (wrap64 (o.a + (i : Int) * 4096)) o.b, pfxL o.b, geF o, leF o⟩
def rulesTo (o : OpD) (k : Nat) : List RuleD := (List.range k).map (ruleF o)
def rulesF (o : OpD) : List RuleD := rulesTo o (pickF o.d 3).toNat
theorem rulesTo_len (o : OpD) (k : Nat) : (rulesTo o k).length = k := by simp [rulesTo]
theorem rulesTo_succ (o : OpD) (k : Nat) : rulesTo o (k + 1) = rulesTo o k ++ [ruleF o k] := by simp [rulesTo, List.range_succ]
theorem rule_snoc (R : List RuleD) (x : RuleD) : (R ++ [x]).flatMap ruleCells = R.flatMap ruleCells ++ ruleCells x := by rw [List.flatMap_append]; simp
theorem infoRuleK : (Try.prog.info? 55).map (fun i => (i.zero, i.size, i.bytes)) = some (some (.agg #[.bool false, .int .i64 0, .int .i64 0, .int .i64 0, .int .i64 0]), 5, 40) := by kernel_rfl
theorem wrap64_range (x : Int) : -9223372036854775808 ≤ wrap64 x ∧ wrap64 x ≤ 9223372036854775807 := by unfold wrap64; omega
theorem rulesIn_of {w : World} {base : Nat} {v : Value} {R : List RuleD} (h : w.ownsRow base 55 5 v R.length (R.flatMap ruleCells)) (hl : R.length ≤ 1000) : RulesIn w v R := by
  obtain ⟨a, c, rfl, _, _⟩ := ownsRow_slice h
  rcases Nat.eq_zero_or_pos R.length with h0 | h0
  · have hR : R = [] := List.eq_nil_of_length_eq_zero h0
    subst hR
    rcases h.2 with ⟨e, _⟩ | ⟨g, cap, cur, e, _, _⟩
    · exact .inl ⟨e, rfl⟩
    · refine .inr ⟨⟨g, 0, none⟩, cap, e, by simp, fun j u hu => by simp at hu⟩
  · obtain ⟨g, rfl, hg⟩ := ownsRow_some h h0
    refine .inr ⟨⟨g, 0, none⟩, c, rfl, by omega, fun j u hu => ?_⟩
    exact h.cells (g := g) rfl j u hu
set_option maxHeartbeats 8000000 in
theorem rulesK (o : OpD) (ho : OpOk o) (w : World) :
    Calls Try.prog 31 #[.agg #[.int .i64 o.kind, .int .i64 o.who, .int .i64 o.a, .int .i64 o.b, .int .i64 o.c, .int .i64 o.d]] w fun e w' => ∃ v, e = .returned v ∧ RulesIn w' v (rulesF o) ∧ Still w w' := by
  have hS : Still w (w.alloc (.cells #[.int .i64 o.kind, .int .i64 o.who, .int .i64 o.a, .int .i64 o.b, .int .i64 o.c, .int .i64 o.d] 34)) := (Kept.refl _ _).alloc _
  have HB := hide (BoxO.new w o 34)
  have HS := hide hS
  have HO := hide ho
  have hm3 := pickF_range o.d (n := 3) (by omega)
  obtain ⟨m, hm⟩ : ∃ m : Nat, pickF o.d 3 = (m : Int) := ⟨(pickF o.d 3).toNat, by omega⟩
  have hmm : m < 3 := by omega
  have HM := hide hm
  have hrF : rulesF o = rulesTo o m := by unfold rulesF; rw [hm]; rfl
  have HRF := hide hrF
  obtain ⟨i0, hi0, hz0, hz1, hz2⟩ := info_parts infoRuleK
  clear hS hm3 hm hrF ho
  go_enter Try.func31, Try.ntmps31
  go_wp2
  generalize hs0 : w.heap.size = s0 at *
  generalize w.alloc (.cells #[.int .i64 o.kind, .int .i64 o.who, .int .i64 o.a, .int .i64 o.b, .int .i64 o.c, .int .i64 o.d] 34) = V at *
  have hV : s0 + 1 ≤ V.heap.size := (unhide HB).lt
  go_loopw [3, 4, 5, 6, 7, 8] (fun l i _ _ _ _ w' => ∃ k : Nat, k ≤ m ∧ i = .int .i64 k ∧ w'.ownsRow V.heap.size 55 5 l k ((rulesTo o k).flatMap ruleCells) ∧ Still V w') (fun _ i _ _ _ _ _ => m - (intOf i).toNat)
  case atStart => exact ⟨0, by omega, rfl, World.ownsRow_nil _ _ _ _, Kept.refl _ _⟩
  case round =>
    obtain ⟨k, hk, rfl, hrow, hst⟩ := hrel
    obtain ⟨la, lc, rfl, hl1, hl2⟩ := ownsRow_slice hrow
    have hb := (unhide HB).kept hst (fun q => q)
    have c2 := hb.c2
    have c3 := hb.c3
    have c4 := hb.c4
    have c5 := hb.c5
    have cl := hb.lt
    have hsz := hst.size
    have HR := hide hrow
    have HST := hide hst
    clear hb hrow hst
    by_cases hlt : k < m
    · have hkm : decide ((k : Int) < (m : Int)) = true := decide_eq_true (by omega)
      go_wp2_with fail
      refine (pickK _ _ _ (by omega) (unhide HO).d0 (unhide HO).d1).mono ?_
      rintro en w' ⟨rfl, hw⟩
      replace hw := hw.symm
      subst hw
      rw [unhide HM]
      have hwr := wrap64_range (o.a + (k : Int) * 4096)
      have hnr := pickF_range o.b (n := 17) (by omega)
      have hxr : ruleF o k = ⟨decide (0 < pickF o.c 3), pfxA (wrap64 (o.a + (k : Int) * 4096)) o.b, pfxL o.b, geF o, leF o⟩ := rfl
      have hge : geF o = pfxL o.b + pickF o.c (17 - pfxL o.b) := rfl
      have hle : leF o = geF o + pickF (o.c / 16) (17 - geF o) := rfl
      have hpl : pfxL o.b = pickF o.b 17 := rfl
      rw [← hpl] at hnr
      go_wp2_with fail
      refine (prefixK _ _ _ hwr.1 hwr.2 (unhide HO).b0 (unhide HO).b1).mono ?_
      rintro en w' ⟨rfl, hw⟩
      replace hw := hw.symm
      subst hw
      generalize pfxA (wrap64 (o.a + (k : Int) * 4096)) o.b = pa at *
      generalize pfxL o.b = pn at *
      have h17 := pickF_range o.c (n := 17 - pn) (by omega)
      have hgr : 0 ≤ geF o ∧ geF o ≤ 16 := by omega
      have HGE := hide hge
      have hwg : IntKind.i64.wrap (pn + pickF o.c (17 - pn)) = geF o := by rw [← hge]; exact wrap_small (by omega) (by omega)
      clear hge hpl
      go_wp2_with fail
      refine (pickK _ _ _ (by omega) (unhide HO).c0 (unhide HO).c1).mono ?_
      rintro en w' ⟨rfl, hw⟩
      replace hw := hw.symm
      subst hw
      generalize hp1 : pickF o.c (17 - pn) = p1 at *
      generalize hgF : geF o = gf at *
      have hwg' : pn + p1 = gf := by rw [unhide HGE]
      have HWG := hide hwg'
      clear hwg' hp1
      have h18 := pickF_range (o.c / 16) (n := 17 - gf) (by omega)
      have d1 : -9223372036854775808 ≤ o.c / 16 := by have := (unhide HO).c0; omega
      have d2 : o.c / 16 ≤ 9223372036854775807 := by have := (unhide HO).c1; omega
      have HLE := hide hle
      have hwl : IntKind.i64.wrap (gf + pickF (o.c / 16) (17 - gf)) = leF o := by rw [hle]; exact wrap_small (by omega) (by omega)
      clear hle
      go_wp2_with fail
      refine (pickK _ _ _ (by omega) d1 d2).mono ?_
      rintro en w' ⟨rfl, hw⟩
      replace hw := hw.symm
      subst hw
      generalize hp2 : pickF (o.c / 16) (17 - gf) = p2 at *
      generalize hlF : leF o = lf at *
      have hwl' : gf + p2 = lf := by rw [unhide HLE]
      have HWL := hide hwl'
      clear hwl' hp2
      go_wp2_with fail
      refine (pickK _ _ _ (by omega) (unhide HO).c0 (unhide HO).c1).mono ?_
      rintro en w' ⟨rfl, hw⟩
      replace hw := hw.symm
      subst hw
      generalize hp3 : pickF o.c 3 = p3 at *
      have HXR := hide hxr
      clear hxr
      go_wp2_with (at_builtin; refine wpList_append_lies _ rfl _ _ _ rfl V.heap.size 55 i0 _ 5 40 Try.underlying80 hi0 hz0 hz1 hz2 rfl (by omega) (.slice la k lc) k _ rfl ((unhide HR).alloc _) ⟨wr.heap.size, 0, none⟩ 1 1 [.bool (decide (0 < p3)), .int .i64 pa, .int .i64 pn, .int .i64 gf, .int .i64 lf] rfl rfl (World.news_of_block (cs := #[.bool (decide (0 < p3)), .int .i64 pa, .int .i64 pn, .int .i64 gf, .int .i64 lf]) (t := 55) (fr := (0, 0)) (by have := heap_alloc_new wr (.cells #[.bool (decide (0 < p3)), .int .i64 pa, .int .i64 pn, .int .i64 gf, .int .i64 lf] 55); simpa using this)) (by simp [Value.oneCell']) (by omega) (by unfold maxLen; omega) (by omega) (by simp; omega) (wr.heap.size + 1) (by simp) ?_; intro g4 cap4 w4 hown4 hgrow4 hat4 hlt4)
      have hge : ∀ y, (Value.slice la k lc).ownBlock = some y → V.heap.size ≤ y := fun y hy => ((unhide HR).lt y hy).1
      have hkg : Kept (fun y => (Value.slice la k lc).ownBlock = some y) wr w4 := Kept.grown ((Kept.refl _ _).alloc _) hgrow4 (fun y hy => .inl hy)
      have hst5 : Still V w4 := Kept.trans' (unhide HST) hkg (fun i hi q => by have := hge i q; omega)
      have HO4 := hide hown4
      have HST5 := hide hst5
      clear hkg hst5 hown4 hgrow4 hat4 hge
      go_roundw
      case rel =>
        refine ⟨k + 1, by omega, by go_num, ?_, unhide HST5⟩
        rw [rulesTo_succ, rule_snoc, unhide HXR]
        exact unhide HO4
      case measure => simp [intOf]; omega
    · obtain rfl : k = m := by omega
      have hkm : decide ((k : Int) < (k : Int)) = false := decide_eq_false (by omega)
      go_wp2_with fail
      refine (pickK _ _ _ (by omega) (unhide HO).d0 (unhide HO).d1).mono ?_
      rintro en w' ⟨rfl, hw⟩
      replace hw := hw.symm
      subst hw
      rw [unhide HM]
      go_wp2
      go_ret
      refine ⟨_, rfl, ?_, (unhide HS).trans (unhide HST)⟩
      rw [unhide HRF]
      refine rulesIn_of (base := V.heap.size) ?_ (by rw [rulesTo_len]; omega)
      rw [rulesTo_len]
      exact unhide HR
end Go.Proofs.Ytgndledehlilkab
