import Derived.Test.YthmmaccdccjgnaaKeepL
import Derived.Test.YthmmaccdccjgnaaOnes
import Derived.Test.YthmmaccdccjgnaaOrdM
import Derived.Test.YthmmaccdccjgnaaPrV
import Derived.Deep.MidRow
namespace Go.Proofs.Ythmmaccdccjgnaa
open Go.RowKit

/-- A step. -/
structure OpD where
  kind : Int
  who : Int
  a : Int
  b : Int
  c : Int
  d : Int
structure OpOk (o : OpD) : Prop where
  k0 : -9223372036854775808 ≤ o.kind
  k1 : o.kind ≤ 9223372036854775807
  w0 : -9223372036854775808 ≤ o.who
  w1 : o.who ≤ 9223372036854775807
  a0 : -9223372036854775808 ≤ o.a
  a1 : o.a ≤ 9223372036854775807
  b0 : -9223372036854775808 ≤ o.b
  b1 : o.b ≤ 9223372036854775807
  c0 : -9223372036854775808 ≤ o.c
  c1 : o.c ≤ 9223372036854775807
  d0 : -9223372036854775808 ≤ o.d
  d1 : o.d ≤ 9223372036854775807
def opCells (o : OpD) : List Value := [.int .i64 o.kind, .int .i64 o.who, .int .i64 o.a, .int .i64 o.b, .int .i64 o.c, .int .i64 o.d]
/-- A step in a block of its own. -/
structure BoxO (w : World) (s : Nat) (o : OpD) : Prop where
  lt : s < w.heap.size
  c0 : w.cell? ⟨s, 0, none⟩ = some (.int .i64 o.kind)
  c1 : w.cell? ⟨s, 1, none⟩ = some (.int .i64 o.who)
  c2 : w.cell? ⟨s, 2, none⟩ = some (.int .i64 o.a)
  c3 : w.cell? ⟨s, 3, none⟩ = some (.int .i64 o.b)
  c4 : w.cell? ⟨s, 4, none⟩ = some (.int .i64 o.c)
  c5 : w.cell? ⟨s, 5, none⟩ = some (.int .i64 o.d)
theorem BoxO.new (w : World) (o : OpD) (t : TypeId) : BoxO (w.alloc (.cells #[.int .i64 o.kind, .int .i64 o.who, .int .i64 o.a, .int .i64 o.b, .int .i64 o.c, .int .i64 o.d] t)) w.heap.size o := by
  refine ⟨by simp, ?_, ?_, ?_, ?_, ?_, ?_⟩ <;> rw [World.cell?_alloc_new] <;> rfl
theorem BoxO.kept {w w' : World} {s : Nat} {o : OpD} {P : Nat → Prop} (h : BoxO w s o) (hk : Kept P w w') (hp : ¬ P s) : BoxO w' s o :=
  ⟨Nat.lt_of_lt_of_le h.lt hk.size, (hk.cell (p := ⟨s, 0, none⟩) h.lt hp).trans h.c0, (hk.cell (p := ⟨s, 1, none⟩) h.lt hp).trans h.c1, (hk.cell (p := ⟨s, 2, none⟩) h.lt hp).trans h.c2, (hk.cell (p := ⟨s, 3, none⟩) h.lt hp).trans h.c3, (hk.cell (p := ⟨s, 4, none⟩) h.lt hp).trans h.c4, (hk.cell (p := ⟨s, 5, none⟩) h.lt hp).trans h.c5⟩
/-- The rules of a step. -/
def geF (o : OpD) : Int := pfxL o.b + pickF o.c (17 - pfxL o.b)
def leF (o : OpD) : Int := geF o + pickF (o.c / 16) (17 - geF o)
def ruleF (o : OpD) (i : Nat) : RuleD := ⟨decide (0 < pickF o.c 3), pfxA (wrap64 (o.a + (i : Int) * 4096)) o.b, pfxL o.b, geF o, leF o⟩
def rulesTo (o : OpD) (k : Nat) : List RuleD := (List.range k).map (ruleF o)
def rulesF (o : OpD) : List RuleD := rulesTo o (pickF o.d 3).toNat
theorem rulesTo_len (o : OpD) (k : Nat) : (rulesTo o k).length = k := by simp [rulesTo]
theorem rulesTo_succ (o : OpD) (k : Nat) : rulesTo o (k + 1) = rulesTo o k ++ [ruleF o k] := by simp [rulesTo, List.range_succ]
theorem rule_snoc (R : List RuleD) (x : RuleD) : (R ++ [x]).flatMap ruleCells = R.flatMap ruleCells ++ ruleCells x := by rw [List.flatMap_append]; simp
theorem infoRuleK : (Try.prog.info? 77).map (fun i => (i.zero, i.size, i.bytes)) = some (some (.agg #[.bool false, .int .i64 0, .int .i64 0, .int .i64 0, .int .i64 0]), 5, 40) := by kernel_rfl
theorem wrap64_range (x : Int) : -9223372036854775808 ≤ wrap64 x ∧ wrap64 x ≤ 9223372036854775807 := by unfold wrap64; omega
theorem rulesIn_of {w : World} {base : Nat} {v : Value} {R : List RuleD} (h : w.ownsRow base 77 5 v R.length (R.flatMap ruleCells)) (hl : R.length ≤ 1000) : RulesIn w v R := by
  obtain ⟨a, c, rfl, _, _⟩ := ownsRow_slice h
  rcases Nat.eq_zero_or_pos R.length with h0 | h0
  · have hR : R = [] := List.eq_nil_of_length_eq_zero h0
    subst hR
    rcases h.2 with ⟨e, _⟩ | ⟨g, cap, cur, e, _, _⟩
    · exact .inl ⟨e, rfl⟩
    · refine .inr ⟨⟨g, 0, none⟩, cap, e, by simp, fun j u hu => by simp at hu⟩
  · obtain ⟨g, rfl, hg⟩ := ownsRow_some h h0
    refine .inr ⟨⟨g, 0, none⟩, c, rfl, by omega, fun j u hu => ?_⟩
    exact h.cells (g := g) rfl j u hu
set_option maxHeartbeats 8000000 in
theorem rulesK (o : OpD) (ho : OpOk o) (w : World) :
    Calls Try.prog 32 #[.agg #[.int .i64 o.kind, .int .i64 o.who, .int .i64 o.a, .int .i64 o.b, .int .i64 o.c, .int .i64 o.d]] w fun e w' => ∃ v, e = .returned v ∧ RulesIn w' v (rulesF o) ∧ Still w w' := by
  have hS : Still w (w.alloc (.cells #[.int .i64 o.kind, .int .i64 o.who, .int .i64 o.a, .int .i64 o.b, .int .i64 o.c, .int .i64 o.d] 27)) := (Kept.refl _ _).alloc _
  have HB := hide (BoxO.new w o 27)
  have HS := hide hS
  have HO := hide ho
  have hm3 := pickF_range o.d (n := 3) (by omega)
  obtain ⟨m, hm⟩ : ∃ m : Nat, pickF o.d 3 = (m : Int) := ⟨(pickF o.d 3).toNat, by omega⟩
  have hmm : m < 3 := by omega
  have HM := hide hm
  have hrF : rulesF o = rulesTo o m := by unfold rulesF; rw [hm]; rfl
  have HRF := hide hrF
  obtain ⟨i0, hi0, hz0, hz1, hz2⟩ := info_parts infoRuleK
  clear hS hm3 hm hrF ho
  go_enter Try.func32, Try.ntmps32
  go_wp2
  generalize hs0 : w.heap.size = s0 at *
  generalize w.alloc (.cells #[.int .i64 o.kind, .int .i64 o.who, .int .i64 o.a, .int .i64 o.b, .int .i64 o.c, .int .i64 o.d] 27) = V at *
  have hV : s0 + 1 ≤ V.heap.size := (unhide HB).lt
  go_loopw [3, 4, 5, 6, 7, 8] (fun l i _ _ _ _ w' => ∃ k : Nat, k ≤ m ∧ i = .int .i64 k ∧ w'.ownsRow V.heap.size 77 5 l k ((rulesTo o k).flatMap ruleCells) ∧ Still V w') (fun _ i _ _ _ _ _ => m - (intOf i).toNat)
  case atStart => exact ⟨0, by omega, rfl, World.ownsRow_nil _ _ _ _, Kept.refl _ _⟩
  case round =>
    obtain ⟨k, hk, rfl, hrow, hst⟩ := hrel
    obtain ⟨la, lc, rfl, hl1, hl2⟩ := ownsRow_slice hrow
    have hb := (unhide HB).kept hst (fun q => q)
    have c2 := hb.c2
    have c3 := hb.c3
    have c4 := hb.c4
    have c5 := hb.c5
    have cl := hb.lt
    have hsz := hst.size
    have HR := hide hrow
    have HST := hide hst
    clear hb hrow hst
    by_cases hlt : k < m
    · have hkm : decide ((k : Int) < (m : Int)) = true := decide_eq_true (by omega)
      go_wp2_with fail
      refine (pickK _ _ _ (by omega) (unhide HO).d0 (unhide HO).d1).mono ?_
      rintro en w' ⟨rfl, hw⟩
      replace hw := hw.symm
      subst hw
      rw [unhide HM]
      have hwr := wrap64_range (o.a + (k : Int) * 4096)
      have hnr := pickF_range o.b (n := 17) (by omega)
      have hxr : ruleF o k = ⟨decide (0 < pickF o.c 3), pfxA (wrap64 (o.a + (k : Int) * 4096)) o.b, pfxL o.b, geF o, leF o⟩ := rfl
      have hge : geF o = pfxL o.b + pickF o.c (17 - pfxL o.b) := rfl
      have hle : leF o = geF o + pickF (o.c / 16) (17 - geF o) := rfl
      have hpl : pfxL o.b = pickF o.b 17 := rfl
      rw [← hpl] at hnr
      go_wp2_with fail
      refine (prefixK _ _ _ hwr.1 hwr.2 (unhide HO).b0 (unhide HO).b1).mono ?_
      rintro en w' ⟨rfl, hw⟩
      replace hw := hw.symm
      subst hw
      generalize pfxA (wrap64 (o.a + (k : Int) * 4096)) o.b = pa at *
      generalize pfxL o.b = pn at *
      have h17 := pickF_range o.c (n := 17 - pn) (by omega)
      have hgr : 0 ≤ geF o ∧ geF o ≤ 16 := by omega
      have HGE := hide hge
      have hwg : IntKind.i64.wrap (pn + pickF o.c (17 - pn)) = geF o := by rw [← hge]; exact wrap_small (by omega) (by omega)
      clear hge hpl
      go_wp2_with fail
      refine (pickK _ _ _ (by omega) (unhide HO).c0 (unhide HO).c1).mono ?_
      rintro en w' ⟨rfl, hw⟩
      replace hw := hw.symm
      subst hw
      generalize hp1 : pickF o.c (17 - pn) = p1 at *
      generalize hgF : geF o = gf at *
      have hwg' : pn + p1 = gf := by rw [unhide HGE]
      have HWG := hide hwg'
      clear hwg' hp1
      have h18 := pickF_range (o.c / 16) (n := 17 - gf) (by omega)
      have d1 : -9223372036854775808 ≤ o.c / 16 := by have := (unhide HO).c0; omega
      have d2 : o.c / 16 ≤ 9223372036854775807 := by have := (unhide HO).c1; omega
      have HLE := hide hle
      have hwl : IntKind.i64.wrap (gf + pickF (o.c / 16) (17 - gf)) = leF o := by rw [hle]; exact wrap_small (by omega) (by omega)
      clear hle
      go_wp2_with fail
      refine (pickK _ _ _ (by omega) d1 d2).mono ?_
      rintro en w' ⟨rfl, hw⟩
      replace hw := hw.symm
      subst hw
      generalize hp2 : pickF (o.c / 16) (17 - gf) = p2 at *
      generalize hlF : leF o = lf at *
      have hwl' : gf + p2 = lf := by rw [unhide HLE]
      have HWL := hide hwl'
      clear hwl' hp2
      go_wp2_with fail
      refine (pickK _ _ _ (by omega) (unhide HO).c0 (unhide HO).c1).mono ?_
      rintro en w' ⟨rfl, hw⟩
      replace hw := hw.symm
      subst hw
      generalize hp3 : pickF o.c 3 = p3 at *
      have HXR := hide hxr
      clear hxr
      go_wp2_with (at_builtin; refine wpList_append_lies _ rfl _ _ _ rfl V.heap.size 77 i0 _ 5 40 Try.underlying71 hi0 hz0 hz1 hz2 rfl (by omega) (.slice la k lc) k _ rfl ((unhide HR).alloc _) ⟨wr.heap.size, 0, none⟩ 1 1 [.bool (decide (0 < p3)), .int .i64 pa, .int .i64 pn, .int .i64 gf, .int .i64 lf] rfl rfl (World.news_of_block (cs := #[.bool (decide (0 < p3)), .int .i64 pa, .int .i64 pn, .int .i64 gf, .int .i64 lf]) (t := 77) (fr := (0, 0)) (by have := heap_alloc_new wr (.cells #[.bool (decide (0 < p3)), .int .i64 pa, .int .i64 pn, .int .i64 gf, .int .i64 lf] 77); simpa using this)) (by simp [Value.oneCell']) (by omega) (by unfold maxLen; omega) (by omega) (by simp; omega) (wr.heap.size + 1) (by simp) ?_; intro g4 cap4 w4 hown4 hgrow4 hat4 hlt4)
      have hge : ∀ y, (Value.slice la k lc).ownBlock = some y → V.heap.size ≤ y := fun y hy => ((unhide HR).lt y hy).1
      have hkg : Kept (fun y => (Value.slice la k lc).ownBlock = some y) wr w4 := Kept.grown ((Kept.refl _ _).alloc _) hgrow4 (fun y hy => .inl hy)
      have hst5 : Still V w4 := Kept.trans' (unhide HST) hkg (fun i hi q => by have := hge i q; omega)
      have HO4 := hide hown4
      have HST5 := hide hst5
      clear hkg hst5 hown4 hgrow4 hat4 hge
      go_roundw
      case rel =>
        refine ⟨k + 1, by omega, by go_num, ?_, unhide HST5⟩
        rw [rulesTo_succ, rule_snoc, unhide HXR]
        exact unhide HO4
      case measure => simp [intOf]; omega
    · obtain rfl : k = m := by omega
      have hkm : decide ((k : Int) < (k : Int)) = false := decide_eq_false (by omega)
      go_wp2_with fail
      refine (pickK _ _ _ (by omega) (unhide HO).d0 (unhide HO).d1).mono ?_
      rintro en w' ⟨rfl, hw⟩
      replace hw := hw.symm
      subst hw
      rw [unhide HM]
      go_wp2
      go_ret
      refine ⟨_, rfl, ?_, (unhide HS).trans (unhide HST)⟩
      rw [unhide HRF]
      refine rulesIn_of (base := V.heap.size) ?_ (by rw [rulesTo_len]; omega)
      rw [rulesTo_len]
      exact unhide HR

/-- What a step answered. -/
structure ToldD where
  e : Int
  l : List RouteD
  s : SumsD
  r : RouteD
  b : Bool
def su0 : SumsD := ⟨0, 0, 0, 0⟩
def toldE (e : Int) : ToldD := ⟨e, [], su0, rt0, false⟩
def andF (a m : Int) : Int := bits .and .i64 a m
/-- What a step answers, and what it leaves. -/
def playT (r : RefS) (n : Int) (o : OpD) (mk : Int) : ToldD :=
  if pickF o.kind 8 = 0 then toldE (insertR r n (pfxA o.a o.b) (pfxL o.b) (pickF o.c 256))
  else if pickF o.kind 8 = 1 then toldE (removeR r n (pfxA o.a o.b) (pfxL o.b))
  else if pickF o.kind 8 = 2 then toldE (shareR r n (andF o.a mk) (andF o.b mk))
  else if pickF o.kind 8 = 3 then toldE (filterR r n (rulesF o))
  else if pickF o.kind 8 = 4 then ⟨mayI r n 1, tableL r n, su0, rt0, false⟩
  else if pickF o.kind 8 = 5 then ⟨mayI r n 1, [], countF r n, rt0, false⟩
  else if pickF o.kind 8 = 6 then ⟨lookR r n (pickF o.a 65536), [], su0, lookA r n (pickF o.a 65536), false⟩
  else ⟨passR r n (pickF o.a 65536) (pickF o.c 256), [], su0, rt0, passA r n (pickF o.a 65536) (pickF o.c 256) (andF o.d 1 == 1)⟩
def playS (r : RefS) (n : Int) (o : OpD) (mk : Int) : RefS :=
  if pickF o.kind 8 = 0 then insertedR r n (pfxA o.a o.b) (pfxL o.b) (pickF o.c 256)
  else if pickF o.kind 8 = 1 then removedR r n (pfxA o.a o.b) (pfxL o.b)
  else if pickF o.kind 8 = 2 then sharedR r n (andF o.a mk) (andF o.b mk)
  else if pickF o.kind 8 = 3 then filteredR r n (rulesF o)
  else r
/-- An answer in a block of its own. -/
structure ToldAt (w : World) (s : Nat) (t : ToldD) (lv : Value) : Prop where
  lt : s < w.heap.size
  fz : ∀ j, w.frozen? ⟨s, j, none⟩ = false
  c0 : w.cell? ⟨s, 0, none⟩ = some (.int .i64 t.e)
  c1 : w.cell? ⟨s, 1, none⟩ = some lv
  c2 : w.cell? ⟨s, 2, none⟩ = some (.int .i64 t.s.own)
  c3 : w.cell? ⟨s, 3, none⟩ = some (.int .i64 t.s.taken)
  c4 : w.cell? ⟨s, 4, none⟩ = some (.int .i64 t.s.dropped)
  c5 : w.cell? ⟨s, 5, none⟩ = some (.int .i64 t.s.quota)
  c6 : w.cell? ⟨s, 6, none⟩ = some (.int .i64 t.r.addr)
  c7 : w.cell? ⟨s, 7, none⟩ = some (.int .i64 t.r.len)
  c8 : w.cell? ⟨s, 8, none⟩ = some (.int .i64 t.r.hop)
  c9 : w.cell? ⟨s, 9, none⟩ = some (.int .i64 t.r.from_)
  c10 : w.cell? ⟨s, 10, none⟩ = some (.bool t.b)
def toldCells (t : ToldD) (lv : Value) : List Value := [.int .i64 t.e, lv, .int .i64 t.s.own, .int .i64 t.s.taken, .int .i64 t.s.dropped, .int .i64 t.s.quota, .int .i64 t.r.addr, .int .i64 t.r.len, .int .i64 t.r.hop, .int .i64 t.r.from_, .bool t.b]
theorem ToldAt.new (w : World) (ty : TypeId) : ToldAt (w.alloc (.cells (toldCells (toldE 0) (.slice none 0 0)).toArray ty)) w.heap.size (toldE 0) (.slice none 0 0) := by
  refine ⟨by simp, fun j => World.frozen?_alloc_new _ _ _ _, ?_, ?_, ?_, ?_, ?_, ?_, ?_, ?_, ?_, ?_, ?_⟩ <;> rw [World.cell?_alloc_new] <;> rfl
section
variable {w w' : World} {s : Nat} {t : ToldD} {lv : Value} {P : Nat → Prop}
theorem ToldAt.kept (h : ToldAt w s t lv) (hk : Kept P w w') (hp : ¬ P s) : ToldAt w' s t lv :=
  ⟨Nat.lt_of_lt_of_le h.lt hk.size, fun j => (hk.frozen (p := ⟨s, j, none⟩) h.lt hp).trans (h.fz j), (hk.cell (p := ⟨s, 0, none⟩) h.lt hp).trans h.c0, (hk.cell (p := ⟨s, 1, none⟩) h.lt hp).trans h.c1, (hk.cell (p := ⟨s, 2, none⟩) h.lt hp).trans h.c2, (hk.cell (p := ⟨s, 3, none⟩) h.lt hp).trans h.c3, (hk.cell (p := ⟨s, 4, none⟩) h.lt hp).trans h.c4, (hk.cell (p := ⟨s, 5, none⟩) h.lt hp).trans h.c5, (hk.cell (p := ⟨s, 6, none⟩) h.lt hp).trans h.c6, (hk.cell (p := ⟨s, 7, none⟩) h.lt hp).trans h.c7, (hk.cell (p := ⟨s, 8, none⟩) h.lt hp).trans h.c8, (hk.cell (p := ⟨s, 9, none⟩) h.lt hp).trans h.c9, (hk.cell (p := ⟨s, 10, none⟩) h.lt hp).trans h.c10⟩
theorem ToldAt.range (h : ToldAt w s t lv) : w.rangeAt s 0 (toldCells t lv) := by
  intro j v hv
  rw [Nat.zero_add]
  unfold toldCells at hv
  rcases j with _ | _ | _ | _ | _ | _ | _ | _ | _ | _ | _ | j <;> simp at hv
  · rw [← hv]; exact h.c0
  · rw [← hv]; exact h.c1
  · rw [← hv]; exact h.c2
  · rw [← hv]; exact h.c3
  · rw [← hv]; exact h.c4
  · rw [← hv]; exact h.c5
  · rw [← hv]; exact h.c6
  · rw [← hv]; exact h.c7
  · rw [← hv]; exact h.c8
  · rw [← hv]; exact h.c9
  · rw [← hv]; exact h.c10
theorem ToldAt.there (h : ToldAt w s t lv) : w.there s 0 11 := by
  intro j hj
  refine ⟨?_, h.fz _⟩
  rw [Nat.zero_add]
  rcases j with _ | _ | _ | _ | _ | _ | _ | _ | _ | _ | _ | j
  · rw [h.c0]; rfl
  · rw [h.c1]; rfl
  · rw [h.c2]; rfl
  · rw [h.c3]; rfl
  · rw [h.c4]; rfl
  · rw [h.c5]; rfl
  · rw [h.c6]; rfl
  · rw [h.c7]; rfl
  · rw [h.c8]; rfl
  · rw [h.c9]; rfl
  · rw [h.c10]; rfl
  · omega
theorem ToldAt.setE (h : ToldAt w s t lv) (v : Int) : ToldAt (w.setCell ⟨s, 0, none⟩ (.int .i64 v)) s { t with e := v } lv := by
  refine ⟨by simpa using h.lt, fun j => by simpa using h.fz j, World.cell?_setCell_same _ _ _ h.c0, ?_, ?_, ?_, ?_, ?_, ?_, ?_, ?_, ?_, ?_⟩ <;> rw [off_cell _ _ _ (by omega)]
  · exact h.c1
  · exact h.c2
  · exact h.c3
  · exact h.c4
  · exact h.c5
  · exact h.c6
  · exact h.c7
  · exact h.c8
  · exact h.c9
  · exact h.c10
theorem ToldAt.setL (h : ToldAt w s t lv) (u : Value) (l : List RouteD) : ToldAt (w.setCell ⟨s, 1, none⟩ u) s { t with l := l } u := by
  refine ⟨by simpa using h.lt, fun j => by simpa using h.fz j, ?_, World.cell?_setCell_same _ _ _ h.c1, ?_, ?_, ?_, ?_, ?_, ?_, ?_, ?_, ?_⟩ <;> rw [off_cell _ _ _ (by omega)]
  · exact h.c0
  · exact h.c2
  · exact h.c3
  · exact h.c4
  · exact h.c5
  · exact h.c6
  · exact h.c7
  · exact h.c8
  · exact h.c9
  · exact h.c10
theorem ToldAt.setB (h : ToldAt w s t lv) (v : Bool) : ToldAt (w.setCell ⟨s, 10, none⟩ (.bool v)) s { t with b := v } lv := by
  refine ⟨by simpa using h.lt, fun j => by simpa using h.fz j, ?_, ?_, ?_, ?_, ?_, ?_, ?_, ?_, ?_, ?_, World.cell?_setCell_same _ _ _ h.c10⟩ <;> rw [off_cell _ _ _ (by omega)]
  · exact h.c0
  · exact h.c1
  · exact h.c2
  · exact h.c3
  · exact h.c4
  · exact h.c5
  · exact h.c6
  · exact h.c7
  · exact h.c8
  · exact h.c9
theorem ToldAt.setS (h : ToldAt w s t lv) (x : SumsD) : ToldAt ((((w.setCell ⟨s, 2, none⟩ (.int .i64 x.own)).setCell ⟨s, 3, none⟩ (.int .i64 x.taken)).setCell ⟨s, 4, none⟩ (.int .i64 x.dropped)).setCell ⟨s, 5, none⟩ (.int .i64 x.quota)) s { t with s := x } lv := by
  have k0 := h.c0; have k1 := h.c1; have k2 := h.c2; have k3 := h.c3; have k4 := h.c4; have k5 := h.c5; have k6 := h.c6; have k7 := h.c7; have k8 := h.c8; have k9 := h.c9; have k10 := h.c10
  refine ⟨by simpa using h.lt, fun j => by simp [h.fz j], ?_, ?_, ?_, ?_, ?_, ?_, ?_, ?_, ?_, ?_, ?_⟩ <;> simp [World.cell?_setCell_same, World.cell?_setCell_other, *]
theorem ToldAt.setR (h : ToldAt w s t lv) (x : RouteD) : ToldAt ((((w.setCell ⟨s, 6, none⟩ (.int .i64 x.addr)).setCell ⟨s, 7, none⟩ (.int .i64 x.len)).setCell ⟨s, 8, none⟩ (.int .i64 x.hop)).setCell ⟨s, 9, none⟩ (.int .i64 x.from_)) s { t with r := x } lv := by
  have k0 := h.c0; have k1 := h.c1; have k2 := h.c2; have k3 := h.c3; have k4 := h.c4; have k5 := h.c5; have k6 := h.c6; have k7 := h.c7; have k8 := h.c8; have k9 := h.c9; have k10 := h.c10
  refine ⟨by simpa using h.lt, fun j => by simp [h.fz j], ?_, ?_, ?_, ?_, ?_, ?_, ?_, ?_, ?_, ?_, ?_⟩ <;> simp [World.cell?_setCell_same, World.cell?_setCell_other, *]
end
theorem infoTold : (Try.prog.info? 36).map (·.size) = some 11 := by kernel_rfl
theorem toldCells_one (t : ToldD) (a : Option Addr) (n c : Nat) : (toldCells t (.slice a n c)).toArray.all (·.oneCell') = true := by simp [toldCells, Value.oneCell']
theorem on_filter0 {w0 w : World} {O : Tag} {e b : Nat} {r r' : RefS} (h : On w0 w O e b r) {n c : Int} {v : Value} {R : List RuleD} (hR : RulesIn w v R) (h0 : filterR r n R = c) (h1 : filteredR r n R = r') : Calls Try.prog 33 #[.pointer (some ⟨b, 0, none⟩), .int .i64 n, v] w fun en w' =>
    en = .returned (.int .i64 c) ∧ Now w0 w O e b r' w' := by
  subst h0 h1
  exact (engX2.filter h.rep h.ok n v R hR).mono fun _ _ q => ⟨q.1, (h.went (h.ok.filtered n R) q.2).now⟩

theorem On.stepP {w0 w w' : World} {b : Nat} {r r' : RefS} (_h : On w0 w (oneTag b) 1 b r) (hn : Now w0 w (oneTag b) 1 b r' w') : On w0 w' (oneTag b) 1 b r' ∧ Kept (· = b) w w' := by
  obtain ⟨O', _, h2, h3, _⟩ := hn
  exact ⟨h2.alone, h3.mono fun i _ q => (oneTag_mine b i).1 q⟩
/-- What play promises. -/
def PlayPost (w0 w : World) (b : Nat) (t : ToldD) (r' : RefS) (en : Ending) (w' : World) : Prop :=
  ∃ a c, en = .returned (.agg (toldCells t (.slice a t.l.length c)).toArray) ∧ w'.ownsRow w.heap.size 34 4 (.slice a t.l.length c) t.l.length (t.l.flatMap routeCells) ∧ On w0 w' (oneTag b) 1 b r' ∧ Kept (· = b) w w'
/-- The end of play: the answer lies in s9, and goes out by s8. -/
structure PlayEnd (w0 w w3 : World) (b s8 s9 : Nat) (t : ToldD) (lv : Value) (r' : RefS) : Prop where
  t9 : ToldAt w3 s9 t lv
  t8 : w3.there s8 0 11
  on : On w0 w3 (oneTag b) 1 b r'
  kept : Kept (· = b) w w3
  new : w.heap.size ≤ s8
  base : w0.heap.size ≤ w.heap.size
  ne : s8 ≠ b
  row : w3.ownsRow w.heap.size 34 4 lv t.l.length (t.l.flatMap routeCells)
  off : ∀ g, lv.ownBlock = some g → g ≠ s8
theorem PlayEnd.there' {w0 w w3 : World} {b s8 s9 : Nat} {t : ToldD} {lv : Value} {r' : RefS} (h : PlayEnd w0 w w3 b s8 s9 t lv r') : w3.there s8 0 (toldCells t lv).toArray.size := h.t8
theorem PlayEnd.post {w0 w w3 : World} {b s8 s9 : Nat} {t : ToldD} {a : Option Addr} {c : Nat} {r' : RefS} (h : PlayEnd w0 w w3 b s8 s9 t (.slice a t.l.length c) r') {w4 : World} (hw : w4 = w3.setCells s8 0 (toldCells t (.slice a t.l.length c)).toArray.toList) :
    w4.rangeAt s8 0 (toldCells t (.slice a t.l.length c)) ∧ PlayPost w0 w b t r' (.returned (.agg (toldCells t (.slice a t.l.length c)).toArray)) w4 := by
  subst hw
  have hk : Kept (· = s8) w3 (w3.setCells s8 0 (toldCells t (.slice a t.l.length c)).toArray.toList) := Kept.setCells (Kept.refl (· = s8) w3) (.inl rfl) _ _
  have hs8 := h.new
  refine ⟨?_, a, c, rfl, kept_row h.row hk (fun g hg => h.off g hg), ?_, ?_⟩
  · have := World.rangeAt_setCells_same w3 s8 0 (toldCells t (.slice a t.l.length c)) h.t8
    rw [List.toList_toArray]
    exact this
  · exact h.on.past hk h.ne (Nat.le_trans h.base hs8)
  · exact Kept.trans' h.kept (hk.mono (Q := fun i => i = b ∨ w.heap.size ≤ i) fun i _ q => .inr (by omega)) (fun i hi q => by rcases q with q | q; exact q; omega)
theorem infoTold' (t : ToldD) (lv : Value) : (Try.prog.info? 36).map (·.size) = some (toldCells t lv).toArray.size := infoTold
set_option maxHeartbeats 8000000 in
theorem play_insert {w0 w : World} {b : Nat} {r r' : RefS} (h : On w0 w (oneTag b) 1 b r) (o : OpD) (ho : OpOk o) (n mk : Int) (hkd : pickF o.kind 8 = 0) {c : Int} (h0 : insertR r n (pfxA o.a o.b) (pfxL o.b) (pickF o.c 256) = c) (h1 : insertedR r n (pfxA o.a o.b) (pfxL o.b) (pickF o.c 256) = r') :
    Calls Try.prog 12 #[.pointer (some ⟨b, 0, none⟩), .int .i64 n, .agg #[.int .i64 o.kind, .int .i64 o.who, .int .i64 o.a, .int .i64 o.b, .int .i64 o.c, .int .i64 o.d], .int .i64 mk] w fun en w' => PlayPost w0 w b (toldE c) r' en w' := by
  have hb := h.lt
  have hS1 : Still w (w.alloc (.cells #[.int .i64 o.kind, .int .i64 o.who, .int .i64 o.a, .int .i64 o.b, .int .i64 o.c, .int .i64 o.d] 27)) := (Kept.refl _ _).alloc _
  have hbo := BoxO.new w o 27
  generalize hW1 : w.alloc (.cells #[.int .i64 o.kind, .int .i64 o.who, .int .i64 o.a, .int .i64 o.b, .int .i64 o.c, .int .i64 o.d] 27) = W1 at hS1 hbo
  have hs1 : W1.heap.size = w.heap.size + 1 := by rw [← hW1]; simp
  have hS2 : Still W1 (W1.alloc (.cells #[.int .i64 0, .slice none 0 0, .int .i64 0, .int .i64 0, .int .i64 0, .int .i64 0, .int .i64 0, .int .i64 0, .int .i64 0, .int .i64 0, .bool false] 36)) := (Kept.refl _ _).alloc _
  have ht8 : ToldAt (W1.alloc (.cells #[.int .i64 0, .slice none 0 0, .int .i64 0, .int .i64 0, .int .i64 0, .int .i64 0, .int .i64 0, .int .i64 0, .int .i64 0, .int .i64 0, .bool false] 36)) W1.heap.size (toldE 0) (.slice none 0 0) := ToldAt.new W1 36
  generalize hW2 : W1.alloc (.cells #[.int .i64 0, .slice none 0 0, .int .i64 0, .int .i64 0, .int .i64 0, .int .i64 0, .int .i64 0, .int .i64 0, .int .i64 0, .int .i64 0, .bool false] 36) = W2 at hS2 ht8
  have hs2 : W2.heap.size = w.heap.size + 1 + 1 := by rw [← hW2]; simp [hs1]
  have hS3 : Still W2 (W2.alloc (.cells #[.int .i64 0, .slice none 0 0, .int .i64 0, .int .i64 0, .int .i64 0, .int .i64 0, .int .i64 0, .int .i64 0, .int .i64 0, .int .i64 0, .bool false] 36)) := (Kept.refl _ _).alloc _
  have ht9 : ToldAt (W2.alloc (.cells #[.int .i64 0, .slice none 0 0, .int .i64 0, .int .i64 0, .int .i64 0, .int .i64 0, .int .i64 0, .int .i64 0, .int .i64 0, .int .i64 0, .bool false] 36)) W2.heap.size (toldE 0) (.slice none 0 0) := ToldAt.new W2 36
  generalize hW3 : W2.alloc (.cells #[.int .i64 0, .slice none 0 0, .int .i64 0, .int .i64 0, .int .i64 0, .int .i64 0, .int .i64 0, .int .i64 0, .int .i64 0, .int .i64 0, .bool false] 36) = W3 at hS3 ht9
  have HON := hide (((h.again hS1).again hS2).again hS3)
  have HSW := hide ((hS1.trans hS2).trans hS3)
  have HT8 := hide (ht8.kept hS3 (fun q => q))
  have HT9 := hide ht9
  have hbo3 := (hbo.kept hS2 (fun q => q)).kept hS3 (fun q => q)
  rw [hs1] at HT8
  rw [hs2] at HT9
  have o0 := hbo3.c0
  have o2 := hbo3.c2
  have o3 := hbo3.c3
  have o4 := hbo3.c4
  have ol := hbo3.lt
  have HBO := hide hbo3
  have HW : Hid (((w.alloc (.cells #[.int .i64 o.kind, .int .i64 o.who, .int .i64 o.a, .int .i64 o.b, .int .i64 o.c, .int .i64 o.d] 27)).alloc (.cells #[.int .i64 0, .slice none 0 0, .int .i64 0, .int .i64 0, .int .i64 0, .int .i64 0, .int .i64 0, .int .i64 0, .int .i64 0, .int .i64 0, .bool false] 36)).alloc (.cells #[.int .i64 0, .slice none 0 0, .int .i64 0, .int .i64 0, .int .i64 0, .int .i64 0, .int .i64 0, .int .i64 0, .int .i64 0, .int .i64 0, .bool false] 36) = W3) := by
    show _ = W3
    rw [hW1, hW2, hW3]
  have HO := hide ho
  have HKD := hide hkd
  have HBASE := hide h.still.size
  have hbw : b < w.heap.size := hb
  clear hS1 hbo hS2 ht8 hS3 ht9 hbo3 hW1 hW2 hW3 hs1 hs2 h ho hkd
  go_enter Try.func12, Try.ntmps12
  go_wp2_with fail
  rw [unhide HW]
  generalize hs0 : w.heap.size = s0 at *
  refine (prefixK _ _ _ (unhide HO).a0 (unhide HO).a1 (unhide HO).b0 (unhide HO).b1).mono ?_
  rintro en w' ⟨rfl, hw⟩
  replace hw := hw.symm
  subst hw
  go_wp2_with fail
  refine (pickK _ _ _ (by omega) (unhide HO).k0 (unhide HO).k1).mono ?_
  rintro en w' ⟨rfl, hw⟩
  replace hw := hw.symm
  subst hw
  rw [unhide HKD]
  have H0 := hide h0
  have H1 := hide h1
  clear h0 h1
  go_wp2_with fail
  refine (pickK _ _ _ (by omega) (unhide HO).c0 (unhide HO).c1).mono ?_
  rintro en w' ⟨rfl, hw⟩
  replace hw := hw.symm
  subst hw
  go_wp2_with fail
  refine (on_insert0 (unhide HON) (unhide H0) (unhide H1)).mono ?_
  rintro en w2 ⟨rfl, hn2⟩
  obtain ⟨hon2, hk2⟩ := (unhide HON).stepP hn2
  have ht9 := (unhide HT9).kept hk2 (by omega)
  have ht8 := (unhide HT8).kept hk2 (by omega)
  have z0 := ht9.c0
  have zf := ht9.fz 0
  have zl := ht9.lt
  have hk3 : Kept (· = s0 + 1 + 1) w2 (w2.setCell ⟨s0 + 1 + 1, 0, none⟩ (.int .i64 c)) := Kept.setAt (Kept.refl _ _) _ _
  have hpe : PlayEnd w0 w (w2.setCell ⟨s0 + 1 + 1, 0, none⟩ (.int .i64 c)) b (s0 + 1) (s0 + 1 + 1) (toldE c) (.slice none 0 0) r' := ⟨ht9.setE c, (ht8.kept hk3 (by omega)).there, hon2.past hk3 (by omega) (by have := unhide HBASE; omega), Kept.trans' ((Still.kept (unhide HSW) (· = b)).trans hk2) hk3 (fun i hi q => by omega), by omega, by have := unhide HBASE; omega, by omega, World.ownsRow_nil _ _ _ _, fun g hg => by cases hg⟩
  have HRG := hide hpe.t9.range
  have HTH := hide hpe.there'
  have hpost : ((w2.setCell ⟨s0 + 1 + 1, 0, none⟩ (.int .i64 c)).setCells (s0 + 1) 0 (toldCells (toldE c) (.slice none 0 0)).toArray.toList).rangeAt (s0 + 1) 0 (toldCells (toldE c) (.slice none 0 0)) ∧ PlayPost w0 w b (toldE c) r' (.returned (.agg (toldCells (toldE c) (.slice none 0 0)).toArray)) ((w2.setCell ⟨s0 + 1 + 1, 0, none⟩ (.int .i64 c)).setCells (s0 + 1) 0 (toldCells (toldE c) (.slice none 0 0)).toArray.toList) := PlayEnd.post (a := none) (c := 0) hpe rfl
  have HPOST := hide hpost
  have hi := infoTold' (toldE c) (.slice none 0 0)
  have hi2 : (Try.prog.info? 36).map (·.size) = some (toldCells (toldE c) (.slice none 0 0)).length := infoTold
  have ho1 : (toldCells (toldE c) (.slice none 0 0)).toArray.all (·.oneCell') = true := toldCells_one _ _ _ _
  clear hpost hpe hn2 hon2 hk2 ht9 ht8 hk3 o0 o2 o3 o4 ol HBO HT8 HT9 HON
  generalize hcs : toldCells (toldE c) (.slice none 0 0) = cs at *
  clear hcs
  go_wp2_with (refine wpList_load_mid rfl 36 _ rfl _ _ rfl cs _ (unhide HRG) Try.underlying36 rfl hi2 (unhide ?_))
  refine hide ?_
  go_wp2_with (refine wpList_store_mid rfl 36 _ _ rfl _ _ cs.toArray rfl rfl (unhide HTH) hi ho1 (unhide ?_))
  refine hide ?_
  generalize (w2.setCell ⟨s0 + 1 + 1, 0, none⟩ (.int .i64 c)).setCells (s0 + 1) 0 cs.toArray.toList = Z at *
  go_wp2
  refine bodyPost_ret (results_range1 rfl _ _ _ _ _ _ rfl (unhide HPOST).1 Try.underlying36 rfl hi2) rfl ?_
  exact (unhide HPOST).2
set_option maxHeartbeats 8000000 in
theorem play_remove {w0 w : World} {b : Nat} {r r' : RefS} (h : On w0 w (oneTag b) 1 b r) (o : OpD) (ho : OpOk o) (n mk : Int) (hkd : pickF o.kind 8 = 1) {c : Int} (h0 : removeR r n (pfxA o.a o.b) (pfxL o.b) = c) (h1 : removedR r n (pfxA o.a o.b) (pfxL o.b) = r') :
    Calls Try.prog 12 #[.pointer (some ⟨b, 0, none⟩), .int .i64 n, .agg #[.int .i64 o.kind, .int .i64 o.who, .int .i64 o.a, .int .i64 o.b, .int .i64 o.c, .int .i64 o.d], .int .i64 mk] w fun en w' => PlayPost w0 w b (toldE c) r' en w' := by
  have hb := h.lt
  have hS1 : Still w (w.alloc (.cells #[.int .i64 o.kind, .int .i64 o.who, .int .i64 o.a, .int .i64 o.b, .int .i64 o.c, .int .i64 o.d] 27)) := (Kept.refl _ _).alloc _
  have hbo := BoxO.new w o 27
  generalize hW1 : w.alloc (.cells #[.int .i64 o.kind, .int .i64 o.who, .int .i64 o.a, .int .i64 o.b, .int .i64 o.c, .int .i64 o.d] 27) = W1 at hS1 hbo
  have hs1 : W1.heap.size = w.heap.size + 1 := by rw [← hW1]; simp
  have hS2 : Still W1 (W1.alloc (.cells #[.int .i64 0, .slice none 0 0, .int .i64 0, .int .i64 0, .int .i64 0, .int .i64 0, .int .i64 0, .int .i64 0, .int .i64 0, .int .i64 0, .bool false] 36)) := (Kept.refl _ _).alloc _
  have ht8 : ToldAt (W1.alloc (.cells #[.int .i64 0, .slice none 0 0, .int .i64 0, .int .i64 0, .int .i64 0, .int .i64 0, .int .i64 0, .int .i64 0, .int .i64 0, .int .i64 0, .bool false] 36)) W1.heap.size (toldE 0) (.slice none 0 0) := ToldAt.new W1 36
  generalize hW2 : W1.alloc (.cells #[.int .i64 0, .slice none 0 0, .int .i64 0, .int .i64 0, .int .i64 0, .int .i64 0, .int .i64 0, .int .i64 0, .int .i64 0, .int .i64 0, .bool false] 36) = W2 at hS2 ht8
  have hs2 : W2.heap.size = w.heap.size + 1 + 1 := by rw [← hW2]; simp [hs1]
  have hS3 : Still W2 (W2.alloc (.cells #[.int .i64 0, .slice none 0 0, .int .i64 0, .int .i64 0, .int .i64 0, .int .i64 0, .int .i64 0, .int .i64 0, .int .i64 0, .int .i64 0, .bool false] 36)) := (Kept.refl _ _).alloc _
  have ht9 : ToldAt (W2.alloc (.cells #[.int .i64 0, .slice none 0 0, .int .i64 0, .int .i64 0, .int .i64 0, .int .i64 0, .int .i64 0, .int .i64 0, .int .i64 0, .int .i64 0, .bool false] 36)) W2.heap.size (toldE 0) (.slice none 0 0) := ToldAt.new W2 36
  generalize hW3 : W2.alloc (.cells #[.int .i64 0, .slice none 0 0, .int .i64 0, .int .i64 0, .int .i64 0, .int .i64 0, .int .i64 0, .int .i64 0, .int .i64 0, .int .i64 0, .bool false] 36) = W3 at hS3 ht9
  have HON := hide (((h.again hS1).again hS2).again hS3)
  have HSW := hide ((hS1.trans hS2).trans hS3)
  have HT8 := hide (ht8.kept hS3 (fun q => q))
  have HT9 := hide ht9
  have hbo3 := (hbo.kept hS2 (fun q => q)).kept hS3 (fun q => q)
  rw [hs1] at HT8
  rw [hs2] at HT9
  have o0 := hbo3.c0
  have o2 := hbo3.c2
  have o3 := hbo3.c3
  have o4 := hbo3.c4
  have ol := hbo3.lt
  have HBO := hide hbo3
  have HW : Hid (((w.alloc (.cells #[.int .i64 o.kind, .int .i64 o.who, .int .i64 o.a, .int .i64 o.b, .int .i64 o.c, .int .i64 o.d] 27)).alloc (.cells #[.int .i64 0, .slice none 0 0, .int .i64 0, .int .i64 0, .int .i64 0, .int .i64 0, .int .i64 0, .int .i64 0, .int .i64 0, .int .i64 0, .bool false] 36)).alloc (.cells #[.int .i64 0, .slice none 0 0, .int .i64 0, .int .i64 0, .int .i64 0, .int .i64 0, .int .i64 0, .int .i64 0, .int .i64 0, .int .i64 0, .bool false] 36) = W3) := by
    show _ = W3
    rw [hW1, hW2, hW3]
  have HO := hide ho
  have HKD := hide hkd
  have HBASE := hide h.still.size
  have hbw : b < w.heap.size := hb
  clear hS1 hbo hS2 ht8 hS3 ht9 hbo3 hW1 hW2 hW3 hs1 hs2 h ho hkd
  go_enter Try.func12, Try.ntmps12
  go_wp2_with fail
  rw [unhide HW]
  generalize hs0 : w.heap.size = s0 at *
  refine (prefixK _ _ _ (unhide HO).a0 (unhide HO).a1 (unhide HO).b0 (unhide HO).b1).mono ?_
  rintro en w' ⟨rfl, hw⟩
  replace hw := hw.symm
  subst hw
  go_wp2_with fail
  refine (pickK _ _ _ (by omega) (unhide HO).k0 (unhide HO).k1).mono ?_
  rintro en w' ⟨rfl, hw⟩
  replace hw := hw.symm
  subst hw
  rw [unhide HKD]
  have H0 := hide h0
  have H1 := hide h1
  clear h0 h1
  go_wp2_with fail
  refine (on_remove0 (unhide HON) (unhide H0) (unhide H1)).mono ?_
  rintro en w2 ⟨rfl, hn2⟩
  obtain ⟨hon2, hk2⟩ := (unhide HON).stepP hn2
  have ht9 := (unhide HT9).kept hk2 (by omega)
  have ht8 := (unhide HT8).kept hk2 (by omega)
  have z0 := ht9.c0
  have zf := ht9.fz 0
  have zl := ht9.lt
  have hk3 : Kept (· = s0 + 1 + 1) w2 (w2.setCell ⟨s0 + 1 + 1, 0, none⟩ (.int .i64 c)) := Kept.setAt (Kept.refl _ _) _ _
  have hpe : PlayEnd w0 w (w2.setCell ⟨s0 + 1 + 1, 0, none⟩ (.int .i64 c)) b (s0 + 1) (s0 + 1 + 1) (toldE c) (.slice none 0 0) r' := ⟨ht9.setE c, (ht8.kept hk3 (by omega)).there, hon2.past hk3 (by omega) (by have := unhide HBASE; omega), Kept.trans' ((Still.kept (unhide HSW) (· = b)).trans hk2) hk3 (fun i hi q => by omega), by omega, by have := unhide HBASE; omega, by omega, World.ownsRow_nil _ _ _ _, fun g hg => by cases hg⟩
  have HRG := hide hpe.t9.range
  have HTH := hide hpe.there'
  have hpost : ((w2.setCell ⟨s0 + 1 + 1, 0, none⟩ (.int .i64 c)).setCells (s0 + 1) 0 (toldCells (toldE c) (.slice none 0 0)).toArray.toList).rangeAt (s0 + 1) 0 (toldCells (toldE c) (.slice none 0 0)) ∧ PlayPost w0 w b (toldE c) r' (.returned (.agg (toldCells (toldE c) (.slice none 0 0)).toArray)) ((w2.setCell ⟨s0 + 1 + 1, 0, none⟩ (.int .i64 c)).setCells (s0 + 1) 0 (toldCells (toldE c) (.slice none 0 0)).toArray.toList) := PlayEnd.post (a := none) (c := 0) hpe rfl
  have HPOST := hide hpost
  have hi := infoTold' (toldE c) (.slice none 0 0)
  have hi2 : (Try.prog.info? 36).map (·.size) = some (toldCells (toldE c) (.slice none 0 0)).length := infoTold
  have ho1 : (toldCells (toldE c) (.slice none 0 0)).toArray.all (·.oneCell') = true := toldCells_one _ _ _ _
  clear hpost hpe hn2 hon2 hk2 ht9 ht8 hk3 o0 o2 o3 o4 ol HBO HT8 HT9 HON
  generalize hcs : toldCells (toldE c) (.slice none 0 0) = cs at *
  clear hcs
  go_wp2_with (refine wpList_load_mid rfl 36 _ rfl _ _ rfl cs _ (unhide HRG) Try.underlying36 rfl hi2 (unhide ?_))
  refine hide ?_
  go_wp2_with (refine wpList_store_mid rfl 36 _ _ rfl _ _ cs.toArray rfl rfl (unhide HTH) hi ho1 (unhide ?_))
  refine hide ?_
  generalize (w2.setCell ⟨s0 + 1 + 1, 0, none⟩ (.int .i64 c)).setCells (s0 + 1) 0 cs.toArray.toList = Z at *
  go_wp2
  refine bodyPost_ret (results_range1 rfl _ _ _ _ _ _ rfl (unhide HPOST).1 Try.underlying36 rfl hi2) rfl ?_
  exact (unhide HPOST).2
set_option maxHeartbeats 8000000 in
theorem play_share {w0 w : World} {b : Nat} {r r' : RefS} (h : On w0 w (oneTag b) 1 b r) (o : OpD) (ho : OpOk o) (n mk : Int) (hkd : pickF o.kind 8 = 2) {c : Int} (h0 : shareR r n (andF o.a mk) (andF o.b mk) = c) (h1 : sharedR r n (andF o.a mk) (andF o.b mk) = r') :
    Calls Try.prog 12 #[.pointer (some ⟨b, 0, none⟩), .int .i64 n, .agg #[.int .i64 o.kind, .int .i64 o.who, .int .i64 o.a, .int .i64 o.b, .int .i64 o.c, .int .i64 o.d], .int .i64 mk] w fun en w' => PlayPost w0 w b (toldE c) r' en w' := by
  have hb := h.lt
  have hS1 : Still w (w.alloc (.cells #[.int .i64 o.kind, .int .i64 o.who, .int .i64 o.a, .int .i64 o.b, .int .i64 o.c, .int .i64 o.d] 27)) := (Kept.refl _ _).alloc _
  have hbo := BoxO.new w o 27
  generalize hW1 : w.alloc (.cells #[.int .i64 o.kind, .int .i64 o.who, .int .i64 o.a, .int .i64 o.b, .int .i64 o.c, .int .i64 o.d] 27) = W1 at hS1 hbo
  have hs1 : W1.heap.size = w.heap.size + 1 := by rw [← hW1]; simp
  have hS2 : Still W1 (W1.alloc (.cells #[.int .i64 0, .slice none 0 0, .int .i64 0, .int .i64 0, .int .i64 0, .int .i64 0, .int .i64 0, .int .i64 0, .int .i64 0, .int .i64 0, .bool false] 36)) := (Kept.refl _ _).alloc _
  have ht8 : ToldAt (W1.alloc (.cells #[.int .i64 0, .slice none 0 0, .int .i64 0, .int .i64 0, .int .i64 0, .int .i64 0, .int .i64 0, .int .i64 0, .int .i64 0, .int .i64 0, .bool false] 36)) W1.heap.size (toldE 0) (.slice none 0 0) := ToldAt.new W1 36
  generalize hW2 : W1.alloc (.cells #[.int .i64 0, .slice none 0 0, .int .i64 0, .int .i64 0, .int .i64 0, .int .i64 0, .int .i64 0, .int .i64 0, .int .i64 0, .int .i64 0, .bool false] 36) = W2 at hS2 ht8
  have hs2 : W2.heap.size = w.heap.size + 1 + 1 := by rw [← hW2]; simp [hs1]
  have hS3 : Still W2 (W2.alloc (.cells #[.int .i64 0, .slice none 0 0, .int .i64 0, .int .i64 0, .int .i64 0, .int .i64 0, .int .i64 0, .int .i64 0, .int .i64 0, .int .i64 0, .bool false] 36)) := (Kept.refl _ _).alloc _
  have ht9 : ToldAt (W2.alloc (.cells #[.int .i64 0, .slice none 0 0, .int .i64 0, .int .i64 0, .int .i64 0, .int .i64 0, .int .i64 0, .int .i64 0, .int .i64 0, .int .i64 0, .bool false] 36)) W2.heap.size (toldE 0) (.slice none 0 0) := ToldAt.new W2 36
  generalize hW3 : W2.alloc (.cells #[.int .i64 0, .slice none 0 0, .int .i64 0, .int .i64 0, .int .i64 0, .int .i64 0, .int .i64 0, .int .i64 0, .int .i64 0, .int .i64 0, .bool false] 36) = W3 at hS3 ht9
  have HON := hide (((h.again hS1).again hS2).again hS3)
  have HSW := hide ((hS1.trans hS2).trans hS3)
  have HT8 := hide (ht8.kept hS3 (fun q => q))
  have HT9 := hide ht9
  have hbo3 := (hbo.kept hS2 (fun q => q)).kept hS3 (fun q => q)
  rw [hs1] at HT8
  rw [hs2] at HT9
  have o0 := hbo3.c0
  have o2 := hbo3.c2
  have o3 := hbo3.c3
  have o4 := hbo3.c4
  have ol := hbo3.lt
  have HBO := hide hbo3
  have HW : Hid (((w.alloc (.cells #[.int .i64 o.kind, .int .i64 o.who, .int .i64 o.a, .int .i64 o.b, .int .i64 o.c, .int .i64 o.d] 27)).alloc (.cells #[.int .i64 0, .slice none 0 0, .int .i64 0, .int .i64 0, .int .i64 0, .int .i64 0, .int .i64 0, .int .i64 0, .int .i64 0, .int .i64 0, .bool false] 36)).alloc (.cells #[.int .i64 0, .slice none 0 0, .int .i64 0, .int .i64 0, .int .i64 0, .int .i64 0, .int .i64 0, .int .i64 0, .int .i64 0, .int .i64 0, .bool false] 36) = W3) := by
    show _ = W3
    rw [hW1, hW2, hW3]
  have HO := hide ho
  have HKD := hide hkd
  have HBASE := hide h.still.size
  have hbw : b < w.heap.size := hb
  clear hS1 hbo hS2 ht8 hS3 ht9 hbo3 hW1 hW2 hW3 hs1 hs2 h ho hkd
  go_enter Try.func12, Try.ntmps12
  go_wp2_with fail
  rw [unhide HW]
  generalize hs0 : w.heap.size = s0 at *
  refine (prefixK _ _ _ (unhide HO).a0 (unhide HO).a1 (unhide HO).b0 (unhide HO).b1).mono ?_
  rintro en w' ⟨rfl, hw⟩
  replace hw := hw.symm
  subst hw
  go_wp2_with fail
  refine (pickK _ _ _ (by omega) (unhide HO).k0 (unhide HO).k1).mono ?_
  rintro en w' ⟨rfl, hw⟩
  replace hw := hw.symm
  subst hw
  rw [unhide HKD]
  have H0 := hide h0
  have H1 := hide h1
  clear h0 h1
  go_wp2_with fail
  refine (on_share0 (g := andF o.a mk) (k := andF o.b mk) (unhide HON) (unhide H0) (unhide H1)).mono ?_
  rintro en w2 ⟨rfl, hn2⟩
  obtain ⟨hon2, hk2⟩ := (unhide HON).stepP hn2
  have ht9 := (unhide HT9).kept hk2 (by omega)
  have ht8 := (unhide HT8).kept hk2 (by omega)
  have z0 := ht9.c0
  have zf := ht9.fz 0
  have zl := ht9.lt
  have hk3 : Kept (· = s0 + 1 + 1) w2 (w2.setCell ⟨s0 + 1 + 1, 0, none⟩ (.int .i64 c)) := Kept.setAt (Kept.refl _ _) _ _
  have hpe : PlayEnd w0 w (w2.setCell ⟨s0 + 1 + 1, 0, none⟩ (.int .i64 c)) b (s0 + 1) (s0 + 1 + 1) (toldE c) (.slice none 0 0) r' := ⟨ht9.setE c, (ht8.kept hk3 (by omega)).there, hon2.past hk3 (by omega) (by have := unhide HBASE; omega), Kept.trans' ((Still.kept (unhide HSW) (· = b)).trans hk2) hk3 (fun i hi q => by omega), by omega, by have := unhide HBASE; omega, by omega, World.ownsRow_nil _ _ _ _, fun g hg => by cases hg⟩
  have HRG := hide hpe.t9.range
  have HTH := hide hpe.there'
  have hpost : ((w2.setCell ⟨s0 + 1 + 1, 0, none⟩ (.int .i64 c)).setCells (s0 + 1) 0 (toldCells (toldE c) (.slice none 0 0)).toArray.toList).rangeAt (s0 + 1) 0 (toldCells (toldE c) (.slice none 0 0)) ∧ PlayPost w0 w b (toldE c) r' (.returned (.agg (toldCells (toldE c) (.slice none 0 0)).toArray)) ((w2.setCell ⟨s0 + 1 + 1, 0, none⟩ (.int .i64 c)).setCells (s0 + 1) 0 (toldCells (toldE c) (.slice none 0 0)).toArray.toList) := PlayEnd.post (a := none) (c := 0) hpe rfl
  have HPOST := hide hpost
  have hi := infoTold' (toldE c) (.slice none 0 0)
  have hi2 : (Try.prog.info? 36).map (·.size) = some (toldCells (toldE c) (.slice none 0 0)).length := infoTold
  have ho1 : (toldCells (toldE c) (.slice none 0 0)).toArray.all (·.oneCell') = true := toldCells_one _ _ _ _
  clear hpost hpe hn2 hon2 hk2 ht9 ht8 hk3 o0 o2 o3 o4 ol HBO HT8 HT9 HON
  generalize hcs : toldCells (toldE c) (.slice none 0 0) = cs at *
  clear hcs
  go_wp2_with (refine wpList_load_mid rfl 36 _ rfl _ _ rfl cs _ (unhide HRG) Try.underlying36 rfl hi2 (unhide ?_))
  refine hide ?_
  go_wp2_with (refine wpList_store_mid rfl 36 _ _ rfl _ _ cs.toArray rfl rfl (unhide HTH) hi ho1 (unhide ?_))
  refine hide ?_
  generalize (w2.setCell ⟨s0 + 1 + 1, 0, none⟩ (.int .i64 c)).setCells (s0 + 1) 0 cs.toArray.toList = Z at *
  go_wp2
  refine bodyPost_ret (results_range1 rfl _ _ _ _ _ _ rfl (unhide HPOST).1 Try.underlying36 rfl hi2) rfl ?_
  exact (unhide HPOST).2
set_option maxHeartbeats 8000000 in
theorem play_filter {w0 w : World} {b : Nat} {r r' : RefS} (h : On w0 w (oneTag b) 1 b r) (o : OpD) (ho : OpOk o) (n mk : Int) (hkd : pickF o.kind 8 = 3) {c : Int} (h0 : filterR r n (rulesF o) = c) (h1 : filteredR r n (rulesF o) = r') :
    Calls Try.prog 12 #[.pointer (some ⟨b, 0, none⟩), .int .i64 n, .agg #[.int .i64 o.kind, .int .i64 o.who, .int .i64 o.a, .int .i64 o.b, .int .i64 o.c, .int .i64 o.d], .int .i64 mk] w fun en w' => PlayPost w0 w b (toldE c) r' en w' := by
  have hb := h.lt
  have hS1 : Still w (w.alloc (.cells #[.int .i64 o.kind, .int .i64 o.who, .int .i64 o.a, .int .i64 o.b, .int .i64 o.c, .int .i64 o.d] 27)) := (Kept.refl _ _).alloc _
  have hbo := BoxO.new w o 27
  generalize hW1 : w.alloc (.cells #[.int .i64 o.kind, .int .i64 o.who, .int .i64 o.a, .int .i64 o.b, .int .i64 o.c, .int .i64 o.d] 27) = W1 at hS1 hbo
  have hs1 : W1.heap.size = w.heap.size + 1 := by rw [← hW1]; simp
  have hS2 : Still W1 (W1.alloc (.cells #[.int .i64 0, .slice none 0 0, .int .i64 0, .int .i64 0, .int .i64 0, .int .i64 0, .int .i64 0, .int .i64 0, .int .i64 0, .int .i64 0, .bool false] 36)) := (Kept.refl _ _).alloc _
  have ht8 : ToldAt (W1.alloc (.cells #[.int .i64 0, .slice none 0 0, .int .i64 0, .int .i64 0, .int .i64 0, .int .i64 0, .int .i64 0, .int .i64 0, .int .i64 0, .int .i64 0, .bool false] 36)) W1.heap.size (toldE 0) (.slice none 0 0) := ToldAt.new W1 36
  generalize hW2 : W1.alloc (.cells #[.int .i64 0, .slice none 0 0, .int .i64 0, .int .i64 0, .int .i64 0, .int .i64 0, .int .i64 0, .int .i64 0, .int .i64 0, .int .i64 0, .bool false] 36) = W2 at hS2 ht8
  have hs2 : W2.heap.size = w.heap.size + 1 + 1 := by rw [← hW2]; simp [hs1]
  have hS3 : Still W2 (W2.alloc (.cells #[.int .i64 0, .slice none 0 0, .int .i64 0, .int .i64 0, .int .i64 0, .int .i64 0, .int .i64 0, .int .i64 0, .int .i64 0, .int .i64 0, .bool false] 36)) := (Kept.refl _ _).alloc _
  have ht9 : ToldAt (W2.alloc (.cells #[.int .i64 0, .slice none 0 0, .int .i64 0, .int .i64 0, .int .i64 0, .int .i64 0, .int .i64 0, .int .i64 0, .int .i64 0, .int .i64 0, .bool false] 36)) W2.heap.size (toldE 0) (.slice none 0 0) := ToldAt.new W2 36
  generalize hW3 : W2.alloc (.cells #[.int .i64 0, .slice none 0 0, .int .i64 0, .int .i64 0, .int .i64 0, .int .i64 0, .int .i64 0, .int .i64 0, .int .i64 0, .int .i64 0, .bool false] 36) = W3 at hS3 ht9
  have HON := hide (((h.again hS1).again hS2).again hS3)
  have HSW := hide ((hS1.trans hS2).trans hS3)
  have HT8 := hide (ht8.kept hS3 (fun q => q))
  have HT9 := hide ht9
  have hbo3 := (hbo.kept hS2 (fun q => q)).kept hS3 (fun q => q)
  rw [hs1] at HT8
  rw [hs2] at HT9
  have o0 := hbo3.c0
  have o2 := hbo3.c2
  have o3 := hbo3.c3
  have o4 := hbo3.c4
  have ol := hbo3.lt
  have o1 := hbo3.c1
  have o5 := hbo3.c5
  have HBO := hide hbo3
  have HW : Hid (((w.alloc (.cells #[.int .i64 o.kind, .int .i64 o.who, .int .i64 o.a, .int .i64 o.b, .int .i64 o.c, .int .i64 o.d] 27)).alloc (.cells #[.int .i64 0, .slice none 0 0, .int .i64 0, .int .i64 0, .int .i64 0, .int .i64 0, .int .i64 0, .int .i64 0, .int .i64 0, .int .i64 0, .bool false] 36)).alloc (.cells #[.int .i64 0, .slice none 0 0, .int .i64 0, .int .i64 0, .int .i64 0, .int .i64 0, .int .i64 0, .int .i64 0, .int .i64 0, .int .i64 0, .bool false] 36) = W3) := by
    show _ = W3
    rw [hW1, hW2, hW3]
  have HO := hide ho
  have HKD := hide hkd
  have HBASE := hide h.still.size
  have hbw : b < w.heap.size := hb
  clear hS1 hbo hS2 ht8 hS3 ht9 hbo3 hW1 hW2 hW3 hs1 hs2 h ho hkd
  go_enter Try.func12, Try.ntmps12
  go_wp2_with fail
  rw [unhide HW]
  generalize hs0 : w.heap.size = s0 at *
  refine (prefixK _ _ _ (unhide HO).a0 (unhide HO).a1 (unhide HO).b0 (unhide HO).b1).mono ?_
  rintro en w' ⟨rfl, hw⟩
  replace hw := hw.symm
  subst hw
  go_wp2_with fail
  refine (pickK _ _ _ (by omega) (unhide HO).k0 (unhide HO).k1).mono ?_
  rintro en w' ⟨rfl, hw⟩
  replace hw := hw.symm
  subst hw
  rw [unhide HKD]
  have H0 := hide h0
  have H1 := hide h1
  clear h0 h1
  go_wp2_with fail
  refine (rulesK o (unhide HO) _).mono ?_
  rintro en wf ⟨v, rfl, hR, hsf⟩
  have HR := hide hR
  have HON4 := hide ((unhide HON).again hsf)
  have HSW4 := hide (Kept.trans (unhide HSW) hsf)
  replace HT8 := hide ((unhide HT8).kept hsf (fun q => q))
  replace HT9 := hide ((unhide HT9).kept hsf (fun q => q))
  have := hsf.size
  clear hR hsf
  go_wp2_with fail
  refine (on_filter0 (unhide HON4) (unhide HR) (unhide H0) (unhide H1)).mono ?_
  rintro en w2 ⟨rfl, hn2⟩
  obtain ⟨hon2, hk2⟩ := (unhide HON4).stepP hn2
  have ht9 := (unhide HT9).kept hk2 (by omega)
  have ht8 := (unhide HT8).kept hk2 (by omega)
  have z0 := ht9.c0
  have zf := ht9.fz 0
  have zl := ht9.lt
  have hk3 : Kept (· = s0 + 1 + 1) w2 (w2.setCell ⟨s0 + 1 + 1, 0, none⟩ (.int .i64 c)) := Kept.setAt (Kept.refl _ _) _ _
  have hpe : PlayEnd w0 w (w2.setCell ⟨s0 + 1 + 1, 0, none⟩ (.int .i64 c)) b (s0 + 1) (s0 + 1 + 1) (toldE c) (.slice none 0 0) r' := ⟨ht9.setE c, (ht8.kept hk3 (by omega)).there, hon2.past hk3 (by omega) (by have := unhide HBASE; omega), Kept.trans' ((Still.kept (unhide HSW4) (· = b)).trans hk2) hk3 (fun i hi q => by omega), by omega, by have := unhide HBASE; omega, by omega, World.ownsRow_nil _ _ _ _, fun g hg => by cases hg⟩
  have HRG := hide hpe.t9.range
  have HTH := hide hpe.there'
  have hpost : ((w2.setCell ⟨s0 + 1 + 1, 0, none⟩ (.int .i64 c)).setCells (s0 + 1) 0 (toldCells (toldE c) (.slice none 0 0)).toArray.toList).rangeAt (s0 + 1) 0 (toldCells (toldE c) (.slice none 0 0)) ∧ PlayPost w0 w b (toldE c) r' (.returned (.agg (toldCells (toldE c) (.slice none 0 0)).toArray)) ((w2.setCell ⟨s0 + 1 + 1, 0, none⟩ (.int .i64 c)).setCells (s0 + 1) 0 (toldCells (toldE c) (.slice none 0 0)).toArray.toList) := PlayEnd.post (a := none) (c := 0) hpe rfl
  have HPOST := hide hpost
  have hi := infoTold' (toldE c) (.slice none 0 0)
  have hi2 : (Try.prog.info? 36).map (·.size) = some (toldCells (toldE c) (.slice none 0 0)).length := infoTold
  have ho1 : (toldCells (toldE c) (.slice none 0 0)).toArray.all (·.oneCell') = true := toldCells_one _ _ _ _
  clear hpost hpe hn2 hon2 hk2 ht9 ht8 hk3 o0 o2 o3 o4 ol HBO HT8 HT9 HON
  generalize hcs : toldCells (toldE c) (.slice none 0 0) = cs at *
  clear hcs
  go_wp2_with (refine wpList_load_mid rfl 36 _ rfl _ _ rfl cs _ (unhide HRG) Try.underlying36 rfl hi2 (unhide ?_))
  refine hide ?_
  go_wp2_with (refine wpList_store_mid rfl 36 _ _ rfl _ _ cs.toArray rfl rfl (unhide HTH) hi ho1 (unhide ?_))
  refine hide ?_
  generalize (w2.setCell ⟨s0 + 1 + 1, 0, none⟩ (.int .i64 c)).setCells (s0 + 1) 0 cs.toArray.toList = Z at *
  go_wp2
  refine bodyPost_ret (results_range1 rfl _ _ _ _ _ _ rfl (unhide HPOST).1 Try.underlying36 rfl hi2) rfl ?_
  exact (unhide HPOST).2
set_option maxHeartbeats 8000000 in
theorem play_table {w0 w : World} {b : Nat} {r r' : RefS} (h : On w0 w (oneTag b) 1 b r) (o : OpD) (ho : OpOk o) (n mk : Int) (hkd : pickF o.kind 8 = 4) {c : Int} {l : List RouteD} (h0 : mayI r n 1 = c) (h1 : tableL r n = l) (_h2 : r = r') :
    Calls Try.prog 12 #[.pointer (some ⟨b, 0, none⟩), .int .i64 n, .agg #[.int .i64 o.kind, .int .i64 o.who, .int .i64 o.a, .int .i64 o.b, .int .i64 o.c, .int .i64 o.d], .int .i64 mk] w fun en w' => PlayPost w0 w b ⟨c, l, su0, rt0, false⟩ r en w' := by
  have hb := h.lt
  have hS1 : Still w (w.alloc (.cells #[.int .i64 o.kind, .int .i64 o.who, .int .i64 o.a, .int .i64 o.b, .int .i64 o.c, .int .i64 o.d] 27)) := (Kept.refl _ _).alloc _
  have hbo := BoxO.new w o 27
  generalize hW1 : w.alloc (.cells #[.int .i64 o.kind, .int .i64 o.who, .int .i64 o.a, .int .i64 o.b, .int .i64 o.c, .int .i64 o.d] 27) = W1 at hS1 hbo
  have hs1 : W1.heap.size = w.heap.size + 1 := by rw [← hW1]; simp
  have hS2 : Still W1 (W1.alloc (.cells #[.int .i64 0, .slice none 0 0, .int .i64 0, .int .i64 0, .int .i64 0, .int .i64 0, .int .i64 0, .int .i64 0, .int .i64 0, .int .i64 0, .bool false] 36)) := (Kept.refl _ _).alloc _
  have ht8 : ToldAt (W1.alloc (.cells #[.int .i64 0, .slice none 0 0, .int .i64 0, .int .i64 0, .int .i64 0, .int .i64 0, .int .i64 0, .int .i64 0, .int .i64 0, .int .i64 0, .bool false] 36)) W1.heap.size (toldE 0) (.slice none 0 0) := ToldAt.new W1 36
  generalize hW2 : W1.alloc (.cells #[.int .i64 0, .slice none 0 0, .int .i64 0, .int .i64 0, .int .i64 0, .int .i64 0, .int .i64 0, .int .i64 0, .int .i64 0, .int .i64 0, .bool false] 36) = W2 at hS2 ht8
  have hs2 : W2.heap.size = w.heap.size + 1 + 1 := by rw [← hW2]; simp [hs1]
  have hS3 : Still W2 (W2.alloc (.cells #[.int .i64 0, .slice none 0 0, .int .i64 0, .int .i64 0, .int .i64 0, .int .i64 0, .int .i64 0, .int .i64 0, .int .i64 0, .int .i64 0, .bool false] 36)) := (Kept.refl _ _).alloc _
  have ht9 : ToldAt (W2.alloc (.cells #[.int .i64 0, .slice none 0 0, .int .i64 0, .int .i64 0, .int .i64 0, .int .i64 0, .int .i64 0, .int .i64 0, .int .i64 0, .int .i64 0, .bool false] 36)) W2.heap.size (toldE 0) (.slice none 0 0) := ToldAt.new W2 36
  generalize hW3 : W2.alloc (.cells #[.int .i64 0, .slice none 0 0, .int .i64 0, .int .i64 0, .int .i64 0, .int .i64 0, .int .i64 0, .int .i64 0, .int .i64 0, .int .i64 0, .bool false] 36) = W3 at hS3 ht9
  have HON := hide (((h.again hS1).again hS2).again hS3)
  have HSW := hide ((hS1.trans hS2).trans hS3)
  have HT8 := hide (ht8.kept hS3 (fun q => q))
  have HT9 := hide ht9
  have hbo3 := (hbo.kept hS2 (fun q => q)).kept hS3 (fun q => q)
  rw [hs1] at HT8
  rw [hs2] at HT9
  have o0 := hbo3.c0
  have o2 := hbo3.c2
  have o3 := hbo3.c3
  have o4 := hbo3.c4
  have ol := hbo3.lt
  have HBO := hide hbo3
  have HW : Hid (((w.alloc (.cells #[.int .i64 o.kind, .int .i64 o.who, .int .i64 o.a, .int .i64 o.b, .int .i64 o.c, .int .i64 o.d] 27)).alloc (.cells #[.int .i64 0, .slice none 0 0, .int .i64 0, .int .i64 0, .int .i64 0, .int .i64 0, .int .i64 0, .int .i64 0, .int .i64 0, .int .i64 0, .bool false] 36)).alloc (.cells #[.int .i64 0, .slice none 0 0, .int .i64 0, .int .i64 0, .int .i64 0, .int .i64 0, .int .i64 0, .int .i64 0, .int .i64 0, .int .i64 0, .bool false] 36) = W3) := by
    show _ = W3
    rw [hW1, hW2, hW3]
  have HO := hide ho
  have HKD := hide hkd
  have HBASE := hide h.still.size
  have hbw : b < w.heap.size := hb
  clear hS1 hbo hS2 ht8 hS3 ht9 hbo3 hW1 hW2 hW3 hs1 hs2 h ho hkd
  go_enter Try.func12, Try.ntmps12
  go_wp2_with fail
  rw [unhide HW]
  generalize hs0 : w.heap.size = s0 at *
  refine (prefixK _ _ _ (unhide HO).a0 (unhide HO).a1 (unhide HO).b0 (unhide HO).b1).mono ?_
  rintro en w' ⟨rfl, hw⟩
  replace hw := hw.symm
  subst hw
  go_wp2_with fail
  refine (pickK _ _ _ (by omega) (unhide HO).k0 (unhide HO).k1).mono ?_
  rintro en w' ⟨rfl, hw⟩
  replace hw := hw.symm
  subst hw
  rw [unhide HKD]
  have H0 := hide h0
  have H1 := hide h1
  clear h0 h1
  go_wp2_with fail
  refine (on_table0 (unhide HON) (unhide H0) (unhide H1)).mono ?_
  rintro en w2 ⟨ta, tc, rfl, hr2, O2, hO2, hon2', hk2', _, hnew2⟩
  have hwl := (unhide HT9).lt
  obtain ⟨hon2, hk2⟩ := (unhide HON).stepP ⟨O2, hO2, hon2', hk2', hnew2⟩
  have ht9 := (unhide HT9).kept hk2 (by omega)
  have ht8 := (unhide HT8).kept hk2 (by omega)
  have z0 := ht9.c0
  have z1 := ht9.c1
  have zf := ht9.fz 0
  have zf1 := ht9.fz 1
  have zl := ht9.lt
  have hk3 : Kept (· = s0 + 1 + 1) w2 ((w2.setCell ⟨s0 + 1 + 1, 1, none⟩ (.slice ta l.length tc)).setCell ⟨s0 + 1 + 1, 0, none⟩ (.int .i64 c)) := Kept.setAt (Kept.setAt (Kept.refl _ _) _ _) _ _
  have hpe : PlayEnd w0 w ((w2.setCell ⟨s0 + 1 + 1, 1, none⟩ (.slice ta l.length tc)).setCell ⟨s0 + 1 + 1, 0, none⟩ (.int .i64 c)) b (s0 + 1) (s0 + 1 + 1) (⟨c, l, su0, rt0, false⟩ : ToldD) (.slice ta l.length tc) r := ⟨(ht9.setL (.slice ta l.length tc) l).setE c, (ht8.kept hk3 (by omega)).there, hon2.past hk3 (by omega) (by have := unhide HBASE; omega), Kept.trans' ((Still.kept (unhide HSW) (· = b)).trans hk2) hk3 (fun i hi q => by omega), by omega, by have := unhide HBASE; omega, by omega, (kept_row hr2 hk3 (fun g hg => by have := (hr2.lt g hg).1; omega)).mono (by have := (unhide HSW).size; omega), fun g hg => by have := (hr2.lt g hg).1; omega⟩
  have HRG := hide hpe.t9.range
  have HTH := hide hpe.there'
  have hpost : (((w2.setCell ⟨s0 + 1 + 1, 1, none⟩ (.slice ta l.length tc)).setCell ⟨s0 + 1 + 1, 0, none⟩ (.int .i64 c)).setCells (s0 + 1) 0 (toldCells (⟨c, l, su0, rt0, false⟩ : ToldD) (.slice ta l.length tc)).toArray.toList).rangeAt (s0 + 1) 0 (toldCells (⟨c, l, su0, rt0, false⟩ : ToldD) (.slice ta l.length tc)) ∧ PlayPost w0 w b (⟨c, l, su0, rt0, false⟩ : ToldD) r (.returned (.agg (toldCells (⟨c, l, su0, rt0, false⟩ : ToldD) (.slice ta l.length tc)).toArray)) (((w2.setCell ⟨s0 + 1 + 1, 1, none⟩ (.slice ta l.length tc)).setCell ⟨s0 + 1 + 1, 0, none⟩ (.int .i64 c)).setCells (s0 + 1) 0 (toldCells (⟨c, l, su0, rt0, false⟩ : ToldD) (.slice ta l.length tc)).toArray.toList) := PlayEnd.post (a := ta) (c := tc) hpe rfl
  have HPOST := hide hpost
  have hi := infoTold' (⟨c, l, su0, rt0, false⟩ : ToldD) (.slice ta l.length tc)
  have hi2 : (Try.prog.info? 36).map (·.size) = some (toldCells (⟨c, l, su0, rt0, false⟩ : ToldD) (.slice ta l.length tc)).length := infoTold
  have ho1 : (toldCells (⟨c, l, su0, rt0, false⟩ : ToldD) (.slice ta l.length tc)).toArray.all (·.oneCell') = true := toldCells_one _ _ _ _
  clear hpost hpe hr2 hO2 hon2' hk2' hnew2 hon2 hk2 ht9 ht8 hk3 o0 o2 o3 o4 ol HBO HT8 HT9 HON
  generalize hcs : toldCells (⟨c, l, su0, rt0, false⟩ : ToldD) (.slice ta l.length tc) = cs at *
  clear hcs
  go_wp2_with (refine wpList_load_mid rfl 36 _ rfl _ _ rfl cs _ (unhide HRG) Try.underlying36 rfl hi2 (unhide ?_))
  refine hide ?_
  go_wp2_with (refine wpList_store_mid rfl 36 _ _ rfl _ _ cs.toArray rfl rfl (unhide HTH) hi ho1 (unhide ?_))
  refine hide ?_
  generalize ((w2.setCell ⟨s0 + 1 + 1, 1, none⟩ (.slice ta l.length tc)).setCell ⟨s0 + 1 + 1, 0, none⟩ (.int .i64 c)).setCells (s0 + 1) 0 cs.toArray.toList = Z at *
  go_wp2
  refine bodyPost_ret (results_range1 rfl _ _ _ _ _ _ rfl (unhide HPOST).1 Try.underlying36 rfl hi2) rfl ?_
  exact (unhide HPOST).2
set_option maxHeartbeats 8000000 in
theorem play_count {w0 w : World} {b : Nat} {r r' : RefS} (h : On w0 w (oneTag b) 1 b r) (o : OpD) (ho : OpOk o) (n mk : Int) (hkd : pickF o.kind 8 = 5) {c : Int} {x : SumsD} (h0 : mayI r n 1 = c) (h1 : countF r n = x) (_h2 : r = r') :
    Calls Try.prog 12 #[.pointer (some ⟨b, 0, none⟩), .int .i64 n, .agg #[.int .i64 o.kind, .int .i64 o.who, .int .i64 o.a, .int .i64 o.b, .int .i64 o.c, .int .i64 o.d], .int .i64 mk] w fun en w' => PlayPost w0 w b ⟨c, [], x, rt0, false⟩ r en w' := by
  have hb := h.lt
  have hS1 : Still w (w.alloc (.cells #[.int .i64 o.kind, .int .i64 o.who, .int .i64 o.a, .int .i64 o.b, .int .i64 o.c, .int .i64 o.d] 27)) := (Kept.refl _ _).alloc _
  have hbo := BoxO.new w o 27
  generalize hW1 : w.alloc (.cells #[.int .i64 o.kind, .int .i64 o.who, .int .i64 o.a, .int .i64 o.b, .int .i64 o.c, .int .i64 o.d] 27) = W1 at hS1 hbo
  have hs1 : W1.heap.size = w.heap.size + 1 := by rw [← hW1]; simp
  have hS2 : Still W1 (W1.alloc (.cells #[.int .i64 0, .slice none 0 0, .int .i64 0, .int .i64 0, .int .i64 0, .int .i64 0, .int .i64 0, .int .i64 0, .int .i64 0, .int .i64 0, .bool false] 36)) := (Kept.refl _ _).alloc _
  have ht8 : ToldAt (W1.alloc (.cells #[.int .i64 0, .slice none 0 0, .int .i64 0, .int .i64 0, .int .i64 0, .int .i64 0, .int .i64 0, .int .i64 0, .int .i64 0, .int .i64 0, .bool false] 36)) W1.heap.size (toldE 0) (.slice none 0 0) := ToldAt.new W1 36
  generalize hW2 : W1.alloc (.cells #[.int .i64 0, .slice none 0 0, .int .i64 0, .int .i64 0, .int .i64 0, .int .i64 0, .int .i64 0, .int .i64 0, .int .i64 0, .int .i64 0, .bool false] 36) = W2 at hS2 ht8
  have hs2 : W2.heap.size = w.heap.size + 1 + 1 := by rw [← hW2]; simp [hs1]
  have hS3 : Still W2 (W2.alloc (.cells #[.int .i64 0, .slice none 0 0, .int .i64 0, .int .i64 0, .int .i64 0, .int .i64 0, .int .i64 0, .int .i64 0, .int .i64 0, .int .i64 0, .bool false] 36)) := (Kept.refl _ _).alloc _
  have ht9 : ToldAt (W2.alloc (.cells #[.int .i64 0, .slice none 0 0, .int .i64 0, .int .i64 0, .int .i64 0, .int .i64 0, .int .i64 0, .int .i64 0, .int .i64 0, .int .i64 0, .bool false] 36)) W2.heap.size (toldE 0) (.slice none 0 0) := ToldAt.new W2 36
  generalize hW3 : W2.alloc (.cells #[.int .i64 0, .slice none 0 0, .int .i64 0, .int .i64 0, .int .i64 0, .int .i64 0, .int .i64 0, .int .i64 0, .int .i64 0, .int .i64 0, .bool false] 36) = W3 at hS3 ht9
  have HON := hide (((h.again hS1).again hS2).again hS3)
  have HSW := hide ((hS1.trans hS2).trans hS3)
  have HT8 := hide (ht8.kept hS3 (fun q => q))
  have HT9 := hide ht9
  have hbo3 := (hbo.kept hS2 (fun q => q)).kept hS3 (fun q => q)
  rw [hs1] at HT8
  rw [hs2] at HT9
  have o0 := hbo3.c0
  have o2 := hbo3.c2
  have o3 := hbo3.c3
  have o4 := hbo3.c4
  have ol := hbo3.lt
  have HBO := hide hbo3
  have HW : Hid (((w.alloc (.cells #[.int .i64 o.kind, .int .i64 o.who, .int .i64 o.a, .int .i64 o.b, .int .i64 o.c, .int .i64 o.d] 27)).alloc (.cells #[.int .i64 0, .slice none 0 0, .int .i64 0, .int .i64 0, .int .i64 0, .int .i64 0, .int .i64 0, .int .i64 0, .int .i64 0, .int .i64 0, .bool false] 36)).alloc (.cells #[.int .i64 0, .slice none 0 0, .int .i64 0, .int .i64 0, .int .i64 0, .int .i64 0, .int .i64 0, .int .i64 0, .int .i64 0, .int .i64 0, .bool false] 36) = W3) := by
    show _ = W3
    rw [hW1, hW2, hW3]
  have HO := hide ho
  have HKD := hide hkd
  have HBASE := hide h.still.size
  have hbw : b < w.heap.size := hb
  clear hS1 hbo hS2 ht8 hS3 ht9 hbo3 hW1 hW2 hW3 hs1 hs2 h ho hkd
  go_enter Try.func12, Try.ntmps12
  go_wp2_with fail
  rw [unhide HW]
  generalize hs0 : w.heap.size = s0 at *
  refine (prefixK _ _ _ (unhide HO).a0 (unhide HO).a1 (unhide HO).b0 (unhide HO).b1).mono ?_
  rintro en w' ⟨rfl, hw⟩
  replace hw := hw.symm
  subst hw
  go_wp2_with fail
  refine (pickK _ _ _ (by omega) (unhide HO).k0 (unhide HO).k1).mono ?_
  rintro en w' ⟨rfl, hw⟩
  replace hw := hw.symm
  subst hw
  rw [unhide HKD]
  have H0 := hide h0
  have H1 := hide h1
  clear h0 h1
  go_wp2_with fail
  refine (on_count0 (unhide HON) (unhide H0) (unhide H1)).mono ?_
  rintro en w2 ⟨rfl, hn2⟩
  obtain ⟨hon2, hk2⟩ := (unhide HON).stepP hn2
  have hS4 : Still w2 (w2.alloc (.cells #[.int .i64 x.own, .int .i64 x.taken, .int .i64 x.dropped, .int .i64 x.quota] 32)) := (Kept.refl _ _).alloc _
  have hbr := (SumAt.new w2 (x.own) (x.taken) (x.dropped) (x.quota) 32).range
  have hi4 : (Try.prog.info? 32).map (·.size) = some ([.int .i64 x.own, .int .i64 x.taken, .int .i64 x.dropped, .int .i64 x.quota] : List Value).length := by kernel_rfl
  have ht9 := ((unhide HT9).kept hk2 (by omega)).kept hS4 (fun q => q)
  have ht8 := ((unhide HT8).kept hk2 (by omega)).kept hS4 (fun q => q)
  have hne4 : s0 + 1 + 1 < w2.heap.size := ((unhide HT9).kept hk2 (by omega)).lt
  have HBR := hide hbr
  have HS4 := hide hS4
  have HT9b := hide ht9
  have HT8b := hide ht8
  have HON2 := hide (hon2.again hS4)
  have HK2 := hide (((Still.kept (unhide HSW) (· = b)).trans hk2).trans (Still.kept hS4 (· = b)))
  clear hS4 hbr ht9 ht8 hn2 hon2 hk2 HT8 HT9 HON o0 o2 o3 o4 ol HBO
  go_wp2_with (refine wpList_load_mid rfl 32 _ rfl _ _ rfl [.int .i64 x.own, .int .i64 x.taken, .int .i64 x.dropped, .int .i64 x.quota] _ (unhide HBR) Try.underlying32 rfl hi4 (unhide ?_))
  refine hide ?_
  generalize (w2.alloc (.cells #[.int .i64 x.own, .int .i64 x.taken, .int .i64 x.dropped, .int .i64 x.quota] 32)) = W4 at *
  have ht9 := unhide HT9b
  have ht8 := unhide HT8b
  have hth4 : W4.there (s0 + 1 + 1) 2 ([.int .i64 x.own, .int .i64 x.taken, .int .i64 x.dropped, .int .i64 x.quota] : List Value).toArray.size := fun j hj => by
    have hj4 : j < 4 := hj
    have := ht9.there (2 + j) (by omega)
    rw [Nat.zero_add] at this
    exact this
  have hi5 : (Try.prog.info? 32).map (·.size) = some ([.int .i64 x.own, .int .i64 x.taken, .int .i64 x.dropped, .int .i64 x.quota] : List Value).toArray.size := hi4
  have ho4 : ([.int .i64 x.own, .int .i64 x.taken, .int .i64 x.dropped, .int .i64 x.quota] : List Value).toArray.all (·.oneCell') = true := by simp [Value.oneCell']
  have hk4 : Kept (· = s0 + 1 + 1) W4 (W4.setCells (s0 + 1 + 1) 2 ([.int .i64 x.own, .int .i64 x.taken, .int .i64 x.dropped, .int .i64 x.quota] : List Value).toArray.toList) := Kept.setCells (Kept.refl (· = s0 + 1 + 1) W4) (.inl rfl) _ _
  have ht9c : ToldAt (W4.setCells (s0 + 1 + 1) 2 ([.int .i64 x.own, .int .i64 x.taken, .int .i64 x.dropped, .int .i64 x.quota] : List Value).toArray.toList) (s0 + 1 + 1) { toldE 0 with s := x } (.slice none 0 0) := ht9.setS x
  have HTH4 := hide hth4
  have HT9c := hide ht9c
  have HT8c := hide (ht8.kept hk4 (by omega))
  have HON3 := hide ((unhide HON2).past hk4 (by omega) (by have := unhide HBASE; omega))
  have HK3 : Hid (Kept (· = b) w (W4.setCells (s0 + 1 + 1) 2 ([.int .i64 x.own, .int .i64 x.taken, .int .i64 x.dropped, .int .i64 x.quota] : List Value).toArray.toList)) := Kept.trans' (unhide HK2) hk4 (fun i hi q => by omega)
  clear hth4 hk4 ht9c ht9 ht8 HT9b HT8b HON2
  go_wp2_with (refine wpList_store_mid rfl 32 _ _ rfl _ _ ([.int .i64 x.own, .int .i64 x.taken, .int .i64 x.dropped, .int .i64 x.quota] : List Value).toArray rfl rfl (unhide HTH4) hi5 ho4 (unhide ?_))
  refine hide ?_
  generalize W4.setCells (s0 + 1 + 1) 2 ([.int .i64 x.own, .int .i64 x.taken, .int .i64 x.dropped, .int .i64 x.quota] : List Value).toArray.toList = W5 at *
  have ht9 := unhide HT9c
  have ht8 := unhide HT8c
  have z0 := ht9.c0
  have zf := ht9.fz 0
  have zl := ht9.lt
  have hk3 : Kept (· = s0 + 1 + 1) W5 (W5.setCell ⟨s0 + 1 + 1, 0, none⟩ (.int .i64 c)) := Kept.setAt (Kept.refl _ _) _ _
  have hpe : PlayEnd w0 w (W5.setCell ⟨s0 + 1 + 1, 0, none⟩ (.int .i64 c)) b (s0 + 1) (s0 + 1 + 1) (⟨c, [], x, rt0, false⟩ : ToldD) (.slice none 0 0) r := ⟨ht9.setE c, (ht8.kept hk3 (by omega)).there, (unhide HON3).past hk3 (by omega) (by have := unhide HBASE; omega), Kept.trans' (unhide HK3) hk3 (fun i hi q => by omega), by omega, by have := unhide HBASE; omega, by omega, World.ownsRow_nil _ _ _ _, fun g hg => by cases hg⟩
  have HRG := hide hpe.t9.range
  have HTH := hide hpe.there'
  have hpost : ((W5.setCell ⟨s0 + 1 + 1, 0, none⟩ (.int .i64 c)).setCells (s0 + 1) 0 (toldCells (⟨c, [], x, rt0, false⟩ : ToldD) (.slice none 0 0)).toArray.toList).rangeAt (s0 + 1) 0 (toldCells (⟨c, [], x, rt0, false⟩ : ToldD) (.slice none 0 0)) ∧ PlayPost w0 w b (⟨c, [], x, rt0, false⟩ : ToldD) r (.returned (.agg (toldCells (⟨c, [], x, rt0, false⟩ : ToldD) (.slice none 0 0)).toArray)) ((W5.setCell ⟨s0 + 1 + 1, 0, none⟩ (.int .i64 c)).setCells (s0 + 1) 0 (toldCells (⟨c, [], x, rt0, false⟩ : ToldD) (.slice none 0 0)).toArray.toList) := PlayEnd.post (a := none) (c := 0) hpe rfl
  have HPOST := hide hpost
  have hi := infoTold' (⟨c, [], x, rt0, false⟩ : ToldD) (.slice none 0 0)
  have hi2 : (Try.prog.info? 36).map (·.size) = some (toldCells (⟨c, [], x, rt0, false⟩ : ToldD) (.slice none 0 0)).length := infoTold
  have ho1 : (toldCells (⟨c, [], x, rt0, false⟩ : ToldD) (.slice none 0 0)).toArray.all (·.oneCell') = true := toldCells_one _ _ _ _
  clear hpost hpe ht9 ht8 hk3 HT9c HT8c HON3
  generalize hcs : toldCells (⟨c, [], x, rt0, false⟩ : ToldD) (.slice none 0 0) = cs at *
  clear hcs
  go_wp2_with (refine wpList_load_mid rfl 36 _ rfl _ _ rfl cs _ (unhide HRG) Try.underlying36 rfl hi2 (unhide ?_))
  refine hide ?_
  go_wp2_with (refine wpList_store_mid rfl 36 _ _ rfl _ _ cs.toArray rfl rfl (unhide HTH) hi ho1 (unhide ?_))
  refine hide ?_
  generalize (W5.setCell ⟨s0 + 1 + 1, 0, none⟩ (.int .i64 c)).setCells (s0 + 1) 0 cs.toArray.toList = Z at *
  go_wp2
  refine bodyPost_ret (results_range1 rfl _ _ _ _ _ _ rfl (unhide HPOST).1 Try.underlying36 rfl hi2) rfl ?_
  exact (unhide HPOST).2
set_option maxHeartbeats 8000000 in
theorem play_look {w0 w : World} {b : Nat} {r r' : RefS} (h : On w0 w (oneTag b) 1 b r) (o : OpD) (ho : OpOk o) (n mk : Int) (hkd : pickF o.kind 8 = 6) {c : Int} {x : RouteD} (h0 : lookR r n (pickF o.a 65536) = c) (h1 : lookA r n (pickF o.a 65536) = x) (_h2 : r = r') :
    Calls Try.prog 12 #[.pointer (some ⟨b, 0, none⟩), .int .i64 n, .agg #[.int .i64 o.kind, .int .i64 o.who, .int .i64 o.a, .int .i64 o.b, .int .i64 o.c, .int .i64 o.d], .int .i64 mk] w fun en w' => PlayPost w0 w b ⟨c, [], su0, x, false⟩ r en w' := by
  have hb := h.lt
  have hS1 : Still w (w.alloc (.cells #[.int .i64 o.kind, .int .i64 o.who, .int .i64 o.a, .int .i64 o.b, .int .i64 o.c, .int .i64 o.d] 27)) := (Kept.refl _ _).alloc _
  have hbo := BoxO.new w o 27
  generalize hW1 : w.alloc (.cells #[.int .i64 o.kind, .int .i64 o.who, .int .i64 o.a, .int .i64 o.b, .int .i64 o.c, .int .i64 o.d] 27) = W1 at hS1 hbo
  have hs1 : W1.heap.size = w.heap.size + 1 := by rw [← hW1]; simp
  have hS2 : Still W1 (W1.alloc (.cells #[.int .i64 0, .slice none 0 0, .int .i64 0, .int .i64 0, .int .i64 0, .int .i64 0, .int .i64 0, .int .i64 0, .int .i64 0, .int .i64 0, .bool false] 36)) := (Kept.refl _ _).alloc _
  have ht8 : ToldAt (W1.alloc (.cells #[.int .i64 0, .slice none 0 0, .int .i64 0, .int .i64 0, .int .i64 0, .int .i64 0, .int .i64 0, .int .i64 0, .int .i64 0, .int .i64 0, .bool false] 36)) W1.heap.size (toldE 0) (.slice none 0 0) := ToldAt.new W1 36
  generalize hW2 : W1.alloc (.cells #[.int .i64 0, .slice none 0 0, .int .i64 0, .int .i64 0, .int .i64 0, .int .i64 0, .int .i64 0, .int .i64 0, .int .i64 0, .int .i64 0, .bool false] 36) = W2 at hS2 ht8
  have hs2 : W2.heap.size = w.heap.size + 1 + 1 := by rw [← hW2]; simp [hs1]
  have hS3 : Still W2 (W2.alloc (.cells #[.int .i64 0, .slice none 0 0, .int .i64 0, .int .i64 0, .int .i64 0, .int .i64 0, .int .i64 0, .int .i64 0, .int .i64 0, .int .i64 0, .bool false] 36)) := (Kept.refl _ _).alloc _
  have ht9 : ToldAt (W2.alloc (.cells #[.int .i64 0, .slice none 0 0, .int .i64 0, .int .i64 0, .int .i64 0, .int .i64 0, .int .i64 0, .int .i64 0, .int .i64 0, .int .i64 0, .bool false] 36)) W2.heap.size (toldE 0) (.slice none 0 0) := ToldAt.new W2 36
  generalize hW3 : W2.alloc (.cells #[.int .i64 0, .slice none 0 0, .int .i64 0, .int .i64 0, .int .i64 0, .int .i64 0, .int .i64 0, .int .i64 0, .int .i64 0, .int .i64 0, .bool false] 36) = W3 at hS3 ht9
  have HON := hide (((h.again hS1).again hS2).again hS3)
  have HSW := hide ((hS1.trans hS2).trans hS3)
  have HT8 := hide (ht8.kept hS3 (fun q => q))
  have HT9 := hide ht9
  have hbo3 := (hbo.kept hS2 (fun q => q)).kept hS3 (fun q => q)
  rw [hs1] at HT8
  rw [hs2] at HT9
  have o0 := hbo3.c0
  have o2 := hbo3.c2
  have o3 := hbo3.c3
  have o4 := hbo3.c4
  have ol := hbo3.lt
  have HBO := hide hbo3
  have HW : Hid (((w.alloc (.cells #[.int .i64 o.kind, .int .i64 o.who, .int .i64 o.a, .int .i64 o.b, .int .i64 o.c, .int .i64 o.d] 27)).alloc (.cells #[.int .i64 0, .slice none 0 0, .int .i64 0, .int .i64 0, .int .i64 0, .int .i64 0, .int .i64 0, .int .i64 0, .int .i64 0, .int .i64 0, .bool false] 36)).alloc (.cells #[.int .i64 0, .slice none 0 0, .int .i64 0, .int .i64 0, .int .i64 0, .int .i64 0, .int .i64 0, .int .i64 0, .int .i64 0, .int .i64 0, .bool false] 36) = W3) := by
    show _ = W3
    rw [hW1, hW2, hW3]
  have HO := hide ho
  have HKD := hide hkd
  have HBASE := hide h.still.size
  have hbw : b < w.heap.size := hb
  clear hS1 hbo hS2 ht8 hS3 ht9 hbo3 hW1 hW2 hW3 hs1 hs2 h ho hkd
  go_enter Try.func12, Try.ntmps12
  go_wp2_with fail
  rw [unhide HW]
  generalize hs0 : w.heap.size = s0 at *
  refine (prefixK _ _ _ (unhide HO).a0 (unhide HO).a1 (unhide HO).b0 (unhide HO).b1).mono ?_
  rintro en w' ⟨rfl, hw⟩
  replace hw := hw.symm
  subst hw
  go_wp2_with fail
  refine (pickK _ _ _ (by omega) (unhide HO).k0 (unhide HO).k1).mono ?_
  rintro en w' ⟨rfl, hw⟩
  replace hw := hw.symm
  subst hw
  rw [unhide HKD]
  have H0 := hide h0
  have H1 := hide h1
  clear h0 h1
  go_wp2_with fail
  refine (pickK _ _ _ (by omega) (unhide HO).a0 (unhide HO).a1).mono ?_
  rintro en w' ⟨rfl, hw⟩
  replace hw := hw.symm
  subst hw
  go_wp2_with fail
  refine (on_lookup0 (unhide HON) (unhide H0) (unhide H1)).mono ?_
  rintro en w2 ⟨rfl, hn2⟩
  obtain ⟨hon2, hk2⟩ := (unhide HON).stepP hn2
  have hS4 : Still w2 (w2.alloc (.cells #[.int .i64 x.addr, .int .i64 x.len, .int .i64 x.hop, .int .i64 x.from_] 34)) := (Kept.refl _ _).alloc _
  have hbr := (SumAt.new w2 (x.addr) (x.len) (x.hop) (x.from_) 34).range
  have hi4 : (Try.prog.info? 34).map (·.size) = some ([.int .i64 x.addr, .int .i64 x.len, .int .i64 x.hop, .int .i64 x.from_] : List Value).length := by kernel_rfl
  have ht9 := ((unhide HT9).kept hk2 (by omega)).kept hS4 (fun q => q)
  have ht8 := ((unhide HT8).kept hk2 (by omega)).kept hS4 (fun q => q)
  have hne4 : s0 + 1 + 1 < w2.heap.size := ((unhide HT9).kept hk2 (by omega)).lt
  have HBR := hide hbr
  have HS4 := hide hS4
  have HT9b := hide ht9
  have HT8b := hide ht8
  have HON2 := hide (hon2.again hS4)
  have HK2 := hide (((Still.kept (unhide HSW) (· = b)).trans hk2).trans (Still.kept hS4 (· = b)))
  clear hS4 hbr ht9 ht8 hn2 hon2 hk2 HT8 HT9 HON o0 o2 o3 o4 ol HBO
  go_wp2_with (refine wpList_load_mid rfl 34 _ rfl _ _ rfl [.int .i64 x.addr, .int .i64 x.len, .int .i64 x.hop, .int .i64 x.from_] _ (unhide HBR) Try.underlying34 rfl hi4 (unhide ?_))
  refine hide ?_
  generalize (w2.alloc (.cells #[.int .i64 x.addr, .int .i64 x.len, .int .i64 x.hop, .int .i64 x.from_] 34)) = W4 at *
  have ht9 := unhide HT9b
  have ht8 := unhide HT8b
  have hth4 : W4.there (s0 + 1 + 1) 6 ([.int .i64 x.addr, .int .i64 x.len, .int .i64 x.hop, .int .i64 x.from_] : List Value).toArray.size := fun j hj => by
    have hj4 : j < 4 := hj
    have := ht9.there (6 + j) (by omega)
    rw [Nat.zero_add] at this
    exact this
  have hi5 : (Try.prog.info? 34).map (·.size) = some ([.int .i64 x.addr, .int .i64 x.len, .int .i64 x.hop, .int .i64 x.from_] : List Value).toArray.size := hi4
  have ho4 : ([.int .i64 x.addr, .int .i64 x.len, .int .i64 x.hop, .int .i64 x.from_] : List Value).toArray.all (·.oneCell') = true := by simp [Value.oneCell']
  have hk4 : Kept (· = s0 + 1 + 1) W4 (W4.setCells (s0 + 1 + 1) 6 ([.int .i64 x.addr, .int .i64 x.len, .int .i64 x.hop, .int .i64 x.from_] : List Value).toArray.toList) := Kept.setCells (Kept.refl (· = s0 + 1 + 1) W4) (.inl rfl) _ _
  have ht9c : ToldAt (W4.setCells (s0 + 1 + 1) 6 ([.int .i64 x.addr, .int .i64 x.len, .int .i64 x.hop, .int .i64 x.from_] : List Value).toArray.toList) (s0 + 1 + 1) { toldE 0 with r := x } (.slice none 0 0) := ht9.setR x
  have HTH4 := hide hth4
  have HT9c := hide ht9c
  have HT8c := hide (ht8.kept hk4 (by omega))
  have HON3 := hide ((unhide HON2).past hk4 (by omega) (by have := unhide HBASE; omega))
  have HK3 : Hid (Kept (· = b) w (W4.setCells (s0 + 1 + 1) 6 ([.int .i64 x.addr, .int .i64 x.len, .int .i64 x.hop, .int .i64 x.from_] : List Value).toArray.toList)) := Kept.trans' (unhide HK2) hk4 (fun i hi q => by omega)
  clear hth4 hk4 ht9c ht9 ht8 HT9b HT8b HON2
  go_wp2_with (refine wpList_store_mid rfl 34 _ _ rfl _ _ ([.int .i64 x.addr, .int .i64 x.len, .int .i64 x.hop, .int .i64 x.from_] : List Value).toArray rfl rfl (unhide HTH4) hi5 ho4 (unhide ?_))
  refine hide ?_
  generalize W4.setCells (s0 + 1 + 1) 6 ([.int .i64 x.addr, .int .i64 x.len, .int .i64 x.hop, .int .i64 x.from_] : List Value).toArray.toList = W5 at *
  have ht9 := unhide HT9c
  have ht8 := unhide HT8c
  have z0 := ht9.c0
  have zf := ht9.fz 0
  have zl := ht9.lt
  have hk3 : Kept (· = s0 + 1 + 1) W5 (W5.setCell ⟨s0 + 1 + 1, 0, none⟩ (.int .i64 c)) := Kept.setAt (Kept.refl _ _) _ _
  have hpe : PlayEnd w0 w (W5.setCell ⟨s0 + 1 + 1, 0, none⟩ (.int .i64 c)) b (s0 + 1) (s0 + 1 + 1) (⟨c, [], su0, x, false⟩ : ToldD) (.slice none 0 0) r := ⟨ht9.setE c, (ht8.kept hk3 (by omega)).there, (unhide HON3).past hk3 (by omega) (by have := unhide HBASE; omega), Kept.trans' (unhide HK3) hk3 (fun i hi q => by omega), by omega, by have := unhide HBASE; omega, by omega, World.ownsRow_nil _ _ _ _, fun g hg => by cases hg⟩
  have HRG := hide hpe.t9.range
  have HTH := hide hpe.there'
  have hpost : ((W5.setCell ⟨s0 + 1 + 1, 0, none⟩ (.int .i64 c)).setCells (s0 + 1) 0 (toldCells (⟨c, [], su0, x, false⟩ : ToldD) (.slice none 0 0)).toArray.toList).rangeAt (s0 + 1) 0 (toldCells (⟨c, [], su0, x, false⟩ : ToldD) (.slice none 0 0)) ∧ PlayPost w0 w b (⟨c, [], su0, x, false⟩ : ToldD) r (.returned (.agg (toldCells (⟨c, [], su0, x, false⟩ : ToldD) (.slice none 0 0)).toArray)) ((W5.setCell ⟨s0 + 1 + 1, 0, none⟩ (.int .i64 c)).setCells (s0 + 1) 0 (toldCells (⟨c, [], su0, x, false⟩ : ToldD) (.slice none 0 0)).toArray.toList) := PlayEnd.post (a := none) (c := 0) hpe rfl
  have HPOST := hide hpost
  have hi := infoTold' (⟨c, [], su0, x, false⟩ : ToldD) (.slice none 0 0)
  have hi2 : (Try.prog.info? 36).map (·.size) = some (toldCells (⟨c, [], su0, x, false⟩ : ToldD) (.slice none 0 0)).length := infoTold
  have ho1 : (toldCells (⟨c, [], su0, x, false⟩ : ToldD) (.slice none 0 0)).toArray.all (·.oneCell') = true := toldCells_one _ _ _ _
  clear hpost hpe ht9 ht8 hk3 HT9c HT8c HON3
  generalize hcs : toldCells (⟨c, [], su0, x, false⟩ : ToldD) (.slice none 0 0) = cs at *
  clear hcs
  go_wp2_with (refine wpList_load_mid rfl 36 _ rfl _ _ rfl cs _ (unhide HRG) Try.underlying36 rfl hi2 (unhide ?_))
  refine hide ?_
  go_wp2_with (refine wpList_store_mid rfl 36 _ _ rfl _ _ cs.toArray rfl rfl (unhide HTH) hi ho1 (unhide ?_))
  refine hide ?_
  generalize (W5.setCell ⟨s0 + 1 + 1, 0, none⟩ (.int .i64 c)).setCells (s0 + 1) 0 cs.toArray.toList = Z at *
  go_wp2
  refine bodyPost_ret (results_range1 rfl _ _ _ _ _ _ rfl (unhide HPOST).1 Try.underlying36 rfl hi2) rfl ?_
  exact (unhide HPOST).2
set_option maxHeartbeats 8000000 in
theorem play_pass {w0 w : World} {b : Nat} {r r' : RefS} (h : On w0 w (oneTag b) 1 b r) (o : OpD) (ho : OpOk o) (n mk : Int) (hkd : pickF o.kind 8 = 7) {c : Int} {x : Bool} (h0 : passR r n (pickF o.a 65536) (pickF o.c 256) = c) (h1 : passA r n (pickF o.a 65536) (pickF o.c 256) (andF o.d 1 == 1) = x) (_h2 : r = r') :
    Calls Try.prog 12 #[.pointer (some ⟨b, 0, none⟩), .int .i64 n, .agg #[.int .i64 o.kind, .int .i64 o.who, .int .i64 o.a, .int .i64 o.b, .int .i64 o.c, .int .i64 o.d], .int .i64 mk] w fun en w' => PlayPost w0 w b ⟨c, [], su0, rt0, x⟩ r en w' := by
  have hb := h.lt
  have hS1 : Still w (w.alloc (.cells #[.int .i64 o.kind, .int .i64 o.who, .int .i64 o.a, .int .i64 o.b, .int .i64 o.c, .int .i64 o.d] 27)) := (Kept.refl _ _).alloc _
  have hbo := BoxO.new w o 27
  generalize hW1 : w.alloc (.cells #[.int .i64 o.kind, .int .i64 o.who, .int .i64 o.a, .int .i64 o.b, .int .i64 o.c, .int .i64 o.d] 27) = W1 at hS1 hbo
  have hs1 : W1.heap.size = w.heap.size + 1 := by rw [← hW1]; simp
  have hS2 : Still W1 (W1.alloc (.cells #[.int .i64 0, .slice none 0 0, .int .i64 0, .int .i64 0, .int .i64 0, .int .i64 0, .int .i64 0, .int .i64 0, .int .i64 0, .int .i64 0, .bool false] 36)) := (Kept.refl _ _).alloc _
  have ht8 : ToldAt (W1.alloc (.cells #[.int .i64 0, .slice none 0 0, .int .i64 0, .int .i64 0, .int .i64 0, .int .i64 0, .int .i64 0, .int .i64 0, .int .i64 0, .int .i64 0, .bool false] 36)) W1.heap.size (toldE 0) (.slice none 0 0) := ToldAt.new W1 36
  generalize hW2 : W1.alloc (.cells #[.int .i64 0, .slice none 0 0, .int .i64 0, .int .i64 0, .int .i64 0, .int .i64 0, .int .i64 0, .int .i64 0, .int .i64 0, .int .i64 0, .bool false] 36) = W2 at hS2 ht8
  have hs2 : W2.heap.size = w.heap.size + 1 + 1 := by rw [← hW2]; simp [hs1]
  have hS3 : Still W2 (W2.alloc (.cells #[.int .i64 0, .slice none 0 0, .int .i64 0, .int .i64 0, .int .i64 0, .int .i64 0, .int .i64 0, .int .i64 0, .int .i64 0, .int .i64 0, .bool false] 36)) := (Kept.refl _ _).alloc _
  have ht9 : ToldAt (W2.alloc (.cells #[.int .i64 0, .slice none 0 0, .int .i64 0, .int .i64 0, .int .i64 0, .int .i64 0, .int .i64 0, .int .i64 0, .int .i64 0, .int .i64 0, .bool false] 36)) W2.heap.size (toldE 0) (.slice none 0 0) := ToldAt.new W2 36
  generalize hW3 : W2.alloc (.cells #[.int .i64 0, .slice none 0 0, .int .i64 0, .int .i64 0, .int .i64 0, .int .i64 0, .int .i64 0, .int .i64 0, .int .i64 0, .int .i64 0, .bool false] 36) = W3 at hS3 ht9
  have HON := hide (((h.again hS1).again hS2).again hS3)
  have HSW := hide ((hS1.trans hS2).trans hS3)
  have HT8 := hide (ht8.kept hS3 (fun q => q))
  have HT9 := hide ht9
  have hbo3 := (hbo.kept hS2 (fun q => q)).kept hS3 (fun q => q)
  rw [hs1] at HT8
  rw [hs2] at HT9
  have o0 := hbo3.c0
  have o2 := hbo3.c2
  have o3 := hbo3.c3
  have o4 := hbo3.c4
  have ol := hbo3.lt
  have o5 := hbo3.c5
  have HNB : Hid (¬ mineX (oneTag b) 1 w.heap.size) := fun q => by have := (oneTag_mine b _).1 q; omega
  have HBO := hide hbo3
  have HW : Hid (((w.alloc (.cells #[.int .i64 o.kind, .int .i64 o.who, .int .i64 o.a, .int .i64 o.b, .int .i64 o.c, .int .i64 o.d] 27)).alloc (.cells #[.int .i64 0, .slice none 0 0, .int .i64 0, .int .i64 0, .int .i64 0, .int .i64 0, .int .i64 0, .int .i64 0, .int .i64 0, .int .i64 0, .bool false] 36)).alloc (.cells #[.int .i64 0, .slice none 0 0, .int .i64 0, .int .i64 0, .int .i64 0, .int .i64 0, .int .i64 0, .int .i64 0, .int .i64 0, .int .i64 0, .bool false] 36) = W3) := by
    show _ = W3
    rw [hW1, hW2, hW3]
  have HO := hide ho
  have HKD := hide hkd
  have HBASE := hide h.still.size
  have hbw : b < w.heap.size := hb
  clear hS1 hbo hS2 ht8 hS3 ht9 hbo3 hW1 hW2 hW3 hs1 hs2 h ho hkd
  go_enter Try.func12, Try.ntmps12
  go_wp2_with fail
  rw [unhide HW]
  generalize hs0 : w.heap.size = s0 at *
  refine (prefixK _ _ _ (unhide HO).a0 (unhide HO).a1 (unhide HO).b0 (unhide HO).b1).mono ?_
  rintro en w' ⟨rfl, hw⟩
  replace hw := hw.symm
  subst hw
  go_wp2_with fail
  refine (pickK _ _ _ (by omega) (unhide HO).k0 (unhide HO).k1).mono ?_
  rintro en w' ⟨rfl, hw⟩
  replace hw := hw.symm
  subst hw
  rw [unhide HKD]
  have H0 := hide h0
  have H1 := hide h1
  clear h0 h1
  go_wp2_with fail
  have HOND := hide ((unhide HON).again ((Kept.refl _ W3).drew))
  go_region_held3 (fun w' => w'.cell? ⟨s0, 2, none⟩ = some (.int .i64 o.a) ∧ w'.cell? ⟨s0, 4, none⟩ = some (.int .i64 o.c) ∧ w'.cell? ⟨s0, 5, none⟩ = some (.int .i64 o.d)) (first | go_keep | (go_split_ands; exact ⟨((unhide HK5).cell (p := ⟨s0, 2, none⟩) ol (unhide HNB)).trans o2, ((unhide HK5).cell (p := ⟨s0, 4, none⟩) ol (unhide HNB)).trans o4, ((unhide HK5).cell (p := ⟨s0, 5, none⟩) ol (unhide HNB)).trans o5⟩)) ((first | (go_at_call 34; refine (on_pass0 (strict := andF o.d 1 == 1) (unhide HOND) (unhide H0) (unhide H1)).mono ?_; rintro en w2 ⟨rfl, hn2⟩; have HK5 := hide hn2.choose_spec.2.2.1) | (go_at_call 11; refine (pickK _ _ _ (by omega) (by first | exact (unhide HO).a0 | exact (unhide HO).c0) (by first | exact (unhide HO).a1 | exact (unhide HO).c1)).mono ?_; rintro en w' ⟨rfl, hw⟩; replace hw := hw.symm; subst hw)))
  obtain ⟨hon2, hk2⟩ := (unhide HOND).stepP hn2
  have hkd : Still W3 W3.drew := (Kept.refl _ _).drew
  have ht9 := ((unhide HT9).kept hkd (fun q => q)).kept hk2 (by omega)
  have ht8 := ((unhide HT8).kept hkd (fun q => q)).kept hk2 (by omega)
  have z0 := ht9.c0
  have z10 := ht9.c10
  have zf := ht9.fz 0
  have zf10 := ht9.fz 10
  have zl := ht9.lt
  have hk3 : Kept (· = s0 + 1 + 1) w2 ((w2.setCell ⟨s0 + 1 + 1, 10, none⟩ (.bool x)).setCell ⟨s0 + 1 + 1, 0, none⟩ (.int .i64 c)) := Kept.setAt (Kept.setAt (Kept.refl _ _) _ _) _ _
  have hpe : PlayEnd w0 w ((w2.setCell ⟨s0 + 1 + 1, 10, none⟩ (.bool x)).setCell ⟨s0 + 1 + 1, 0, none⟩ (.int .i64 c)) b (s0 + 1) (s0 + 1 + 1) (⟨c, [], su0, rt0, x⟩ : ToldD) (.slice none 0 0) r := ⟨(ht9.setB x).setE c, (ht8.kept hk3 (by omega)).there, hon2.past hk3 (by omega) (by have := unhide HBASE; omega), Kept.trans' (((Still.kept (unhide HSW) (· = b)).trans (Still.kept hkd (· = b))).trans hk2) hk3 (fun i hi q => by omega), by omega, by have := unhide HBASE; omega, by omega, World.ownsRow_nil _ _ _ _, fun g hg => by cases hg⟩
  have HRG := hide hpe.t9.range
  have HTH := hide hpe.there'
  have hpost : (((w2.setCell ⟨s0 + 1 + 1, 10, none⟩ (.bool x)).setCell ⟨s0 + 1 + 1, 0, none⟩ (.int .i64 c)).setCells (s0 + 1) 0 (toldCells (⟨c, [], su0, rt0, x⟩ : ToldD) (.slice none 0 0)).toArray.toList).rangeAt (s0 + 1) 0 (toldCells (⟨c, [], su0, rt0, x⟩ : ToldD) (.slice none 0 0)) ∧ PlayPost w0 w b (⟨c, [], su0, rt0, x⟩ : ToldD) r (.returned (.agg (toldCells (⟨c, [], su0, rt0, x⟩ : ToldD) (.slice none 0 0)).toArray)) (((w2.setCell ⟨s0 + 1 + 1, 10, none⟩ (.bool x)).setCell ⟨s0 + 1 + 1, 0, none⟩ (.int .i64 c)).setCells (s0 + 1) 0 (toldCells (⟨c, [], su0, rt0, x⟩ : ToldD) (.slice none 0 0)).toArray.toList) := PlayEnd.post (a := none) (c := 0) hpe rfl
  have HPOST := hide hpost
  have hi := infoTold' (⟨c, [], su0, rt0, x⟩ : ToldD) (.slice none 0 0)
  have hi2 : (Try.prog.info? 36).map (·.size) = some (toldCells (⟨c, [], su0, rt0, x⟩ : ToldD) (.slice none 0 0)).length := infoTold
  have ho1 : (toldCells (⟨c, [], su0, rt0, x⟩ : ToldD) (.slice none 0 0)).toArray.all (·.oneCell') = true := toldCells_one _ _ _ _
  clear hpost hpe hn2 hon2 hk2 ht9 ht8 hk3 hkd HK5 o0 o2 o3 o4 ol HBO HT8 HT9 HON HOND
  generalize hcs : toldCells (⟨c, [], su0, rt0, x⟩ : ToldD) (.slice none 0 0) = cs at *
  clear hcs
  go_wp2_with (refine wpList_load_mid rfl 36 _ rfl _ _ rfl cs _ (unhide HRG) Try.underlying36 rfl hi2 (unhide ?_))
  refine hide ?_
  go_wp2_with (refine wpList_store_mid rfl 36 _ _ rfl _ _ cs.toArray rfl rfl (unhide HTH) hi ho1 (unhide ?_))
  refine hide ?_
  generalize ((w2.setCell ⟨s0 + 1 + 1, 10, none⟩ (.bool x)).setCell ⟨s0 + 1 + 1, 0, none⟩ (.int .i64 c)).setCells (s0 + 1) 0 cs.toArray.toList = Z at *
  go_wp2
  refine bodyPost_ret (results_range1 rfl _ _ _ _ _ _ rfl (unhide HPOST).1 Try.underlying36 rfl hi2) rfl ?_
  exact (unhide HPOST).2
theorem playK {w0 w : World} {b : Nat} {r : RefS} (h : On w0 w (oneTag b) 1 b r) (o : OpD) (ho : OpOk o) (n mk : Int) :
    Calls Try.prog 12 #[.pointer (some ⟨b, 0, none⟩), .int .i64 n, .agg #[.int .i64 o.kind, .int .i64 o.who, .int .i64 o.a, .int .i64 o.b, .int .i64 o.c, .int .i64 o.d], .int .i64 mk] w fun en w' => PlayPost w0 w b (playT r n o mk) (playS r n o mk) en w' := by
  have h8 := pickF_range o.kind (n := 8) (by omega)
  have hc : pickF o.kind 8 = 0 ∨ pickF o.kind 8 = 1 ∨ pickF o.kind 8 = 2 ∨ pickF o.kind 8 = 3 ∨ pickF o.kind 8 = 4 ∨ pickF o.kind 8 = 5 ∨ pickF o.kind 8 = 6 ∨ pickF o.kind 8 = 7 := by omega
  unfold playT playS
  rcases hc with hk | hk | hk | hk | hk | hk | hk | hk
  · simp only [hk]
    exact play_insert h o ho n mk hk rfl rfl
  · simp only [hk]
    exact play_remove h o ho n mk hk rfl rfl
  · simp only [hk]
    exact play_share h o ho n mk hk rfl rfl
  · simp only [hk]
    exact play_filter h o ho n mk hk rfl rfl
  · simp only [hk]
    exact play_table h o ho n mk hk rfl rfl rfl
  · simp only [hk]
    exact play_count h o ho n mk hk rfl rfl rfl
  · simp only [hk]
    exact play_look h o ho n mk hk rfl rfl rfl
  · simp only [hk]
    exact play_pass h o ho n mk hk rfl rfl rfl
end Go.Proofs.Ythmmaccdccjgnaa
