/-
  Walks: districtkeep: asked: a Filter as a request.
-/
import Derived.Test.YtgndledehlilkabWirB
namespace Go.Proofs.Ytgndledehlilkab
open Go.RowKit

theorem flatR_len (L : List RuleD) : (L.flatMap ruleBy).length = 6 * L.length := by
  induction L with
  | nil => rfl
  | cons x L ih => rw [List.flatMap_cons, List.length_append, ih]; simp [ruleBy]; omega
set_option maxHeartbeats 8000000 in
theorem rulesK2 (o : OpD) (ho : OpOk o) (w : World) :
    Calls Try.prog 31 #[.agg #[.int .i64 o.kind, .int .i64 o.who, .int .i64 o.a, .int .i64 o.b, .int .i64 o.c, .int .i64 o.d]] w fun e w' => ∃ v, e = .returned v ∧ w'.ownsRow w.heap.size 55 5 v (rulesF o).length ((rulesF o).flatMap ruleCells) ∧ Still w w' := by
  have hS : Still w (w.alloc (.cells #[.int .i64 o.kind, .int .i64 o.who, .int .i64 o.a, .int .i64 o.b, .int .i64 o.c, .int .i64 o.d] 34)) := (Kept.refl _ _).alloc _
  have HB := hide (BoxO.new w o 34)
  have HS := hide hS
  have HO := hide ho
  have hm3 := pickF_range o.d (n := 3) (by omega)
  obtain ⟨m, hm⟩ : ∃ m : Nat, pickF o.d 3 = (m : Int) := ⟨(pickF o.d 3).toNat, by omega⟩
  have hmm : m < 3 := by omega
  have HM := hide hm
  have hrF : rulesF o = rulesTo o m := by unfold rulesF; rw [hm]; rfl
  have HRF := hide hrF
  obtain ⟨i0, hi0, hz0, hz1, hz2⟩ := info_parts infoRuleK
  clear hS hm3 hm hrF ho
  go_enter Try.func31, Try.ntmps31
  go_wp2
  generalize hs0 : w.heap.size = s0 at *
  generalize w.alloc (.cells #[.int .i64 o.kind, .int .i64 o.who, .int .i64 o.a, .int .i64 o.b, .int .i64 o.c, .int .i64 o.d] 34) = V at *
  have hV : s0 + 1 ≤ V.heap.size := (unhide HB).lt
  go_loopw [3, 4, 5, 6, 7, 8] (fun l i _ _ _ _ w' => ∃ k : Nat, k ≤ m ∧ i = .int .i64 k ∧ w'.ownsRow V.heap.size 55 5 l k ((rulesTo o k).flatMap ruleCells) ∧ Still V w') (fun _ i _ _ _ _ _ => m - (intOf i).toNat)
  case atStart => exact ⟨0, by omega, rfl, World.ownsRow_nil _ _ _ _, Kept.refl _ _⟩
  case round =>
    obtain ⟨k, hk, rfl, hrow, hst⟩ := hrel
    obtain ⟨la, lc, rfl, hl1, hl2⟩ := ownsRow_slice hrow
    have hb := (unhide HB).kept hst (fun q => q)
    have c2 := hb.c2
    have c3 := hb.c3
    have c4 := hb.c4
    have c5 := hb.c5
    have cl := hb.lt
    have hsz := hst.size
    have HR := hide hrow
    have HST := hide hst
    clear hb hrow hst
    by_cases hlt : k < m
    · have hkm : decide ((k : Int) < (m : Int)) = true := decide_eq_true (by omega)
      go_wp2_with fail
      refine (pickK _ _ _ (by omega) (unhide HO).d0 (unhide HO).d1).mono ?_
      rintro en w' ⟨rfl, hw⟩
      replace hw := hw.symm
      subst hw
      rw [unhide HM]
      have hwr := wrap64_range (o.a + (k : Int) * 4096)
      have hnr := pickF_range o.b (n := 17) (by omega)
      have hxr : ruleF o k = ⟨decide (0 < pickF o.c 3), pfxA (wrap64 (o.a + (k : Int) * 4096)) o.b, pfxL o.b, geF o, leF o⟩ := rfl
      have hge : geF o = pfxL o.b + pickF o.c (17 - pfxL o.b) := rfl
      have hle : leF o = geF o + pickF (o.c / 16) (17 - geF o) := rfl
      have hpl : pfxL o.b = pickF o.b 17 := rfl
      rw [← hpl] at hnr
      go_wp2_with fail
      refine (prefixK _ _ _ hwr.1 hwr.2 (unhide HO).b0 (unhide HO).b1).mono ?_
      rintro en w' ⟨rfl, hw⟩
      replace hw := hw.symm
      subst hw
      generalize pfxA (wrap64 (o.a + (k : Int) * 4096)) o.b = pa at *
      generalize pfxL o.b = pn at *
      have h17 := pickF_range o.c (n := 17 - pn) (by omega)
      have hgr : 0 ≤ geF o ∧ geF o ≤ 16 := by omega
      have HGE := hide hge
      have hwg : IntKind.i64.wrap (pn + pickF o.c (17 - pn)) = geF o := by rw [← hge]; exact wrap_small (by omega) (by omega)
      clear hge hpl
      go_wp2_with fail
      refine (pickK _ _ _ (by omega) (unhide HO).c0 (unhide HO).c1).mono ?_
      rintro en w' ⟨rfl, hw⟩
      replace hw := hw.symm
      subst hw
      generalize hp1 : pickF o.c (17 - pn) = p1 at *
      generalize hgF : geF o = gf at *
      have hwg' : pn + p1 = gf := by rw [unhide HGE]
      have HWG := hide hwg'
      clear hwg' hp1
      have h18 := pickF_range (o.c / 16) (n := 17 - gf) (by omega)
      have d1 : -9223372036854775808 ≤ o.c / 16 := by have := (unhide HO).c0; omega
      have d2 : o.c / 16 ≤ 9223372036854775807 := by have := (unhide HO).c1; omega
      have HLE := hide hle
      have hwl : IntKind.i64.wrap (gf + pickF (o.c / 16) (17 - gf)) = leF o := by rw [hle]; exact wrap_small (by omega) (by omega)
      clear hle
      go_wp2_with fail
      refine (pickK _ _ _ (by omega) d1 d2).mono ?_
      rintro en w' ⟨rfl, hw⟩
      replace hw := hw.symm
      subst hw
      generalize hp2 : pickF (o.c / 16) (17 - gf) = p2 at *
      generalize hlF : leF o = lf at *
      have hwl' : gf + p2 = lf := by rw [unhide HLE]
      have HWL := hide hwl'
      clear hwl' hp2
      go_wp2_with fail
      refine (pickK _ _ _ (by omega) (unhide HO).c0 (unhide HO).c1).mono ?_
      rintro en w' ⟨rfl, hw⟩
      replace hw := hw.symm
      subst hw
      generalize hp3 : pickF o.c 3 = p3 at *
      have HXR := hide hxr
      clear hxr
      go_wp2_with (at_builtin; refine wpList_append_lies _ rfl _ _ _ rfl V.heap.size 55 i0 _ 5 40 Try.underlying80 hi0 hz0 hz1 hz2 rfl (by omega) (.slice la k lc) k _ rfl ((unhide HR).alloc _) ⟨wr.heap.size, 0, none⟩ 1 1 [.bool (decide (0 < p3)), .int .i64 pa, .int .i64 pn, .int .i64 gf, .int .i64 lf] rfl rfl (World.news_of_block (cs := #[.bool (decide (0 < p3)), .int .i64 pa, .int .i64 pn, .int .i64 gf, .int .i64 lf]) (t := 55) (fr := (0, 0)) (by have := heap_alloc_new wr (.cells #[.bool (decide (0 < p3)), .int .i64 pa, .int .i64 pn, .int .i64 gf, .int .i64 lf] 55); simpa using this)) (by simp [Value.oneCell']) (by omega) (by unfold maxLen; omega) (by omega) (by simp; omega) (wr.heap.size + 1) (by simp) ?_; intro g4 cap4 w4 hown4 hgrow4 hat4 hlt4)
      have hge : ∀ y, (Value.slice la k lc).ownBlock = some y → V.heap.size ≤ y := fun y hy => ((unhide HR).lt y hy).1
      have hkg : Kept (fun y => (Value.slice la k lc).ownBlock = some y) wr w4 := Kept.grown ((Kept.refl _ _).alloc _) hgrow4 (fun y hy => .inl hy)
      have hst5 : Still V w4 := Kept.trans' (unhide HST) hkg (fun i hi q => by have := hge i q; omega)
      have HO4 := hide hown4
      have HST5 := hide hst5
      clear hkg hst5 hown4 hgrow4 hat4 hge
      go_roundw
      case rel =>
        refine ⟨k + 1, by omega, by go_num, ?_, unhide HST5⟩
        rw [rulesTo_succ, rule_snoc, unhide HXR]
        exact unhide HO4
      case measure => simp [intOf]; omega
    · obtain rfl : k = m := by omega
      have hkm : decide ((k : Int) < (k : Int)) = false := decide_eq_false (by omega)
      go_wp2_with fail
      refine (pickK _ _ _ (by omega) (unhide HO).d0 (unhide HO).d1).mono ?_
      rintro en w' ⟨rfl, hw⟩
      replace hw := hw.symm
      subst hw
      rw [unhide HM]
      go_wp2
      go_ret
      refine ⟨_, rfl, ?_, (unhide HS).trans (unhide HST)⟩
      rw [unhide HRF, rulesTo_len]
      exact ownsRow_base (unhide HR) (by omega)
set_option maxRecDepth 100000 in
set_option maxHeartbeats 4000000 in
theorem asked_3 (o : OpD) (ho : OpOk o) (tok : Int) (w : World) (hkd : pickF o.kind 8 = 3) :
    Calls Try.prog 9 #[.int .i64 tok, .agg #[.int .i64 o.kind, .int .i64 o.who, .int .i64 o.a, .int .i64 o.b, .int .i64 o.c, .int .i64 o.d]] w fun en w' => ∃ v, en = .returned v ∧ w'.ownsRow w.heap.size 5 1 v (askB tok o).length ((askB tok o).map byteC) ∧ Still w w' := by
  obtain ⟨i0, hi0, hz0, hz1, hz2⟩ := info_parts infoByteX
  have hS : Still w (w.alloc (.cells #[.int .i64 o.kind, .int .i64 o.who, .int .i64 o.a, .int .i64 o.b, .int .i64 o.c, .int .i64 o.d] 34)) := (Kept.refl _ _).alloc _
  have HB := hide (BoxO.new w o 34)
  have HS := hide hS
  have HKD := hide hkd
  have eA : askB tok o = [loB (reqF 3), hiB tok, loB tok] ++ (loB (rulesF o).length :: (rulesF o).flatMap ruleBy) := by
    unfold askB askRest
    rw [hkd]
    rfl
  rw [eA]
  have hwh := wrap_lo (reqF 3)
  have hwn := wrap_lo (pfxL o.b)
  have hwc := wrap_lo (pickF o.c 256)
  have HPF := hide (fun w => prefixK o.a o.b w ho.a0 ho.a1 ho.b0 ho.b1)
  have HPK := hide (fun w => pickK o.kind 8 w (by omega) ho.k0 ho.k1)
  rw [hkd] at HPK
  have HRQ := hide (fun w => request_W 3 w (by omega) (by omega))
  have HPC := hide (fun w => pickK o.c 256 w (by omega) ho.c0 ho.c1)
  have HRL := hide (fun w => rulesK2 o ho w)
  have HPA := hide (fun w => pickK o.a 65536 w (by omega) ho.a0 ho.a1)
  have hV0 : (w.alloc (.cells #[.int .i64 o.kind, .int .i64 o.who, .int .i64 o.a, .int .i64 o.b, .int .i64 o.c, .int .i64 o.d] 34)).heap.size = w.heap.size + 1 := by simp
  clear hS ho hkd eA HKD
  generalize reqF 3 = hd at *
  have hwl := wrap_lo ((rulesF o).length : Int)
  have hRl : (rulesF o).length ≤ 2 := by
    have := pickF_range o.d (n := 3) (by omega)
    unfold rulesF
    rw [rulesTo_len]
    omega
  generalize rulesF o = R at *
  have hlenN : ([loB hd, hiB tok, loB tok] ++ (loB (R.length : Int) :: R.flatMap ruleBy)).length = 4 + 6 * R.length := by
    simp only [List.length_append, List.length_cons, List.length_nil, flatR_len]
    omega
  simp only [hlenN]
  clear hlenN
  generalize pfxA o.a o.b = pa at *
  generalize pfxL o.b = pn at *
  generalize pickF o.c 256 = pc at *
  generalize pickF o.a 65536 = px at *
  go_enter Try.func9, Try.ntmps9
  go_wp2_with fail
  generalize hs0 : w.heap.size = s0 at *
  have Hs0 := hide hs0
  clear hs0
  generalize w.alloc (.cells #[.int .i64 o.kind, .int .i64 o.who, .int .i64 o.a, .int .i64 o.b, .int .i64 o.c, .int .i64 o.d] 34) = V at *
  have HV0 := hide hV0
  clear hV0
  have c0 := (unhide HB).c0
  have c2 := (unhide HB).c2
  have c3 := (unhide HB).c3
  refine (unhide HPF _).mono ?_
  rintro en w' ⟨rfl, hw⟩
  replace hw := hw.symm
  subst hw
  go_wp2_with fail
  refine (unhide HPK _).mono ?_
  rintro en w' ⟨rfl, hw⟩
  replace hw := hw.symm
  subst hw
  go_wp2_with fail
  refine (unhide HRQ _).mono ?_
  rintro en w' ⟨rfl, hw⟩
  replace hw := hw.symm
  subst hw
  have hrow0 : (V.alloc (.cells #[.int .u8 (loB hd)] 5)).ownsRow (s0 + 1) 5 1 (.slice (some ⟨V.heap.size, 0, none⟩) 1 1) 1 ([loB hd].map byteC) := bytesNew V [loB hd] (by have := unhide HV0; omega) (by simp)
  have HW0 := hide (word_W hrow0 (by omega) (by have := unhide HV0; simp; omega) tok)
  have HR0 := hide hrow0
  have hst0 : Still w (V.alloc (.cells #[.int .u8 (loB hd)] 5)) := Kept.alloc (unhide HS) _
  have hb0 : BoxO (V.alloc (.cells #[.int .u8 (loB hd)] 5)) s0 o := (unhide HB).kept ((Kept.refl (fun _ => False) _).alloc _) (fun q => q)
  have HST0 := hide hst0
  have HB0 := hide hb0
  clear hrow0 hst0 hb0
  go_wp2_with fail
  refine (unhide HW0).mono ?_
  rintro en w1 ⟨u1, rfl, hr1, hg1⟩
  have hb1 := (unhide HB0).grew (unhide HR0) (by omega) hg1
  have hs1 := grew_still (unhide HST0) (unhide HR0) (by have := unhide Hs0; omega) hg1
  obtain ⟨la1, lc1, rfl, _, _⟩ := ownsRow_slice hr1
  have HR1 : Hid (w1.ownsRow (s0 + 1) 5 1 (.slice la1 3 lc1) 3 (([loB hd] ++ [hiB tok, loB tok]).map byteC)) := hr1
  have HB1 := hide hb1
  have HS1 := hide hs1
  have d0 := hb1.c0
  have hz1' := hs1.size
  have hV1 : s0 + 1 ≤ w1.heap.size := hb1.lt
  clear hr1 hg1 hb1 hs1 HW0 HR0 HST0 HB0 c0 c2 c3 HB HS HV0
  go_wp2_with fail
  refine (unhide HPK _).mono ?_
  rintro en w' ⟨rfl, hw⟩
  replace hw := hw.symm
  subst hw
  have hb1 := unhide HB1
  have d1 := hb1.c1
  have d2 := hb1.c2
  have d3 := hb1.c3
  have d4 := hb1.c4
  have d5 := hb1.c5
  have hbl := hb1.lt
  clear hb1
  go_wp2_with fail
  refine (unhide HRL _).mono ?_
  rintro en w2 ⟨rv, rfl, hrr, hs2⟩
  obtain ⟨ra, rc, rfl, hra1, hra2⟩ := ownsRow_slice hrr
  have hr2 := keptRowX (unhide HR1) hs2
  have HSW2 := hide ((unhide HS1).trans hs2)
  have HRR := hide hrr
  have HR2 := hide hr2
  have hzz2 := hs2.size
  have HNO : Hid (∀ g, (Value.slice la1 3 lc1).ownBlock = some g → g < w1.heap.size) := fun g hg => ownsRow_lt (unhide HR1) hg
  generalize hw1z : w1.heap.size = z1 at *
  clear hrr hr2 hs2 d0 d1 d2 d3 d4 d5
  unfold maxLen at hra2
  go_wp2_with (at_builtin; refine wpList_append_lies _ rfl _ _ _ rfl (s0 + 1) 5 i0 _ 1 1 Try.underlying29 hi0 hz0 hz1 hz2 rfl (by omega) (.slice la1 3 lc1) (3) _ rfl ((unhide HR2).alloc _) ⟨w2.heap.size, 0, none⟩ 1 1 [.int .u8 (loB (R.length : Int))] rfl rfl (World.news_of_block (cs := #[.int .u8 (loB (R.length : Int))]) (t := 5) (fr := (0, 0)) (heap_alloc_new w2 _)) (by simp [Value.oneCell']) (by omega) (by unfold maxLen; omega) (by omega) (by simp; omega) (w2.heap.size + 1) (by simp) ?_; intro g3 cap3 w3 hown4 hgrow4 hat4 hlt4; refine unhide ?_)
  refine hide ?_
  have hk3 := grew_of (n := 3 + 1) (cap := cap3) hgrow4 hat4 (by omega)
  have hs3 := grew_still (unhide HSW2) (unhide HR2) (by have := unhide Hs0; omega) hk3
  have hno3 : ∀ g, (Value.slice (some ⟨g3, 0, none⟩) (3 + 1) cap3).ownBlock = some g → ∀ y, (Value.slice ra R.length rc).ownBlock = some y → y ≠ g := fun g hg y hy => by
    have h1 := ((unhide HRR).lt y hy)
    rcases hk3.at_ g hg with q | q
    · have := unhide HNO g q; omega
    · omega
  have hrr3 : w3.ownsRow z1 55 5 (.slice ra R.length rc) R.length (R.flatMap ruleCells) := ownsRow_of_block (unhide HRR) fun y hy => hk3.kept.block y (ownsRow_lt (unhide HRR) hy) (fun q => by
    have h1 := ((unhide HRR).lt y hy).1
    have := unhide HNO y q
    omega)
  have HR3 : Hid (w3.ownsRow (s0 + 1) 5 1 (.slice (some ⟨g3, 0, none⟩) (4 + 6 * 0) cap3) (4 + 6 * 0) (([loB hd] ++ [hiB tok, loB tok] ++ [loB (R.length : Int)] ++ (R.take 0).flatMap ruleBy).map byteC)) := by
    have := hown4
    refine hide ?_
    simpa [byteC] using this
  have HS3 := hide hs3
  have HRR3 := hide hrr3
  have HNO3 := hide hno3
  clear hown4 hgrow4 hat4 hlt4 hk3 hs3 hrr3 hno3
  go_wp2
  go_loopw [8, 10, 11] (fun l i _ w' => ∃ k : Nat, k ≤ R.length ∧ i = .int .i64 k ∧ w'.ownsRow (s0 + 1) 5 1 l (4 + 6 * k) (([loB hd] ++ [hiB tok, loB tok] ++ [loB (R.length : Int)] ++ (R.take k).flatMap ruleBy).map byteC) ∧ Still w w' ∧ w'.ownsRow z1 55 5 (.slice ra R.length rc) R.length (R.flatMap ruleCells) ∧ (∀ g, l.ownBlock = some g → ∀ y, (Value.slice ra R.length rc).ownBlock = some y → y ≠ g)) (fun _ i _ _ => R.length - (intOf i).toNat)
  case atStart => exact ⟨0, by omega, rfl, unhide HR3, unhide HS3, unhide HRR3, unhide HNO3⟩
  case round =>
    obtain ⟨k, hk, rfl, hrow, hst, hrr, hno⟩ := hrel
    obtain ⟨la, lc, rfl, hl1, hl2⟩ := ownsRow_slice hrow
    have HROW := hide hrow
    have HST := hide hst
    have HRW := hide hrr
    have HNOL := hide hno
    have hwz := hst.size
    have hwz' : s0 ≤ wr.heap.size := by have := unhide Hs0; omega
    clear hrow hst hrr hno
    by_cases hlt : k < R.length
    · obtain ⟨gr, rfl, hgr⟩ := ownsRow_some (unhide HRW) (by omega)
      have hrx := unhide HRW
      rw [flat_enc R ru0] at hrx
      have q := fun (j : Nat) (hj : j < 5) => ownsRow_cell hrx (fun _ _ => rfl) hlt (j := j) hj
      have x0 : wr.cell? ⟨gr, k * 5, none⟩ = some (.bool (R.getD k ru0).allow) := q 0 (by omega)
      have x1 : wr.cell? ⟨gr, k * 5 + 1, none⟩ = some (.int .i64 (R.getD k ru0).addr) := q 1 (by omega)
      have x2 : wr.cell? ⟨gr, k * 5 + 2, none⟩ = some (.int .i64 (R.getD k ru0).len) := q 2 (by omega)
      have x3 : wr.cell? ⟨gr, k * 5 + 3, none⟩ = some (.int .i64 (R.getD k ru0).ge) := q 3 (by omega)
      have x4 : wr.cell? ⟨gr, k * 5 + 4, none⟩ = some (.int .i64 (R.getD k ru0).le) := q 4 (by omega)
      have hstep : R.take (k + 1) = R.take k ++ [R.getD k ru0] := by
        rw [List.take_succ_eq_append_getElem hlt]
        simp [List.getD_eq_getElem?_getD, hlt]
      have HSTP := hide hstep
      have hk0 : (0 : Int) ≤ (k : Int) := by omega
      have hkl : (k : Int) < (R.length : Int) := by omega
      have HNG : Hid (∀ g, (Value.slice la (4 + 6 * k) lc).ownBlock = some g → gr ≠ g) := fun g hg => unhide HNOL g hg gr rfl
      clear q hrx hstep
      generalize R.getD k ru0 = x at *
      obtain ⟨xb, xa, xl, xg, xe⟩ := x
      simp only at x0 x1 x2 x3 x4
      have w2' := wrap_lo xl
      have w3' := wrap_lo xg
      have w4' := wrap_lo xe
      generalize hBk : (R.take k).flatMap ruleBy = Bk at *
      have HBK := hide hBk
      clear hBk
      cases xb
      · skip
        go_wp2_with (at_builtin; refine wpList_append_lies _ rfl _ _ _ rfl (s0 + 1) 5 i0 _ 1 1 Try.underlying29 hi0 hz0 hz1 hz2 rfl (by omega) (.slice la (4 + 6 * k) lc) (4 + 6 * k) _ rfl ((unhide HROW).alloc _) ⟨wr.heap.size, 0, none⟩ 1 1 [.int .u8 (0)] rfl rfl (World.news_of_block (cs := #[.int .u8 (0)]) (t := 5) (fr := (0, 0)) (heap_alloc_new wr _)) (by simp [Value.oneCell']) (by omega) (by unfold maxLen; omega) (by omega) (by simp; omega) (wr.heap.size + 1) (by simp) ?_; intro g3 cap3 w3 hown4 hgrow4 hat4 hlt4; refine unhide ?_)
        refine hide ?_
        have hk3 := grew_of (n := 4 + 6 * k + 1) (cap := cap3) hgrow4 hat4 (by omega)
        have hs3 := grew_still (unhide HST) (unhide HROW) (by have := unhide Hs0; omega) hk3
        have hg3 : ∀ g, (Value.slice (some ⟨g3, 0, none⟩) (4 + 6 * k + 1) cap3).ownBlock = some g → gr ≠ g := fun g hg => by
          rcases hk3.at_ g hg with q | q
          · exact unhide HNG g q
          · omega
        have hpg : ¬ (Value.slice la (4 + 6 * k) lc).ownBlock = some gr := fun q => unhide HNG gr q rfl
        have y1 := (hk3.kept.cell (p := ⟨gr, k * 5 + 1, none⟩) hgr hpg).trans x1
        have y2 := (hk3.kept.cell (p := ⟨gr, k * 5 + 2, none⟩) hgr hpg).trans x2
        have y3 := (hk3.kept.cell (p := ⟨gr, k * 5 + 3, none⟩) hgr hpg).trans x3
        have y4 := (hk3.kept.cell (p := ⟨gr, k * 5 + 4, none⟩) hgr hpg).trans x4
        have hzz3 := hk3.kept.size
        have hgr3 : gr < w3.heap.size := by omega
        have HRW3 := hide (ownsRow_of_block (w' := w3) (unhide HRW) fun y hy => hk3.kept.block y (ownsRow_lt (unhide HRW) hy) (fun q => by
          have e' : gr = y := by simpa [Value.ownBlock] using hy
          subst e'
          exact hpg q))
        have hro3 : w3.ownsRow (s0 + 1) 5 1 (.slice (some ⟨g3, 0, none⟩) (4 + 6 * k + 1) cap3) (4 + 6 * k + 1) ((([loB hd] ++ [hiB tok, loB tok] ++ [loB (R.length : Int)] ++ Bk) ++ [boolB false]).map byteC) := by
          rw [List.map_append]
          exact hown4
        have HRO3 := hide hro3
        have HS3' := hide hs3
        have HG3 := hide hg3
        have hV3 : s0 + 1 ≤ w3.heap.size := by have := ((unhide HRO3).lt g3 rfl); omega
        clear hown4 hgrow4 hat4 hlt4 hk3 hs3 hg3 hro3 x0 x1 x2 x3 x4 hpg HROW HST HRW HNG
        have HWD := hide (word_W (unhide HRO3) (by omega) hV3 xa)
        go_wp2_with fail
        refine (unhide HWD).mono ?_
        rintro en w5 ⟨u5, rfl, hr5, hg5⟩
        obtain ⟨la5, lc5, rfl, hl51, hl52⟩ := ownsRow_slice hr5
        have hpg5 : ¬ (Value.slice (some ⟨g3, 0, none⟩) (4 + 6 * k + 1) cap3).ownBlock = some gr := fun q => unhide HG3 gr q rfl
        have z2 := (hg5.kept.cell (p := ⟨gr, k * 5 + 2, none⟩) hgr3 hpg5).trans y2
        have z3 := (hg5.kept.cell (p := ⟨gr, k * 5 + 3, none⟩) hgr3 hpg5).trans y3
        have z4 := (hg5.kept.cell (p := ⟨gr, k * 5 + 4, none⟩) hgr3 hpg5).trans y4
        have hzz5 := hg5.kept.size
        have hgr5 : gr < w5.heap.size := by omega
        have HRW5 := hide (ownsRow_of_block (w' := w5) (unhide HRW3) fun y hy => hg5.kept.block y (ownsRow_lt (unhide HRW3) hy) (fun q => by
          have e' : gr = y := by simpa [Value.ownBlock] using hy
          subst e'
          exact hpg5 q))
        have HS5 := hide (grew_still (unhide HS3') (unhide HRO3) (by have := unhide Hs0; omega) hg5)
        have HG5 : Hid (∀ g, (Value.slice la5 (4 + 6 * k + 1 + 2) lc5).ownBlock = some g → gr ≠ g) := fun g hg => by
          rcases hg5.at_ g hg with q | q
          · exact unhide HG3 g q
          · omega
        have HR5 := hide hr5
        have HNG5 : Hid (some gr ≠ (Value.slice la5 (4 + 6 * k + 1 + 2) lc5).ownBlock) := fun e' => unhide HG5 gr e'.symm rfl
        have gn5 : gr ≠ w5.heap.size := Nat.ne_of_lt hgr5
        have hz5' : s0 + 1 ≤ w5.heap.size := by omega
        clear hr5 hg5 hpg5 y1 y2 y3 y4 HWD HRO3 HS3' HG3 HRW3
        go_wp2_with fail
        go_region_held3 (fun w' => w'.cell? ⟨gr, k * 5 + 2, none⟩ = some (.int .i64 xl) ∧ w'.cell? ⟨gr, k * 5 + 3, none⟩ = some (.int .i64 xg) ∧ w'.cell? ⟨gr, k * 5 + 4, none⟩ = some (.int .i64 xe)) (first | go_keep | (go_split_ands; exact ⟨(hgrow4.cell_far ⟨gr, k * 5 + 2, none⟩ (by simp; omega) (unhide HNG5)).trans (by rw [World.cell?_drew, World.cell?_alloc_lt _ _ _ hgr5]; exact z2), (hgrow4.cell_far ⟨gr, k * 5 + 3, none⟩ (by simp; omega) (unhide HNG5)).trans (by rw [World.cell?_drew, World.cell?_alloc_lt _ _ _ hgr5]; exact z3), (hgrow4.cell_far ⟨gr, k * 5 + 4, none⟩ (by simp; omega) (unhide HNG5)).trans (by rw [World.cell?_drew, World.cell?_alloc_lt _ _ _ hgr5]; exact z4)⟩)) ((refine step_append_lies _ (by rfl) _ _ _ (by rfl) (s0 + 1) 5 i0 _ 1 1 Try.underlying29 hi0 hz0 hz1 hz2 rfl (by omega) (.slice la5 (4 + 6 * k + 1 + 2) lc5) (4 + 6 * k + 1 + 2) _ (by rfl) (((unhide HR5).alloc _).drew) ⟨w5.heap.size, 0, none⟩ 3 3 [.int .u8 (loB xl), .int .u8 (loB xg), .int .u8 (loB xe)] (by rfl) (by rfl) (World.news_of_block (cs := #[.int .u8 (loB xl), .int .u8 (loB xg), .int .u8 (loB xe)]) (t := 5) (fr := (0, 0)) (heap_alloc_new w5 _)) (by simp [Value.oneCell']) (by omega) (by unfold maxLen; omega) (by omega) (by simp; omega) (w5.heap.size + 1) (by simp) ?_; intro g6 cap6 w6 hown4 hgrow4 hat4 hlt4))
        all_goals
          have hk6 : Grew w5 w6 (.slice la5 (4 + 6 * k + 1 + 2) lc5) (.slice (some ⟨g6, 0, none⟩) (4 + 6 * k + 1 + 2 + 3) cap6) := ⟨Kept.grown (Kept.drew ((Kept.refl _ _).alloc _)) hgrow4 (fun y hy => .inl hy), fun y hy => by
            have e' : g6 = y := by simpa [Value.ownBlock] using hy
            subst e'
            rcases hat4 with q | q
            · exact .inl q
            · exact .inr (by omega)⟩
          have HS6 := hide (grew_still (unhide HS5) (unhide HR5) (by have := unhide Hs0; omega) hk6)
          have HRW6 := hide (ownsRow_of_block (w' := w6) (unhide HRW5) fun y hy => hk6.kept.block y (ownsRow_lt (unhide HRW5) hy) (fun q => by
            have e' : gr = y := by simpa [Value.ownBlock] using hy
            subst e'
            exact unhide HG5 gr q rfl))
          have HG6 : Hid (∀ g, (Value.slice (some ⟨g6, 0, none⟩) (4 + 6 * k + 1 + 2 + 3) cap6).ownBlock = some g → ∀ y, (Value.slice (some ⟨gr, 0, none⟩) R.length rc).ownBlock = some y → y ≠ g) := fun g hg y hy => by
            have e' : gr = y := by simpa [Value.ownBlock] using hy
            subst e'
            rcases hk6.at_ g hg with q | q
            · exact unhide HG5 g q
            · omega
          have HR6 : Hid (w6.ownsRow (s0 + 1) 5 1 (.slice (some ⟨g6, 0, none⟩) (4 + 6 * k + 1 + 2 + 3) cap6) (4 + 6 * (k + 1)) (([loB hd] ++ [hiB tok, loB tok] ++ [loB (R.length : Int)] ++ (Bk ++ ruleBy ⟨false, xa, xl, xg, xe⟩)).map byteC)) := by
            have h1 := hown4
            have e1 : 4 + 6 * (k + 1) = 4 + 6 * k + 1 + 2 + 3 := by omega
            have e2 : [loB hd] ++ [hiB tok, loB tok] ++ [loB (R.length : Int)] ++ (Bk ++ ruleBy ⟨false, xa, xl, xg, xe⟩) = ([loB hd] ++ [hiB tok, loB tok] ++ [loB (R.length : Int)] ++ Bk ++ [boolB false] ++ [hiB xa, loB xa]) ++ [loB xl, loB xg, loB xe] := by simp [ruleBy]
            refine hide ?_
            rw [e2, e1, List.map_append]
            exact h1
          clear hown4 hgrow4 hat4 hlt4 hk6 z2 z3 z4
          go_wp2
          go_roundw
          case rel => exact ⟨k + 1, by omega, by go_num, by rw [unhide HSTP, List.flatMap_append, unhide HBK]; simpa using unhide HR6, unhide HS6, unhide HRW6, unhide HG6⟩
          case measure => simp [intOf]; omega
      · skip
        go_wp2_with (at_builtin; refine wpList_append_lies _ rfl _ _ _ rfl (s0 + 1) 5 i0 _ 1 1 Try.underlying29 hi0 hz0 hz1 hz2 rfl (by omega) (.slice la (4 + 6 * k) lc) (4 + 6 * k) _ rfl ((unhide HROW).alloc _) ⟨wr.heap.size, 0, none⟩ 1 1 [.int .u8 (1)] rfl rfl (World.news_of_block (cs := #[.int .u8 (1)]) (t := 5) (fr := (0, 0)) (heap_alloc_new wr _)) (by simp [Value.oneCell']) (by omega) (by unfold maxLen; omega) (by omega) (by simp; omega) (wr.heap.size + 1) (by simp) ?_; intro g3 cap3 w3 hown4 hgrow4 hat4 hlt4; refine unhide ?_)
        refine hide ?_
        have hk3 := grew_of (n := 4 + 6 * k + 1) (cap := cap3) hgrow4 hat4 (by omega)
        have hs3 := grew_still (unhide HST) (unhide HROW) (by have := unhide Hs0; omega) hk3
        have hg3 : ∀ g, (Value.slice (some ⟨g3, 0, none⟩) (4 + 6 * k + 1) cap3).ownBlock = some g → gr ≠ g := fun g hg => by
          rcases hk3.at_ g hg with q | q
          · exact unhide HNG g q
          · omega
        have hpg : ¬ (Value.slice la (4 + 6 * k) lc).ownBlock = some gr := fun q => unhide HNG gr q rfl
        have y1 := (hk3.kept.cell (p := ⟨gr, k * 5 + 1, none⟩) hgr hpg).trans x1
        have y2 := (hk3.kept.cell (p := ⟨gr, k * 5 + 2, none⟩) hgr hpg).trans x2
        have y3 := (hk3.kept.cell (p := ⟨gr, k * 5 + 3, none⟩) hgr hpg).trans x3
        have y4 := (hk3.kept.cell (p := ⟨gr, k * 5 + 4, none⟩) hgr hpg).trans x4
        have hzz3 := hk3.kept.size
        have hgr3 : gr < w3.heap.size := by omega
        have HRW3 := hide (ownsRow_of_block (w' := w3) (unhide HRW) fun y hy => hk3.kept.block y (ownsRow_lt (unhide HRW) hy) (fun q => by
          have e' : gr = y := by simpa [Value.ownBlock] using hy
          subst e'
          exact hpg q))
        have hro3 : w3.ownsRow (s0 + 1) 5 1 (.slice (some ⟨g3, 0, none⟩) (4 + 6 * k + 1) cap3) (4 + 6 * k + 1) ((([loB hd] ++ [hiB tok, loB tok] ++ [loB (R.length : Int)] ++ Bk) ++ [boolB true]).map byteC) := by
          rw [List.map_append]
          exact hown4
        have HRO3 := hide hro3
        have HS3' := hide hs3
        have HG3 := hide hg3
        have hV3 : s0 + 1 ≤ w3.heap.size := by have := ((unhide HRO3).lt g3 rfl); omega
        clear hown4 hgrow4 hat4 hlt4 hk3 hs3 hg3 hro3 x0 x1 x2 x3 x4 hpg HROW HST HRW HNG
        have HWD := hide (word_W (unhide HRO3) (by omega) hV3 xa)
        go_wp2_with fail
        refine (unhide HWD).mono ?_
        rintro en w5 ⟨u5, rfl, hr5, hg5⟩
        obtain ⟨la5, lc5, rfl, hl51, hl52⟩ := ownsRow_slice hr5
        have hpg5 : ¬ (Value.slice (some ⟨g3, 0, none⟩) (4 + 6 * k + 1) cap3).ownBlock = some gr := fun q => unhide HG3 gr q rfl
        have z2 := (hg5.kept.cell (p := ⟨gr, k * 5 + 2, none⟩) hgr3 hpg5).trans y2
        have z3 := (hg5.kept.cell (p := ⟨gr, k * 5 + 3, none⟩) hgr3 hpg5).trans y3
        have z4 := (hg5.kept.cell (p := ⟨gr, k * 5 + 4, none⟩) hgr3 hpg5).trans y4
        have hzz5 := hg5.kept.size
        have hgr5 : gr < w5.heap.size := by omega
        have HRW5 := hide (ownsRow_of_block (w' := w5) (unhide HRW3) fun y hy => hg5.kept.block y (ownsRow_lt (unhide HRW3) hy) (fun q => by
          have e' : gr = y := by simpa [Value.ownBlock] using hy
          subst e'
          exact hpg5 q))
        have HS5 := hide (grew_still (unhide HS3') (unhide HRO3) (by have := unhide Hs0; omega) hg5)
        have HG5 : Hid (∀ g, (Value.slice la5 (4 + 6 * k + 1 + 2) lc5).ownBlock = some g → gr ≠ g) := fun g hg => by
          rcases hg5.at_ g hg with q | q
          · exact unhide HG3 g q
          · omega
        have HR5 := hide hr5
        have HNG5 : Hid (some gr ≠ (Value.slice la5 (4 + 6 * k + 1 + 2) lc5).ownBlock) := fun e' => unhide HG5 gr e'.symm rfl
        have gn5 : gr ≠ w5.heap.size := Nat.ne_of_lt hgr5
        have hz5' : s0 + 1 ≤ w5.heap.size := by omega
        clear hr5 hg5 hpg5 y1 y2 y3 y4 HWD HRO3 HS3' HG3 HRW3
        go_wp2_with fail
        go_region_held3 (fun w' => w'.cell? ⟨gr, k * 5 + 2, none⟩ = some (.int .i64 xl) ∧ w'.cell? ⟨gr, k * 5 + 3, none⟩ = some (.int .i64 xg) ∧ w'.cell? ⟨gr, k * 5 + 4, none⟩ = some (.int .i64 xe)) (first | go_keep | (go_split_ands; exact ⟨(hgrow4.cell_far ⟨gr, k * 5 + 2, none⟩ (by simp; omega) (unhide HNG5)).trans (by rw [World.cell?_drew, World.cell?_alloc_lt _ _ _ hgr5]; exact z2), (hgrow4.cell_far ⟨gr, k * 5 + 3, none⟩ (by simp; omega) (unhide HNG5)).trans (by rw [World.cell?_drew, World.cell?_alloc_lt _ _ _ hgr5]; exact z3), (hgrow4.cell_far ⟨gr, k * 5 + 4, none⟩ (by simp; omega) (unhide HNG5)).trans (by rw [World.cell?_drew, World.cell?_alloc_lt _ _ _ hgr5]; exact z4)⟩)) ((refine step_append_lies _ (by rfl) _ _ _ (by rfl) (s0 + 1) 5 i0 _ 1 1 Try.underlying29 hi0 hz0 hz1 hz2 rfl (by omega) (.slice la5 (4 + 6 * k + 1 + 2) lc5) (4 + 6 * k + 1 + 2) _ (by rfl) (((unhide HR5).alloc _).drew) ⟨w5.heap.size, 0, none⟩ 3 3 [.int .u8 (loB xl), .int .u8 (loB xg), .int .u8 (loB xe)] (by rfl) (by rfl) (World.news_of_block (cs := #[.int .u8 (loB xl), .int .u8 (loB xg), .int .u8 (loB xe)]) (t := 5) (fr := (0, 0)) (heap_alloc_new w5 _)) (by simp [Value.oneCell']) (by omega) (by unfold maxLen; omega) (by omega) (by simp; omega) (w5.heap.size + 1) (by simp) ?_; intro g6 cap6 w6 hown4 hgrow4 hat4 hlt4))
        all_goals
          have hk6 : Grew w5 w6 (.slice la5 (4 + 6 * k + 1 + 2) lc5) (.slice (some ⟨g6, 0, none⟩) (4 + 6 * k + 1 + 2 + 3) cap6) := ⟨Kept.grown (Kept.drew ((Kept.refl _ _).alloc _)) hgrow4 (fun y hy => .inl hy), fun y hy => by
            have e' : g6 = y := by simpa [Value.ownBlock] using hy
            subst e'
            rcases hat4 with q | q
            · exact .inl q
            · exact .inr (by omega)⟩
          have HS6 := hide (grew_still (unhide HS5) (unhide HR5) (by have := unhide Hs0; omega) hk6)
          have HRW6 := hide (ownsRow_of_block (w' := w6) (unhide HRW5) fun y hy => hk6.kept.block y (ownsRow_lt (unhide HRW5) hy) (fun q => by
            have e' : gr = y := by simpa [Value.ownBlock] using hy
            subst e'
            exact unhide HG5 gr q rfl))
          have HG6 : Hid (∀ g, (Value.slice (some ⟨g6, 0, none⟩) (4 + 6 * k + 1 + 2 + 3) cap6).ownBlock = some g → ∀ y, (Value.slice (some ⟨gr, 0, none⟩) R.length rc).ownBlock = some y → y ≠ g) := fun g hg y hy => by
            have e' : gr = y := by simpa [Value.ownBlock] using hy
            subst e'
            rcases hk6.at_ g hg with q | q
            · exact unhide HG5 g q
            · omega
          have HR6 : Hid (w6.ownsRow (s0 + 1) 5 1 (.slice (some ⟨g6, 0, none⟩) (4 + 6 * k + 1 + 2 + 3) cap6) (4 + 6 * (k + 1)) (([loB hd] ++ [hiB tok, loB tok] ++ [loB (R.length : Int)] ++ (Bk ++ ruleBy ⟨true, xa, xl, xg, xe⟩)).map byteC)) := by
            have h1 := hown4
            have e1 : 4 + 6 * (k + 1) = 4 + 6 * k + 1 + 2 + 3 := by omega
            have e2 : [loB hd] ++ [hiB tok, loB tok] ++ [loB (R.length : Int)] ++ (Bk ++ ruleBy ⟨true, xa, xl, xg, xe⟩) = ([loB hd] ++ [hiB tok, loB tok] ++ [loB (R.length : Int)] ++ Bk ++ [boolB true] ++ [hiB xa, loB xa]) ++ [loB xl, loB xg, loB xe] := by simp [ruleBy]
            refine hide ?_
            rw [e2, e1, List.map_append]
            exact h1
          clear hown4 hgrow4 hat4 hlt4 hk6 z2 z3 z4
          go_wp2
          go_roundw
          case rel => exact ⟨k + 1, by omega, by go_num, by rw [unhide HSTP, List.flatMap_append, unhide HBK]; simpa using unhide HR6, unhide HS6, unhide HRW6, unhide HG6⟩
          case measure => simp [intOf]; omega
    · obtain rfl : k = R.length := by omega
      go_wp2
      go_ret
      refine ⟨_, rfl, ?_, unhide HST⟩
      have h1 := ownsRow_base (base' := w.heap.size) (unhide HROW) (by have := unhide Hs0; omega)
      rw [List.take_length] at h1
      have e2 : [loB hd] ++ [hiB tok, loB tok] ++ [loB (R.length : Int)] ++ R.flatMap ruleBy = [loB hd, hiB tok, loB tok] ++ (loB (R.length : Int) :: R.flatMap ruleBy) := by simp
      rw [e2] at h1
      exact h1
theorem asked_W (o : OpD) (ho : OpOk o) (tok : Int) (w : World) :
    Calls Try.prog 9 #[.int .i64 tok, .agg #[.int .i64 o.kind, .int .i64 o.who, .int .i64 o.a, .int .i64 o.b, .int .i64 o.c, .int .i64 o.d]] w fun en w' => ∃ v, en = .returned v ∧ w'.ownsRow w.heap.size 5 1 v (askB tok o).length ((askB tok o).map byteC) ∧ Still w w' := by
  have h8 := pickF_range o.kind (n := 8) (by omega)
  rcases (by omega : pickF o.kind 8 = 0 ∨ pickF o.kind 8 = 1 ∨ pickF o.kind 8 = 2 ∨ pickF o.kind 8 = 3 ∨ pickF o.kind 8 = 4 ∨ pickF o.kind 8 = 5 ∨ pickF o.kind 8 = 6 ∨ pickF o.kind 8 = 7) with h | h | h | h | h | h | h | h
  · exact asked_0 o ho tok w h
  · exact asked_1 o ho tok w h
  · exact asked_2 o ho tok w h
  · exact asked_3 o ho tok w h
  · exact asked_4 o ho tok w h
  · exact asked_5 o ho tok w h
  · exact asked_6 o ho tok w h
  · exact asked_7 o ho tok w h
end Go.Proofs.Ytgndledehlilkab
