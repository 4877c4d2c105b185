/-
  Walks: districtkeep: asked: a step as a request.
-/
import Derived.Test.YtgndledehlilkabWirA
import Derived.Test.YtgndledehlilkabPlay2
import Derived.Test.YtgndledehlilkabPrX3
import Derived.Deep.RegionLaw
namespace Go.Proofs.Ytgndledehlilkab
open Go.RowKit

theorem grew_still {w w1 w2 : World} {base n sz : Nat} {t : TypeId} {v u : Value} {xs : List Value} (hs : Still w w1) (hr : w1.ownsRow base t sz v n xs) (hb : w.heap.size ≤ base) (h : Grew w1 w2 v u) : Still w w2 :=
  Kept.trans' hs h.kept fun i hi q => by have := (hr.lt i q).1; omega
theorem BoxO.grew {w w' : World} {s base n sz : Nat} {t : TypeId} {v u : Value} {xs : List Value} {o : OpD} (h : BoxO w s o) (hr : w.ownsRow base t sz v n xs) (hb : s < base) (hg : Grew w w' v u) : BoxO w' s o :=
  h.kept hg.kept fun q => by have := (hr.lt s q).1; omega
/-- A rule's bytes. -/
def ruleBy (u : RuleD) : List Int := [boolB u.allow, hiB u.addr, loB u.addr, loB u.len, loB u.ge, loB u.le]
/-- A step as a request. -/
def askRest (o : OpD) : List Int :=
  if pickF o.kind 8 = 0 then [hiB (pfxA o.a o.b), loB (pfxA o.a o.b), loB (pfxL o.b), loB (pickF o.c 256)]
  else if pickF o.kind 8 = 1 then [hiB (pfxA o.a o.b), loB (pfxA o.a o.b), loB (pfxL o.b)]
  else if pickF o.kind 8 = 2 then [loB (andF o.a 255), loB (andF o.b 255)]
  else if pickF o.kind 8 = 3 then loB (rulesF o).length :: (rulesF o).flatMap ruleBy
  else if pickF o.kind 8 = 4 then []
  else if pickF o.kind 8 = 5 then []
  else if pickF o.kind 8 = 6 then [hiB (pickF o.a 65536), loB (pickF o.a 65536)]
  else [hiB (pickF o.a 65536), loB (pickF o.a 65536), loB (pickF o.c 256), loB (andF o.d 1)]
def askB (tok : Int) (o : OpD) : List Int := [loB (reqF (pickF o.kind 8)), hiB tok, loB tok] ++ askRest o
set_option maxRecDepth 100000 in
set_option maxHeartbeats 4000000 in
theorem asked_4 (o : OpD) (ho : OpOk o) (tok : Int) (w : World) (hkd : pickF o.kind 8 = 4) :
    Calls Try.prog 9 #[.int .i64 tok, .agg #[.int .i64 o.kind, .int .i64 o.who, .int .i64 o.a, .int .i64 o.b, .int .i64 o.c, .int .i64 o.d]] w fun en w' => ∃ v, en = .returned v ∧ w'.ownsRow w.heap.size 5 1 v (askB tok o).length ((askB tok o).map byteC) ∧ Still w w' := by
  obtain ⟨i0, hi0, hz0, hz1, hz2⟩ := info_parts infoByteX
  have hS : Still w (w.alloc (.cells #[.int .i64 o.kind, .int .i64 o.who, .int .i64 o.a, .int .i64 o.b, .int .i64 o.c, .int .i64 o.d] 34)) := (Kept.refl _ _).alloc _
  have HB := hide (BoxO.new w o 34)
  have HS := hide hS
  have HKD := hide hkd
  have eA : askB tok o = [loB (reqF 4), hiB tok, loB tok] ++ [] := by
    unfold askB askRest
    rw [hkd]
    rfl
  rw [eA]
  have hwh := wrap_lo (reqF 4)
  have hwn := wrap_lo (pfxL o.b)
  have hwc := wrap_lo (pickF o.c 256)
  have HPF := hide (fun w => prefixK o.a o.b w ho.a0 ho.a1 ho.b0 ho.b1)
  have HPK := hide (fun w => pickK o.kind 8 w (by omega) ho.k0 ho.k1)
  rw [hkd] at HPK
  have HRQ := hide (fun w => request_W 4 w (by omega) (by omega))
  have HPC := hide (fun w => pickK o.c 256 w (by omega) ho.c0 ho.c1)
  have HPA := hide (fun w => pickK o.a 65536 w (by omega) ho.a0 ho.a1)
  have hV0 : (w.alloc (.cells #[.int .i64 o.kind, .int .i64 o.who, .int .i64 o.a, .int .i64 o.b, .int .i64 o.c, .int .i64 o.d] 34)).heap.size = w.heap.size + 1 := by simp
  clear hS ho hkd eA HKD
  generalize reqF 4 = hd at *
  generalize pfxA o.a o.b = pa at *
  generalize pfxL o.b = pn at *
  generalize pickF o.c 256 = pc at *
  generalize pickF o.a 65536 = px at *
  go_enter Try.func9, Try.ntmps9
  go_wp2_with fail
  generalize hs0 : w.heap.size = s0 at *
  have Hs0 := hide hs0
  clear hs0
  generalize w.alloc (.cells #[.int .i64 o.kind, .int .i64 o.who, .int .i64 o.a, .int .i64 o.b, .int .i64 o.c, .int .i64 o.d] 34) = V at *
  have HV0 := hide hV0
  clear hV0
  have c0 := (unhide HB).c0
  have c2 := (unhide HB).c2
  have c3 := (unhide HB).c3
  refine (unhide HPF _).mono ?_
  rintro en w' ⟨rfl, hw⟩
  replace hw := hw.symm
  subst hw
  go_wp2_with fail
  refine (unhide HPK _).mono ?_
  rintro en w' ⟨rfl, hw⟩
  replace hw := hw.symm
  subst hw
  go_wp2_with fail
  refine (unhide HRQ _).mono ?_
  rintro en w' ⟨rfl, hw⟩
  replace hw := hw.symm
  subst hw
  have hrow0 : (V.alloc (.cells #[.int .u8 (loB hd)] 5)).ownsRow (s0 + 1) 5 1 (.slice (some ⟨V.heap.size, 0, none⟩) 1 1) 1 ([loB hd].map byteC) := bytesNew V [loB hd] (by have := unhide HV0; omega) (by simp)
  have HW0 := hide (word_W hrow0 (by omega) (by have := unhide HV0; simp; omega) tok)
  have HR0 := hide hrow0
  have hst0 : Still w (V.alloc (.cells #[.int .u8 (loB hd)] 5)) := Kept.alloc (unhide HS) _
  have hb0 : BoxO (V.alloc (.cells #[.int .u8 (loB hd)] 5)) s0 o := (unhide HB).kept ((Kept.refl (fun _ => False) _).alloc _) (fun q => q)
  have HST0 := hide hst0
  have HB0 := hide hb0
  clear hrow0 hst0 hb0
  go_wp2_with fail
  refine (unhide HW0).mono ?_
  rintro en w1 ⟨u1, rfl, hr1, hg1⟩
  have hb1 := (unhide HB0).grew (unhide HR0) (by omega) hg1
  have hs1 := grew_still (unhide HST0) (unhide HR0) (by have := unhide Hs0; omega) hg1
  obtain ⟨la1, lc1, rfl, _, _⟩ := ownsRow_slice hr1
  have HR1 : Hid (w1.ownsRow (s0 + 1) 5 1 (.slice la1 3 lc1) 3 (([loB hd] ++ [hiB tok, loB tok]).map byteC)) := hr1
  have HB1 := hide hb1
  have HS1 := hide hs1
  have d0 := hb1.c0
  have hz1' := hs1.size
  have hV1 : s0 + 1 ≤ w1.heap.size := hb1.lt
  clear hr1 hg1 hb1 hs1 HW0 HR0 HST0 HB0 c0 c2 c3 HB HS HV0
  go_wp2_with fail
  refine (unhide HPK _).mono ?_
  rintro en w' ⟨rfl, hw⟩
  replace hw := hw.symm
  subst hw
  go_wp2
  go_ret
  exact ⟨_, rfl, ownsRow_base (unhide HR1) (by have := unhide Hs0; omega), unhide HS1⟩
set_option maxRecDepth 100000 in
set_option maxHeartbeats 4000000 in
theorem asked_5 (o : OpD) (ho : OpOk o) (tok : Int) (w : World) (hkd : pickF o.kind 8 = 5) :
    Calls Try.prog 9 #[.int .i64 tok, .agg #[.int .i64 o.kind, .int .i64 o.who, .int .i64 o.a, .int .i64 o.b, .int .i64 o.c, .int .i64 o.d]] w fun en w' => ∃ v, en = .returned v ∧ w'.ownsRow w.heap.size 5 1 v (askB tok o).length ((askB tok o).map byteC) ∧ Still w w' := by
  obtain ⟨i0, hi0, hz0, hz1, hz2⟩ := info_parts infoByteX
  have hS : Still w (w.alloc (.cells #[.int .i64 o.kind, .int .i64 o.who, .int .i64 o.a, .int .i64 o.b, .int .i64 o.c, .int .i64 o.d] 34)) := (Kept.refl _ _).alloc _
  have HB := hide (BoxO.new w o 34)
  have HS := hide hS
  have HKD := hide hkd
  have eA : askB tok o = [loB (reqF 5), hiB tok, loB tok] ++ [] := by
    unfold askB askRest
    rw [hkd]
    rfl
  rw [eA]
  have hwh := wrap_lo (reqF 5)
  have hwn := wrap_lo (pfxL o.b)
  have hwc := wrap_lo (pickF o.c 256)
  have HPF := hide (fun w => prefixK o.a o.b w ho.a0 ho.a1 ho.b0 ho.b1)
  have HPK := hide (fun w => pickK o.kind 8 w (by omega) ho.k0 ho.k1)
  rw [hkd] at HPK
  have HRQ := hide (fun w => request_W 5 w (by omega) (by omega))
  have HPC := hide (fun w => pickK o.c 256 w (by omega) ho.c0 ho.c1)
  have HPA := hide (fun w => pickK o.a 65536 w (by omega) ho.a0 ho.a1)
  have hV0 : (w.alloc (.cells #[.int .i64 o.kind, .int .i64 o.who, .int .i64 o.a, .int .i64 o.b, .int .i64 o.c, .int .i64 o.d] 34)).heap.size = w.heap.size + 1 := by simp
  clear hS ho hkd eA HKD
  generalize reqF 5 = hd at *
  generalize pfxA o.a o.b = pa at *
  generalize pfxL o.b = pn at *
  generalize pickF o.c 256 = pc at *
  generalize pickF o.a 65536 = px at *
  go_enter Try.func9, Try.ntmps9
  go_wp2_with fail
  generalize hs0 : w.heap.size = s0 at *
  have Hs0 := hide hs0
  clear hs0
  generalize w.alloc (.cells #[.int .i64 o.kind, .int .i64 o.who, .int .i64 o.a, .int .i64 o.b, .int .i64 o.c, .int .i64 o.d] 34) = V at *
  have HV0 := hide hV0
  clear hV0
  have c0 := (unhide HB).c0
  have c2 := (unhide HB).c2
  have c3 := (unhide HB).c3
  refine (unhide HPF _).mono ?_
  rintro en w' ⟨rfl, hw⟩
  replace hw := hw.symm
  subst hw
  go_wp2_with fail
  refine (unhide HPK _).mono ?_
  rintro en w' ⟨rfl, hw⟩
  replace hw := hw.symm
  subst hw
  go_wp2_with fail
  refine (unhide HRQ _).mono ?_
  rintro en w' ⟨rfl, hw⟩
  replace hw := hw.symm
  subst hw
  have hrow0 : (V.alloc (.cells #[.int .u8 (loB hd)] 5)).ownsRow (s0 + 1) 5 1 (.slice (some ⟨V.heap.size, 0, none⟩) 1 1) 1 ([loB hd].map byteC) := bytesNew V [loB hd] (by have := unhide HV0; omega) (by simp)
  have HW0 := hide (word_W hrow0 (by omega) (by have := unhide HV0; simp; omega) tok)
  have HR0 := hide hrow0
  have hst0 : Still w (V.alloc (.cells #[.int .u8 (loB hd)] 5)) := Kept.alloc (unhide HS) _
  have hb0 : BoxO (V.alloc (.cells #[.int .u8 (loB hd)] 5)) s0 o := (unhide HB).kept ((Kept.refl (fun _ => False) _).alloc _) (fun q => q)
  have HST0 := hide hst0
  have HB0 := hide hb0
  clear hrow0 hst0 hb0
  go_wp2_with fail
  refine (unhide HW0).mono ?_
  rintro en w1 ⟨u1, rfl, hr1, hg1⟩
  have hb1 := (unhide HB0).grew (unhide HR0) (by omega) hg1
  have hs1 := grew_still (unhide HST0) (unhide HR0) (by have := unhide Hs0; omega) hg1
  obtain ⟨la1, lc1, rfl, _, _⟩ := ownsRow_slice hr1
  have HR1 : Hid (w1.ownsRow (s0 + 1) 5 1 (.slice la1 3 lc1) 3 (([loB hd] ++ [hiB tok, loB tok]).map byteC)) := hr1
  have HB1 := hide hb1
  have HS1 := hide hs1
  have d0 := hb1.c0
  have hz1' := hs1.size
  have hV1 : s0 + 1 ≤ w1.heap.size := hb1.lt
  clear hr1 hg1 hb1 hs1 HW0 HR0 HST0 HB0 c0 c2 c3 HB HS HV0
  go_wp2_with fail
  refine (unhide HPK _).mono ?_
  rintro en w' ⟨rfl, hw⟩
  replace hw := hw.symm
  subst hw
  go_wp2
  go_ret
  exact ⟨_, rfl, ownsRow_base (unhide HR1) (by have := unhide Hs0; omega), unhide HS1⟩
set_option maxRecDepth 100000 in
set_option maxHeartbeats 4000000 in
theorem asked_6 (o : OpD) (ho : OpOk o) (tok : Int) (w : World) (hkd : pickF o.kind 8 = 6) :
    Calls Try.prog 9 #[.int .i64 tok, .agg #[.int .i64 o.kind, .int .i64 o.who, .int .i64 o.a, .int .i64 o.b, .int .i64 o.c, .int .i64 o.d]] w fun en w' => ∃ v, en = .returned v ∧ w'.ownsRow w.heap.size 5 1 v (askB tok o).length ((askB tok o).map byteC) ∧ Still w w' := by
  obtain ⟨i0, hi0, hz0, hz1, hz2⟩ := info_parts infoByteX
  have hS : Still w (w.alloc (.cells #[.int .i64 o.kind, .int .i64 o.who, .int .i64 o.a, .int .i64 o.b, .int .i64 o.c, .int .i64 o.d] 34)) := (Kept.refl _ _).alloc _
  have HB := hide (BoxO.new w o 34)
  have HS := hide hS
  have HKD := hide hkd
  have eA : askB tok o = [loB (reqF 6), hiB tok, loB tok] ++ [hiB (pickF o.a 65536), loB (pickF o.a 65536)] := by
    unfold askB askRest
    rw [hkd]
    rfl
  rw [eA]
  have hwh := wrap_lo (reqF 6)
  have hwn := wrap_lo (pfxL o.b)
  have hwc := wrap_lo (pickF o.c 256)
  have HPF := hide (fun w => prefixK o.a o.b w ho.a0 ho.a1 ho.b0 ho.b1)
  have HPK := hide (fun w => pickK o.kind 8 w (by omega) ho.k0 ho.k1)
  rw [hkd] at HPK
  have HRQ := hide (fun w => request_W 6 w (by omega) (by omega))
  have HPC := hide (fun w => pickK o.c 256 w (by omega) ho.c0 ho.c1)
  have HPA := hide (fun w => pickK o.a 65536 w (by omega) ho.a0 ho.a1)
  have hV0 : (w.alloc (.cells #[.int .i64 o.kind, .int .i64 o.who, .int .i64 o.a, .int .i64 o.b, .int .i64 o.c, .int .i64 o.d] 34)).heap.size = w.heap.size + 1 := by simp
  clear hS ho hkd eA HKD
  generalize reqF 6 = hd at *
  generalize pfxA o.a o.b = pa at *
  generalize pfxL o.b = pn at *
  generalize pickF o.c 256 = pc at *
  generalize pickF o.a 65536 = px at *
  go_enter Try.func9, Try.ntmps9
  go_wp2_with fail
  generalize hs0 : w.heap.size = s0 at *
  have Hs0 := hide hs0
  clear hs0
  generalize w.alloc (.cells #[.int .i64 o.kind, .int .i64 o.who, .int .i64 o.a, .int .i64 o.b, .int .i64 o.c, .int .i64 o.d] 34) = V at *
  have HV0 := hide hV0
  clear hV0
  have c0 := (unhide HB).c0
  have c2 := (unhide HB).c2
  have c3 := (unhide HB).c3
  refine (unhide HPF _).mono ?_
  rintro en w' ⟨rfl, hw⟩
  replace hw := hw.symm
  subst hw
  go_wp2_with fail
  refine (unhide HPK _).mono ?_
  rintro en w' ⟨rfl, hw⟩
  replace hw := hw.symm
  subst hw
  go_wp2_with fail
  refine (unhide HRQ _).mono ?_
  rintro en w' ⟨rfl, hw⟩
  replace hw := hw.symm
  subst hw
  have hrow0 : (V.alloc (.cells #[.int .u8 (loB hd)] 5)).ownsRow (s0 + 1) 5 1 (.slice (some ⟨V.heap.size, 0, none⟩) 1 1) 1 ([loB hd].map byteC) := bytesNew V [loB hd] (by have := unhide HV0; omega) (by simp)
  have HW0 := hide (word_W hrow0 (by omega) (by have := unhide HV0; simp; omega) tok)
  have HR0 := hide hrow0
  have hst0 : Still w (V.alloc (.cells #[.int .u8 (loB hd)] 5)) := Kept.alloc (unhide HS) _
  have hb0 : BoxO (V.alloc (.cells #[.int .u8 (loB hd)] 5)) s0 o := (unhide HB).kept ((Kept.refl (fun _ => False) _).alloc _) (fun q => q)
  have HST0 := hide hst0
  have HB0 := hide hb0
  clear hrow0 hst0 hb0
  go_wp2_with fail
  refine (unhide HW0).mono ?_
  rintro en w1 ⟨u1, rfl, hr1, hg1⟩
  have hb1 := (unhide HB0).grew (unhide HR0) (by omega) hg1
  have hs1 := grew_still (unhide HST0) (unhide HR0) (by have := unhide Hs0; omega) hg1
  obtain ⟨la1, lc1, rfl, _, _⟩ := ownsRow_slice hr1
  have HR1 : Hid (w1.ownsRow (s0 + 1) 5 1 (.slice la1 3 lc1) 3 (([loB hd] ++ [hiB tok, loB tok]).map byteC)) := hr1
  have HB1 := hide hb1
  have HS1 := hide hs1
  have d0 := hb1.c0
  have hz1' := hs1.size
  have hV1 : s0 + 1 ≤ w1.heap.size := hb1.lt
  clear hr1 hg1 hb1 hs1 HW0 HR0 HST0 HB0 c0 c2 c3 HB HS HV0
  go_wp2_with fail
  refine (unhide HPK _).mono ?_
  rintro en w' ⟨rfl, hw⟩
  replace hw := hw.symm
  subst hw
  have d2 := (unhide HB1).c2
  go_wp2_with fail
  refine (unhide HPA _).mono ?_
  rintro en w' ⟨rfl, hw⟩
  replace hw := hw.symm
  subst hw
  have WX := hide (word_W (unhide HR1) (by omega) hV1 (px))
  go_wp2_with fail
  refine (unhide WX).mono ?_
  rintro en w2 ⟨u2, rfl, hr2, hg2⟩
  have hb2 := (unhide HB1).grew (unhide HR1) (by omega) hg2
  have hs2 := grew_still (unhide HS1) (unhide HR1) (by have := unhide Hs0; omega) hg2
  obtain ⟨la2, lc2, rfl, _, _⟩ := ownsRow_slice hr2
  have HR2 : Hid (w2.ownsRow (s0 + 1) 5 1 (.slice la2 5 lc2) 5 (([loB hd] ++ [hiB tok, loB tok] ++ [hiB (px), loB (px)]).map byteC)) := hr2
  have HB2 := hide hb2
  have HS2 := hide hs2
  have hV2 : s0 + 1 ≤ w2.heap.size := hb2.lt
  have e2 := hb2.c2
  have e3 := hb2.c3
  have e4 := hb2.c4
  have e5 := hb2.c5
  clear hr2 hg2 hb2 hs2 WX d0
  go_wp2
  go_ret
  exact ⟨_, rfl, ownsRow_base (unhide HR2) (by have := unhide Hs0; omega), unhide HS2⟩
set_option maxRecDepth 100000 in
set_option maxHeartbeats 4000000 in
theorem asked_1 (o : OpD) (ho : OpOk o) (tok : Int) (w : World) (hkd : pickF o.kind 8 = 1) :
    Calls Try.prog 9 #[.int .i64 tok, .agg #[.int .i64 o.kind, .int .i64 o.who, .int .i64 o.a, .int .i64 o.b, .int .i64 o.c, .int .i64 o.d]] w fun en w' => ∃ v, en = .returned v ∧ w'.ownsRow w.heap.size 5 1 v (askB tok o).length ((askB tok o).map byteC) ∧ Still w w' := by
  obtain ⟨i0, hi0, hz0, hz1, hz2⟩ := info_parts infoByteX
  have hS : Still w (w.alloc (.cells #[.int .i64 o.kind, .int .i64 o.who, .int .i64 o.a, .int .i64 o.b, .int .i64 o.c, .int .i64 o.d] 34)) := (Kept.refl _ _).alloc _
  have HB := hide (BoxO.new w o 34)
  have HS := hide hS
  have HKD := hide hkd
  have eA : askB tok o = [loB (reqF 1), hiB tok, loB tok] ++ [hiB (pfxA o.a o.b), loB (pfxA o.a o.b), loB (pfxL o.b)] := by
    unfold askB askRest
    rw [hkd]
    rfl
  rw [eA]
  have hwh := wrap_lo (reqF 1)
  have hwn := wrap_lo (pfxL o.b)
  have hwc := wrap_lo (pickF o.c 256)
  have HPF := hide (fun w => prefixK o.a o.b w ho.a0 ho.a1 ho.b0 ho.b1)
  have HPK := hide (fun w => pickK o.kind 8 w (by omega) ho.k0 ho.k1)
  rw [hkd] at HPK
  have HRQ := hide (fun w => request_W 1 w (by omega) (by omega))
  have HPC := hide (fun w => pickK o.c 256 w (by omega) ho.c0 ho.c1)
  have HPA := hide (fun w => pickK o.a 65536 w (by omega) ho.a0 ho.a1)
  have hV0 : (w.alloc (.cells #[.int .i64 o.kind, .int .i64 o.who, .int .i64 o.a, .int .i64 o.b, .int .i64 o.c, .int .i64 o.d] 34)).heap.size = w.heap.size + 1 := by simp
  clear hS ho hkd eA HKD
  generalize reqF 1 = hd at *
  generalize pfxA o.a o.b = pa at *
  generalize pfxL o.b = pn at *
  generalize pickF o.c 256 = pc at *
  generalize pickF o.a 65536 = px at *
  go_enter Try.func9, Try.ntmps9
  go_wp2_with fail
  generalize hs0 : w.heap.size = s0 at *
  have Hs0 := hide hs0
  clear hs0
  generalize w.alloc (.cells #[.int .i64 o.kind, .int .i64 o.who, .int .i64 o.a, .int .i64 o.b, .int .i64 o.c, .int .i64 o.d] 34) = V at *
  have HV0 := hide hV0
  clear hV0
  have c0 := (unhide HB).c0
  have c2 := (unhide HB).c2
  have c3 := (unhide HB).c3
  refine (unhide HPF _).mono ?_
  rintro en w' ⟨rfl, hw⟩
  replace hw := hw.symm
  subst hw
  go_wp2_with fail
  refine (unhide HPK _).mono ?_
  rintro en w' ⟨rfl, hw⟩
  replace hw := hw.symm
  subst hw
  go_wp2_with fail
  refine (unhide HRQ _).mono ?_
  rintro en w' ⟨rfl, hw⟩
  replace hw := hw.symm
  subst hw
  have hrow0 : (V.alloc (.cells #[.int .u8 (loB hd)] 5)).ownsRow (s0 + 1) 5 1 (.slice (some ⟨V.heap.size, 0, none⟩) 1 1) 1 ([loB hd].map byteC) := bytesNew V [loB hd] (by have := unhide HV0; omega) (by simp)
  have HW0 := hide (word_W hrow0 (by omega) (by have := unhide HV0; simp; omega) tok)
  have HR0 := hide hrow0
  have hst0 : Still w (V.alloc (.cells #[.int .u8 (loB hd)] 5)) := Kept.alloc (unhide HS) _
  have hb0 : BoxO (V.alloc (.cells #[.int .u8 (loB hd)] 5)) s0 o := (unhide HB).kept ((Kept.refl (fun _ => False) _).alloc _) (fun q => q)
  have HST0 := hide hst0
  have HB0 := hide hb0
  clear hrow0 hst0 hb0
  go_wp2_with fail
  refine (unhide HW0).mono ?_
  rintro en w1 ⟨u1, rfl, hr1, hg1⟩
  have hb1 := (unhide HB0).grew (unhide HR0) (by omega) hg1
  have hs1 := grew_still (unhide HST0) (unhide HR0) (by have := unhide Hs0; omega) hg1
  obtain ⟨la1, lc1, rfl, _, _⟩ := ownsRow_slice hr1
  have HR1 : Hid (w1.ownsRow (s0 + 1) 5 1 (.slice la1 3 lc1) 3 (([loB hd] ++ [hiB tok, loB tok]).map byteC)) := hr1
  have HB1 := hide hb1
  have HS1 := hide hs1
  have d0 := hb1.c0
  have hz1' := hs1.size
  have hV1 : s0 + 1 ≤ w1.heap.size := hb1.lt
  clear hr1 hg1 hb1 hs1 HW0 HR0 HST0 HB0 c0 c2 c3 HB HS HV0
  go_wp2_with fail
  refine (unhide HPK _).mono ?_
  rintro en w' ⟨rfl, hw⟩
  replace hw := hw.symm
  subst hw
  have WX := hide (word_W (unhide HR1) (by omega) hV1 (pa))
  go_wp2_with fail
  refine (unhide WX).mono ?_
  rintro en w2 ⟨u2, rfl, hr2, hg2⟩
  have hb2 := (unhide HB1).grew (unhide HR1) (by omega) hg2
  have hs2 := grew_still (unhide HS1) (unhide HR1) (by have := unhide Hs0; omega) hg2
  obtain ⟨la2, lc2, rfl, _, _⟩ := ownsRow_slice hr2
  have HR2 : Hid (w2.ownsRow (s0 + 1) 5 1 (.slice la2 5 lc2) 5 (([loB hd] ++ [hiB tok, loB tok] ++ [hiB (pa), loB (pa)]).map byteC)) := hr2
  have HB2 := hide hb2
  have HS2 := hide hs2
  have hV2 : s0 + 1 ≤ w2.heap.size := hb2.lt
  have e2 := hb2.c2
  have e3 := hb2.c3
  have e4 := hb2.c4
  have e5 := hb2.c5
  clear hr2 hg2 hb2 hs2 WX d0
  go_wp2_with (at_builtin; refine wpList_append_lies _ rfl _ _ _ rfl (s0 + 1) 5 i0 _ 1 1 Try.underlying29 hi0 hz0 hz1 hz2 rfl (by omega) (.slice la2 5 lc2) (5) _ rfl ((unhide HR2).alloc _) ⟨w2.heap.size, 0, none⟩ 1 1 [.int .u8 (loB pn)] rfl rfl (World.news_of_block (cs := #[.int .u8 (loB pn)]) (t := 5) (fr := (0, 0)) (heap_alloc_new w2 _)) (by simp [Value.oneCell']) (by omega) (by unfold maxLen; omega) (by omega) (by simp; omega) (w2.heap.size + 1) (by simp) ?_; intro g3 cap3 w3 hown4 hgrow4 hat4 hlt4; refine unhide ?_)
  refine hide ?_
  have hk3 := grew_of (n := 5 + 1) (cap := cap3) hgrow4 hat4 (by omega)
  have hs3 := grew_still (unhide HS2) (unhide HR2) (by have := unhide Hs0; omega) hk3
  have HR3 : Hid (w3.ownsRow (s0 + 1) 5 1 (.slice (some ⟨g3, 0, none⟩) (5 + 1) cap3) (5 + 1) (([loB hd] ++ [hiB tok, loB tok] ++ [hiB (pa), loB (pa)] ++ [loB pn]).map byteC)) := by
    have := hown4
    refine hide ?_
    rw [List.map_append]
    exact this
  have HS3 := hide hs3
  clear hown4 hgrow4 hat4 hlt4 hk3 hs3
  go_wp2
  go_ret
  exact ⟨_, rfl, ownsRow_base (unhide HR3) (by have := unhide Hs0; omega), unhide HS3⟩
set_option maxRecDepth 100000 in
set_option maxHeartbeats 4000000 in
theorem asked_0 (o : OpD) (ho : OpOk o) (tok : Int) (w : World) (hkd : pickF o.kind 8 = 0) :
    Calls Try.prog 9 #[.int .i64 tok, .agg #[.int .i64 o.kind, .int .i64 o.who, .int .i64 o.a, .int .i64 o.b, .int .i64 o.c, .int .i64 o.d]] w fun en w' => ∃ v, en = .returned v ∧ w'.ownsRow w.heap.size 5 1 v (askB tok o).length ((askB tok o).map byteC) ∧ Still w w' := by
  obtain ⟨i0, hi0, hz0, hz1, hz2⟩ := info_parts infoByteX
  have hS : Still w (w.alloc (.cells #[.int .i64 o.kind, .int .i64 o.who, .int .i64 o.a, .int .i64 o.b, .int .i64 o.c, .int .i64 o.d] 34)) := (Kept.refl _ _).alloc _
  have HB := hide (BoxO.new w o 34)
  have HS := hide hS
  have HKD := hide hkd
  have eA : askB tok o = [loB (reqF 0), hiB tok, loB tok] ++ [hiB (pfxA o.a o.b), loB (pfxA o.a o.b), loB (pfxL o.b), loB (pickF o.c 256)] := by
    unfold askB askRest
    rw [hkd]
    rfl
  rw [eA]
  have hwh := wrap_lo (reqF 0)
  have hwn := wrap_lo (pfxL o.b)
  have hwc := wrap_lo (pickF o.c 256)
  have HPF := hide (fun w => prefixK o.a o.b w ho.a0 ho.a1 ho.b0 ho.b1)
  have HPK := hide (fun w => pickK o.kind 8 w (by omega) ho.k0 ho.k1)
  rw [hkd] at HPK
  have HRQ := hide (fun w => request_W 0 w (by omega) (by omega))
  have HPC := hide (fun w => pickK o.c 256 w (by omega) ho.c0 ho.c1)
  have HPA := hide (fun w => pickK o.a 65536 w (by omega) ho.a0 ho.a1)
  have hV0 : (w.alloc (.cells #[.int .i64 o.kind, .int .i64 o.who, .int .i64 o.a, .int .i64 o.b, .int .i64 o.c, .int .i64 o.d] 34)).heap.size = w.heap.size + 1 := by simp
  clear hS ho hkd eA HKD
  generalize reqF 0 = hd at *
  generalize pfxA o.a o.b = pa at *
  generalize pfxL o.b = pn at *
  generalize pickF o.c 256 = pc at *
  generalize pickF o.a 65536 = px at *
  go_enter Try.func9, Try.ntmps9
  go_wp2_with fail
  generalize hs0 : w.heap.size = s0 at *
  have Hs0 := hide hs0
  clear hs0
  generalize w.alloc (.cells #[.int .i64 o.kind, .int .i64 o.who, .int .i64 o.a, .int .i64 o.b, .int .i64 o.c, .int .i64 o.d] 34) = V at *
  have HV0 := hide hV0
  clear hV0
  have c0 := (unhide HB).c0
  have c2 := (unhide HB).c2
  have c3 := (unhide HB).c3
  refine (unhide HPF _).mono ?_
  rintro en w' ⟨rfl, hw⟩
  replace hw := hw.symm
  subst hw
  go_wp2_with fail
  refine (unhide HPK _).mono ?_
  rintro en w' ⟨rfl, hw⟩
  replace hw := hw.symm
  subst hw
  go_wp2_with fail
  refine (unhide HRQ _).mono ?_
  rintro en w' ⟨rfl, hw⟩
  replace hw := hw.symm
  subst hw
  have hrow0 : (V.alloc (.cells #[.int .u8 (loB hd)] 5)).ownsRow (s0 + 1) 5 1 (.slice (some ⟨V.heap.size, 0, none⟩) 1 1) 1 ([loB hd].map byteC) := bytesNew V [loB hd] (by have := unhide HV0; omega) (by simp)
  have HW0 := hide (word_W hrow0 (by omega) (by have := unhide HV0; simp; omega) tok)
  have HR0 := hide hrow0
  have hst0 : Still w (V.alloc (.cells #[.int .u8 (loB hd)] 5)) := Kept.alloc (unhide HS) _
  have hb0 : BoxO (V.alloc (.cells #[.int .u8 (loB hd)] 5)) s0 o := (unhide HB).kept ((Kept.refl (fun _ => False) _).alloc _) (fun q => q)
  have HST0 := hide hst0
  have HB0 := hide hb0
  clear hrow0 hst0 hb0
  go_wp2_with fail
  refine (unhide HW0).mono ?_
  rintro en w1 ⟨u1, rfl, hr1, hg1⟩
  have hb1 := (unhide HB0).grew (unhide HR0) (by omega) hg1
  have hs1 := grew_still (unhide HST0) (unhide HR0) (by have := unhide Hs0; omega) hg1
  obtain ⟨la1, lc1, rfl, _, _⟩ := ownsRow_slice hr1
  have HR1 : Hid (w1.ownsRow (s0 + 1) 5 1 (.slice la1 3 lc1) 3 (([loB hd] ++ [hiB tok, loB tok]).map byteC)) := hr1
  have HB1 := hide hb1
  have HS1 := hide hs1
  have d0 := hb1.c0
  have hz1' := hs1.size
  have hV1 : s0 + 1 ≤ w1.heap.size := hb1.lt
  clear hr1 hg1 hb1 hs1 HW0 HR0 HST0 HB0 c0 c2 c3 HB HS HV0
  go_wp2_with fail
  refine (unhide HPK _).mono ?_
  rintro en w' ⟨rfl, hw⟩
  replace hw := hw.symm
  subst hw
  have WX := hide (word_W (unhide HR1) (by omega) hV1 (pa))
  go_wp2_with fail
  refine (unhide WX).mono ?_
  rintro en w2 ⟨u2, rfl, hr2, hg2⟩
  have hb2 := (unhide HB1).grew (unhide HR1) (by omega) hg2
  have hs2 := grew_still (unhide HS1) (unhide HR1) (by have := unhide Hs0; omega) hg2
  obtain ⟨la2, lc2, rfl, _, _⟩ := ownsRow_slice hr2
  have HR2 : Hid (w2.ownsRow (s0 + 1) 5 1 (.slice la2 5 lc2) 5 (([loB hd] ++ [hiB tok, loB tok] ++ [hiB (pa), loB (pa)]).map byteC)) := hr2
  have HB2 := hide hb2
  have HS2 := hide hs2
  have hV2 : s0 + 1 ≤ w2.heap.size := hb2.lt
  have e2 := hb2.c2
  have e3 := hb2.c3
  have e4 := hb2.c4
  have e5 := hb2.c5
  clear hr2 hg2 hb2 hs2 WX d0
  go_wp2_with fail
  refine (unhide HPC _).mono ?_
  rintro en w' ⟨rfl, hw⟩
  replace hw := hw.symm
  subst hw
  go_wp2_with (at_builtin; refine wpList_append_lies _ rfl _ _ _ rfl (s0 + 1) 5 i0 _ 1 1 Try.underlying29 hi0 hz0 hz1 hz2 rfl (by omega) (.slice la2 5 lc2) (5) _ rfl ((unhide HR2).alloc _) ⟨w2.heap.size, 0, none⟩ 2 2 [.int .u8 (loB pn), .int .u8 (loB pc)] rfl rfl (World.news_of_block (cs := #[.int .u8 (loB pn), .int .u8 (loB pc)]) (t := 5) (fr := (0, 0)) (heap_alloc_new w2 _)) (by simp [Value.oneCell']) (by omega) (by unfold maxLen; omega) (by omega) (by simp; omega) (w2.heap.size + 1) (by simp) ?_; intro g3 cap3 w3 hown4 hgrow4 hat4 hlt4; refine unhide ?_)
  refine hide ?_
  have hk3 := grew_of (n := 5 + 2) (cap := cap3) hgrow4 hat4 (by omega)
  have hs3 := grew_still (unhide HS2) (unhide HR2) (by have := unhide Hs0; omega) hk3
  have HR3 : Hid (w3.ownsRow (s0 + 1) 5 1 (.slice (some ⟨g3, 0, none⟩) (5 + 2) cap3) (5 + 2) (([loB hd] ++ [hiB tok, loB tok] ++ [hiB (pa), loB (pa)] ++ [loB pn, loB pc]).map byteC)) := by
    have := hown4
    refine hide ?_
    rw [List.map_append]
    exact this
  have HS3 := hide hs3
  clear hown4 hgrow4 hat4 hlt4 hk3 hs3
  go_wp2
  go_ret
  exact ⟨_, rfl, ownsRow_base (unhide HR3) (by have := unhide Hs0; omega), unhide HS3⟩
set_option maxRecDepth 100000 in
set_option maxHeartbeats 4000000 in
theorem asked_2 (o : OpD) (ho : OpOk o) (tok : Int) (w : World) (hkd : pickF o.kind 8 = 2) :
    Calls Try.prog 9 #[.int .i64 tok, .agg #[.int .i64 o.kind, .int .i64 o.who, .int .i64 o.a, .int .i64 o.b, .int .i64 o.c, .int .i64 o.d]] w fun en w' => ∃ v, en = .returned v ∧ w'.ownsRow w.heap.size 5 1 v (askB tok o).length ((askB tok o).map byteC) ∧ Still w w' := by
  obtain ⟨i0, hi0, hz0, hz1, hz2⟩ := info_parts infoByteX
  have hS : Still w (w.alloc (.cells #[.int .i64 o.kind, .int .i64 o.who, .int .i64 o.a, .int .i64 o.b, .int .i64 o.c, .int .i64 o.d] 34)) := (Kept.refl _ _).alloc _
  have HB := hide (BoxO.new w o 34)
  have HS := hide hS
  have HKD := hide hkd
  have eA : askB tok o = [loB (reqF 2), hiB tok, loB tok] ++ [loB (andF o.a 255), loB (andF o.b 255)] := by
    unfold askB askRest
    rw [hkd]
    rfl
  rw [eA]
  have hwh := wrap_lo (reqF 2)
  have hwn := wrap_lo (pfxL o.b)
  have hwc := wrap_lo (pickF o.c 256)
  have HPF := hide (fun w => prefixK o.a o.b w ho.a0 ho.a1 ho.b0 ho.b1)
  have HPK := hide (fun w => pickK o.kind 8 w (by omega) ho.k0 ho.k1)
  rw [hkd] at HPK
  have HRQ := hide (fun w => request_W 2 w (by omega) (by omega))
  have HPC := hide (fun w => pickK o.c 256 w (by omega) ho.c0 ho.c1)
  have HPA := hide (fun w => pickK o.a 65536 w (by omega) ho.a0 ho.a1)
  have hV0 : (w.alloc (.cells #[.int .i64 o.kind, .int .i64 o.who, .int .i64 o.a, .int .i64 o.b, .int .i64 o.c, .int .i64 o.d] 34)).heap.size = w.heap.size + 1 := by simp
  clear hS ho hkd eA HKD
  generalize reqF 2 = hd at *
  generalize pfxA o.a o.b = pa at *
  generalize pfxL o.b = pn at *
  generalize pickF o.c 256 = pc at *
  generalize pickF o.a 65536 = px at *
  go_enter Try.func9, Try.ntmps9
  go_wp2_with fail
  generalize hs0 : w.heap.size = s0 at *
  have Hs0 := hide hs0
  clear hs0
  generalize w.alloc (.cells #[.int .i64 o.kind, .int .i64 o.who, .int .i64 o.a, .int .i64 o.b, .int .i64 o.c, .int .i64 o.d] 34) = V at *
  have HV0 := hide hV0
  clear hV0
  have c0 := (unhide HB).c0
  have c2 := (unhide HB).c2
  have c3 := (unhide HB).c3
  refine (unhide HPF _).mono ?_
  rintro en w' ⟨rfl, hw⟩
  replace hw := hw.symm
  subst hw
  go_wp2_with fail
  refine (unhide HPK _).mono ?_
  rintro en w' ⟨rfl, hw⟩
  replace hw := hw.symm
  subst hw
  go_wp2_with fail
  refine (unhide HRQ _).mono ?_
  rintro en w' ⟨rfl, hw⟩
  replace hw := hw.symm
  subst hw
  have hrow0 : (V.alloc (.cells #[.int .u8 (loB hd)] 5)).ownsRow (s0 + 1) 5 1 (.slice (some ⟨V.heap.size, 0, none⟩) 1 1) 1 ([loB hd].map byteC) := bytesNew V [loB hd] (by have := unhide HV0; omega) (by simp)
  have HW0 := hide (word_W hrow0 (by omega) (by have := unhide HV0; simp; omega) tok)
  have HR0 := hide hrow0
  have hst0 : Still w (V.alloc (.cells #[.int .u8 (loB hd)] 5)) := Kept.alloc (unhide HS) _
  have hb0 : BoxO (V.alloc (.cells #[.int .u8 (loB hd)] 5)) s0 o := (unhide HB).kept ((Kept.refl (fun _ => False) _).alloc _) (fun q => q)
  have HST0 := hide hst0
  have HB0 := hide hb0
  clear hrow0 hst0 hb0
  go_wp2_with fail
  refine (unhide HW0).mono ?_
  rintro en w1 ⟨u1, rfl, hr1, hg1⟩
  have hb1 := (unhide HB0).grew (unhide HR0) (by omega) hg1
  have hs1 := grew_still (unhide HST0) (unhide HR0) (by have := unhide Hs0; omega) hg1
  obtain ⟨la1, lc1, rfl, _, _⟩ := ownsRow_slice hr1
  have HR1 : Hid (w1.ownsRow (s0 + 1) 5 1 (.slice la1 3 lc1) 3 (([loB hd] ++ [hiB tok, loB tok]).map byteC)) := hr1
  have HB1 := hide hb1
  have HS1 := hide hs1
  have d0 := hb1.c0
  have hz1' := hs1.size
  have hV1 : s0 + 1 ≤ w1.heap.size := hb1.lt
  clear hr1 hg1 hb1 hs1 HW0 HR0 HST0 HB0 c0 c2 c3 HB HS HV0
  go_wp2_with fail
  refine (unhide HPK _).mono ?_
  rintro en w' ⟨rfl, hw⟩
  replace hw := hw.symm
  subst hw
  have d2 := (unhide HB1).c2
  have d3 := (unhide HB1).c3
  have hwa := wrap_lo (andF o.a 255)
  have hwb := wrap_lo (andF o.b 255)
  unfold andF at *
  go_wp2_with (at_builtin; refine wpList_append_lies _ rfl _ _ _ rfl (s0 + 1) 5 i0 _ 1 1 Try.underlying29 hi0 hz0 hz1 hz2 rfl (by omega) (.slice la1 3 lc1) (3) _ rfl ((unhide HR1).alloc _) ⟨w1.heap.size, 0, none⟩ 2 2 [.int .u8 (loB (bits .and .i64 o.a 255)), .int .u8 (loB (bits .and .i64 o.b 255))] rfl rfl (World.news_of_block (cs := #[.int .u8 (loB (bits .and .i64 o.a 255)), .int .u8 (loB (bits .and .i64 o.b 255))]) (t := 5) (fr := (0, 0)) (heap_alloc_new w1 _)) (by simp [Value.oneCell']) (by omega) (by unfold maxLen; omega) (by omega) (by simp; omega) (w1.heap.size + 1) (by simp) ?_; intro g3 cap3 w3 hown4 hgrow4 hat4 hlt4; refine unhide ?_)
  refine hide ?_
  have hk3 := grew_of (n := 3 + 2) (cap := cap3) hgrow4 hat4 (by omega)
  have hs3 := grew_still (unhide HS1) (unhide HR1) (by have := unhide Hs0; omega) hk3
  have HR3 : Hid (w3.ownsRow (s0 + 1) 5 1 (.slice (some ⟨g3, 0, none⟩) (3 + 2) cap3) (3 + 2) (([loB hd] ++ [hiB tok, loB tok] ++ [loB (bits .and .i64 o.a 255), loB (bits .and .i64 o.b 255)]).map byteC)) := by
    have := hown4
    refine hide ?_
    rw [List.map_append]
    exact this
  have HS3 := hide hs3
  clear hown4 hgrow4 hat4 hlt4 hk3 hs3
  go_wp2
  go_ret
  exact ⟨_, rfl, ownsRow_base (unhide HR3) (by have := unhide Hs0; omega), unhide HS3⟩
set_option maxRecDepth 100000 in
set_option maxHeartbeats 4000000 in
theorem asked_7 (o : OpD) (ho : OpOk o) (tok : Int) (w : World) (hkd : pickF o.kind 8 = 7) :
    Calls Try.prog 9 #[.int .i64 tok, .agg #[.int .i64 o.kind, .int .i64 o.who, .int .i64 o.a, .int .i64 o.b, .int .i64 o.c, .int .i64 o.d]] w fun en w' => ∃ v, en = .returned v ∧ w'.ownsRow w.heap.size 5 1 v (askB tok o).length ((askB tok o).map byteC) ∧ Still w w' := by
  obtain ⟨i0, hi0, hz0, hz1, hz2⟩ := info_parts infoByteX
  have hS : Still w (w.alloc (.cells #[.int .i64 o.kind, .int .i64 o.who, .int .i64 o.a, .int .i64 o.b, .int .i64 o.c, .int .i64 o.d] 34)) := (Kept.refl _ _).alloc _
  have HB := hide (BoxO.new w o 34)
  have HS := hide hS
  have HKD := hide hkd
  have eA : askB tok o = [loB (reqF 7), hiB tok, loB tok] ++ [hiB (pickF o.a 65536), loB (pickF o.a 65536), loB (pickF o.c 256), loB (andF o.d 1)] := by
    unfold askB askRest
    rw [hkd]
    rfl
  rw [eA]
  have hwh := wrap_lo (reqF 7)
  have hwn := wrap_lo (pfxL o.b)
  have hwc := wrap_lo (pickF o.c 256)
  have HPF := hide (fun w => prefixK o.a o.b w ho.a0 ho.a1 ho.b0 ho.b1)
  have HPK := hide (fun w => pickK o.kind 8 w (by omega) ho.k0 ho.k1)
  rw [hkd] at HPK
  have HRQ := hide (fun w => request_W 7 w (by omega) (by omega))
  have HPC := hide (fun w => pickK o.c 256 w (by omega) ho.c0 ho.c1)
  have HPA := hide (fun w => pickK o.a 65536 w (by omega) ho.a0 ho.a1)
  have hV0 : (w.alloc (.cells #[.int .i64 o.kind, .int .i64 o.who, .int .i64 o.a, .int .i64 o.b, .int .i64 o.c, .int .i64 o.d] 34)).heap.size = w.heap.size + 1 := by simp
  clear hS ho hkd eA HKD
  generalize reqF 7 = hd at *
  generalize pfxA o.a o.b = pa at *
  generalize pfxL o.b = pn at *
  generalize pickF o.c 256 = pc at *
  generalize pickF o.a 65536 = px at *
  go_enter Try.func9, Try.ntmps9
  go_wp2_with fail
  generalize hs0 : w.heap.size = s0 at *
  have Hs0 := hide hs0
  clear hs0
  generalize w.alloc (.cells #[.int .i64 o.kind, .int .i64 o.who, .int .i64 o.a, .int .i64 o.b, .int .i64 o.c, .int .i64 o.d] 34) = V at *
  have HV0 := hide hV0
  clear hV0
  have c0 := (unhide HB).c0
  have c2 := (unhide HB).c2
  have c3 := (unhide HB).c3
  refine (unhide HPF _).mono ?_
  rintro en w' ⟨rfl, hw⟩
  replace hw := hw.symm
  subst hw
  go_wp2_with fail
  refine (unhide HPK _).mono ?_
  rintro en w' ⟨rfl, hw⟩
  replace hw := hw.symm
  subst hw
  go_wp2_with fail
  refine (unhide HRQ _).mono ?_
  rintro en w' ⟨rfl, hw⟩
  replace hw := hw.symm
  subst hw
  have hrow0 : (V.alloc (.cells #[.int .u8 (loB hd)] 5)).ownsRow (s0 + 1) 5 1 (.slice (some ⟨V.heap.size, 0, none⟩) 1 1) 1 ([loB hd].map byteC) := bytesNew V [loB hd] (by have := unhide HV0; omega) (by simp)
  have HW0 := hide (word_W hrow0 (by omega) (by have := unhide HV0; simp; omega) tok)
  have HR0 := hide hrow0
  have hst0 : Still w (V.alloc (.cells #[.int .u8 (loB hd)] 5)) := Kept.alloc (unhide HS) _
  have hb0 : BoxO (V.alloc (.cells #[.int .u8 (loB hd)] 5)) s0 o := (unhide HB).kept ((Kept.refl (fun _ => False) _).alloc _) (fun q => q)
  have HST0 := hide hst0
  have HB0 := hide hb0
  clear hrow0 hst0 hb0
  go_wp2_with fail
  refine (unhide HW0).mono ?_
  rintro en w1 ⟨u1, rfl, hr1, hg1⟩
  have hb1 := (unhide HB0).grew (unhide HR0) (by omega) hg1
  have hs1 := grew_still (unhide HST0) (unhide HR0) (by have := unhide Hs0; omega) hg1
  obtain ⟨la1, lc1, rfl, _, _⟩ := ownsRow_slice hr1
  have HR1 : Hid (w1.ownsRow (s0 + 1) 5 1 (.slice la1 3 lc1) 3 (([loB hd] ++ [hiB tok, loB tok]).map byteC)) := hr1
  have HB1 := hide hb1
  have HS1 := hide hs1
  have d0 := hb1.c0
  have hz1' := hs1.size
  have hV1 : s0 + 1 ≤ w1.heap.size := hb1.lt
  clear hr1 hg1 hb1 hs1 HW0 HR0 HST0 HB0 c0 c2 c3 HB HS HV0
  go_wp2_with fail
  refine (unhide HPK _).mono ?_
  rintro en w' ⟨rfl, hw⟩
  replace hw := hw.symm
  subst hw
  have d2 := (unhide HB1).c2
  go_wp2_with fail
  refine (unhide HPA _).mono ?_
  rintro en w' ⟨rfl, hw⟩
  replace hw := hw.symm
  subst hw
  have WX := hide (word_W (unhide HR1) (by omega) hV1 (px))
  go_wp2_with fail
  refine (unhide WX).mono ?_
  rintro en w2 ⟨u2, rfl, hr2, hg2⟩
  have hb2 := (unhide HB1).grew (unhide HR1) (by omega) hg2
  have hs2 := grew_still (unhide HS1) (unhide HR1) (by have := unhide Hs0; omega) hg2
  obtain ⟨la2, lc2, rfl, _, _⟩ := ownsRow_slice hr2
  have HR2 : Hid (w2.ownsRow (s0 + 1) 5 1 (.slice la2 5 lc2) 5 (([loB hd] ++ [hiB tok, loB tok] ++ [hiB (px), loB (px)]).map byteC)) := hr2
  have HB2 := hide hb2
  have HS2 := hide hs2
  have hV2 : s0 + 1 ≤ w2.heap.size := hb2.lt
  have e2 := hb2.c2
  have e3 := hb2.c3
  have e4 := hb2.c4
  have e5 := hb2.c5
  clear hr2 hg2 hb2 hs2 WX d0
  have hwd := wrap_lo (andF o.d 1)
  have hsl : s0 < w2.heap.size := (unhide HB2).lt
  have sn : s0 ≠ w2.heap.size := Nat.ne_of_lt hsl
  have HNS : Hid (some s0 ≠ (Value.slice la2 5 lc2).ownBlock) := fun e => by have := ((unhide HR2).lt s0 e.symm).1; omega
  unfold andF at *
  go_wp2_with fail
  go_region_held3 (fun w' => w'.cell? ⟨s0, 4, none⟩ = some (.int .i64 o.c) ∧ w'.cell? ⟨s0, 5, none⟩ = some (.int .i64 o.d)) (first | go_keep | (go_split_ands; exact ⟨(hgrow4.cell_far ⟨s0, 4, none⟩ (by simp; omega) (unhide HNS)).trans (by rw [World.cell?_drew, World.cell?_alloc_lt _ _ _ hsl]; exact e4), (hgrow4.cell_far ⟨s0, 5, none⟩ (by simp; omega) (unhide HNS)).trans (by rw [World.cell?_drew, World.cell?_alloc_lt _ _ _ hsl]; exact e5)⟩)) ((first | (go_at_call 8; refine (unhide HPC _).mono ?_; rintro en w' ⟨rfl, hw⟩; replace hw := hw.symm; subst hw) | (refine step_append_lies _ (by rfl) _ _ _ (by rfl) (s0 + 1) 5 i0 _ 1 1 Try.underlying29 hi0 hz0 hz1 hz2 rfl (by omega) (.slice la2 5 lc2) (5) _ (by rfl) (((unhide HR2).alloc _).drew) ⟨w2.heap.size, 0, none⟩ 2 2 [.int .u8 (loB pc), .int .u8 (loB (bits .and .i64 o.d 1))] (by rfl) (by rfl) (World.news_of_block (cs := #[.int .u8 (loB pc), .int .u8 (loB (bits .and .i64 o.d 1))]) (t := 5) (fr := (0, 0)) (heap_alloc_new w2 _)) (by simp [Value.oneCell']) (by omega) (by unfold maxLen; omega) (by omega) (by simp; omega) (w2.heap.size + 1) (by simp) ?_; intro g3 cap3 w3 hown4 hgrow4 hat4 hlt4)))
  all_goals
    have hk3 : Grew w2 w3 (.slice la2 5 lc2) (.slice (some ⟨g3, 0, none⟩) (5 + 2) cap3) := ⟨Kept.grown (Kept.drew ((Kept.refl _ _).alloc _)) hgrow4 (fun y hy => .inl hy), fun y hy => by
      have e' : g3 = y := by simpa [Value.ownBlock] using hy
      subst e'
      rcases hat4 with q | q
      · exact .inl q
      · exact .inr (by omega)⟩
    have hs3 := grew_still (unhide HS2) (unhide HR2) (by have := unhide Hs0; omega) hk3
    have HR3 : Hid (w3.ownsRow (s0 + 1) 5 1 (.slice (some ⟨g3, 0, none⟩) (5 + 2) cap3) (5 + 2) (([loB hd] ++ [hiB tok, loB tok] ++ [hiB px, loB px] ++ [loB pc, loB (bits .and .i64 o.d 1)]).map byteC)) := by
      have := hown4
      refine hide ?_
      rw [List.map_append]
      exact this
    have HS3 := hide hs3
    clear hown4 hgrow4 hat4 hlt4 hk3 hs3
    go_wp2
    go_ret
    exact ⟨_, rfl, ownsRow_base (unhide HR3) (by have := unhide Hs0; omega), unhide HS3⟩
end Go.Proofs.Ytgndledehlilkab
