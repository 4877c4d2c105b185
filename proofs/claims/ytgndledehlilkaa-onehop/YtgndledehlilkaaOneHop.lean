/-
  OneHop: the walk.
-/
import Derived.Test.YtgndledehlilkaaKeep4
import Derived.Test.YtgndledehlilkaaKeepQ
namespace Go.Proofs.Ytgndledehlilkaa
open Go.RowKit

theorem hop_len (x y : RouteD) : (tabF (hopR x y) 1).length ≤ 1000000 := by
  have h : (tabF (hopR x y) 1).length = ((hopR x y).life 1).own.length + (takenF (hopR x y) 1).length := by
    unfold tabF tableR takenF
    rw [sortR_len, List.length_append]
  have h2 : (takenF (hopR x y) 1).length ≤ 3 := by
    unfold takenF
    rw [List.length_take]
    have : spare ((hopR x y).life 1) = 3 := rfl
    omega
  rw [h, hop_life1]
  simp
  omega
set_option maxHeartbeats 4000000 in
theorem oneHop_any (a b hop : Int) (w : World) (a1 : -9223372036854775808 ≤ a) (a2 : a ≤ 9223372036854775807) (b1 : -9223372036854775808 ≤ b) (b2 : b ≤ 9223372036854775807) (c1 : -9223372036854775808 ≤ hop) (c2 : hop ≤ 9223372036854775807) :
    Calls Try.prog 9 #[.int .i64 a, .int .i64 b, .int .i64 hop] w fun e w' => e = .returned (.bool true) ∧ Still w w' := by
  have hS0 : Still w (w.alloc (.cells #[.int .i64 4, .int .i64 4, .int .i64 4] 3)) := (Kept.refl _ _).alloc _
  have hcell : ∀ j, j < ([4, 4, 4] : List Int).length → (w.alloc (.cells #[.int .i64 4, .int .i64 4, .int .i64 4] 3)).cell? ⟨w.heap.size, j, none⟩ = some (.int .i64 (([4, 4, 4] : List Int).getD j 0)) := by
    intro j hj
    rw [World.cell?_alloc_new]
    have hj' : j < 3 := hj
    have : j = 0 ∨ j = 1 ∨ j = 2 := by omega
    rcases this with rfl | rfl | rfl <;> rfl
  have hg : w.heap.size < (w.alloc (.cells #[.int .i64 4, .int .i64 4, .int .i64 4] 3)).heap.size := by simp
  have hB := begunK (w := w.alloc (.cells #[.int .i64 4, .int .i64 4, .int .i64 4] 3)) (g := w.heap.size) (cap := 3) (Q := [4, 4, 4]) (fun _ => (0, 0, 0)) 1 (fun _ _ => by simp) (by
    intro j hj
    have hj' : j < 3 := hj
    have : j = 0 ∨ j = 1 ∨ j = 2 := by omega
    rcases this with rfl | rfl | rfl <;> decide) (by decide) (by decide) hg hcell
  rw [show ([4, 4, 4] : List Int).length = 3 from rfl] at hB
  have HB := hide hB
  have HS0 := hide hS0
  have hp1 := pfx_is a b
  have hp2 := pfx_is b a
  have hh := pickF_range hop (n := 256) (by omega)
  have f0 := Firsts.beg [4, 4, 4] 3
  obtain ⟨i1, i2, f1⟩ := f0.insert1 (i := 0) (by omega) (hop := pickF hop 256) rfl (by show (1 : Int) ≤ 4; omega) hp1 ⟨hh.1, by omega⟩
  obtain ⟨j1, j2, f2⟩ := f1.insert1 (i := 1) (by omega) (hop := 8) rfl (by show (1 : Int) ≤ 4; omega) hp2 ⟨by omega, by omega⟩
  obtain ⟨k1, k2, f3⟩ := f2.share (i := 0) (by omega) (g := 1) (k := 0) (by omega) (by omega)
  obtain ⟨l1, l2, f4⟩ := f3.share (i := 1) (by omega) (g := 2) (k := 1) (by omega) (by omega)
  obtain ⟨m1, m2, f5⟩ := f4.share (i := 2) (by omega) (g := 4) (k := 2) (by omega) (by omega)
  obtain ⟨t1, t2⟩ := f5.table (i := 1) (by omega)
  obtain ⟨u1, u2⟩ := f5.table (i := 2) (by omega)
  generalize hx : (⟨pfxA a b, pfxL b, pickF hop 256, ((begF [4, 4, 4] 3).life 0).no⟩ : RouteD) = x at *
  generalize hy : (⟨pfxA b a, pfxL a, 8, ((ownS (begF [4, 4, 4] 3) 0 [x]).life 1).no⟩ : RouteD) = y at *
  have hx' : x = ⟨pfxA a b, pfxL b, pickF hop 256, 0⟩ := hx.symm
  have hy' : y = ⟨pfxA b a, pfxL a, 8, 1⟩ := hy.symm
  have q1 : x.from_ ≠ y.from_ := by rw [hx', hy']; simp
  have q2 : x.addr = pfxA a b := by rw [hx']
  have q3 : x.len = pfxL b := by rw [hx']
  have q4 : x.hop = pickF hop 256 := by rw [hx']
  have q5 : x.from_ = 0 := by rw [hx']
  have q6 : y.addr = pfxA b a := by rw [hy']
  have q7 : y.len = pfxL a := by rw [hy']
  have q8 : y.hop = 8 := by rw [hy']
  have q9 : y.from_ = 1 := by rw [hy']
  have i1' : insertR (begF [4, 4, 4] 3) 1 (pfxA a b) (pfxL b) (pickF hop 256) = 0 := i1
  have i2' : insertedR (begF [4, 4, 4] 3) 1 (pfxA a b) (pfxL b) (pickF hop 256) = ownS (begF [4, 4, 4] 3) 0 [x] := i2
  have j1' : insertR (ownS (begF [4, 4, 4] 3) 0 [x]) 2 (pfxA b a) (pfxL a) 8 = 0 := j1
  have j2' : insertedR (ownS (begF [4, 4, 4] 3) 0 [x]) 2 (pfxA b a) (pfxL a) 8 = ownS (ownS (begF [4, 4, 4] 3) 0 [x]) 1 [y] := j2
  have k1' : shareR (ownS (ownS (begF [4, 4, 4] 3) 0 [x]) 1 [y]) 1 1 0 = 0 := k1
  have k2' : sharedR (ownS (ownS (begF [4, 4, 4] 3) 0 [x]) 1 [y]) 1 1 0 = shareS (ownS (ownS (begF [4, 4, 4] 3) 0 [x]) 1 [y]) 0 1 0 := k2
  have l1' : shareR (shareS (ownS (ownS (begF [4, 4, 4] 3) 0 [x]) 1 [y]) 0 1 0) 2 2 1 = 0 := l1
  have l2' : sharedR (shareS (ownS (ownS (begF [4, 4, 4] 3) 0 [x]) 1 [y]) 0 1 0) 2 2 1 = shareS (shareS (ownS (ownS (begF [4, 4, 4] 3) 0 [x]) 1 [y]) 0 1 0) 1 2 1 := l2
  have m1' : shareR (shareS (shareS (ownS (ownS (begF [4, 4, 4] 3) 0 [x]) 1 [y]) 0 1 0) 1 2 1) 3 4 2 = 0 := m1
  have m2' : sharedR (shareS (shareS (ownS (ownS (begF [4, 4, 4] 3) 0 [x]) 1 [y]) 0 1 0) 1 2 1) 3 4 2 = hopR x y := m2
  have t1' : mayI (hopR x y) 2 1 = 0 := t1
  have t2' : tableL (hopR x y) 2 = tabF (hopR x y) 1 := t2
  have u1' : mayI (hopR x y) 3 1 = 0 := u1
  have u2' : tableL (hopR x y) 3 = tabF (hopR x y) 2 := u2
  clear i1 i2 j1 j2 k1 k2 l1 l2 m1 m2 t1 t2 u1 u2 f0 f1 f2 f3 f4 f5 hx hy hx' hy' hp1 hp2 hcell hg hB hS0
  generalize begF [4, 4, 4] 3 = r0 at *
  generalize ownS r0 0 [x] = r1 at *
  generalize ownS r1 1 [y] = r2 at *
  generalize shareS r2 0 1 0 = r3 at *
  generalize shareS r3 1 2 1 = r4 at *
  have I1 := hide i1'
  have I2 := hide i2'
  have J1 := hide j1'
  have J2 := hide j2'
  have K1 := hide k1'
  have K2 := hide k2'
  have L1 := hide l1'
  have L2 := hide l2'
  have M1 := hide m1'
  have M2 := hide m2'
  have T1 := hide t1'
  have T2 := hide t2'
  have U1 := hide u1'
  have U2 := hide u2'
  clear i1' i2' j1' j2' k1' k2' l1' l2' m1' m2' t1' t2' u1' u2'
  have Q1 := hide q1
  have Q2 := hide q2
  have Q3 := hide q3
  have Q4 := hide q4
  have Q5 := hide q5
  have Q6 := hide q6
  have Q7 := hide q7
  have Q8 := hide q8
  have Q9 := hide q9
  clear q1 q2 q3 q4 q5 q6 q7 q8 q9
  generalize hpa : pfxA a b = pa at *
  generalize hpl : pfxL b = pl at *
  generalize hqa : pfxA b a = qa at *
  generalize hql : pfxL a = ql at *
  generalize hph : pickF hop 256 = ph at *
  have PA := hide hpa
  have PL := hide hpl
  have QA := hide hqa
  have QL := hide hql
  have PH := hide hph
  clear hpa hpl hqa hql hph
  go_enter Try.func9, Try.ntmps9
  go_wp2_with fail
  refine (unhide HB).mono ?_
  rintro en w1 ⟨bx, O1, rfl, _, hon⟩
  have HON := hide hon
  clear hon HB
  go_wp2_with fail
  refine (prefixK _ _ _ a1 a2 b1 b2).mono ?_
  rintro en w' ⟨rfl, hw⟩
  replace hw := hw.symm
  subst hw
  rw [unhide PA, unhide PL]
  go_wp2_with fail
  refine (pickK _ _ _ (by omega) c1 c2).mono ?_
  rintro en w' ⟨rfl, hw⟩
  replace hw := hw.symm
  subst hw
  rw [unhide PH]
  go_wp2_with fail
  refine (on_insert0 (unhide HON) (unhide I1) (unhide I2)).mono ?_
  rintro en w2 ⟨rfl, O2, _, hon, _, _⟩
  have HON2 := hide hon
  clear hon HON
  go_wp2_with fail
  refine (prefixK _ _ _ b1 b2 a1 a2).mono ?_
  rintro en w' ⟨rfl, hw⟩
  replace hw := hw.symm
  subst hw
  rw [unhide QA, unhide QL]
  go_wp2_with fail
  refine (on_insert0 (unhide HON2) (unhide J1) (unhide J2)).mono ?_
  rintro en w3 ⟨rfl, O3, _, hon, _, _⟩
  have HON3 := hide hon
  clear hon HON2
  go_wp2_with fail
  refine (on_share0 (unhide HON3) (unhide K1) (unhide K2)).mono ?_
  rintro en w4 ⟨rfl, O4, _, hon, _, _⟩
  have HON4 := hide hon
  clear hon HON3
  go_wp2_with fail
  refine (on_share0 (unhide HON4) (unhide L1) (unhide L2)).mono ?_
  rintro en w5 ⟨rfl, O5, _, hon, _, _⟩
  have HON5 := hide hon
  clear hon HON4
  go_wp2_with fail
  refine (on_share0 (unhide HON5) (unhide M1) (unhide M2)).mono ?_
  rintro en w6 ⟨rfl, O6, _, hon, _, _⟩
  have HON6 := hide hon
  clear hon HON5
  have hok := (unhide HON6).ok
  have htab := hop_tab2 hok
  obtain ⟨n1, n2⟩ := hop_any hok (unhide Q1)
  rw [unhide Q2, unhide Q3, unhide Q6, unhide Q7] at n2
  have h64 := hop_len x y
  have N1 := hide n1
  have N2 := hide n2
  have U2' : Hid (tableL (hopR x y) 3 = [y]) := (unhide U2).trans htab
  clear n1 n2 htab hok U2
  generalize tabF (hopR x y) 1 = l at *
  go_wp2_with fail
  refine (on_table0 (unhide HON6) (unhide T1) (unhide T2)).mono ?_
  rintro en w7 ⟨va, vc, rfl, hrow, O7, hO7, hon, _, hnm, _⟩
  have HON7 := hide hon
  have HROW := hide hrow
  have HNM := hide hnm
  clear hon hrow hO7 hnm HON6
  go_wp2_with fail
  refine (on_table0 (unhide HON7) (unhide U1) (unhide U2')).mono ?_
  rintro en w8 ⟨ra, rc, rfl, hrow2, O8, hO8, hon, hk8, hnm2, _⟩
  have HON8 := hide hon
  have HROW2 := hide hrow2
  have HROW1 := hide (kept_row (unhide HROW) hk8 (unhide HNM))
  clear hon hrow2 hO8 hk8 hnm2 HROW HNM HON7
  have ex : x = ⟨pa, pl, ph, 0⟩ := by
    have e1 := unhide Q2; have e2 := unhide Q3; have e3 := unhide Q4; have e4 := unhide Q5
    obtain ⟨_, _, _, _⟩ := x
    simp only at e1 e2 e3 e4
    rw [e1, e2, e3, e4]
  have ey : y = ⟨qa, ql, 8, 1⟩ := by
    have e1 := unhide Q6; have e2 := unhide Q7; have e3 := unhide Q8; have e4 := unhide Q9
    obtain ⟨_, _, _, _⟩ := y
    simp only at e1 e2 e3 e4
    rw [e1, e2, e3, e4]
  subst ex ey
  have HS8 : Hid (Still w w8) := (unhide HS0).trans (unhide HON8).still
  obtain ⟨g2, rfl, hg2⟩ := ownsRow_some (unhide HROW2) (by simp)
  obtain ⟨d0, d1, d2, d3⟩ := rowCell (unhide HROW2) rfl (i := 0) (by simp)
  simp only [Nat.zero_mul, Nat.zero_add, List.getD_cons_zero] at d0 d1 d2 d3
  have D0 := hide d0
  have D1 := hide d1
  have D2 := hide d2
  have D3 := hide d3
  clear d0 d1 d2 d3 Q1 Q2 Q3 Q4 Q5 Q6 Q7 Q8 Q9 HON8 HROW2 U2' T2 T1 U1 M1 M2
  go_wp2_with fail
  refine (pickK _ _ _ (by omega) c1 c2).mono ?_
  rintro en w' ⟨rfl, hw⟩
  replace hw := hw.symm
  subst hw
  rw [unhide PH]
  have hSA : Still w8 (w8.alloc (.cells #[.int .i64 pa, .int .i64 pl, .int .i64 ph, .int .i64 0] 34)) := (Kept.refl _ _).alloc _
  have hSB : Still (w8.alloc (.cells #[.int .i64 pa, .int .i64 pl, .int .i64 ph, .int .i64 0] 34)) ((w8.alloc (.cells #[.int .i64 pa, .int .i64 pl, .int .i64 ph, .int .i64 0] 34)).alloc (.cells #[.int .i64 qa, .int .i64 ql, .int .i64 8, .int .i64 1] 34)) := (Kept.refl _ _).alloc _
  have hzA : (w8.alloc (.cells #[.int .i64 pa, .int .i64 pl, .int .i64 ph, .int .i64 0] 34)).heap.size = w8.heap.size + 1 := by simp
  have hb1 := (BoxX.new w8 ⟨pa, pl, ph, 0⟩ 34).kept hSB (fun q => q)
  have hb2 := BoxX.new (w8.alloc (.cells #[.int .i64 pa, .int .i64 pl, .int .i64 ph, .int .i64 0] 34)) ⟨qa, ql, 8, 1⟩ 34
  rw [hzA] at hb2
  have HSAB := hide (hSA.trans hSB)
  have HB1 := hide hb1
  have HB2 := hide hb2
  clear hSA hSB hzA hb1 hb2
  go_wp2_with fail
  generalize hs8 : w8.heap.size = s8 at *
  generalize (w8.alloc (.cells #[.int .i64 pa, .int .i64 pl, .int .i64 ph, .int .i64 0] 34)).alloc (.cells #[.int .i64 qa, .int .i64 ql, .int .i64 8, .int .i64 1] 34) = V at *
  have hrV := kept_row (unhide HROW1) (unhide HSAB) (fun _ _ q => q)
  refine (hasK hrV h64 ⟨qa, ql, 8, 1⟩).mono ?_
  rintro en w9 ⟨rfl, hs9⟩
  rw [unhide N1]
  have hb1 := (unhide HB1).kept hs9 (fun q => q)
  have q0 := hb1.c0
  have q1 := hb1.c1
  have q2 := hb1.c2
  have q3 := hb1.c3
  have ql1 := hb1.lt
  simp only at q0 q1 q2 q3
  have HR9 := hide (kept_row hrV hs9 (fun _ _ q => q))
  have HB29 := hide ((unhide HB2).kept hs9 (fun q => q))
  have HS9 := hide ((unhide HSAB).trans hs9)
  clear hrV hs9 hb1 HROW1 HB1 HB2 HSAB
  go_wp2_with fail
  refine (hasK (unhide HR9) h64 ⟨pa, pl, ph, 0⟩).mono ?_
  rintro en w10 ⟨rfl, hs10⟩
  rw [unhide N2]
  have hSt : Still w8 w10 := (unhide HS9).trans hs10
  have b8 := hSt.size
  have d0 := (hSt.cell g2 0 (by omega)).trans (unhide D0)
  have d1 := (hSt.cell g2 1 (by omega)).trans (unhide D1)
  have d2 := (hSt.cell g2 2 (by omega)).trans (unhide D2)
  have d3 := (hSt.cell g2 3 (by omega)).trans (unhide D3)
  have gl : g2 < w10.heap.size := by omega
  have hb2 := (unhide HB29).kept hs10 (fun q => q)
  have p0 := hb2.c0
  have p1 := hb2.c1
  have p2 := hb2.c2
  have p3 := hb2.c3
  have pl2 := hb2.lt
  simp only at p0 p1 p2 p3
  have hE := fun w => eqRoute ⟨qa, ql, 8, 1⟩ ⟨qa, ql, 8, 1⟩ w
  rw [(eqR_iff _ _).2 rfl] at hE
  simp only at hE
  have HSF : Hid (Still w w10) := (unhide HS8).trans hSt
  clear hSt hb2 hs10 HR9 HB29 HS9 q0 q1 q2 q3 ql1 D0 D1 D2 D3
  cases h1 : (pa == qa) with
  | true =>
    cases h2 : (pl == ql) with
    | true =>
      go_wp2_with fail
      go_quiet (fail)
      go_wp2
      go_ret
      exact ⟨rfl, (unhide HSF).drewN _⟩
    | false =>
      go_wp2_with fail
      go_quiet (fail)
      go_wp2
      go_ret
      exact ⟨rfl, (unhide HSF).drewN _⟩
  | false =>
    go_wp2_with fail
    go_quiet (fail)
    go_wp2
    go_ret
    exact ⟨rfl, (unhide HSF).drewN _⟩
end Go.Proofs.Ytgndledehlilkaa
