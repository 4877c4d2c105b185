/-
  Wired: the walk.
-/
import Derived.Test.YtgndledehlilkabWirO
import Derived.Test.YtgndledehlilkabPlay3
namespace Go.Proofs.Ytgndledehlilkab
open Go.RowKit

/-- The two engines, in one state. -/
structure WireAt (V0 w : World) (bx by_ : Nat) (r : RefS) : Prop where
  pair : Pair V0 w bx by_ r r
  at4 : At4 r
theorem okB (S : List Int) (h : (S.all fun x => decide (0 ≤ x ∧ x ≤ 255)) = true) : okBytes S := fun x hx => by
  have := List.all_eq_true.1 h x hx
  simpa using this
theorem do_first0 : doB (begF [5, 3, 2] 0) [1, 5] = [0, 0, 0, 1] ∧ doS (begF [5, 3, 2] 0) [1, 5] = begF [5, 3, 2] 1 := do_first (i := 0) (by omega) rfl
theorem do_first1 : doB (begF [5, 3, 2] 1) [1, 3] = [0, 1, 0, 2] ∧ doS (begF [5, 3, 2] 1) [1, 3] = begF [5, 3, 2] 2 := do_first (i := 1) (by omega) rfl
theorem do_first2 : doB (begF [5, 3, 2] 2) [1, 2] = [0, 2, 0, 3] ∧ doS (begF [5, 3, 2] 2) [1, 2] = begF [5, 3, 2] 3 := do_first (i := 2) (by omega) rfl
theorem strIs {w : World} {base g n cap : Nat} {F : List Int} {B : ByteArray} (h : w.ownsRow base 5 1 (.slice (some ⟨g, 0, none⟩) n cap) n (F.map byteC)) (hn : F.length = n) (hB : strOfNums F = B) : (convert 29 9 (.slice (some ⟨g, 0, none⟩) n cap)).run Try.prog w = .ok (.string B) w := by
  rw [← hB]
  exact strRow h hn
set_option maxRecDepth 20000 in
set_option maxHeartbeats 16000000 in
theorem wired_any {w : World} {a : Option Addr} {n cap : Nat} {X : Nat → OpD} (h : OpsIn w a n X) :
    Calls Try.prog 3 #[.slice a n cap] w fun e w' => e = .returned (.bool true) ∧ Still w w' := by
  have HB := hide (begunW w)
  have hS0 : Still w (w.alloc (.cells #[.int .i64 5, .int .i64 3, .int .i64 2] 3)) := (Kept.refl _ _).alloc _
  have HS0 := hide hS0
  have HOPS := hide h
  have hnm := h.most
  clear h hS0
  go_enter Try.func3, Try.ntmps3
  go_wp2_with fail
  refine (unhide HB).mono ?_
  rintro en w1 ⟨bx, rfl, hx⟩
  have HX := hide hx
  clear hx HB
  generalize w.alloc (.cells #[.int .i64 5, .int .i64 3, .int .i64 2] 3) = V0 at *
  go_wp2_with fail
  refine (newW w1).mono ?_
  rintro en w2 ⟨by_, rfl, hy⟩
  have HP := hide (pair_start (unhide HX) (Kept.refl _ _) hy)
  clear hy HX
  have HD := hide ((unhide HP).lit [1, 5] (n := 2) (m := 4) (C := #[.int .u8 1, .int .u8 5]) (okB _ (by decide)) rfl (by omega) rfl do_first0.1 do_first0.2 rfl (by decide))
  go_wp2_with fail
  refine (unhide HD).mono ?_
  rintro en w3 ⟨g3, c3, rfl, hr3, hp3, hk3⟩
  have HP3 := hide hp3
  have HR3 := hide hr3
  have hy3 : by_ < w2.heap.size := (unhide HP).y.lt
  have hz3 := hk3.size
  clear hr3 hp3 hk3 HP HD
  have HD := hide ((unhide HP3).lit [1, 3] (n := 2) (m := 4) (C := #[.int .u8 1, .int .u8 3]) (okB _ (by decide)) rfl (by omega) rfl do_first1.1 do_first1.2 rfl (by decide))
  go_wp2_with fail
  refine (unhide HD).mono ?_
  rintro en w4 ⟨g4, c4, rfl, hr4, hp4, hk4⟩
  have HP4 := hide hp4
  have HR4 := hide hr4
  have HR3b := hide (kept_row (unhide HR3) hk4 (fun g hg => by have := ((unhide HR3).lt g hg).1; omega))
  have hz4 := hk4.size
  clear hr4 hp4 hk4 HP3 HD HR3
  have HD := hide ((unhide HP4).lit [1, 2] (n := 2) (m := 4) (C := #[.int .u8 1, .int .u8 2]) (okB _ (by decide)) rfl (by omega) rfl do_first2.1 do_first2.2 rfl (by decide))
  go_wp2_with fail
  refine (unhide HD).mono ?_
  rintro en w5 ⟨g5, c5, rfl, hr5, hp5, hk5⟩
  have HP5 := hide hp5
  have HR3c := hide (kept_row (unhide HR3b) hk5 (fun g hg => by have := ((unhide HR3b).lt g hg).1; omega))
  have HR4c := hide (kept_row (unhide HR4) hk5 (fun g hg => by have := ((unhide HR4).lt g hg).1; omega))
  have hz5 := hk5.size
  have s3 := strIs (B := ⟨#[0, 0, 0, 1]⟩) (unhide HR3c) rfl rfl
  have s4 := strIs (B := ⟨#[0, 1, 0, 2]⟩) (unhide HR4c) rfl rfl
  have s5 := strIs (B := ⟨#[0, 2, 0, 3]⟩) hr5 rfl rfl
  obtain ⟨e1, e2, e3⟩ := derive4 [5, 3, 2]
  have E1 := hide e1
  have E2 := hide e2
  have E3 := hide e3
  clear hr5 hp5 hk5 HP4 HD HR3b HR4 e1 e2 e3
  go_wp2_with fail
  refine (on_derive0 (unhide HP5).x (unhide E1) (unhide E2) rfl).mono ?_
  rintro en w6 ⟨rfl, hn6⟩
  obtain ⟨hp6, hk6⟩ := (unhide HP5).left hn6
  have HP6 := hide hp6
  have hy5 : by_ < w5.heap.size := (unhide HP5).y.lt
  have hz6 := hk6.size
  clear hn6 hp6 hk6 HP5 HR3c HR4c s3 s4 s5
  have hdd := do_derive (begF [5, 3, 2] 3)
  rw [unhide E1, unhide E2] at hdd
  have HD := hide ((unhide HP6).lit [3, 0, 1, 9] (n := 4) (m := 3) (F := [0, 0, 4]) (C := #[.int .u8 3, .int .u8 0, .int .u8 1, .int .u8 9]) (okB _ (by decide)) rfl (by omega) rfl hdd.1 hdd.2 rfl (by decide))
  clear hdd
  go_wp2_with fail
  refine (unhide HD).mono ?_
  rintro en w7 ⟨g7, c7, rfl, hr7, hp7, hk7⟩
  have HH : Hid (WireAt V0 w7 bx by_ (derivedR (begF [5, 3, 2] 3) 1 9)) := ⟨hp7, unhide E3⟩
  have s7 := strIs (B := ⟨#[0, 0, 4]⟩) hr7 rfl rfl
  clear hr7 hp7 hk7 HD HP6 E1 E2 E3
  generalize derivedR (begF [5, 3, 2] 3) 1 9 = r0 at *
  go_wp2
  go_loopw [12, 13, 14, 15, 16, 17, 18, 19] (fun i _ _ _ _ _ _ _ w' => ∃ k : Nat, k ≤ n ∧ i = .int .i64 k ∧ ∃ r, WireAt V0 w' bx by_ r) (fun i _ _ _ _ _ _ _ _ => n - (intOf i).toNat)
  case atStart => exact ⟨0, by omega, rfl, r0, unhide HH⟩
  case round =>
    obtain ⟨k, hk, rfl, r, hh⟩ := hrel
    have HHR := hide hh
    clear hh HH s7
    by_cases hkn : k < n
    · obtain ⟨bs, off, rfl, hbs, hX⟩ := (unhide HOPS).at_ (by omega)
      obtain ⟨ho, d0, d1, d2, d3, d4, d5⟩ := hX k hkn
      have hst : Still w wr := (unhide HS0).trans (unhide HHR).pair.x.still
      have x0 := (hst.cell bs _ hbs).trans d0
      have x1 := (hst.cell bs _ hbs).trans d1
      have x2 := (hst.cell bs _ hbs).trans d2
      have x3 := (hst.cell bs _ hbs).trans d3
      have x4 := (hst.cell bs _ hbs).trans d4
      have x5 := (hst.cell bs _ hbs).trans d5
      have hbsw : bs < wr.heap.size := Nat.lt_of_lt_of_le hbs hst.size
      have hk0 : (0 : Int) ≤ (k : Int) := by omega
      have hkl : (k : Int) < (n : Int) := by omega
      generalize X k = o at *
      have hSA : Still wr (wr.alloc (.cells #[.int .i64 o.kind, .int .i64 o.who, .int .i64 o.a, .int .i64 o.b, .int .i64 o.c, .int .i64 o.d] 34)) := (Kept.refl _ _).alloc _
      have hbo := BoxO.new wr o 34
      have HBO := hide hbo
      have HP := hide ((unhide HHR).pair.again hSA)
      have H4 := hide (unhide HHR).at4
      have HO := hide ho
      have hbl : bx < wr.heap.size := (unhide HHR).pair.x.lt
      have hyl : by_ < wr.heap.size := (unhide HHR).pair.y.lt
      have hwr := pickF_range o.who (n := 6) (by omega)
      have b0 := hbo.c0
      have b1 := hbo.c1
      have b2 := hbo.c2
      have b3 := hbo.c3
      have b4 := hbo.c4
      have b5 := hbo.c5
      have bl := hbo.lt
      have HA := hide (asks_W r (tok := pickF o.who 6) (by omega) (by omega) o)
      have hln := askB_len (pickF o.who 6) o
      have HAO := hide (askB_ok (pickF o.who 6) o)
      clear hX ho d0 d1 d2 d3 d4 d5 hst hSA hbo HHR
      go_wp2_with fail
      generalize hso : wr.heap.size = s7 at *
      generalize wr.alloc (.cells #[.int .i64 o.kind, .int .i64 o.who, .int .i64 o.a, .int .i64 o.b, .int .i64 o.c, .int .i64 o.d] 34) = U at *
      refine (pickK _ _ _ (by omega) (unhide HO).w0 (unhide HO).w1).mono ?_
      rintro en w' ⟨rfl, hw⟩
      replace hw := hw.symm
      subst hw
      generalize pickF o.who 6 = tok at *
      clear x0 x1 x2 x3 x4 x5
      go_wp2_with fail
      refine (asked_W o (unhide HO) tok U).mono ?_
      rintro en w8 ⟨v8, rfl, hr8, hs8⟩
      generalize askB tok o = S at *
      obtain ⟨_, c8, rfl, _, _⟩ := ownsRow_slice hr8
      obtain ⟨g8, rfl, _⟩ := ownsRow_some hr8 (by omega)
      have hg8 := (hr8.lt g8 (by simp [Value.ownBlock])).1
      have hU : s7 + 1 ≤ U.heap.size := bl
      have HP8 := hide ((unhide HP).again hs8)
      have HR8 := hide hr8
      have hbo8 := (unhide HBO).kept hs8 (fun q => q)
      have HBO8 := hide hbo8
      have e4 := hbo8.c4
      have el := hbo8.lt
      have hz8 := hs8.size
      clear hr8 hs8 hbo8 HP HBO b0 b1 b2 b3 b4 b5 bl
      go_wp2_with fail
      refine (none_W (unhide HP8) (unhide HR8) (unhide HAO) (unhide HA).req hln.2 hln.1 (by omega) o.c (unhide HO).c0 (unhide HO).c1).mono ?_
      rintro en w9 ⟨rfl, hp9, hk9⟩
      have HP9 := hide hp9
      have HR9 := hide (kept_row (unhide HR8) hk9 (fun g hg => by have := ((unhide HR8).lt g hg).1; omega))
      have hbo9 := (unhide HBO8).kept hk9 (by omega)
      have HBO9 := hide hbo9
      have b0 := hbo9.c0
      have b1 := hbo9.c1
      have b2 := hbo9.c2
      have b3 := hbo9.c3
      have b4 := hbo9.c4
      have b5 := hbo9.c5
      have bl := hbo9.lt
      have hz9 := hk9.size
      have HT := hide (told_len (unhide HP9).x.ok tok o 255)
      clear hp9 hk9 hbo9 HP8 HR8 HBO8 e4 el
      go_wp2_with fail
      refine (playK (unhide HP9).x o (unhide HO) tok 255).mono ?_
      intro en w3' hp3
      obtain ⟨la3, lc3, rfl, hrow3, hon3, hk3⟩ := hp3
      rw [toldArr]
      have HA4 := hide ((unhide H4).play tok o 255)
      have HANS := hide (unhide HA).ans
      have HLEFT := hide (unhide HA).left
      clear HA H4
      generalize playT r tok o 255 = td at *
      generalize playS r tok o 255 = r3 at *
      have hS3 : Still w3' (w3'.alloc (.cells #[.int .i64 td.e, .slice la3 td.l.length lc3, .int .i64 td.s.own, .int .i64 td.s.taken, .int .i64 td.s.dropped, .int .i64 td.s.quota, .int .i64 td.r.addr, .int .i64 td.r.len, .int .i64 td.r.hop, .int .i64 td.r.from_, .bool td.b] 44)) := (Kept.refl _ _).alloc _
      have ht3 := ToldAt.make w3' td (.slice la3 td.l.length lc3) 44
      have hbo3 := ((unhide HBO9).kept hk3 (by omega)).kept hS3 (fun q => q)
      have HP3 := hide (((unhide HP9).leftK hon3 hk3).again hS3)
      have HRT := hide (kept_row hrow3 hS3 (fun _ _ q => q))
      have HRQ := hide (kept_row (kept_row (unhide HR9) hk3 (fun g hg => by have := ((unhide HR9).lt g hg).1; omega)) hS3 (fun _ _ q => q))
      have hz10 := hk3.size
      have hz11 := hS3.size
      have hne : s7 ≠ w3'.heap.size := by omega
      have e0 := hbo3.c0
      have e1 := hbo3.c1
      have e2 := hbo3.c2
      have e3 := hbo3.c3
      have e4 := hbo3.c4
      have e5 := hbo3.c5
      have el := hbo3.lt
      have a0 := ht3.c0
      have a1 := ht3.c1
      have a2 := ht3.c2
      have a3 := ht3.c3
      have a4 := ht3.c4
      have a5 := ht3.c5
      have a6 := ht3.c6
      have a7 := ht3.c7
      have a8 := ht3.c8
      have a9 := ht3.c9
      have a10 := ht3.c10
      have al := ht3.lt
      clear hrow3 hon3 hk3 hS3 ht3 hbo3 HBO9 HP9 HR9 b0 b1 b2 b3 b4 b5 bl
      go_wp2_with fail
      generalize hs9 : w3'.heap.size = s9 at *
      generalize w3'.alloc (.cells #[.int .i64 td.e, .slice la3 td.l.length lc3, .int .i64 td.s.own, .int .i64 td.s.taken, .int .i64 td.s.dropped, .int .i64 td.s.quota, .int .i64 td.r.addr, .int .i64 td.r.len, .int .i64 td.r.hop, .int .i64 td.r.from_, .bool td.b] 44) = W3 at *
      refine (answered_W o (unhide HO) td (unhide HRT) (unhide HT)).mono ?_
      rintro en w11 ⟨v11, rfl, hr11, hs11⟩
      have hpos := ansT_pos o td
      obtain ⟨_, c11, rfl, _, _⟩ := ownsRow_slice hr11
      obtain ⟨g11, rfl, _⟩ := ownsRow_some hr11 hpos
      have hrq := kept_row (unhide HRQ) hs11 (fun _ _ q => q)
      have HP11 := hide ((unhide HP3).again hs11)
      have hb11 := BytesIn.rowB hrq rfl (unhide HAO) (by omega)
      have HD := hide ((unhide HP11).do2 hb11)
      rw [unhide HANS, unhide HLEFT] at HD
      have HR11 := hide hr11
      have hz12 := hs11.size
      have hyW : by_ < W3.heap.size := (unhide HP3).y.lt
      clear hr11 hs11 hrq hb11 HP3 HRQ HRT e0 e1 e2 e3 e4 e5 el a0 a1 a2 a3 a4 a5 a6 a7 a8 a9 a10 al HANS HLEFT HT HAO
      go_wp2_with fail
      refine (unhide HD).mono ?_
      rintro en w12 ⟨a12, c12, rfl, hr12, hp12, hk12⟩
      obtain ⟨g12, rfl, _⟩ := ownsRow_some hr12 hpos
      have hr11 := kept_row (unhide HR11) hk12 (fun g hg => by have := ((unhide HR11).lt g hg).1; omega)
      have t1 := strRow hr11 rfl
      have t2 := strRow hr12 rfl
      have HH2 : Hid (WireAt V0 w12 bx by_ r3) := ⟨hp12, unhide HA4⟩
      clear hr11 hr12 hp12 hk12 HP11 HD HR11 HA4
      generalize strOfNums (ansT o td) = str at *
      generalize (ansT o td).length = m12 at *
      go_wp2
      go_roundw
      case rel => exact ⟨k + 1, by omega, by go_num, r3, unhide HH2⟩
      case measure => simp [intOf]; omega
    · obtain rfl : k = n := by omega
      obtain ⟨r2, r3, m1, m2, m3, m4, m5, m6⟩ := (unhide HHR).at4.ends (unhide HHR).pair.x.ok
      have HP := hide (unhide HHR).pair
      have f1 := do_revoke r
      rw [m1, m2] at f1
      have f2 := do_drop r2
      rw [m3, m4] at f2
      have f3 := do_count r3
      rw [m5, m6] at f3
      have hyl : by_ < wr.heap.size := (unhide HHR).pair.y.lt
      have hbl : bx < wr.heap.size := (unhide HHR).pair.x.lt
      have M1 := hide m1
      have M2 := hide m2
      have M3 := hide m3
      have M4 := hide m4
      have M5 := hide m5
      have M6 := hide m6
      have F1 := hide f1
      have F2 := hide f2
      have F3 := hide f3
      clear m1 m2 m3 m4 m5 m6 f1 f2 f3 HHR
      go_wp2_with fail
      refine (on_revoke0 (unhide HP).x (unhide M1) (unhide M2)).mono ?_
      rintro en u1 ⟨rfl, hn1⟩
      obtain ⟨hp1, hk1⟩ := (unhide HP).left hn1
      have HD := hide (hp1.lit [4, 0, 1, 0, 4] (n := 5) (m := 1) (F := [0]) (C := #[.int .u8 4, .int .u8 0, .int .u8 1, .int .u8 0, .int .u8 4]) (okB _ (by decide)) rfl (by omega) rfl (unhide F1).1 (unhide F1).2 rfl (by decide))
      have z1 := hk1.size
      clear hn1 hp1 hk1 HP
      go_wp2_with fail
      refine (unhide HD).mono ?_
      rintro en u2 ⟨g2, c2, rfl, hr2, hp2, hk2⟩
      have HP2 := hide hp2
      have HR2 := hide hr2
      have z2 := hk2.size
      clear hr2 hp2 hk2 HD
      go_wp2_with fail
      refine (on_drop0 (unhide HP2).x (unhide M3) (unhide M4)).mono ?_
      rintro en u3 ⟨rfl, hn3⟩
      obtain ⟨hp3, hk3⟩ := (unhide HP2).left hn3
      have HR2b := hide (kept_row (unhide HR2) hk3 (fun g hg => by have := ((unhide HR2).lt g hg).1; omega))
      have HD := hide (hp3.lit [2, 1] (n := 2) (m := 1) (F := [0]) (C := #[.int .u8 2, .int .u8 1]) (okB _ (by decide)) rfl (by omega) rfl (unhide F2).1 (unhide F2).2 rfl (by decide))
      have z3 := hk3.size
      clear hn3 hp3 hk3 HP2 HR2
      go_wp2_with fail
      refine (unhide HD).mono ?_
      rintro en u4 ⟨g4', c4', rfl, hr4, hp4, hk4⟩
      have HP4 := hide hp4
      have HR4 := hide hr4
      have HR2c := hide (kept_row (unhide HR2b) hk4 (fun g hg => by have := ((unhide HR2b).lt g hg).1; omega))
      have z4 := hk4.size
      clear hr4 hp4 hk4 HD HR2b
      go_wp2_with fail
      refine (on_count0 (unhide HP4).x (unhide M5) (unhide M6)).mono ?_
      rintro en u5 ⟨rfl, hn5⟩
      obtain ⟨hp5, hk5⟩ := (unhide HP4).left hn5
      have hS5 : Still u5 (u5.alloc (.cells #[.int .i64 0, .int .i64 0, .int .i64 0, .int .i64 0] 40)) := (Kept.refl _ _).alloc _
      have HP5 := hide (hp5.again hS5)
      have HR2d := hide (kept_row (kept_row (unhide HR2c) hk5 (fun g hg => by have := ((unhide HR2c).lt g hg).1; omega)) hS5 (fun _ _ q => q))
      have HR4d := hide (kept_row (kept_row (unhide HR4) hk5 (fun g hg => by have := ((unhide HR4).lt g hg).1; omega)) hS5 (fun _ _ q => q))
      have z5 := hk5.size
      have z6 := hS5.size
      have HQ := hide (SumAt.new u5 0 0 0 0 40)
      have hsz : (u5.alloc (.cells #[.int .i64 0, .int .i64 0, .int .i64 0, .int .i64 0] 40)).heap.size = u5.heap.size + 1 := by simp
      clear hn5 hp5 hk5 hS5 HP4 HR2c HR4
      go_wp2_with fail
      generalize u5.alloc (.cells #[.int .i64 0, .int .i64 0, .int .i64 0, .int .i64 0] 40) = U5 at *
      rw [← hsz]
      refine ((unhide HP5).lit [12, 0, 2] (n := 3) (m := 1) (F := [3]) (C := #[.int .u8 12, .int .u8 0, .int .u8 2]) (okB _ (by decide)) rfl (by omega) rfl (unhide F3).1 (unhide F3).2 rfl (by decide)).mono ?_
      rintro en u6 ⟨g6, c6, rfl, hr6, hp6, hk6⟩
      have hr2 := kept_row (unhide HR2d) hk6 (fun g hg => by have := ((unhide HR2d).lt g hg).1; omega)
      have hr4 := kept_row (unhide HR4d) hk6 (fun g hg => by have := ((unhide HR4d).lt g hg).1; omega)
      have hq := (unhide HQ).kept hk6 (by omega)
      have s2 := strIs (B := ⟨#[0]⟩) hr2 rfl rfl
      have s4 := strIs (B := ⟨#[0]⟩) hr4 rfl rfl
      have s6 := strIs (B := ⟨#[3]⟩) hr6 rfl rfl
      have q0 := hq.c0
      have q1 := hq.c1
      have q2 := hq.c2
      have q3 := hq.c3
      have ql := hq.lt
      have HST := hide ((unhide HS0).trans hp6.x.still)
      clear hr2 hr4 hr6 hp6 hk6 hq HQ HP5 HR2d HR4d
      generalize u5.heap.size = s5 at *
      go_wp2
      go_ret
      exact ⟨rfl, unhide HST⟩
end Go.Proofs.Ytgndledehlilkab
