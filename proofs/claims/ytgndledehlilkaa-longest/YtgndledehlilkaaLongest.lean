/-
  Longest: the walk.
-/
import Derived.Test.YtgndledehlilkaaLon
namespace Go.Proofs.Ytgndledehlilkaa
open Go.RowKit

theorem RawIn.still {w w' : World} {a : Option Addr} {n : Nat} {X : Nat → Int} (h : RawIn w a n X) (hs : Still w w') : RawIn w' a n X :=
  ⟨h.most, fun h0 => by
    obtain ⟨bs, off, e, hb, hX⟩ := h.at_ h0
    exact ⟨bs, off, e, Nat.lt_of_lt_of_le hb hs.size, fun i hi => ⟨(hs.cell bs _ hb).trans (hX i hi).1, (hX i hi).2⟩⟩⟩
theorem RawIn.read {w : World} {a : Option Addr} {n : Nat} {X : Nat → Int} (h : RawIn w a n X) {k : Nat} (hk : k < n) : ∃ bs off, a = some ⟨bs, off, none⟩ ∧ bs < w.heap.size ∧ w.cell? ⟨bs, off + k, none⟩ = some (.int .i64 (X k)) ∧ -9223372036854775808 ≤ X k ∧ X k ≤ 9223372036854775807 := by
  obtain ⟨bs, off, h1, h2, h3⟩ := h.at_ (by omega)
  exact ⟨bs, off, h1, h2, h3 k hk⟩
set_option maxRecDepth 100000 in
set_option maxHeartbeats 8000000 in
theorem longestS_any {w : World} {a : Option Addr} {n cap : Nat} {X : Nat → Int} (h : RawIn w a n X) {a2 : Option Addr} {n2 cap2 : Nat} {X2 : Nat → Int} (h2 : RawIn w a2 n2 X2) (c : Int) (c1 : -9223372036854775808 ≤ c) (c2 : c ≤ 9223372036854775807) :
    Calls Try.prog 5 #[.slice a n cap, .int .i64 c, .slice a2 n2 cap2] w fun e w' => e = .returned (.bool true) ∧ Still w w' := by
  have hlr := pickF_range c (n := 65536) (by omega)
  have HB := hide (begun3 w (q1 := 11) (q2 := 10) (q3 := 10) (by omega) (by omega) (by omega) (by omega))
  have hS0 : Still w (w.alloc (.cells #[.int .i64 11, .int .i64 10, .int .i64 10] 3)) := (Kept.refl _ _).alloc _
  have HS0 := hide hS0
  have HRAW := hide h
  have HRAW2 := hide h2
  have hn2 := h2.most
  clear h h2 hS0
  go_enter Try.func5, Try.ntmps5
  go_wp2_with fail
  refine (unhide HB).mono ?_
  rintro en w1 ⟨bx, rfl, hx⟩
  have HX := hide hx
  clear hx HB
  generalize w.alloc (.cells #[.int .i64 11, .int .i64 10, .int .i64 10] 3) = V0 at *
  go_wp2_with fail
  refine (sharedK (unhide HX) c).mono ?_
  rintro en w2 ⟨rfl, hn2'⟩
  obtain ⟨hx2, _⟩ := (unhide HX).step hn2'
  have HX2 := hide hx2
  have HRAWb := hide ((unhide HRAW).still ((unhide HS0).trans hx2.still))
  have hbl := hx2.lt
  clear hn2' hx2 HX HRAW
  generalize gS c (fun _ => 0) 3 = G at *
  generalize tS c (fun _ => 0) 3 = T at *
  go_wp2_with fail
  refine (onesK (unhide HRAWb)).mono ?_
  rintro en w3 ⟨L, v, rfl, hok, hrow, hst⟩
  have HBS : Hid (Beside w3 bx bx w2.heap.size v L) := ⟨hrow, fun g hg => by have := (hrow.lt g hg).1; omega⟩
  obtain ⟨la, lc, rfl, hl1, hl2⟩ := ownsRow_slice hrow
  have hll := hok.len
  have HOK := hide hok
  have HX3 := hide ((unhide HX2).again hst)
  clear hok hrow hst HX2 HRAWb
  generalize w2.heap.size = s2 at *
  go_wp2
  go_loopw [8, 10, 11] (fun ok i _ w' => ∃ k : Nat, k ≤ L.length ∧ i = .int .i64 k ∧ ok = .bool true ∧ On V0 w' (oneTag bx) 1 bx (sR (quota3 11 10 10) G T (L.take k)) ∧ Beside w' bx bx s2 (.slice la L.length lc) L) (fun _ i _ _ => L.length - (intOf i).toNat)
  case atStart => exact ⟨0, by omega, rfl, rfl, unhide HX3, unhide HBS⟩
  case round =>
    obtain ⟨k, hk, rfl, rfl, hon, hbs⟩ := hrel
    have HON4 := hide hon
    have HBS4 := hide hbs
    clear hon hbs HX3 HBS
    by_cases hkl : k < L.length
    · obtain ⟨t, ht, hf, e1, e2⟩ := round_left (G := G) (T := T) (fun _ => quota3_ge) (unhide HOK) hkl
      obtain ⟨g, rfl, hgl⟩ := ownsRow_some (unhide HBS4).row (by omega)
      obtain ⟨o0, o1, o2, o3, _⟩ := oneCell (unhide HBS4).row rfl hkl
      rw [hf] at o0
      generalize L.getD k rt0 = x at *
      obtain ⟨ng1, _⟩ := (unhide HBS4).off g rfl
      have HNG : Hid (¬ mineX (oneTag bx) 1 g) := fun q => ng1 ((oneTag_mine bx g).1 q)
      have E1 := hide e1
      have E2 := hide e2
      have hk0 : (0 : Int) ≤ (k : Int) := by omega
      have hkll : (k : Int) < (L.length : Int) := by omega
      have hwt : IntKind.i64.wrap ((t : Int) + 1) = (t : Int) + 1 := wrap_small (by omega) (by omega)
      have ht0 : (0 : Int) ≤ (t : Int) := by omega
      have ht3 : (t : Int) < 3 := by omega
      clear e1 e2 hf
      go_wp2_with fail
      have HONd := hide ((unhide HON4).again ((Kept.refl _ wr).drew))
      have HBSd := hide ((unhide HBS4).again ((Kept.refl _ wr).drew))
      go_region_held3 (fun w' => w'.cell? ⟨g, k * 5, none⟩ = some (.int .i64 (t : Int)) ∧ w'.cell? ⟨g, k * 5 + 1, none⟩ = some (.int .i64 x.addr) ∧ w'.cell? ⟨g, k * 5 + 2, none⟩ = some (.int .i64 x.len) ∧ w'.cell? ⟨g, k * 5 + 3, none⟩ = some (.int .i64 x.hop)) (first | go_keep | (go_split_ands; exact ⟨(hk5.cell (p := ⟨g, k * 5, none⟩) hgl (unhide HNG)).trans o0, (hk5.cell (p := ⟨g, k * 5 + 1, none⟩) hgl (unhide HNG)).trans o1, (hk5.cell (p := ⟨g, k * 5 + 2, none⟩) hgl (unhide HNG)).trans o2, (hk5.cell (p := ⟨g, k * 5 + 3, none⟩) hgl (unhide HNG)).trans o3⟩)) ((go_at_call 21; refine (on_insert0 (unhide HONd) (unhide E1) (unhide E2)).mono ?_; rintro en w5 ⟨rfl, O5, hO5, hon5, hk5, hnew5⟩))
      obtain ⟨hon6, hk6⟩ := (unhide HONd).step ⟨O5, hO5, hon5, hk5, hnew5⟩
      have HON5 := hide hon6
      have HBS5 := hide ((unhide HBSd).left hk6)
      clear hO5 hon5 hk5 hnew5 o0 o1 o2 o3 hon6 hk6
      go_wp2
      go_roundw
      case rel => exact ⟨k + 1, by omega, by go_num, rfl, unhide HON5, unhide HBS5⟩
      case measure => simp [intOf]; omega
    · obtain rfl : k = L.length := by omega
      have hfull : L.take L.length = L := List.take_of_length_le (Nat.le_refl _)
      have hon := unhide HON4
      rw [hfull] at hon
      obtain ⟨m1, hso, hro, hlen⟩ := lon_table hon.ok
      have hlast := fun (a0 : 0 ≤ pickF c 65536) (a1 : pickF c 65536 ≤ 65535) => lon_last hon.ok (unhide HOK) a0 a1
      generalize hla : pickF c 65536 = last at *
      have LA := hide hla
      clear hla
      obtain ⟨z1, z2, z3⟩ := hlast hlr.1 (by omega)
      generalize hR : sR (quota3 11 10 10) G T L = r at *
      generalize hTB : tableL r 1 = tb at *
      have HON5 := hide hon
      have M1 := hide m1
      have HSO := hide hso
      have HRO := hide hro
      have Z1 := hide z1
      have Z2 := hide z2
      have Z3 := hide z3
      have TB := hide hTB
      clear hon m1 hso hro z1 z2 z3 hTB hR hfull HON4 HBS4 hlast
      go_wp2_with fail
      refine (on_table0 (unhide HON5) (unhide M1) (unhide TB)).mono ?_
      rintro en w6 ⟨ta, tc, rfl, hr6, O6, hO6, hon6, hk6, _, hnew6⟩
      obtain ⟨hon7, hk7⟩ := (unhide HON5).step ⟨O6, hO6, hon6, hk6, hnew6⟩
      have hbw := (unhide HON5).lt
      obtain ⟨_, _, _, ht1, ht2⟩ := ownsRow_slice hr6
      have HON7 := hide hon7
      have HT7 : Hid (TabBy w6 bx wr.heap.size (.slice ta tb.length tc) tb) := ⟨hr6, fun g hg => by have := (hr6.lt g hg).1; omega⟩
      clear hr6 hO6 hon6 hk6 hnew6 hon7 hk7 hbw HON5
      generalize wr.heap.size = s6 at *
      go_wp2
      go_loopw [14, 15, 16, 17, 18] (fun i _ _ _ _ w' => ∃ k : Nat, k ≤ n2 ∧ i = .int .i64 k ∧ On V0 w' (oneTag bx) 1 bx r ∧ TabBy w' bx s6 (.slice ta tb.length tc) tb) (fun i _ _ _ _ _ => n2 - (intOf i).toNat)
      case atStart => exact ⟨0, by omega, rfl, unhide HON7, unhide HT7⟩
      case round =>
        obtain ⟨k, hk, rfl, hon, htb⟩ := hrel
        have HON8 := hide hon
        have HT8 := hide htb
        clear hon htb HON7 HT7
        by_cases hkn : k < n2
        · obtain ⟨bs, off, rfl, hbs, hc, b1, b2⟩ := (unhide HRAW2).read hkn
          have hst : Still w wr := (unhide HS0).trans (unhide HON8).still
          have x0 := (hst.cell bs (off + k) hbs).trans hc
          have hbsw : bs < wr.heap.size := Nat.lt_of_lt_of_le hbs hst.size
          have hk0 : (0 : Int) ≤ (k : Int) := by omega
          have hkn' : (k : Int) < (n2 : Int) := by omega
          generalize X2 k = xv at *
          have d12 : -9223372036854775808 ≤ xv.tdiv 7 ∧ xv.tdiv 7 ≤ 9223372036854775807 := by
            rcases Int.le_total 0 xv with h | h
            · rw [Int.tdiv_eq_ediv_of_nonneg h]; omega
            · have : xv.tdiv 7 = -((-xv).tdiv 7) := by rw [Int.neg_tdiv]; omega
              rw [this, Int.tdiv_eq_ediv_of_nonneg (by omega)]; omega
          obtain ⟨d1, d2⟩ := d12
          have hpr := pickF_range (xv.tdiv 7) (n := 256) (by omega)
          have hpa := pickF_range xv (n := 65536) (by omega)
          clear hst
          go_wp2_with fail
          refine (pickK _ _ _ (by omega) b1 b2).mono ?_
          rintro en w' ⟨rfl, hw⟩
          replace hw := hw.symm
          subst hw
          generalize pickF xv 65536 = ap at *
          obtain ⟨ap0, ap1⟩ := hpa
          by_cases htl : 0 < tb.length
          · obtain ⟨g, rfl, hgl⟩ := ownsRow_some (unhide HT8).row htl
            have hpt := pickF_range xv (n := (tb.length : Int)) (by omega)
            obtain ⟨j, hj⟩ : ∃ j : Nat, pickF xv (tb.length : Int) = (j : Int) := ⟨(pickF xv (tb.length : Int)).toNat, by omega⟩
            have hjl : j < tb.length := by omega
            obtain ⟨_, _, r2, _⟩ := rowCell (unhide HT8).row rfl hjl
            have hyo := unhide HRO (tb.getD j rt0) (by simp [List.getD_eq_getElem?_getD, hjl])
            generalize tb.getD j rt0 = y at *
            have hh0 := hyo.h0
            have hh1 := hyo.h1
            have HJ := hide hj
            have hj0 : (0 : Int) ≤ (j : Int) := by omega
            have hjl' : (j : Int) < (tb.length : Int) := by omega
            have hd : decide ((0 : Int) < (tb.length : Int)) = true := by simp; omega
            clear hyo hpt hj
            go_wp2_with fail
            refine (pickK _ _ _ (by omega) b1 b2).mono ?_
            rintro en w' ⟨rfl, hw⟩
            replace hw := hw.symm
            subst hw
            rw [unhide HJ]
            go_wp2_with fail
            refine (foundK (unhide HON8) (unhide HT8) (unhide M1) (unhide TB) (unhide HSO) (unhide HRO) hlen ap0 (by omega) hh0 hh1).mono ?_
            rintro en w9 ⟨rfl, hon9, hk9⟩
            have HON9 := hide hon9
            have HT9 := hide ((unhide HT8).step hk9)
            have hst9 : Still w w9 := (unhide HS0).trans hon9.still
            have x9 := (hst9.cell bs (off + k) hbs).trans hc
            have hbs9 : bs < w9.heap.size := Nat.lt_of_lt_of_le hbs hst9.size
            clear hon9 hk9 hst9 x0 HON8 HT8
            go_wp2_with fail
            refine (pickK _ _ _ (by omega) d1 d2).mono ?_
            rintro en w' ⟨rfl, hw⟩
            replace hw := hw.symm
            subst hw
            generalize pickF (xv.tdiv 7) 256 = hp at *
            go_wp2_with fail
            refine (foundK (unhide HON9) (unhide HT9) (unhide M1) (unhide TB) (unhide HSO) (unhide HRO) hlen ap0 (by omega) hpr.1 (by omega)).mono ?_
            rintro en w10 ⟨rfl, hon10, hk10⟩
            have HON10 := hide hon10
            have HT10 := hide ((unhide HT9).step hk10)
            clear hon10 hk10 HON9 HT9
            go_wp2
            go_roundw
            case rel => exact ⟨k + 1, by omega, by go_num, unhide HON10, unhide HT10⟩
            case measure => simp [intOf]; omega
          · have hh0 : (0 : Int) ≤ 0 := by omega
            have hh1 : (0 : Int) ≤ 255 := by omega
            have hd : decide ((0 : Int) < (tb.length : Int)) = false := decide_eq_false (by omega)
            go_wp2_with fail
            refine (foundK (unhide HON8) (unhide HT8) (unhide M1) (unhide TB) (unhide HSO) (unhide HRO) hlen ap0 (by omega) hh0 hh1).mono ?_
            rintro en w9 ⟨rfl, hon9, hk9⟩
            have HON9 := hide hon9
            have HT9 := hide ((unhide HT8).step hk9)
            have hst9 : Still w w9 := (unhide HS0).trans hon9.still
            have x9 := (hst9.cell bs (off + k) hbs).trans hc
            have hbs9 : bs < w9.heap.size := Nat.lt_of_lt_of_le hbs hst9.size
            clear hon9 hk9 hst9 x0 HON8 HT8
            go_wp2_with fail
            refine (pickK _ _ _ (by omega) d1 d2).mono ?_
            rintro en w' ⟨rfl, hw⟩
            replace hw := hw.symm
            subst hw
            generalize pickF (xv.tdiv 7) 256 = hp at *
            go_wp2_with fail
            refine (foundK (unhide HON9) (unhide HT9) (unhide M1) (unhide TB) (unhide HSO) (unhide HRO) hlen ap0 (by omega) hpr.1 (by omega)).mono ?_
            rintro en w10 ⟨rfl, hon10, hk10⟩
            have HON10 := hide hon10
            have HT10 := hide ((unhide HT9).step hk10)
            clear hon10 hk10 HON9 HT9
            go_wp2
            go_roundw
            case rel => exact ⟨k + 1, by omega, by go_num, unhide HON10, unhide HT10⟩
            case measure => simp [intOf]; omega
        · obtain rfl : k = n2 := by omega
          go_wp2_with fail
          refine (pickK _ _ _ (by omega) c1 c2).mono ?_
          rintro en w' ⟨rfl, hw⟩
          replace hw := hw.symm
          subst hw
          rw [unhide LA]
          go_wp2_with fail
          refine (on_insert0 (unhide HON8) (unhide Z1) rfl).mono ?_
          rintro en w9 ⟨rfl, hn9⟩
          obtain ⟨hon9, _⟩ := (unhide HON8).step hn9
          have HON9 := hide hon9
          clear hn9 hon9 HON8
          go_wp2_with fail
          refine (on_lookup0 (unhide HON9) (unhide Z2) (unhide Z3)).mono ?_
          rintro en w10 ⟨rfl, hn10⟩
          obtain ⟨hon10, _⟩ := (unhide HON9).step hn10
          have HST := hide (((unhide HS0).trans hon10.still).alloc (.cells #[.int .i64 last, .int .i64 16, .int .i64 201, .int .i64 0] 34))
          have hE : ∀ w, (binOp .eql 34 (.agg #[.int .i64 last, .int .i64 16, .int .i64 201, .int .i64 0]) (.agg #[.int .i64 last, .int .i64 16, .int .i64 201, .int .i64 0])).run Try.prog w = .ok (.bool true) w := fun w => by
            have := eqRoute ⟨last, 16, 201, 0⟩ ⟨last, 16, 201, 0⟩ w
            rw [(eqR_iff _ _).2 rfl] at this
            exact this
          clear hn10 hon10
          go_wp2
          go_ret
          exact ⟨rfl, unhide HST⟩
end Go.Proofs.Ytgndledehlilkaa
