/-
  Walks: districtlaw: sign; looks, with the lists that came out.
-/
import Derived.Test.YtgndledehlilkaaGreatLawM2
namespace Go.Proofs.YtgndledehlilkaaGreat
open Go.RowKit

set_option maxHeartbeats 400000 in
theorem sign_any (k i : Nat) (w : World) (hk : k ≤ 4611686018427387904) (hi : i ≤ 9223372036854775807) :
    Calls Tryz.prog 19 #[.int .i64 (k : Int), .int .i64 (i : Int)] w fun en w' => en = .returned (signC k i) ∧ w' = w := by
  have e1 : IntKind.u8.wrap (k : Int) = ((k % 256 : Nat) : Int) := by unfold IntKind.wrap; simp [IntKind.bits, IntKind.signed]
  have e2 : IntKind.u8.wrap ((k : Int) / 256) = ((k / 256 % 256 : Nat) : Int) := by unfold IntKind.wrap; simp [IntKind.bits, IntKind.signed]
  have e3 : (k : Int).tdiv 256 = (k : Int) / 256 := Int.tdiv_eq_ediv_of_nonneg (by omega)
  have e4 : (i : Int).tmod 2 = (i : Int) % 2 := Int.tmod_eq_emod_of_nonneg (by omega)
  by_cases h : i % 2 = 0
  · have e5 : (i : Int) % 2 = 0 := by omega
    have hs : signC k i = .int .u8 ((k % 256 : Nat) : Int) := by unfold signC; rw [if_pos h]
    rw [hs]
    go_enter Tryz.func19, Tryz.ntmps19
    go_wp2
    go_ret
    exact ⟨by simp, rfl⟩
  · have e5 : (i : Int) % 2 = 1 := by omega
    have hs : signC k i = .int .u8 ((k / 256 % 256 : Nat) : Int) := by unfold signC; rw [if_neg h]
    rw [hs]
    go_enter Tryz.func19, Tryz.ntmps19
    go_wp2
    go_ret
    exact ⟨by simp, rfl⟩
theorem neRouteM (x : RouteD) (w : World) : (binOp .neq 50 (.agg #[.int .i64 x.addr, .int .i64 x.len, .int .i64 x.hop, .int .i64 x.from_]) (.agg #[.int .i64 x.addr, .int .i64 x.len, .int .i64 x.hop, .int .i64 x.from_])).run Tryz.prog w = .ok (.bool false) w := by
  have hu := Tryz.underlying50
  have hf : Tryz.prog.underlying 50 = some (.struct (Tryz.prog.fieldsOf 50)) := by unfold Program.fieldsOf; rw [hu]
  have hp : Tryz.prog.stoodInHeld 50 = false := by kernel_rfl
  rw [run_neq_struct, run_equalIn_struct w 9999 _ _ _ hf hp]
  unfold Program.fieldsOf
  rw [hu]
  simp [Op.eqFields, go_sem, Tryz.underlying3]

set_option maxHeartbeats 2000000 in
theorem looksM_any {I : EngI} {w : World} {B bw ne nt nb : Nat} (h : LawRepM I w B bw ne nt nb) (hnt : nt ≤ 4611686018427387904) (hnb : nb ≤ 4611686018427387904) :
    Calls Tryz.prog 10 #[.pointer (some ⟨bw, 0, none⟩)] w fun en w' => en = .returned (.bool true) ∧ Still w w' := by
  obtain ⟨O, lv, tv, kv, bv, cv, bx, by_, rs, T, K, Tb, Kb, h⟩ := h
  obtain ⟨_, c1, c2, c3, c4, cf⟩ := h.cells
  have bwl := h.lt
  have hR := h.outR
  have hB := h.outB
  clear h cf
  obtain ⟨ta, tc, rfl, t1, t2⟩ := ownsRow_slice hR.trow
  obtain ⟨ka, kc, rfl, k1, k2⟩ := ownsRow_slice hR.krow
  obtain ⟨ba, bc, rfl, b1, b2⟩ := ownsRow_slice hB.trow
  obtain ⟨da, dc, rfl, d1, d2⟩ := ownsRow_slice hB.krow
  unfold maxLen at t2 k2 b2 d2
  have HR := hide hR
  have HB := hide hB
  have HC1 := hide c1
  have HC2 := hide c2
  have HC3 := hide c3
  have HC4 := hide c4
  clear hR hB c1 c2 c3 c4
  go_enter Tryz.func10, Tryz.ntmps10
  go_wp2
  go_loopw [3] (fun t w' => ∃ i : Nat, i ≤ nt ∧ t = .int .i64 i ∧ Still w w') (fun t _ => nt - (intOf t).toNat)
  case atStart => exact ⟨0, Nat.zero_le _, rfl, Kept.refl _ _⟩
  case round =>
    obtain ⟨i, hi, rfl, hst⟩ := hrel
    have HST := hide hst
    have hzr := hst.size
    have c1 := (hst.cell bw 1 bwl).trans (unhide HC1)
    have c2 := (hst.cell bw 2 bwl).trans (unhide HC2)
    have c3 := (hst.cell bw 3 bwl).trans (unhide HC3)
    clear hst
    by_cases hlt : i < nt
    · obtain ⟨gt, rfl, hgt⟩ := ownsRow_some (unhide HR).trow (by omega)
      obtain ⟨gk, rfl, hgk⟩ := ownsRow_some (unhide HR).krow (by omega)
      have qk : wr.cell? ⟨gk, i, none⟩ = some (.int .i64 (K i : Int)) := by
        have := ownsRow_cell (unhide HR).krow (fun _ _ => rfl) hlt (j := 0) (by omega)
        rw [(unhide HST).cell gk i hgk]; simpa using this
      have hKi := (unhide HR).num i hlt
      obtain ⟨hf, hown⟩ := (unhide HR).fil i hlt
      obtain ⟨la, ln, lc, hTi, hln, hcs⟩ := hf
      have qt : w.cell? ⟨gt, i, none⟩ = some (.slice la ln lc) := by
        have := ownsRow_cell (unhide HR).trow (fun _ _ => rfl) hlt (j := 0) (by omega)
        rw [← hTi]; simpa using this
      rw [hTi] at hown
      have HCS := hide hcs
      have HOWN := hide hown
      have HQT := hide qt
      clear hcs hown qt hTi
      generalize K i = ki at *
      unfold maxLen at hln
      have hi0' : (0 : Int) ≤ (i : Int) := by omega
      have hi1' : (i : Int) < (nt : Int) := by omega
      go_wp2_with fail
      refine (mark_any _ _ (by omega) (by omega)).mono ?_
      rintro en w1 ⟨rfl, hw⟩
      have hz1 := hw.size
      have HW := hide (Kept.trans (unhide HST) hw)
      clear hw c1 c2 c3 qk HST
      go_wp2
      have hbx : Box4 (w1.alloc (.cells #[.int .i64 (-(ki : Int)), .int .i64 (ki : Int), .int .i64 (-7), .int .i64 (ki : Int)] 50)) w1.heap.size ⟨-(ki : Int), ki, -7, ki⟩ := Box4.new w1 ⟨-(ki : Int), ki, -7, ki⟩ _
      have hs2 : Still w (w1.alloc (.cells #[.int .i64 (-(ki : Int)), .int .i64 (ki : Int), .int .i64 (-7), .int .i64 (ki : Int)] 50)) := Kept.alloc (unhide HW) _
      have hs0 : w1.heap.size < (w1.alloc (.cells #[.int .i64 (-(ki : Int)), .int .i64 (ki : Int), .int .i64 (-7), .int .i64 (ki : Int)] 50)).heap.size := by simp
      generalize w1.alloc (.cells #[.int .i64 (-(ki : Int)), .int .i64 (ki : Int), .int .i64 (-7), .int .i64 (ki : Int)] 50) = W2 at *
      generalize w1.heap.size = s0 at *
      have HBX := hide hbx
      have HS2 := hide hs2
      clear hbx hs2 HW
      go_loopw [5] (fun t w' => ∃ k : Nat, k ≤ ln ∧ t = .int .i64 k ∧ Still W2 w') (fun t _ => ln - (intOf t).toNat)
      case atStart => exact ⟨0, Nat.zero_le _, rfl, Kept.refl _ _⟩
      case round =>
        obtain ⟨k, hk, rfl, hst⟩ := hrel
        have hst' : Still w wr := Kept.trans (unhide HS2) hst
        have HST' := hide hst'
        have c1 := (hst'.cell bw 1 bwl).trans (unhide HC1)
        have qt := (hst'.cell gt i hgt).trans (unhide HQT)
        have hbr := (unhide HBX).kept hst (fun x => x)
        obtain ⟨_, x0, x1, x2, x3, _⟩ := hbr
        by_cases hkl : k < ln
        · obtain ⟨gl, rfl, hc⟩ := unhide HCS (by omega)
          have hgl := (unhide HOWN gl rfl).1
          have q := fun (j : Nat) (hj : j < 4) => (hst'.cell gl (k * 4 + j) hgl).trans (hc k hkl j hj)
          have q0 : wr.cell? ⟨gl, k * 4 + 0, none⟩ = some (.int .i64 (-(ki : Int))) := (q 0 (by omega)).trans rfl
          have q1 : wr.cell? ⟨gl, k * 4 + 1, none⟩ = some (.int .i64 (ki : Int)) := (q 1 (by omega)).trans rfl
          have q2 : wr.cell? ⟨gl, k * 4 + 2, none⟩ = some (.int .i64 (-7)) := (q 2 (by omega)).trans rfl
          have q3 : wr.cell? ⟨gl, k * 4 + 3, none⟩ = some (.int .i64 (ki : Int)) := (q 3 (by omega)).trans rfl
          rw [Nat.add_zero] at q0
          have hE : ∀ w, (binOp .neq 50 (.agg #[.int .i64 (-(ki : Int)), .int .i64 (ki : Int), .int .i64 (-7), .int .i64 (ki : Int)]) (.agg #[.int .i64 (-(ki : Int)), .int .i64 (ki : Int), .int .i64 (-7), .int .i64 (ki : Int)])).run Tryz.prog w = .ok (.bool false) w := fun w => neRouteM ⟨-(ki : Int), ki, -7, ki⟩ w
          have hk0' : (0 : Int) ≤ (k : Int) := by omega
          have hk1' : (k : Int) < (ln : Int) := by omega
          have HS3 := hide hst
          clear hst hst' hc q
          go_wp2_with fail
          go_quiet (fail)
          have HS4 := hide ((unhide HS3).drewN nq)
          clear q0 q1 q2 q3 x0 x1 x2 x3 hE c1 qt
          generalize wr.drewN nq = WQ at *
          go_wp2
          go_roundw
          case rel => exact ⟨k + 1, by omega, by go_num, unhide HS4⟩
          case measure => simp [intOf]; omega
        · obtain rfl : k = ln := by omega
          clear hst hst' x0 x1 x2 x3
          go_wp2
          go_roundw
          case rel => exact ⟨i + 1, by omega, by go_num, unhide HST'⟩
          case measure => simp [intOf]; omega
    · obtain rfl : i = nt := by omega
      clear c2
      go_wp2
      go_loopw [6] (fun t w' => ∃ m : Nat, m ≤ nb ∧ t = .int .i64 m ∧ Still w w') (fun t _ => nb - (intOf t).toNat)
      case atStart => exact ⟨0, Nat.zero_le _, rfl, unhide HST⟩
      case round =>
        clear c1 c3 HST
        obtain ⟨m, hm, rfl, hst⟩ := hrel
        have HST := hide hst
        have c3 := (hst.cell bw 3 bwl).trans (unhide HC3)
        clear hst
        by_cases hlm : m < nb
        · obtain ⟨gb, rfl, hgb⟩ := ownsRow_some (unhide HB).trow (by omega)
          obtain ⟨gd, rfl, hgd⟩ := ownsRow_some (unhide HB).krow (by omega)
          have qk : w.cell? ⟨gd, m, none⟩ = some (.int .i64 (Kb m : Int)) := by
            have := ownsRow_cell (unhide HB).krow (fun _ _ => rfl) hlm (j := 0) (by omega)
            simpa using this
          have hKi := (unhide HB).num m hlm
          obtain ⟨hf, hown⟩ := (unhide HB).fil m hlm
          obtain ⟨la, ln, lc, hTi, hln, hcs⟩ := hf
          have qt : w.cell? ⟨gb, m, none⟩ = some (.slice la ln lc) := by
            have := ownsRow_cell (unhide HB).trow (fun _ _ => rfl) hlm (j := 0) (by omega)
            rw [← hTi]; simpa using this
          rw [hTi] at hown
          have HCS := hide hcs
          have HOWN := hide hown
          have HQT := hide qt
          have HQK := hide qk
          clear hcs hown qt hTi qk
          generalize Kb m = ki at *
          unfold maxLen at hln
          have hi0' : (0 : Int) ≤ (m : Int) := by omega
          have hi1' : (m : Int) < (nb : Int) := by omega
          go_wp2
          go_loopw [7] (fun t w' => ∃ k : Nat, k ≤ ln ∧ t = .int .i64 k ∧ Still w w') (fun t _ => ln - (intOf t).toNat)
          case atStart => exact ⟨0, Nat.zero_le _, rfl, unhide HST⟩
          case round =>
            clear HST c3
            obtain ⟨k, hk, rfl, hst⟩ := hrel
            have HST := hide hst
            have hzr2 := hst.size
            have c3 := (hst.cell bw 3 bwl).trans (unhide HC3)
            have c4 := (hst.cell bw 4 bwl).trans (unhide HC4)
            have qt := (hst.cell gb m hgb).trans (unhide HQT)
            have qk := (hst.cell gd m hgd).trans (unhide HQK)
            by_cases hkl : k < ln
            · obtain ⟨gl, rfl, hc⟩ := unhide HCS (by omega)
              have hgl := (unhide HOWN gl rfl).1
              have q0 : wr.cell? ⟨gl, k, none⟩ = some (signC ki k) := (hst.cell gl k hgl).trans (hc k hkl)
              have hk0' : (0 : Int) ≤ (k : Int) := by omega
              have hk1' : (k : Int) < (ln : Int) := by omega
              clear hst hc
              unfold signC at q0
              have hsg : ∀ w, Calls Tryz.prog 19 #[.int .i64 (ki : Int), .int .i64 (k : Int)] w fun en w' => en = .returned (signC ki k) ∧ w' = w := fun w => sign_any ki k w (by omega) (by omega)
              unfold signC at hsg
              generalize ((if k % 2 = 0 then ki % 256 else ki / 256 % 256 : Nat) : Int) = sv at *
              go_wp2_with fail
              go_region_held3 (fun w' => w'.cell? ⟨bw, 3, none⟩ = some (.slice (some ⟨gb, 0, none⟩) nb bc) ∧ w'.cell? ⟨gb, m, none⟩ = some (.slice (some ⟨gl, 0, none⟩) ln lc) ∧ w'.cell? ⟨gl, k, none⟩ = some (.int .u8 sv) ∧ w'.cell? ⟨bw, 4, none⟩ = some (.slice (some ⟨gd, 0, none⟩) nb dc) ∧ w'.cell? ⟨gd, m, none⟩ = some (.int .i64 (ki : Int))) (first | go_keep | (go_split_ands; exact ⟨c3, qt, q0, c4, qk⟩)) ((go_at_call 19; refine (hsg _).mono ?_; rintro en wx ⟨rfl, rfl⟩))
              all_goals
                have HS4 := hide ((unhide HST).drew)
                go_wp2
                go_roundw
                case rel => exact ⟨k + 1, by omega, by go_num, unhide HS4⟩
                case measure => simp [intOf]; omega
            · obtain rfl : k = ln := by omega
              clear hst
              go_wp2
              go_roundw
              case rel => exact ⟨m + 1, by omega, by go_num, unhide HST⟩
              case measure => simp [intOf]; omega
        · obtain rfl : m = nb := by omega
          go_wp2
          go_ret
          exact ⟨rfl, unhide HST⟩
end Go.Proofs.YtgndledehlilkaaGreat
