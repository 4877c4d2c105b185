/-
  Held: counted.
-/
import Derived.Test.YtgndledehlilkaaHeld1
namespace Go.Proofs.Ytgndledehlilkaa
open Go.RowKit

/-- Each route of a list stands behind the one ahead of it. -/
def Behind (l : List RouteD) : Prop := ∀ i, i + 1 < l.length → (l.getD i rt0).addr < (l.getD (i + 1) rt0).addr ∨ ((l.getD i rt0).addr = (l.getD (i + 1) rt0).addr ∧ (l.getD i rt0).len < (l.getD (i + 1) rt0).len)
set_option maxRecDepth 20000 in
set_option maxHeartbeats 8000000 in
theorem countedK {w0 w : World} {b : Nat} {r : RefS} (h : On w0 w (oneTag b) 1 b r) {t : Nat} (ht : t < 3) {qt so st sd : Int} {l : List RouteD} (m1 : mayI r ((t : Int) + 1) 1 = 0) (m2 : countF r ((t : Int) + 1) = ⟨so, st, sd, qt⟩) (m3 : tableL r ((t : Int) + 1) = l) (hlen : l.length ≤ 64)
    (hso : so = (ownTo l (t : Int) l.length : Int)) (hst : st = (l.length : Int) - (ownTo l (t : Int) l.length : Int)) (hle : (l.length : Int) ≤ qt) (hd0 : 0 ≤ sd) (hd1 : sd = 0 ∨ (l.length : Int) = qt) (hbe : Behind l) :
    Calls Try.prog 26 #[.pointer (some ⟨b, 0, none⟩), .int .i64 ((t : Int) + 1), .int .i64 qt] w fun en w' => en = .returned (.tuple #[.agg #[.int .i64 so, .int .i64 st, .int .i64 sd, .int .i64 qt], .bool true]) ∧ On w0 w' (oneTag b) 1 b r ∧ Kept (· = b) w w' := by
  have hb := h.lt
  have hbase := h.still.size
  have hS1 : Still w (w.alloc (.cells #[.int .i64 0, .int .i64 0, .int .i64 0, .int .i64 0] 32)) := (Kept.refl _ _).alloc _
  have HS1 := hide hS1
  have HON := hide (h.again hS1)
  have HSM := hide (SumAt.new w 0 0 0 0 32)
  have M1 := hide m1
  have M2 := hide m2
  have M3 := hide m3
  have HBE := hide hbe
  have HSO := hide hso
  have HSTK := hide hst
  have HD1 := hide hd1
  clear hS1 h m1 m2 m3 hbe hso hst hd1
  go_enter Try.func26, Try.ntmps26
  go_wp2_with fail
  generalize hs0 : w.heap.size = s0 at *
  generalize w.alloc (.cells #[.int .i64 0, .int .i64 0, .int .i64 0, .int .i64 0] 32) = W1 at *
  refine (on_count0 (unhide HON) (unhide M1) (unhide M2)).mono ?_
  rintro en w2 ⟨rfl, hn2⟩
  obtain ⟨hon2, hk2⟩ := (unhide HON).stepP hn2
  have hS2 : Still w2 (w2.alloc (.cells #[.int .i64 so, .int .i64 st, .int .i64 sd, .int .i64 qt] 32)) := (Kept.refl _ _).alloc _
  have HBX := hide (SumAt.new w2 so st sd qt 32)
  have HON2 := hide (hon2.again hS2)
  have HSM2 := hide (((unhide HSM).kept hk2 (by omega)).kept hS2 (fun q => q))
  have HK2 := hide (((Still.kept (unhide HS1) (· = b)).trans hk2).trans (Still.kept hS2 (· = b)))
  have hsz2 : s0 < w2.heap.size := ((unhide HSM).kept hk2 (by omega)).lt
  clear hn2 hon2 hk2 hS2 HON HSM HS1
  go_wp2_with fail
  generalize hs2 : w2.heap.size = s2 at *
  generalize w2.alloc (.cells #[.int .i64 so, .int .i64 st, .int .i64 sd, .int .i64 qt] 32) = W2 at *
  refine (on_table0 (unhide HON2) (unhide M1) (unhide M3)).mono ?_
  rintro en w3 ⟨ta, tc, rfl, hr3, O3, hO3, hon3', hk3', _, hnew3⟩
  obtain ⟨hon3, hk3⟩ := (unhide HON2).stepP ⟨O3, hO3, hon3', hk3', hnew3⟩
  obtain ⟨_, _, _, ht1, ht2⟩ := ownsRow_slice hr3
  have HR3 := hide hr3
  have HON3 := hide hon3
  have HBX3 := hide ((unhide HBX).kept hk3 (by omega))
  have HSM3 := hide ((unhide HSM2).kept hk3 (by omega))
  have HK3 := hide ((unhide HK2).trans hk3)
  have hwt : IntKind.i64.wrap ((t : Int) + 1 - 1) = (t : Int) := by rw [wrap_small (by omega) (by omega)]; omega
  clear hr3 hO3 hon3' hk3' hnew3 hon3 hk3 HON2 HBX HSM2 HK2
  generalize W2.heap.size = s3 at *
  go_wp2
  go_loopw [12, 13] (fun ow i w' => ∃ k : Nat, k ≤ l.length ∧ i = .int .i64 k ∧ ow = .int .i64 (ownTo l (t : Int) k : Int) ∧ Still w3 w') (fun _ i _ => l.length - (intOf i).toNat)
  case atStart => exact ⟨0, by omega, rfl, rfl, Kept.refl _ _⟩
  case round =>
    obtain ⟨k, hk, rfl, rfl, hw⟩ := hrel
    have hr := kept_row (unhide HR3) hw (fun _ _ q => q)
    have HW := hide hw
    have HR := hide hr
    clear hr
    by_cases hlt : k < l.length
    · obtain ⟨g, rfl, hg⟩ := ownsRow_some (unhide HR) (by omega)
      obtain ⟨x0, x1, x2, x3⟩ := rowCell (unhide HR) rfl hlt
      have hol := ownTo_le l (t : Int) k
      have hnx : ownTo l (t : Int) (k + 1) = ownTo l (t : Int) k + (if (l.getD k rt0).from_ = (t : Int) then 1 else 0) := rfl
      have hk0 : (0 : Int) ≤ (k : Int) := by omega
      have hkl : (k : Int) < (l.length : Int) := by omega
      clear hw
      rcases Nat.eq_zero_or_pos k with hk00 | hkp
      · have hkz : decide (0 < k) = false := decide_eq_false (by omega)
        generalize l.getD k rt0 = x at *
        generalize ownTo l (t : Int) k = ow at *
        clear hk00
        by_cases hf : x.from_ = (t : Int)
        · rw [if_pos hf] at hnx
          rw [hf] at x3
          have NX := hide hnx
          clear hnx
          go_wp2_with fail
          go_quiet (fail)
          go_wp2
          go_roundw
          case rel => exact ⟨k + 1, by omega, by go_num, by rw [unhide NX]; go_num, (unhide HW).drewN _⟩
          case measure => simp [intOf]; omega
        · rw [if_neg hf] at hnx
          have hff : (x.from_ == (t : Int)) = false := by simpa using hf
          have NX := hide hnx
          clear hnx
          go_wp2_with fail
          go_quiet (fail)
          go_wp2
          go_roundw
          case rel => exact ⟨k + 1, by omega, by go_num, by rw [unhide NX]; rfl, (unhide HW).drewN _⟩
          case measure => simp [intOf]; omega
      · obtain ⟨j, hj⟩ : ∃ j, k = j + 1 := ⟨k - 1, by omega⟩
        obtain ⟨y0, y1, _, _⟩ := rowCell (unhide HR) rfl (show j < l.length by omega)
        have hbj := unhide HBE j (by omega)
        rw [← hj] at hbj
        have hwj : IntKind.i64.wrap ((k : Int) - 1) = (j : Int) := by rw [wrap_small (by omega) (by omega)]; omega
        have hj0 : (0 : Int) ≤ (j : Int) := by omega
        have hjl : (j : Int) < (l.length : Int) := by omega
        have hjp : decide (0 < k) = true := decide_eq_true (by omega)
        generalize l.getD k rt0 = x at *
        generalize l.getD j rt0 = y at *
        generalize ownTo l (t : Int) k = ow at *
        clear hj
        rcases hbj with hbj | ⟨hbj, hbl⟩
        · have c1 : decide (x.addr < y.addr) = false := decide_eq_false (by omega)
          have c2 : (x.addr == y.addr) = false := by rw [beq_eq_false_iff_ne]; omega
          by_cases hf : x.from_ = (t : Int)
          · rw [if_pos hf] at hnx
            rw [hf] at x3
            have NX := hide hnx
            clear hnx
            go_wp2_with fail
            go_quiet (fail)
            go_wp2
            go_roundw
            case rel => exact ⟨k + 1, by omega, by go_num, by rw [unhide NX]; go_num, (unhide HW).drewN _⟩
            case measure => simp [intOf]; omega
          · rw [if_neg hf] at hnx
            have hff : (x.from_ == (t : Int)) = false := by simpa using hf
            have NX := hide hnx
            clear hnx
            go_wp2_with fail
            go_quiet (fail)
            go_wp2
            go_roundw
            case rel => exact ⟨k + 1, by omega, by go_num, by rw [unhide NX]; rfl, (unhide HW).drewN _⟩
            case measure => simp [intOf]; omega
        · have c1 : decide (x.addr < y.addr) = false := decide_eq_false (by omega)
          have c2 : (x.addr == y.addr) = true := by rw [beq_iff_eq]; omega
          have c3 : decide (x.len ≤ y.len) = false := decide_eq_false (by omega)
          clear hbj
          by_cases hf : x.from_ = (t : Int)
          · rw [if_pos hf] at hnx
            rw [hf] at x3
            have NX := hide hnx
            clear hnx
            go_wp2_with fail
            go_quiet (fail)
            go_wp2
            go_roundw
            case rel => exact ⟨k + 1, by omega, by go_num, by rw [unhide NX]; go_num, (unhide HW).drewN _⟩
            case measure => simp [intOf]; omega
          · rw [if_neg hf] at hnx
            have hff : (x.from_ == (t : Int)) = false := by simpa using hf
            have NX := hide hnx
            clear hnx
            go_wp2_with fail
            go_quiet (fail)
            go_wp2
            go_roundw
            case rel => exact ⟨k + 1, by omega, by go_num, by rw [unhide NX]; rfl, (unhide HW).drewN _⟩
            case measure => simp [intOf]; omega
    · obtain rfl : k = l.length := by omega
      have hol := ownTo_le l (t : Int) l.length
      have hso := unhide HSO
      have hst := unhide HSTK
      generalize ownTo l (t : Int) l.length = ow at *
      have bx := (unhide HBX3).kept hw (fun q => q)
      have sm := (unhide HSM3).kept hw (fun q => q)
      rw [hso] at bx
      have b0 := bx.c0
      have b1 := bx.c1
      have b2 := bx.c2
      have b3 := bx.c3
      have bl := bx.lt
      have s0' := sm.c0
      have s1' := sm.c1
      have s2' := sm.c2
      have s3' := sm.c3
      have f0 := sm.fz 0
      have f1 := sm.fz 1
      have f2 := sm.fz 2
      have f3 := sm.fz 3
      have sl := sm.lt
      have hne : s0 ≠ s2 := by omega
      have hws : IntKind.i64.wrap ((l.length : Int) - (ow : Int)) = st := by rw [hst]; exact wrap_small (by omega) (by omega)
      have hd2 : decide ((l.length : Int) ≤ qt) = true := decide_eq_true hle
      have hd3 : decide (0 ≤ sd) = true := decide_eq_true hd0
      have HSM9 := hide sm
      have HSO2 := hide hso
      clear bx sm hso hst HW HR
      have HKW := hide ((unhide HK3).trans (Still.kept hw (· = b)))
      have HONW := hide ((unhide HON3).again hw)
      clear hw
      by_cases hsd : sd = 0
      · subst hsd
        go_wp2
        have hfin := (unhide HSM9).put (ow : Int) st 0 qt
        refine bodyPost_ret (results_range2 rfl _ _ _ _ _ _ rfl hfin.range Try.underlying32 rfl infoSums) rfl ?_
        have hkp : Kept (· = s0) wr ((((wr.setCell ⟨s0, 0, none⟩ (.int .i64 (ow : Int))).setCell ⟨s0, 1, none⟩ (.int .i64 st)).setCell ⟨s0, 2, none⟩ (.int .i64 0)).setCell ⟨s0, 3, none⟩ (.int .i64 qt)) := Kept.setAt (Kept.setAt (Kept.setAt (Kept.setAt (Kept.refl _ _) _ _) _ _) _ _) _ _
        refine ⟨by rw [unhide HSO2]; rfl, (unhide HONW).past hkp (by omega) (by omega), Kept.trans' (unhide HKW) hkp (fun i hi q => by omega)⟩
      · have hsd' : (sd == 0) = false := by simpa using hsd
        have hlq : (l.length : Int) = qt := by rcases unhide HD1 with e | e; exact absurd e hsd; exact e
        subst hlq
        go_wp2
        have hfin := (unhide HSM9).put (ow : Int) st sd (l.length : Int)
        refine bodyPost_ret (results_range2 rfl _ _ _ _ _ _ rfl hfin.range Try.underlying32 rfl infoSums) rfl ?_
        have hkp : Kept (· = s0) wr ((((wr.setCell ⟨s0, 0, none⟩ (.int .i64 (ow : Int))).setCell ⟨s0, 1, none⟩ (.int .i64 st)).setCell ⟨s0, 2, none⟩ (.int .i64 sd)).setCell ⟨s0, 3, none⟩ (.int .i64 (l.length : Int))) := Kept.setAt (Kept.setAt (Kept.setAt (Kept.setAt (Kept.refl _ _) _ _) _ _) _ _) _ _
        refine ⟨by rw [unhide HSO2]; rfl, (unhide HONW).past hkp (by omega) (by omega), Kept.trans' (unhide HKW) hkp (fun i hi q => by omega)⟩
end Go.Proofs.Ytgndledehlilkaa
