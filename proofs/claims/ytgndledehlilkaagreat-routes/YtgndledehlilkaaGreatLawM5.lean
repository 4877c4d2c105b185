/-
  Walks: districtlaw: tells, for Table, with the lists that came out.
-/
import Derived.Test.YtgndledehlilkaaGreatLawM4
namespace Go.Proofs.YtgndledehlilkaaGreat
open Go.RowKit

theorem tableM_le {r : RefS} (hk : RefOk r) (n : Int) : (tableL r n).length ≤ 64 := by
  unfold tableL
  split
  · rename_i hm
    have hl := may_life hk hm
    have hq := hk.wf.quota _ hl
    exact (tableR_le hq.1 hq.2 (hk.tab.ownN _ hl)).2
  · simp
set_option maxRecDepth 100000 in
set_option maxHeartbeats 4000000 in
theorem lawM_table {I : EngI} (J : EngI2 I) {w : World} {O : Tag} {B bw ne nt nb : Nat} {lv tv kv bv cv : Value} {bx by_ : Nat → Nat} {rs : Nat → RefS} {T : Nat → Value} {K : Nat → Nat} {Tb : Nat → Value} {Kb : Nat → Nat} (h : LawAtM I w O B bw ne nt nb lv tv kv bv cv bx by_ rs T K Tb Kb) {i : Nat} (hi : i < ne) (hnt : nt ≤ 5864062014800)
    (ei a b c d : Int) (f : Bool) (ra : Option Addr) (rn rc : Nat) (sa : Option Addr) (sn sc : Nat) :
    Calls Tryz.prog 16 #[.pointer (some ⟨bw, 0, none⟩), .agg #[.pointer (some ⟨bx i, 0, none⟩), .pointer (some ⟨by_ i, 0, none⟩)], .agg #[.int .i64 10, .int .i64 ei, .int .i64 a, .int .i64 b, .int .i64 c, .int .i64 d, .bool f, .slice ra rn rc, .slice sa sn sc]] w fun en w' => en = .returned (.bool true) ∧ LawRepM I w' B bw ne (nt + 4) nb ∧ Below B w w' := by
  have HL := hide h
  have HP := hide (h.pair i hi)
  clear h
  go_enter Tryz.func16, Tryz.ntmps16
  go_wp2_with fail
  have hst : Still w ((w.alloc (.cells #[.pointer (some ⟨bx i, 0, none⟩), .pointer (some ⟨by_ i, 0, none⟩)] 46)).alloc (.cells #[.int .i64 10, .int .i64 ei, .int .i64 a, .int .i64 b, .int .i64 c, .int .i64 d, .bool f, .slice ra rn rc, .slice sa sn sc] 35)) := ((Kept.refl _ _).alloc _).alloc _
  have hp1 := (unhide HP).boxed hst
  refine (J.table hp1.x hp1.ok _).mono ?_
  rintro en w2 ⟨v, rfl, hrow, O1, hO1, hX, hk2, hv1⟩
  obtain ⟨b1, b2⟩ := box_two _ _ hk2 (cutO_not (Nat.le_refl _)) (cutO_not (by omega))
  have y1 : w2.cell? ⟨w.heap.size, 1, none⟩ = some (.pointer (some ⟨by_ i, 0, none⟩)) := by rw [b1, World.cell?_alloc_new]; rfl
  have y2 : w2.cell? ⟨w.heap.size + 1, 2, none⟩ = some (.int .i64 a) := by rw [b2, ← World.size_alloc w, World.cell?_alloc_new]; rfl
  have hr2 := hp1.ref hk2 hO1
  have hlen := tableM_le hp1.ok a
  obtain ⟨va, vc, rfl, hvl1, hvl2⟩ := ownsRow_slice hrow
  have HRF := hide (refTable_fn hr2 hp1.ok a)
  have HPO : Hid (∀ w3, Still w2 w3 → ∃ O2 : Tag, (∀ k, k < w.heap.size → O2 k = O k) ∧ PairI I w3 O2 (i + 1) (bx i) (by_ i) (rs i) ∧ Kept (mineA O (i + 1)) w w3 ∧ ∀ g, (Value.slice va (tableL (rs i) a).length vc).ownBlock = some g → O2 g = (0, 9, 0)) := fun w3 hs =>
    pair_out (unhide HP) hst hO1 hX hk2 hs (fun g hg => ⟨(hrow.lt g hg).1, hv1 g hg⟩)
  have hbase : ∀ g, (Value.slice va (tableL (rs i) a).length vc).ownBlock = some g → w.heap.size ≤ g := fun g hg => by have := (hrow.lt g hg).1; simp at this; omega
  have hb0 : ((w.alloc (.cells #[.pointer (some ⟨bx i, 0, none⟩), .pointer (some ⟨by_ i, 0, none⟩)] 46)).alloc (.cells #[.int .i64 10, .int .i64 ei, .int .i64 a, .int .i64 b, .int .i64 c, .int .i64 d, .bool f, .slice ra rn rc, .slice sa sn sc] 35)).heap.size ≤ w2.heap.size := hk2.size
  generalize ((w.alloc (.cells #[.pointer (some ⟨bx i, 0, none⟩), .pointer (some ⟨by_ i, 0, none⟩)] 46)).alloc (.cells #[.int .i64 10, .int .i64 ei, .int .i64 a, .int .i64 b, .int .i64 c, .int .i64 d, .bool f, .slice ra rn rc, .slice sa sn sc] 35)).heap.size = base at *
  generalize mayI (rs i) a 1 = le at *
  generalize tableL (rs i) a = L at *
  have HB := hide hbase
  have HROW := hide hrow
  clear b1 b2 hp1 hk2 hst hX hO1 hr2 HP hv1 hrow hbase
  go_wp2_with fail
  refine (unhide HRF).mono ?_
  rintro en w3 ⟨v2, rfl, hrow2, hs3⟩
  obtain ⟨ma, mc, rfl, hml1, hml2⟩ := ownsRow_slice hrow2
  have hb3 := hs3.size
  have hrow3 : w3.ownsRow base 50 4 (.slice va L.length vc) L.length (L.flatMap routeCells) := ownsRow_of_block (unhide HROW) fun g hg => hs3.heap (ownsRow_lt (unhide HROW) hg)
  have HPO3 := hide (unhide HPO w3 hs3)
  have HR1 := hide hrow3
  have HR2 := hide hrow2
  clear hs3 hrow2 hrow3 HROW HRF HPO y1 y2
  unfold maxLen at hvl2 hml2
  go_wp2
  go_loopw [11, 12] (fun t k w' => ∃ j : Nat, j ≤ L.length ∧ k = .int .i64 j ∧ t = .bool true ∧ ∃ m, w' = w3.drewN m) (fun _ k _ => L.length - (intOf k).toNat)
  case atStart => exact ⟨0, Nat.zero_le _, rfl, by simp, 0, rfl⟩
  case round =>
    obtain ⟨j, hj, rfl, rfl, m, rfl⟩ := hrel
    by_cases hlt : j < L.length
    · obtain ⟨g1, rfl, hg1⟩ := ownsRow_some (unhide HR1) (by omega)
      obtain ⟨g2, rfl, hg2⟩ := ownsRow_some (unhide HR2) (by omega)
      obtain ⟨p0, p1, p2, p3⟩ := rowCellL (unhide HR1) rfl hlt
      obtain ⟨q0, q1, q2, q3⟩ := rowCellL (unhide HR2) rfl hlt
      generalize L.getD j rt0 = x at *
      have hE : ∀ w, (binOp .eql 50 (.agg #[.int .i64 x.addr, .int .i64 x.len, .int .i64 x.hop, .int .i64 x.from_]) (.agg #[.int .i64 x.addr, .int .i64 x.len, .int .i64 x.hop, .int .i64 x.from_])).run Tryz.prog w = .ok (.bool true) w := fun w => by rw [eqRouteJ, (eqRJ_iff x x).2 rfl]
      have hj0' : (0 : Int) ≤ (j : Int) := by omega
      have hj1' : (j : Int) < (L.length : Int) := by omega
      go_wp2_with fail
      go_quiet (fail)
      go_wp2
      go_roundw
      case rel => exact ⟨j + 1, by omega, by go_num, rfl, m + nq, rfl⟩
      case measure => simp [intOf]; omega
    · obtain rfl : j = L.length := by omega
      obtain ⟨O2, hO2, hp2, hk2, h9⟩ := unhide HPO3
      obtain ⟨hat, hbl⟩ := (unhide HL).afterTo hi hO2 hp2 hk2
      have hat' := hat.still ((Kept.refl (fun _ => False) w3).drewN m)
      have hr1' : (w3.drewN m).ownsRow base 50 4 (.slice va L.length vc) L.length (L.flatMap routeCells) := ownsRow_of_block (unhide HR1) fun g hg => rfl
      have HRC := hide (routes_any hat'.blk hat'.wtag hat'.outR.trow hat'.outR.ttag hat'.outR.krow hat'.outR.ktag hr1' h9 hlen (by show base ≤ w3.heap.size; omega) hnt)
      have HAT := hide hat'
      have hbl' : Below B w (w3.drewN m) := ⟨hbl.os, hbl.tape, hbl.output, hbl.size, hbl.block⟩
      have HBL := hide hbl'
      have H9 := hide h9
      clear hat hat' hr1' hbl hbl' h9 hO2 hp2 hk2 HPO3
      go_wp2_with fail
      refine (unhide HRC).mono ?_
      rintro en w5 ⟨rfl, hpost⟩
      have hfin := (unhide HAT).routes (unhide H9) (fun k g hk hg e => by
        have := ((unhide HL).outR.fil k hk).2 g hg
        have := unhide HB g e
        omega) (fun k g hk hg e => by
        have := ((unhide HL).outB.fil k hk).2 g hg
        have := unhide HB g e
        omega) hpost
      have HF := hide hfin
      clear hfin hpost HRC
      go_wp2
      go_ret
      exact ⟨rfl, (unhide HF).1, Below.trans (unhide HBL) (unhide HF).2⟩
end Go.Proofs.YtgndledehlilkaaGreat
