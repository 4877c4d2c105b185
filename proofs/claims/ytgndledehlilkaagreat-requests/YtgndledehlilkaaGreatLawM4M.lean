import Derived.Test.YtgndledehlilkaaGreatLawM1M
import Derived.Test.YtgndledehlilkaaGreatLawK1
namespace Go.Proofs.YtgndledehlilkaaGreat
open Go.RowKit

section
variable {I : EngI} {w w' : World} {O O' : Tag} {B bw ne nt nb : Nat} {lv tv kv bv cv : Value} {bx by_ : Nat → Nat} {rs : Nat → RefS} {T : Nat → Value} {K : Nat → Nat} {Tb : Nat → Value} {Kb : Nat → Nat}
/-- Behind a call on engine i: the marks are given. -/
theorem LawAtM.afterTo (h : LawAtM I w O B bw ne nt nb lv tv kv bv cv bx by_ rs T K Tb Kb) {i : Nat} (hi : i < ne) {r' : RefS} (hO : ∀ k, k < w.heap.size → O' k = O k) (hp : PairI I w' O' (i + 1) (bx i) (by_ i) r') (hk : Kept (mineA O (i + 1)) w w') :
    LawAtM I w' O' B bw ne nt nb lv tv kv bv cv bx by_ (upd rs i r') T K Tb Kb ∧ Below B w w' := by
  have hb := h.lt
  have hz := h.size
  have hs := hk.size
  have hne : ∀ k, k < w.heap.size → (O k).1 ≠ i + 1 → w'.heap[k]? = w.heap[k]? := fun k a c => hk.block k a c
  refine ⟨⟨?_, ?_, ?_, ?_, ?_, by omega, ?_, ?_, ?_⟩, hk.below hz (fun k hk' => by unfold mineA; rw [h.outer k hk']; simp)⟩
  · rw [hne bw hb (by rw [h.wtag]; simp)]; exact h.blk
  · rw [hO bw hb]; exact h.wtag
  · exact ownsRow_of_block h.row fun g hg => hne g (ownsRow_lt h.row hg) (by rw [h.ltag g hg]; simp)
  · intro g hg; rw [hO g (ownsRow_lt h.row hg)]; exact h.ltag g hg
  · intro k hk'; rw [hO k (by omega)]; exact h.outer k hk'
  · intro j hj
    by_cases e : j = i
    · subst e; rw [upd_same]; exact hp
    · rw [upd_other _ _ e]
      exact (h.pair j hj).frame (fun k a c => hne k a (by omega)) (fun k a _ => hO k a)
  · exact h.outR.frameR hs (fun k a c => hne k a (by rcases c with c | c | c <;> rw [c] <;> simp)) hO
  · exact h.outB.frameB hs (fun k a c => hne k a (by rcases c with c | c | c <;> rw [c] <;> simp)) hO
end
/-- A list that came out, and the pair behind it. -/
theorem pair_out {I : EngI} {w w1 w2 w3 : World} {O O1 : Tag} {e bx by_ : Nat} {r : RefS} {v : Value} (h : PairI I w O e bx by_ r) (hst : Still w w1) (hO1 : ∀ k, k < w1.heap.size → O1 k = cutO O w.heap.size k) (hX : I.Rep w2 O1 e bx r) (hk2 : Kept (mineX (cutO O w.heap.size) e) w1 w2) (hs : Still w2 w3)
    (hv : ∀ g, v.ownBlock = some g → w1.heap.size ≤ g ∧ (O1 g).1 ≠ e) :
    ∃ O2 : Tag, (∀ k, k < w.heap.size → O2 k = O k) ∧ PairI I w3 O2 e bx by_ r ∧ Kept (mineA O e) w w3 ∧ ∀ g, v.ownBlock = some g → O2 g = (0, 9, 0) := by
  have z1 := hst.size
  have z2 := hk2.size
  have hp1 := h.boxed hst
  have hr2 := hp1.ref hk2 hO1
  have hp2 : PairI I w2 O1 e bx by_ r := ⟨hX, hr2, h.ok⟩
  refine ⟨fun k => if v.ownBlock = some k then (0, 9, 0) else O1 k, fun k hk => ?_, ?_, ?_, fun g hg => if_pos hg⟩
  · show (if v.ownBlock = some k then (0, 9, 0) else O1 k) = O k
    rw [if_neg (fun e => by have := (hv k e).1; omega), hO1 k (by omega), cutO_lt hk]
  · refine hp2.frame (fun k a _ => hs.heap a) (fun k _ c => ?_)
    exact if_neg (fun e => (hv k e).2 c)
  · refine Kept.trans' (Kept.trans' (Still.kept hst _) hk2 ?_) (Still.kept hs (mineA O e)) (fun i _ q => q)
    intro i hi q
    have := q.1
    rw [cutO_lt hi] at this
    exact this
theorem eqSumsM (x y z u : Int) (w : World) : (binOp .eql 89 (.agg #[.int .i64 x, .int .i64 y, .int .i64 z, .int .i64 u]) (.agg #[.int .i64 x, .int .i64 y, .int .i64 z, .int .i64 u])).run Tryz.prog w = .ok (.bool true) w := by
  have hu := Tryz.underlying89
  have hf : Tryz.prog.underlying 89 = some (.struct (Tryz.prog.fieldsOf 89)) := by unfold Program.fieldsOf; rw [hu]
  have hp : Tryz.prog.stoodInHeld 89 = false := by kernel_rfl
  rw [run_eql_struct, run_equalIn_struct w 9999 _ _ _ hf hp]
  unfold Program.fieldsOf
  rw [hu]
  simp [Op.eqFields, go_sem, Tryz.underlying3]
set_option maxRecDepth 100000 in
set_option maxHeartbeats 4000000 in
theorem lawM_count (I : EngI) (J : EngI2 I) {w : World} {O : Tag} {e bx by_ : Nat} {r : RefS} (h : PairI I w O e bx by_ r) (bw : Nat) (ei a b c d : Int) (f : Bool) (ra : Option Addr) (rn rc : Nat) (sa : Option Addr) (sn sc : Nat) :
    Calls Tryz.prog 16 #[.pointer (some ⟨bw, 0, none⟩), engW bx by_, stepW 11 ei a b c d f (.slice ra rn rc) (.slice sa sn sc)] w fun en w' => en = .returned (.bool true) ∧ AfterI I w O e bx by_ w' := by
  unfold engW stepW
  have HP := hide h
  clear h
  go_enter Tryz.func16, Tryz.ntmps16
  go_wp2_with fail
  have hst : Still w ((w.alloc (.cells #[.pointer (some ⟨bx, 0, none⟩), .pointer (some ⟨by_, 0, none⟩)] 46)).alloc (.cells #[.int .i64 11, .int .i64 ei, .int .i64 a, .int .i64 b, .int .i64 c, .int .i64 d, .bool f, .slice ra rn rc, .slice sa sn sc] 35)) := ((Kept.refl _ _).alloc _).alloc _
  have hp0 := (unhide HP).boxed (Kept.refl (fun _ => False) w)
  have hp1 := (unhide HP).boxed hst
  refine (J.count hp1.x hp1.ok _).mono ?_
  rintro en w2 ⟨rfl, O1, hO1, hX, hk2⟩
  obtain ⟨b1, b2⟩ := box_two _ _ hk2 (cutO_not (Nat.le_refl _)) (cutO_not (by omega))
  have y1 : w2.cell? ⟨w.heap.size, 1, none⟩ = some (.pointer (some ⟨by_, 0, none⟩)) := by rw [b1, World.cell?_alloc_new]; rfl
  have y2 : w2.cell? ⟨w.heap.size + 1, 2, none⟩ = some (.int .i64 a) := by rw [b2, ← World.size_alloc w, World.cell?_alloc_new]; rfl
  have hr2 := hp1.ref hk2 hO1
  have hsz : w.heap.size + 2 ≤ w2.heap.size := by have := hk2.size; simp at this; omega
  have HRF := hide (fun (w3 : World) (hs : Still w2 w3) => refCount_fn (hr2.still hs) hp1.ok a)
  have HAF := hide (fun (w3 : World) (hs : Still w2 w3) => (after_same hp0 hst hO1 hX hk2 hs).uncut)
  generalize mayI r a 1 = le at *
  generalize countF r a = x at *
  have hS2 : Still w2 (w2.alloc (.cells #[.int .i64 x.own, .int .i64 x.taken, .int .i64 x.dropped, .int .i64 x.quota] 89)) := (Kept.refl _ _).alloc _
  have hbx := RtAt.new w2 x.own x.taken x.dropped x.quota 89
  have z1 := (hS2.cell w.heap.size 1 (by omega)).trans y1
  have z2 := (hS2.cell (w.heap.size + 1) 2 (by omega)).trans y2
  have HBX := hide hbx
  have HS2 := hide hS2
  clear b1 b2 hp0 hp1 hk2 hst hX hO1 hr2 y1 y2 hS2 hbx HP
  go_wp2_with fail
  generalize hs0 : w.heap.size = s0 at *
  generalize hs2 : w2.heap.size = s2 at *
  generalize w2.alloc (.cells #[.int .i64 x.own, .int .i64 x.taken, .int .i64 x.dropped, .int .i64 x.quota] 89) = W2 at *
  refine (unhide HRF _ (unhide HS2)).mono ?_
  rintro en w3 ⟨rfl, hs3⟩
  have ba := (unhide HBX).kept hs3 (fun q => q)
  have hS4 : Still w3 (w3.alloc (.cells #[.int .i64 x.own, .int .i64 x.taken, .int .i64 x.dropped, .int .i64 x.quota] 89)) := (Kept.refl _ _).alloc _
  have bb := RtAt.new w3 x.own x.taken x.dropped x.quota 89
  have bc := ba.kept hS4 (fun q => q)
  have p0 := bc.c0
  have p1 := bc.c1
  have p2 := bc.c2
  have p3 := bc.c3
  have pl := bc.lt
  have q0 := bb.c0
  have q1 := bb.c1
  have q2 := bb.c2
  have q3 := bb.c3
  have ql := bb.lt
  have hE := eqSumsM x.own x.taken x.dropped x.quota
  have HF := hide (unhide HAF _ ((unhide HS2).trans (hs3.trans hS4)))
  clear ba bb bc hS4 hs3 HRF HAF HBX HS2
  go_wp2
  go_ret
  exact ⟨rfl, unhide HF⟩

theorem tableM_le {r : RefS} (hk : RefOk r) (n : Int) : (tableL r n).length ≤ 64 := by
  unfold tableL
  split
  · rename_i hm
    have hl := may_life hk hm
    have hq := hk.wf.quota _ hl
    exact (tableR_le hq.1 hq.2 (hk.tab.ownN _ hl)).2
  · simp
set_option maxRecDepth 100000 in
set_option maxHeartbeats 4000000 in
theorem lawM_table {I : EngI} (J : EngI2 I) {w : World} {O : Tag} {B bw ne nt nb : Nat} {lv tv kv bv cv : Value} {bx by_ : Nat → Nat} {rs : Nat → RefS} {T : Nat → Value} {K : Nat → Nat} {Tb : Nat → Value} {Kb : Nat → Nat} (h : LawAtM I w O B bw ne nt nb lv tv kv bv cv bx by_ rs T K Tb Kb) {i : Nat} (hi : i < ne) (hnt : nt ≤ 5864062014800)
    (ei a b c d : Int) (f : Bool) (ra : Option Addr) (rn rc : Nat) (sa : Option Addr) (sn sc : Nat) :
    Calls Tryz.prog 16 #[.pointer (some ⟨bw, 0, none⟩), .agg #[.pointer (some ⟨bx i, 0, none⟩), .pointer (some ⟨by_ i, 0, none⟩)], .agg #[.int .i64 10, .int .i64 ei, .int .i64 a, .int .i64 b, .int .i64 c, .int .i64 d, .bool f, .slice ra rn rc, .slice sa sn sc]] w fun en w' => en = .returned (.bool true) ∧ LawRepM I w' B bw ne (nt + 4) nb ∧ Below B w w' := by
  have HL := hide h
  have HP := hide (h.pair i hi)
  clear h
  go_enter Tryz.func16, Tryz.ntmps16
  go_wp2_with fail
  have hst : Still w ((w.alloc (.cells #[.pointer (some ⟨bx i, 0, none⟩), .pointer (some ⟨by_ i, 0, none⟩)] 46)).alloc (.cells #[.int .i64 10, .int .i64 ei, .int .i64 a, .int .i64 b, .int .i64 c, .int .i64 d, .bool f, .slice ra rn rc, .slice sa sn sc] 35)) := ((Kept.refl _ _).alloc _).alloc _
  have hp1 := (unhide HP).boxed hst
  refine (J.table hp1.x hp1.ok _).mono ?_
  rintro en w2 ⟨v, rfl, hrow, O1, hO1, hX, hk2, hv1⟩
  obtain ⟨b1, b2⟩ := box_two _ _ hk2 (cutO_not (Nat.le_refl _)) (cutO_not (by omega))
  have y1 : w2.cell? ⟨w.heap.size, 1, none⟩ = some (.pointer (some ⟨by_ i, 0, none⟩)) := by rw [b1, World.cell?_alloc_new]; rfl
  have y2 : w2.cell? ⟨w.heap.size + 1, 2, none⟩ = some (.int .i64 a) := by rw [b2, ← World.size_alloc w, World.cell?_alloc_new]; rfl
  have hr2 := hp1.ref hk2 hO1
  have hlen := tableM_le hp1.ok a
  obtain ⟨va, vc, rfl, hvl1, hvl2⟩ := ownsRow_slice hrow
  have HRF := hide (refTable_fn hr2 hp1.ok a)
  have HPO : Hid (∀ w3, Still w2 w3 → ∃ O2 : Tag, (∀ k, k < w.heap.size → O2 k = O k) ∧ PairI I w3 O2 (i + 1) (bx i) (by_ i) (rs i) ∧ Kept (mineA O (i + 1)) w w3 ∧ ∀ g, (Value.slice va (tableL (rs i) a).length vc).ownBlock = some g → O2 g = (0, 9, 0)) := fun w3 hs =>
    pair_out (unhide HP) hst hO1 hX hk2 hs (fun g hg => ⟨(hrow.lt g hg).1, hv1 g hg⟩)
  have hbase : ∀ g, (Value.slice va (tableL (rs i) a).length vc).ownBlock = some g → w.heap.size ≤ g := fun g hg => by have := (hrow.lt g hg).1; simp at this; omega
  have hb0 : ((w.alloc (.cells #[.pointer (some ⟨bx i, 0, none⟩), .pointer (some ⟨by_ i, 0, none⟩)] 46)).alloc (.cells #[.int .i64 10, .int .i64 ei, .int .i64 a, .int .i64 b, .int .i64 c, .int .i64 d, .bool f, .slice ra rn rc, .slice sa sn sc] 35)).heap.size ≤ w2.heap.size := hk2.size
  generalize ((w.alloc (.cells #[.pointer (some ⟨bx i, 0, none⟩), .pointer (some ⟨by_ i, 0, none⟩)] 46)).alloc (.cells #[.int .i64 10, .int .i64 ei, .int .i64 a, .int .i64 b, .int .i64 c, .int .i64 d, .bool f, .slice ra rn rc, .slice sa sn sc] 35)).heap.size = base at *
  generalize mayI (rs i) a 1 = le at *
  generalize tableL (rs i) a = L at *
  have HB := hide hbase
  have HROW := hide hrow
  clear b1 b2 hp1 hk2 hst hX hO1 hr2 HP hv1 hrow hbase
  go_wp2_with fail
  refine (unhide HRF).mono ?_
  rintro en w3 ⟨v2, rfl, hrow2, hs3⟩
  obtain ⟨ma, mc, rfl, hml1, hml2⟩ := ownsRow_slice hrow2
  have hb3 := hs3.size
  have hrow3 : w3.ownsRow base 50 4 (.slice va L.length vc) L.length (L.flatMap routeCells) := ownsRow_of_block (unhide HROW) fun g hg => hs3.heap (ownsRow_lt (unhide HROW) hg)
  have HPO3 := hide (unhide HPO w3 hs3)
  have HR1 := hide hrow3
  have HR2 := hide hrow2
  clear hs3 hrow2 hrow3 HROW HRF HPO y1 y2
  unfold maxLen at hvl2 hml2
  go_wp2
  go_loopw [11, 12] (fun t k w' => ∃ j : Nat, j ≤ L.length ∧ k = .int .i64 j ∧ t = .bool true ∧ ∃ m, w' = w3.drewN m) (fun _ k _ => L.length - (intOf k).toNat)
  case atStart => exact ⟨0, Nat.zero_le _, rfl, by simp, 0, rfl⟩
  case round =>
    obtain ⟨j, hj, rfl, rfl, m, rfl⟩ := hrel
    by_cases hlt : j < L.length
    · obtain ⟨g1, rfl, hg1⟩ := ownsRow_some (unhide HR1) (by omega)
      obtain ⟨g2, rfl, hg2⟩ := ownsRow_some (unhide HR2) (by omega)
      obtain ⟨p0, p1, p2, p3⟩ := rowCellL (unhide HR1) rfl hlt
      obtain ⟨q0, q1, q2, q3⟩ := rowCellL (unhide HR2) rfl hlt
      generalize L.getD j rt0 = x at *
      have hE : ∀ w, (binOp .eql 50 (.agg #[.int .i64 x.addr, .int .i64 x.len, .int .i64 x.hop, .int .i64 x.from_]) (.agg #[.int .i64 x.addr, .int .i64 x.len, .int .i64 x.hop, .int .i64 x.from_])).run Tryz.prog w = .ok (.bool true) w := fun w => by rw [eqRouteJ, (eqRJ_iff x x).2 rfl]
      have hj0' : (0 : Int) ≤ (j : Int) := by omega
      have hj1' : (j : Int) < (L.length : Int) := by omega
      go_wp2_with fail
      go_quiet (fail)
      go_wp2
      go_roundw
      case rel => exact ⟨j + 1, by omega, by go_num, rfl, m + nq, rfl⟩
      case measure => simp [intOf]; omega
    · obtain rfl : j = L.length := by omega
      obtain ⟨O2, hO2, hp2, hk2, h9⟩ := unhide HPO3
      obtain ⟨hat, hbl⟩ := (unhide HL).afterTo hi hO2 hp2 hk2
      have hat' := hat.still ((Kept.refl (fun _ => False) w3).drewN m)
      have hr1' : (w3.drewN m).ownsRow base 50 4 (.slice va L.length vc) L.length (L.flatMap routeCells) := ownsRow_of_block (unhide HR1) fun g hg => rfl
      have HRC := hide (routes_any hat'.blk hat'.wtag hat'.outR.trow hat'.outR.ttag hat'.outR.krow hat'.outR.ktag hr1' h9 hlen (by show base ≤ w3.heap.size; omega) hnt)
      have HAT := hide hat'
      have hbl' : Below B w (w3.drewN m) := ⟨hbl.os, hbl.tape, hbl.output, hbl.size, hbl.block⟩
      have HBL := hide hbl'
      have H9 := hide h9
      clear hat hat' hr1' hbl hbl' h9 hO2 hp2 hk2 HPO3
      go_wp2_with fail
      refine (unhide HRC).mono ?_
      rintro en w5 ⟨rfl, hpost⟩
      have hfin := (unhide HAT).routes (unhide H9) (fun k g hk hg e => by
        have := ((unhide HL).outR.fil k hk).2 g hg
        have := unhide HB g e
        omega) (fun k g hk hg e => by
        have := ((unhide HL).outB.fil k hk).2 g hg
        have := unhide HB g e
        omega) hpost
      have HF := hide hfin
      clear hfin hpost HRC
      go_wp2
      go_ret
      exact ⟨rfl, (unhide HF).1, Below.trans (unhide HBL) (unhide HF).2⟩
end Go.Proofs.YtgndledehlilkaaGreat
