/-
  Walks: districtlaw: tells, for Lookup and Pass.
-/
import Derived.Test.YtgndledehlilkaaGreatLawI1M
import Derived.Test.YtgndledehlilkaaGreatRefL1M
import Derived.Test.YtgndledehlilkaaGreatInst2
import Derived.Laws.StructEq
namespace Go.Proofs.YtgndledehlilkaaGreat
open Go.RowKit

def eqRJ (x y : RouteD) : Bool := x.addr == y.addr && (x.len == y.len && (x.hop == y.hop && x.from_ == y.from_))
theorem eqRJ_iff (x y : RouteD) : eqRJ x y = true ↔ x = y := by
  obtain ⟨a, b, c, d⟩ := x
  obtain ⟨a', b', c', d'⟩ := y
  unfold eqRJ
  simp only [Bool.and_eq_true, beq_iff_eq, RouteD.mk.injEq]
theorem eqRouteJ (x y : RouteD) (w : World) : (binOp .eql 50 (.agg #[.int .i64 x.addr, .int .i64 x.len, .int .i64 x.hop, .int .i64 x.from_]) (.agg #[.int .i64 y.addr, .int .i64 y.len, .int .i64 y.hop, .int .i64 y.from_])).run Tryz.prog w = .ok (.bool (eqRJ x y)) w := by
  have hu := Tryz.underlying50
  have hf : Tryz.prog.underlying 50 = some (.struct (Tryz.prog.fieldsOf 50)) := by unfold Program.fieldsOf; rw [hu]
  have hp : Tryz.prog.stoodInHeld 50 = false := by kernel_rfl
  rw [run_eql_struct, run_equalIn_struct w 9999 _ _ _ hf hp]
  unfold Program.fieldsOf
  rw [hu]
  unfold eqRJ
  cases h1 : (x.addr == y.addr) <;> cases h2 : (x.len == y.len) <;> cases h3 : (x.hop == y.hop) <;> cases h4 : (x.from_ == y.from_) <;> simp [Op.eqFields, go_sem, Tryz.underlying3, h1, h2, h3, h4]
set_option maxRecDepth 100000 in
set_option maxHeartbeats 4000000 in
theorem lawI_look (I : EngI) (K : EngI3 I) {w : World} {O : Tag} {e bx by_ : Nat} {r : RefS} (h : PairI I w O e bx by_ r) (bw : Nat) (ei a b c d : Int) (f : Bool) (ra : Option Addr) (rn rc : Nat) (sa : Option Addr) (sn sc : Nat) :
    Calls Tryz.prog 16 #[.pointer (some ⟨bw, 0, none⟩), engW bx by_, stepW 12 ei a b c d f (.slice ra rn rc) (.slice sa sn sc)] w fun en w' => en = .returned (.bool true) ∧ AfterI I w O e bx by_ w' := by
  unfold engW stepW
  have HP := hide h
  clear h
  go_enter Tryz.func16, Tryz.ntmps16
  go_wp2_with fail
  have hst : Still w ((w.alloc (.cells #[.pointer (some ⟨bx, 0, none⟩), .pointer (some ⟨by_, 0, none⟩)] 46)).alloc (.cells #[.int .i64 12, .int .i64 ei, .int .i64 a, .int .i64 b, .int .i64 c, .int .i64 d, .bool f, .slice ra rn rc, .slice sa sn sc] 35)) := ((Kept.refl _ _).alloc _).alloc _
  have hp0 := (unhide HP).boxed (Kept.refl (fun _ => False) w)
  have hp1 := (unhide HP).boxed hst
  refine (K.lookup hp1.x hp1.ok _ _).mono ?_
  rintro en w2 ⟨rfl, O1, hO1, hX, hk2⟩
  obtain ⟨b1, b2⟩ := box_two _ _ hk2 (cutO_not (Nat.le_refl _)) (cutO_not (by omega))
  have y1 : w2.cell? ⟨w.heap.size, 1, none⟩ = some (.pointer (some ⟨by_, 0, none⟩)) := by rw [b1, World.cell?_alloc_new]; rfl
  have y2 : w2.cell? ⟨w.heap.size + 1, 2, none⟩ = some (.int .i64 a) := by rw [b2, ← World.size_alloc w, World.cell?_alloc_new]; rfl
  have y3 : w2.cell? ⟨w.heap.size + 1, 3, none⟩ = some (.int .i64 b) := by rw [b2, ← World.size_alloc w, World.cell?_alloc_new]; rfl
  have hr2 := hp1.ref hk2 hO1
  have hsz : w.heap.size + 2 ≤ w2.heap.size := by have := hk2.size; simp at this; omega
  have HRF := hide (fun (w3 : World) (hs : Still w2 w3) => refLookup_fn (hr2.still hs) hp1.ok a b)
  have HAF := hide (fun (w3 : World) (hs : Still w2 w3) => (after_same hp0 hst hO1 hX hk2 hs).uncut)
  generalize lookR r a b = le at *
  generalize lookA r a b = x at *
  have hS2 : Still w2 (w2.alloc (.cells #[.int .i64 x.addr, .int .i64 x.len, .int .i64 x.hop, .int .i64 x.from_] 50)) := (Kept.refl _ _).alloc _
  have hbx := RtAt.new w2 x.addr x.len x.hop x.from_ 50
  have z1 := (hS2.cell w.heap.size 1 (by omega)).trans y1
  have z2 := (hS2.cell (w.heap.size + 1) 2 (by omega)).trans y2
  have z3 := (hS2.cell (w.heap.size + 1) 3 (by omega)).trans y3
  have HBX := hide hbx
  have HS2 := hide hS2
  clear b1 b2 hp0 hp1 hk2 hst hX hO1 hr2 y1 y2 y3 hS2 hbx HP
  go_wp2_with fail
  generalize hs0 : w.heap.size = s0 at *
  generalize hs2 : w2.heap.size = s2 at *
  generalize w2.alloc (.cells #[.int .i64 x.addr, .int .i64 x.len, .int .i64 x.hop, .int .i64 x.from_] 50) = W2 at *
  refine (unhide HRF _ (unhide HS2)).mono ?_
  rintro en w3 ⟨rfl, hs3⟩
  have ba := (unhide HBX).kept hs3 (fun q => q)
  have hS4 : Still w3 (w3.alloc (.cells #[.int .i64 x.addr, .int .i64 x.len, .int .i64 x.hop, .int .i64 x.from_] 50)) := (Kept.refl _ _).alloc _
  have bb := RtAt.new w3 x.addr x.len x.hop x.from_ 50
  have bc := ba.kept hS4 (fun q => q)
  have p0 := bc.c0
  have p1 := bc.c1
  have p2 := bc.c2
  have p3 := bc.c3
  have pl := bc.lt
  have q0 := bb.c0
  have q1 := bb.c1
  have q2 := bb.c2
  have q3 := bb.c3
  have ql := bb.lt
  have hE : ∀ w, (binOp .eql 50 (.agg #[.int .i64 x.addr, .int .i64 x.len, .int .i64 x.hop, .int .i64 x.from_]) (.agg #[.int .i64 x.addr, .int .i64 x.len, .int .i64 x.hop, .int .i64 x.from_])).run Tryz.prog w = .ok (.bool true) w := fun w => by rw [eqRouteJ, (eqRJ_iff x x).2 rfl]
  have HF := hide (unhide HAF _ ((unhide HS2).trans (hs3.trans hS4)))
  clear ba bb bc hS4 hs3 HRF HAF HBX HS2
  go_wp2
  go_ret
  exact ⟨rfl, unhide HF⟩
set_option maxRecDepth 100000 in
set_option maxHeartbeats 4000000 in
theorem lawI_pass (I : EngI) (K : EngI3 I) {w : World} {O : Tag} {e bx by_ : Nat} {r : RefS} (h : PairI I w O e bx by_ r) (bw : Nat) (ei a b c d : Int) (f : Bool) (ra : Option Addr) (rn rc : Nat) (sa : Option Addr) (sn sc : Nat) :
    Calls Tryz.prog 16 #[.pointer (some ⟨bw, 0, none⟩), engW bx by_, stepW 13 ei a b c d f (.slice ra rn rc) (.slice sa sn sc)] w fun en w' => en = .returned (.bool true) ∧ AfterI I w O e bx by_ w' := by
  unfold engW stepW
  have HP := hide h
  clear h
  go_enter Tryz.func16, Tryz.ntmps16
  go_wp2_with fail
  have hst : Still w ((w.alloc (.cells #[.pointer (some ⟨bx, 0, none⟩), .pointer (some ⟨by_, 0, none⟩)] 46)).alloc (.cells #[.int .i64 13, .int .i64 ei, .int .i64 a, .int .i64 b, .int .i64 c, .int .i64 d, .bool f, .slice ra rn rc, .slice sa sn sc] 35)) := ((Kept.refl _ _).alloc _).alloc _
  have hp0 := (unhide HP).boxed (Kept.refl (fun _ => False) w)
  have hp1 := (unhide HP).boxed hst
  refine (K.pass hp1.x hp1.ok _ _ _ _).mono ?_
  rintro en w2 ⟨rfl, O1, hO1, hX, hk2⟩
  obtain ⟨b1, b2⟩ := box_two _ _ hk2 (cutO_not (Nat.le_refl _)) (cutO_not (by omega))
  have y1 : w2.cell? ⟨w.heap.size, 1, none⟩ = some (.pointer (some ⟨by_, 0, none⟩)) := by rw [b1, World.cell?_alloc_new]; rfl
  have y2 : w2.cell? ⟨w.heap.size + 1, 2, none⟩ = some (.int .i64 a) := by rw [b2, ← World.size_alloc w, World.cell?_alloc_new]; rfl
  have y3 : w2.cell? ⟨w.heap.size + 1, 3, none⟩ = some (.int .i64 b) := by rw [b2, ← World.size_alloc w, World.cell?_alloc_new]; rfl
  have y4 : w2.cell? ⟨w.heap.size + 1, 4, none⟩ = some (.int .i64 c) := by rw [b2, ← World.size_alloc w, World.cell?_alloc_new]; rfl
  have y6 : w2.cell? ⟨w.heap.size + 1, 6, none⟩ = some (.bool f) := by rw [b2, ← World.size_alloc w, World.cell?_alloc_new]; rfl
  have hr2 := hp1.ref hk2 hO1
  have HRF := hide (refPass_fn hr2 hp1.ok a b c f)
  have HAF := hide (fun (w3 : World) (hs : Still w2 w3) => (after_same hp0 hst hO1 hX hk2 hs).uncut)
  generalize passR r a b c = le at *
  generalize passA r a b c f = x at *
  clear b1 b2 hp0 hp1 hk2 hst hX hO1 hr2 HP
  go_wp2_with fail
  refine (unhide HRF).mono ?_
  rintro en w3 ⟨rfl, hs3⟩
  have HF := hide (unhide HAF _ hs3)
  clear hs3 HRF HAF
  cases x with
  | true =>
    go_wp2
    go_ret
    exact ⟨rfl, unhide HF⟩
  | false =>
    go_wp2
    go_ret
    exact ⟨rfl, unhide HF⟩
end Go.Proofs.YtgndledehlilkaaGreat
