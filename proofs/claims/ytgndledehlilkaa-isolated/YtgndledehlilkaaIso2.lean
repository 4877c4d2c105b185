/-
  Isolated: same.
-/
import Derived.Test.YtgndledehlilkaaIso1
namespace Go.Proofs.Ytgndledehlilkaa
open Go.RowKit

theorem eqSumsK (x : SumsD) (w : World) : (binOp .eql 32 (.agg #[.int .i64 x.own, .int .i64 x.taken, .int .i64 x.dropped, .int .i64 x.quota]) (.agg #[.int .i64 x.own, .int .i64 x.taken, .int .i64 x.dropped, .int .i64 x.quota])).run Try.prog w = .ok (.bool true) w := by
  have hu := Try.underlying32
  have hf : Try.prog.underlying 32 = some (.struct (Try.prog.fieldsOf 32)) := by unfold Program.fieldsOf; rw [hu]
  have hp : Try.prog.stoodInHeld 32 = false := by kernel_rfl
  rw [run_eql_struct, run_equalIn_struct w 9999 _ _ _ hf hp]
  unfold Program.fieldsOf
  rw [hu]
  simp [Op.eqFields, go_sem, Try.underlying3]
theorem toldArr2 (t : ToldD) (lv : Value) : (toldCells t lv).toArray = #[.int .i64 t.e, lv, .int .i64 t.s.own, .int .i64 t.s.taken, .int .i64 t.s.dropped, .int .i64 t.s.quota, .int .i64 t.r.addr, .int .i64 t.r.len, .int .i64 t.r.hop, .int .i64 t.r.from_, .bool t.b] := rfl
theorem ToldAt.make2 (w : World) (t : ToldD) (lv : Value) (ty : TypeId) : ToldAt (w.alloc (.cells #[.int .i64 t.e, lv, .int .i64 t.s.own, .int .i64 t.s.taken, .int .i64 t.s.dropped, .int .i64 t.s.quota, .int .i64 t.r.addr, .int .i64 t.r.len, .int .i64 t.r.hop, .int .i64 t.r.from_, .bool t.b] ty)) w.heap.size t lv := by
  refine ⟨by simp, fun j => World.frozen?_alloc_new _ _ _ _, ?_, ?_, ?_, ?_, ?_, ?_, ?_, ?_, ?_, ?_, ?_⟩ <;> rw [World.cell?_alloc_new] <;> rfl
set_option maxHeartbeats 8000000 in
theorem sameK {w : World} {base base' : Nat} (td : ToldD) {a a' : Option Addr} {c c' : Nat} (h : w.ownsRow base 34 4 (.slice a td.l.length c) td.l.length (td.l.flatMap routeCells)) (h' : w.ownsRow base' 34 4 (.slice a' td.l.length c') td.l.length (td.l.flatMap routeCells)) (hl : td.l.length ≤ 1000000) :
    Calls Try.prog 13 #[.agg #[.int .i64 td.e, .slice a td.l.length c, .int .i64 td.s.own, .int .i64 td.s.taken, .int .i64 td.s.dropped, .int .i64 td.s.quota, .int .i64 td.r.addr, .int .i64 td.r.len, .int .i64 td.r.hop, .int .i64 td.r.from_, .bool td.b], .agg #[.int .i64 td.e, .slice a' td.l.length c', .int .i64 td.s.own, .int .i64 td.s.taken, .int .i64 td.s.dropped, .int .i64 td.s.quota, .int .i64 td.r.addr, .int .i64 td.r.len, .int .i64 td.r.hop, .int .i64 td.r.from_, .bool td.b]] w fun e w' => e = .returned (.bool true) ∧ Still w w' := by
  have hS1 : Still w (w.alloc (.cells #[.int .i64 td.e, .slice a td.l.length c, .int .i64 td.s.own, .int .i64 td.s.taken, .int .i64 td.s.dropped, .int .i64 td.s.quota, .int .i64 td.r.addr, .int .i64 td.r.len, .int .i64 td.r.hop, .int .i64 td.r.from_, .bool td.b] 36)) := (Kept.refl _ _).alloc _
  have ht1 := ToldAt.make2 w td (.slice a td.l.length c) 36
  generalize hW1 : w.alloc (.cells #[.int .i64 td.e, .slice a td.l.length c, .int .i64 td.s.own, .int .i64 td.s.taken, .int .i64 td.s.dropped, .int .i64 td.s.quota, .int .i64 td.r.addr, .int .i64 td.r.len, .int .i64 td.r.hop, .int .i64 td.r.from_, .bool td.b] 36) = W1 at hS1 ht1
  have hs1 : W1.heap.size = w.heap.size + 1 := by rw [← hW1]; simp
  have hS2 : Still W1 (W1.alloc (.cells #[.int .i64 td.e, .slice a' td.l.length c', .int .i64 td.s.own, .int .i64 td.s.taken, .int .i64 td.s.dropped, .int .i64 td.s.quota, .int .i64 td.r.addr, .int .i64 td.r.len, .int .i64 td.r.hop, .int .i64 td.r.from_, .bool td.b] 36)) := (Kept.refl _ _).alloc _
  have ht2 := ToldAt.make2 W1 td (.slice a' td.l.length c') 36
  generalize hW2 : W1.alloc (.cells #[.int .i64 td.e, .slice a' td.l.length c', .int .i64 td.s.own, .int .i64 td.s.taken, .int .i64 td.s.dropped, .int .i64 td.s.quota, .int .i64 td.r.addr, .int .i64 td.r.len, .int .i64 td.r.hop, .int .i64 td.r.from_, .bool td.b] 36) = W2 at hS2 ht2
  have HW : Hid ((w.alloc (.cells #[.int .i64 td.e, .slice a td.l.length c, .int .i64 td.s.own, .int .i64 td.s.taken, .int .i64 td.s.dropped, .int .i64 td.s.quota, .int .i64 td.r.addr, .int .i64 td.r.len, .int .i64 td.r.hop, .int .i64 td.r.from_, .bool td.b] 36)).alloc (.cells #[.int .i64 td.e, .slice a' td.l.length c', .int .i64 td.s.own, .int .i64 td.s.taken, .int .i64 td.s.dropped, .int .i64 td.s.quota, .int .i64 td.r.addr, .int .i64 td.r.len, .int .i64 td.r.hop, .int .i64 td.r.from_, .bool td.b] 36) = W2) := by
    show _ = W2
    rw [hW1, hW2]
  rw [hs1] at ht2
  have HT1 := hide (ht1.kept hS2 (fun q => q))
  have HT2 := hide ht2
  have HST := hide (hS1.trans hS2)
  have HR := hide (kept_row h (hS1.trans hS2) (fun _ _ q => q))
  have HR' := hide (kept_row h' (hS1.trans hS2) (fun _ _ q => q))
  have q1 := (unhide HT1).c1
  have q2 := (unhide HT2).c1
  have ql1 := (unhide HT1).lt
  have ql2 := (unhide HT2).lt
  clear hS1 hS2 ht1 ht2 hW1 hW2 hs1 h h'
  go_enter Try.func13, Try.ntmps13
  go_wp2_with fail
  rw [unhide HW]
  generalize w.heap.size = s0 at *
  refine (alikeK (unhide HR) (unhide HR') hl).mono ?_
  rintro en w3 ⟨rfl, hs3⟩
  have ta := (unhide HT1).kept hs3 (fun q => q)
  have tb := (unhide HT2).kept hs3 (fun q => q)
  have a0 := ta.c0
  have a2 := ta.c2
  have a3 := ta.c3
  have a4 := ta.c4
  have a5 := ta.c5
  have a6 := ta.c6
  have a7 := ta.c7
  have a8 := ta.c8
  have a9 := ta.c9
  have a10 := ta.c10
  have al := ta.lt
  have b0 := tb.c0
  have b2 := tb.c2
  have b3 := tb.c3
  have b4 := tb.c4
  have b5 := tb.c5
  have b6 := tb.c6
  have b7 := tb.c7
  have b8 := tb.c8
  have b9 := tb.c9
  have b10 := tb.c10
  have bl := tb.lt
  have hE1 := fun w => eqSumsK td.s w
  have hE2 : ∀ w, (binOp .eql 34 (.agg #[.int .i64 td.r.addr, .int .i64 td.r.len, .int .i64 td.r.hop, .int .i64 td.r.from_]) (.agg #[.int .i64 td.r.addr, .int .i64 td.r.len, .int .i64 td.r.hop, .int .i64 td.r.from_])).run Try.prog w = .ok (.bool true) w := fun w => by
    rw [eqRoute, (eqR_iff td.r td.r).2 rfl]
  have HS3 := hide (Kept.trans (unhide HST) hs3)
  clear ta tb hs3 q1 q2 ql1 ql2
  cases hb : td.b with
  | true =>
    rw [hb] at a10 b10
    go_wp2
    go_ret
    exact ⟨rfl, unhide HS3⟩
  | false =>
    rw [hb] at a10 b10
    go_wp2
    go_ret
    exact ⟨rfl, unhide HS3⟩
end Go.Proofs.Ytgndledehlilkaa
