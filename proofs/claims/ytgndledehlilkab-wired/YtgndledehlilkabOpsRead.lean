/-
  The script of steps that is read.
-/
import Derived.Test.YtgndledehlilkabWirO
import Derived.Test.YtgndledehlilkabRows
import Derived.ProofKit
import Derived.OpenShut
import Derived.ShutString
import Derived.ChangeOld
import Derived.SizedLaws
import Derived.Deep.Slices
namespace Go.Proofs.Ytgndledehlilkab
open Go.ChangeShapes Go.WideShapes Go.ChangeAt Go.RowKit Go.Deep

theorem ownP : ownKnob Try.prog.godebug = none := by kernel_rfl
theorem laidOutP : laidOutB Try.prog = true := by kernel_rfl
theorem cellsOp : Try.prog.cellsOf 34 = 6 := by kernel_rfl
theorem cellsIntP : Try.prog.cellsOf 3 = 1 := by kernel_rfl
theorem bytesOp : Try.prog.bytesOf 34 = 48 := by kernel_rfl
set_option maxRecDepth 100000 in
theorem open_op {H : Type} {enc : TypeId × Value → H} {w : World} {spare : Nat → Bool} {held : Bool} {fuel : Nat} {cs : List Value} {x : DataW H × List MemPlace}
    (h : DataW.trod enc Try.prog w 0 spare held fuel 34 cs = some x) :
    ∃ s : OpD, cs = [.int .i64 s.kind, .int .i64 s.who, .int .i64 s.a, .int .i64 s.b, .int .i64 s.c, .int .i64 s.d] ∧ OpOk s := by
  obtain ⟨xs, m, _, _, hl, hxl, hf⟩ := DataW.trod_struct Try.underlying34 h
  rw [cellsOp] at hl
  obtain ⟨v0, v1, v2, v3, v4, v5, rfl⟩ : ∃ v0 v1 v2 v3 v4 v5, cs = [v0, v1, v2, v3, v4, v5] := by
    match cs, hl with
    | [v0, v1, v2, v3, v4, v5], _ => exact ⟨v0, v1, v2, v3, v4, v5, rfl⟩
  have hx9 : xs.length = 6 := hxl
  have g0 : DataW.trod enc Try.prog w 0 spare held m 3 (([v0, v1, v2, v3, v4, v5].drop 0).take (Try.prog.cellsOf 3)) = xs[0]? := hf 0 _ rfl
  have g1 : DataW.trod enc Try.prog w 0 spare held m 3 (([v0, v1, v2, v3, v4, v5].drop 1).take (Try.prog.cellsOf 3)) = xs[1]? := hf 1 _ rfl
  have g2 : DataW.trod enc Try.prog w 0 spare held m 3 (([v0, v1, v2, v3, v4, v5].drop 2).take (Try.prog.cellsOf 3)) = xs[2]? := hf 2 _ rfl
  have g3 : DataW.trod enc Try.prog w 0 spare held m 3 (([v0, v1, v2, v3, v4, v5].drop 3).take (Try.prog.cellsOf 3)) = xs[3]? := hf 3 _ rfl
  have g4 : DataW.trod enc Try.prog w 0 spare held m 3 (([v0, v1, v2, v3, v4, v5].drop 4).take (Try.prog.cellsOf 3)) = xs[4]? := hf 4 _ rfl
  have g5 : DataW.trod enc Try.prog w 0 spare held m 3 (([v0, v1, v2, v3, v4, v5].drop 5).take (Try.prog.cellsOf 3)) = xs[5]? := hf 5 _ rfl
  rw [List.getElem?_eq_getElem (by omega)] at g0 g1 g2 g3 g4 g5
  simp only [cellsIntP, List.drop_succ_cons, List.drop_zero, List.take_succ_cons, List.take_zero] at g0 g1 g2 g3 g4 g5
  obtain ⟨n0, k0, _, wf0⟩ := DataW.trod_int Try.underlying3 g0
  obtain ⟨n1, k1, _, wf1⟩ := DataW.trod_int Try.underlying3 g1
  obtain ⟨n2, k2, _, wf2⟩ := DataW.trod_int Try.underlying3 g2
  obtain ⟨n3, k3, _, wf3⟩ := DataW.trod_int Try.underlying3 g3
  obtain ⟨n4, k4, _, wf4⟩ := DataW.trod_int Try.underlying3 g4
  obtain ⟨n5, k5, _, wf5⟩ := DataW.trod_int Try.underlying3 g5
  simp only [List.cons.injEq, and_true] at k0 k1 k2 k3 k4 k5
  subst k0 k1 k2 k3 k4 k5
  have hb0 := bounds_i64 wf0
  have hb1 := bounds_i64 wf1
  have hb2 := bounds_i64 wf2
  have hb3 := bounds_i64 wf3
  have hb4 := bounds_i64 wf4
  have hb5 := bounds_i64 wf5
  exact ⟨⟨n0, n1, n2, n3, n4, n5⟩, rfl, ⟨hb0.1, hb0.2, hb1.1, hb1.2, hb2.1, hb2.2, hb3.1, hb3.2, hb4.1, hb4.2, hb5.1, hb5.2⟩⟩
theorem open_ops {H : Type} {enc : TypeId × Value → H} {w : World} {spare : Nat → Bool} {held : Bool} {fuel : Nat} {a : Option Addr} {n cap : Nat} {x : DataW H × List MemPlace}
    (h : DataW.trod enc Try.prog w 0 spare held fuel 22 [.slice a n cap] = some x) :
    ∃ S : Nat → OpD, (n ≤ 17592186044416 → OpsIn w a n S) ∧ ((a = none ∧ n = 0) ∨ ∃ D : List (DataW H), ∃ E : List (DataW H), x.1 = .slice D E ∧ D.length = n) := by
  rcases open_slice Try.underlying22 h with ⟨e, _⟩ | ⟨ad, l, c, m, k, D, Pl, e, _, hlc, _, hm, hx, hall⟩
  · simp at e
    obtain ⟨rfl, rfl, rfl⟩ := e
    exact ⟨fun _ => ⟨0, 0, 0, 0, 0, 0⟩, fun hh => ⟨hh, fun hh => absurd hh (by omega)⟩, .inl ⟨rfl, rfl⟩⟩
  · simp at e
    obtain ⟨rfl, rfl, rfl⟩ := e
    rw [cellsOp] at hall
    have hnm : n ≤ m := by rw [hm]; split <;> omega
    have key : ∀ i, i < n → ∃ s : OpD, (w.cells? 0 (ad.add (i * 6)) 6 = some [.int .i64 s.kind, .int .i64 s.who, .int .i64 s.a, .int .i64 s.b, .int .i64 s.c, .int .i64 s.d]) ∧ OpOk s := fun i hi => by
      obtain ⟨cs', h1, h2⟩ := hall i (by omega)
      obtain ⟨s, rfl, h3⟩ := open_op h2
      exact ⟨s, h1, h3⟩
    have ex : ∃ S : Nat → OpD, ∀ i, i < n → (w.cells? 0 (ad.add (i * 6)) 6 = some [.int .i64 (S i).kind, .int .i64 (S i).who, .int .i64 (S i).a, .int .i64 (S i).b, .int .i64 (S i).c, .int .i64 (S i).d]) ∧ OpOk (S i) := by
      refine ⟨fun i => if hi : i < n then Classical.choose (key i hi) else ⟨0, 0, 0, 0, 0, 0⟩, fun i hi => ?_⟩
      simp only [dif_pos hi]
      exact Classical.choose_spec (key i hi)
    obtain ⟨S, hS⟩ := ex
    refine ⟨S, fun hh => ⟨hh, fun h0 => ?_⟩, .inr ⟨_, _, by rw [hx], by simp⟩⟩
    have hc : ∀ i, i < n → ∀ j, j < 6 → w.cell? ((ad.add (i * 6)).add j) = [Value.int .i64 (S i).kind, .int .i64 (S i).who, .int .i64 (S i).a, .int .i64 (S i).b, .int .i64 (S i).c, .int .i64 (S i).d][j]? := fun i hi => (World.cells?_some (hS i hi).1).2.2
    obtain ⟨bs, off, spot⟩ := ad
    have hsp : spot = none := by
      have := hc 0 h0 0 (by omega)
      simp only [List.getElem?_cons_zero] at this
      have h2 := World.cell?_spot this
      simpa [Addr.add] using h2
    subst hsp
    have hadd : ∀ i j, ((⟨bs, off, none⟩ : Addr).add (i * 6)).add j = ⟨bs, off + i * 6 + j, none⟩ := fun i j => by
      rw [Go.Deep.add_add]
      unfold Addr.add
      split
      · rename_i hz
        simp only [Addr.mk.injEq, true_and, and_true]
        omega
      · simp [Nat.add_assoc]
    have hd : ∀ i, i < n → ∀ j, j < 6 → w.cell? ⟨bs, off + i * 6 + j, none⟩ = [Value.int .i64 (S i).kind, .int .i64 (S i).who, .int .i64 (S i).a, .int .i64 (S i).b, .int .i64 (S i).c, .int .i64 (S i).d][j]? := fun i hi j hj => by
      rw [← hadd]
      exact hc i hi j hj
    exact ⟨bs, off, rfl, World.block_lt_of_cell? w ⟨bs, off + 0 * 6 + 0, none⟩ (hd 0 h0 0 (by omega)), fun i hi => ⟨(hS i hi).2, hd i hi 0 (by omega), hd i hi 1 (by omega), hd i hi 2 (by omega), hd i hi 3 (by omega), hd i hi 4 (by omega), hd i hi 5 (by omega)⟩⟩
end Go.Proofs.Ytgndledehlilkab
