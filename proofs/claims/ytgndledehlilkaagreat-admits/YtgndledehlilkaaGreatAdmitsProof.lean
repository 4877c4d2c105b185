/-
  The statement 'Rows.AdmitsSaid', out of the walk.
-/
import Derived.Test.YtgndledehlilkaaGreatLawJ5
import Derived.Test.YtgndledehlilkaaGreatInst
import Derived.ProofKit
import Derived.OpenShut
import Derived.ShutString
import Derived.ChangeOld
import Derived.SizedLaws
import Derived.Deep.Slices
namespace Go.Proofs.YtgndledehlilkaaGreat
open Go.ChangeShapes Go.WideShapes Go.ChangeAt Go.RowKit Go.Deep

theorem own : ownKnob Tryz.prog.godebug = none := by kernel_rfl
theorem laidOut : laidOutB Tryz.prog = true := by kernel_rfl
theorem cellsStep : Tryz.prog.cellsOf 35 = 9 := by kernel_rfl
theorem cellsInt : Tryz.prog.cellsOf 3 = 1 := by kernel_rfl
theorem cellsBool : Tryz.prog.cellsOf 4 = 1 := by kernel_rfl
theorem cellsRules : Tryz.prog.cellsOf 32 = 1 := by kernel_rfl
theorem cellsBytes : Tryz.prog.cellsOf 33 = 1 := by kernel_rfl
theorem bytesStep : Tryz.prog.bytesOf 35 = 104 := by kernel_rfl

set_option maxRecDepth 100000 in
/-- The nine cells of a step that can be read. -/
theorem open_step {H : Type} {enc : TypeId × Value → H} {w : World} {spare : Nat → Bool} {held : Bool} {fuel : Nat} {cs : List Value} {x : DataW H × List MemPlace}
    (h : DataW.trod enc Tryz.prog w 0 spare held fuel 35 cs = some x) :
    ∃ s : StepD, cs = [.int .i64 s.kind, .int .i64 s.e, .int .i64 s.a, .int .i64 s.b, .int .i64 s.c, .int .i64 s.d, .bool s.f, .slice s.ra s.rn s.rc, .slice s.sa s.sn s.sc] ∧ -9223372036854775808 ≤ s.e ∧ s.e ≤ 9223372036854775807 := by
  obtain ⟨xs, m, _, _, hl, hxl, hf⟩ := DataW.trod_struct Tryz.underlying35 h
  rw [cellsStep] at hl
  obtain ⟨v0, v1, v2, v3, v4, v5, v6, v7, v8, rfl⟩ : ∃ v0 v1 v2 v3 v4 v5 v6 v7 v8, cs = [v0, v1, v2, v3, v4, v5, v6, v7, v8] := by
    match cs, hl with
    | [v0, v1, v2, v3, v4, v5, v6, v7, v8], _ => exact ⟨v0, v1, v2, v3, v4, v5, v6, v7, v8, rfl⟩
  have hx9 : xs.length = 9 := hxl
  have g0 : DataW.trod enc Tryz.prog w 0 spare held m 3 (([v0, v1, v2, v3, v4, v5, v6, v7, v8].drop 0).take (Tryz.prog.cellsOf 3)) = xs[0]? := hf 0 _ rfl
  have g1 : DataW.trod enc Tryz.prog w 0 spare held m 3 (([v0, v1, v2, v3, v4, v5, v6, v7, v8].drop 1).take (Tryz.prog.cellsOf 3)) = xs[1]? := hf 1 _ rfl
  have g2 : DataW.trod enc Tryz.prog w 0 spare held m 3 (([v0, v1, v2, v3, v4, v5, v6, v7, v8].drop 2).take (Tryz.prog.cellsOf 3)) = xs[2]? := hf 2 _ rfl
  have g3 : DataW.trod enc Tryz.prog w 0 spare held m 3 (([v0, v1, v2, v3, v4, v5, v6, v7, v8].drop 3).take (Tryz.prog.cellsOf 3)) = xs[3]? := hf 3 _ rfl
  have g4 : DataW.trod enc Tryz.prog w 0 spare held m 3 (([v0, v1, v2, v3, v4, v5, v6, v7, v8].drop 4).take (Tryz.prog.cellsOf 3)) = xs[4]? := hf 4 _ rfl
  have g5 : DataW.trod enc Tryz.prog w 0 spare held m 3 (([v0, v1, v2, v3, v4, v5, v6, v7, v8].drop 5).take (Tryz.prog.cellsOf 3)) = xs[5]? := hf 5 _ rfl
  have g6 : DataW.trod enc Tryz.prog w 0 spare held m 4 (([v0, v1, v2, v3, v4, v5, v6, v7, v8].drop 6).take (Tryz.prog.cellsOf 4)) = xs[6]? := hf 6 _ rfl
  have g7 : DataW.trod enc Tryz.prog w 0 spare held m 32 (([v0, v1, v2, v3, v4, v5, v6, v7, v8].drop 7).take (Tryz.prog.cellsOf 32)) = xs[7]? := hf 7 _ rfl
  have g8 : DataW.trod enc Tryz.prog w 0 spare held m 33 (([v0, v1, v2, v3, v4, v5, v6, v7, v8].drop 8).take (Tryz.prog.cellsOf 33)) = xs[8]? := hf 8 _ rfl
  rw [List.getElem?_eq_getElem (by omega)] at g0 g1 g2 g3 g4 g5 g6 g7 g8
  simp only [cellsInt, cellsBool, cellsRules, cellsBytes, List.drop_succ_cons, List.drop_zero, List.take_succ_cons, List.take_zero] at g0 g1 g2 g3 g4 g5 g6 g7 g8
  obtain ⟨n0, k0, _, _⟩ := DataW.trod_int Tryz.underlying3 g0
  obtain ⟨n1, k1, _, wf1⟩ := DataW.trod_int Tryz.underlying3 g1
  obtain ⟨n2, k2, _, _⟩ := DataW.trod_int Tryz.underlying3 g2
  obtain ⟨n3, k3, _, _⟩ := DataW.trod_int Tryz.underlying3 g3
  obtain ⟨n4, k4, _, _⟩ := DataW.trod_int Tryz.underlying3 g4
  obtain ⟨n5, k5, _, _⟩ := DataW.trod_int Tryz.underlying3 g5
  obtain ⟨n6, k6, _⟩ := DataW.trod_bool Tryz.underlying4 g6
  have k7 : ∃ a l c, v7 = .slice a l c := by
    rcases open_slice Tryz.underlying32 g7 with ⟨e, _⟩ | ⟨a, l, c, _, _, _, _, e, _⟩
    · simp at e; exact ⟨_, _, _, e⟩
    · simp at e; exact ⟨_, _, _, e⟩
  have k8 : ∃ a l c, v8 = .slice a l c := by
    rcases open_slice Tryz.underlying33 g8 with ⟨e, _⟩ | ⟨a, l, c, _, _, _, _, e, _⟩
    · simp at e; exact ⟨_, _, _, e⟩
    · simp at e; exact ⟨_, _, _, e⟩
  obtain ⟨ra, rn, rc, k7⟩ := k7
  obtain ⟨sa, sn, sc, k8⟩ := k8
  simp only [List.cons.injEq, and_true] at k0 k1 k2 k3 k4 k5 k6
  subst k0 k1 k2 k3 k4 k5 k6 k7 k8
  have hb := bounds_i64 wf1
  exact ⟨⟨n0, n1, n2, n3, n4, n5, n6, ra, rn, rc, sa, sn, sc⟩, rfl, hb.1, hb.2⟩
/-- The script that can be read. -/
theorem open_script {H : Type} {enc : TypeId × Value → H} {w : World} {spare : Nat → Bool} {held : Bool} {fuel : Nat} {a : Option Addr} {n cap : Nat} {x : DataW H × List MemPlace}
    (h : DataW.trod enc Tryz.prog w 0 spare held fuel 22 [.slice a n cap] = some x) :
    ∃ S : Nat → StepD, (0 < n → ∃ bs off, a = some ⟨bs, off, none⟩ ∧ bs < w.heap.size ∧ ScriptAt w bs off n S) ∧ ((a = none ∧ n = 0) ∨ ∃ D : List (DataW H), ∃ E : List (DataW H), x.1 = .slice D E ∧ D.length = n) := by
  rcases open_slice Tryz.underlying22 h with ⟨e, _⟩ | ⟨ad, l, c, m, k, D, Pl, e, _, hlc, _, hm, hx, hall⟩
  · simp at e
    obtain ⟨rfl, rfl, rfl⟩ := e
    exact ⟨fun _ => ⟨0, 0, 0, 0, 0, 0, false, none, 0, 0, none, 0, 0⟩, fun hh => absurd hh (by omega), .inl ⟨rfl, rfl⟩⟩
  · simp at e
    obtain ⟨rfl, rfl, rfl⟩ := e
    rw [cellsStep] at hall
    have hnm : n ≤ m := by rw [hm]; split <;> omega
    have key : ∀ i, i < n → ∃ s : StepD, (w.cells? 0 (ad.add (i * 9)) 9 = some [.int .i64 s.kind, .int .i64 s.e, .int .i64 s.a, .int .i64 s.b, .int .i64 s.c, .int .i64 s.d, .bool s.f, .slice s.ra s.rn s.rc, .slice s.sa s.sn s.sc]) ∧ -9223372036854775808 ≤ s.e ∧ s.e ≤ 9223372036854775807 := fun i hi => by
      obtain ⟨cs', h1, h2⟩ := hall i (by omega)
      obtain ⟨s, rfl, h3, h4⟩ := open_step h2
      exact ⟨s, h1, h3, h4⟩
    have ex : ∃ S : Nat → StepD, ∀ i, i < n → (w.cells? 0 (ad.add (i * 9)) 9 = some [.int .i64 (S i).kind, .int .i64 (S i).e, .int .i64 (S i).a, .int .i64 (S i).b, .int .i64 (S i).c, .int .i64 (S i).d, .bool (S i).f, .slice (S i).ra (S i).rn (S i).rc, .slice (S i).sa (S i).sn (S i).sc]) ∧ -9223372036854775808 ≤ (S i).e ∧ (S i).e ≤ 9223372036854775807 := by
      refine ⟨fun i => if hi : i < n then Classical.choose (key i hi) else ⟨0, 0, 0, 0, 0, 0, false, none, 0, 0, none, 0, 0⟩, fun i hi => ?_⟩
      simp only [dif_pos hi]
      exact Classical.choose_spec (key i hi)
    obtain ⟨S, hS⟩ := ex
    refine ⟨S, fun h0 => ?_, .inr ⟨_, _, by rw [hx], by simp⟩⟩
    have hc : ∀ i, i < n → ∀ j, j < 9 → w.cell? ((ad.add (i * 9)).add j) = [Value.int .i64 (S i).kind, .int .i64 (S i).e, .int .i64 (S i).a, .int .i64 (S i).b, .int .i64 (S i).c, .int .i64 (S i).d, .bool (S i).f, .slice (S i).ra (S i).rn (S i).rc, .slice (S i).sa (S i).sn (S i).sc][j]? := fun i hi => (World.cells?_some (hS i hi).1).2.2
    obtain ⟨bs, off, spot⟩ := ad
    have hsp : spot = none := by
      have := hc 0 h0 0 (by omega)
      simp only [List.getElem?_cons_zero] at this
      have h2 := World.cell?_spot this
      simpa [Addr.add] using h2
    subst hsp
    have hadd : ∀ i j, ((⟨bs, off, none⟩ : Addr).add (i * 9)).add j = ⟨bs, off + i * 9 + j, none⟩ := fun i j => by
      rw [Go.Deep.add_add]
      unfold Addr.add
      split
      · rename_i hz
        simp only [Addr.mk.injEq, true_and, and_true]
        omega
      · simp [Nat.add_assoc]
    have hd : ∀ i, i < n → ∀ j, j < 9 → w.cell? ⟨bs, off + i * 9 + j, none⟩ = [Value.int .i64 (S i).kind, .int .i64 (S i).e, .int .i64 (S i).a, .int .i64 (S i).b, .int .i64 (S i).c, .int .i64 (S i).d, .bool (S i).f, .slice (S i).ra (S i).rn (S i).rc, .slice (S i).sa (S i).sn (S i).sc][j]? := fun i hi j hj => by rw [← hadd]; exact hc i hi j hj
    refine ⟨bs, off, rfl, ?_, fun i hi => hd i hi 0 (by omega), fun i hi => hd i hi 1 (by omega), fun i hi => hd i hi 2 (by omega), fun i hi => hd i hi 3 (by omega), fun i hi => hd i hi 4 (by omega), fun i hi => hd i hi 5 (by omega), fun i hi => hd i hi 6 (by omega), fun i hi => hd i hi 7 (by omega), fun i hi => hd i hi 8 (by omega), fun i hi => (hS i hi).2.1, fun i hi => (hS i hi).2.2⟩
    exact World.block_lt_of_cell? w ⟨bs, off + 0 * 9 + 0, none⟩ (hd 0 h0 0 (by omega))

set_option maxRecDepth 100000 in
theorem admits_lifted (os : Os) (started : os.Started) (H : Type) (enc : TypeId × Value → H) :
    ReturnsInHanded {} Tryz.checked os 3 .any (Rows.admitsSpec.pre6 enc Tryz.prog Tryz.f3 Rows.admitsRow.domain false) (Rows.admitsSpec.post enc Tryz.prog Tryz.f3 false true false false) := by
  refine returnsInHanded_of_change_sized (C := Tryz.checked) own started (by kernel_rfl) Tryz.func3
    (ChangeSpec.witness6 (enc := enc) (C := Tryz.checked) false ⟨#[], #[.slice none 0 0], []⟩ 8 (by kernel_rfl) (by kernel_rfl) (by kernel_rfl) (by kernel_rfl)) ?_
  intro W base args ds gs before hval0 hW hcnd hsz0 _
  have hval : ∀ (j : Nat) t v, Tryz.f3.params[j]? = some t → args[j]? = some v → Value.okWide Tryz.prog W .any base t v := hval0
  have hsz : (DataW.weightsEach Tryz.prog (Tryz.f3.params.toList ++ Rows.admitsSpec.plain.varTypes Tryz.prog) (ds ++ gs)).all (· ≤ reachBytes) = true := hsz0
  have hW' := hW
  obtain ⟨p, q, hA0, hV, rfl, hfz, hnd⟩ := hW
  have hA : DataW.TrodAll enc Tryz.prog W 0 (fun _ => true) true Tryz.f3.params.toList args.toList ds p := hA0
  rw [Tryz.params3] at hA hval hsz
  obtain ⟨v0, d0, rfl, rfl, h0⟩ := trodAll_one hA
  obtain ⟨rfl, rfl⟩ := trodVars_none hV
  obtain ⟨a0, n, cap, rfl⟩ := okWide_slice Tryz.underlying22 (hval 0 22 v0 rfl rfl)
  have k0 := h0
  have lt0 : ∀ x ∈ p, x.block < W.heap.size := by obtain ⟨m, hm⟩ := k0; exact DataW.trod_lt m _ _ _ hm
  obtain ⟨fuel, hf⟩ := h0
  have hf' : DataW.trod enc Tryz.prog W 0 (fun _ => true) true fuel 22 [.slice a0 n cap] = some (d0, p) := by simpa [Value.cells] using hf
  obtain ⟨S, hS, hD⟩ := open_script hf'
  have hn : n * 104 ≤ 140737488355328 := by
    rcases hD with ⟨_, rfl⟩ | ⟨D, E, hd, hl⟩
    · omega
    · have hd' : d0 = .slice D E := hd
      subst hd'
      have := sized_slice hsz (j := 0) (t := 22) (e := 35) rfl rfl Tryz.underlying22
      rw [bytesStep, hl] at this
      simp only [reachBytes] at this
      omega
  clear hA0 hval0
  refine (admitsJ_any engX2 a0 n cap S hS hn).mono fun e W' ⟨he, bel⟩ => ?_
  subst he
  exact ⟨_, rfl, _, _, _, [], _, [], hW', trodAll_mk1 (shut_bool Tryz.underlying4 _), trodAll_mk1 (Below.trod laidOut (by kernel_rfl) (of_decide_eq_true (by kernel_rfl)) k0 bel lt0), rfl, bel.frame _, fun h => by cases h⟩

theorem admits_holds : Rows.AdmitsSaid :=
  OpenClaim.holds_of_wide 3 Tryz.f3 rfl rfl rfl rfl rfl rfl rfl ⟨rfl, rfl, rfl, rfl, rfl⟩ rfl rfl rfl rfl rfl (by kernel_rfl) Tryz.func3 (by kernel_rfl)
    (of_decide_eq_true (by kernel_rfl)) (by unfold Func.isWrapper; first | (rw [if_pos (by decide +kernel)]; kernel_rfl) | (rw [if_neg (by decide +kernel)]; exact ⟨rfl, rfl⟩))
    (fun os started H enc _ => admits_lifted os started H enc)
end Go.Proofs.YtgndledehlilkaaGreat
