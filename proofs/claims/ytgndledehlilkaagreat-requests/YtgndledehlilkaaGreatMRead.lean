/-
  The script that is read: with the rules and the bytes of its steps.
-/
import Derived.Test.YtgndledehlilkaaGreatLawM7M
import Derived.Test.YtgndledehlilkaaGreatLooksRead
namespace Go.Proofs.YtgndledehlilkaaGreat
open Go.ChangeShapes Go.WideShapes Go.ChangeAt Go.RowKit Go.Deep

theorem cellsByteM : Tryz.prog.cellsOf 5 = 1 := by kernel_rfl
theorem bytesByteM : Tryz.prog.bytesOf 5 = 1 := by kernel_rfl
/-- Bytes that can be read. -/
theorem open_bytesM {H : Type} {enc : TypeId × Value → H} {w : World} {spare : Nat → Bool} {held : Bool} {fuel : Nat} {a : Option Addr} {n cap : Nat} {x : DataW H × List MemPlace}
    (h : DataW.trod enc Tryz.prog w 0 spare held fuel 33 [.slice a n cap] = some x) :
    (a = none ∧ n = 0 ∧ cap = 0) ∨ ∃ (ad : Addr) (S : List Int) (D E : List (DataW H)), a = some ad ∧ S.length = n ∧ n ≤ cap ∧ x.1 = .slice D E ∧ D.length = n ∧ okBytes S ∧ ∀ j, j < n → ∃ bs off, ad = ⟨bs, off, none⟩ ∧ bs < w.heap.size ∧ w.cell? ⟨bs, off + j, none⟩ = some (.int .u8 (fB S j)) := by
  rcases open_slice Tryz.underlying33 h with ⟨e, _⟩ | ⟨ad, l, c, m, k, D, Pl, e, _, hlc, _, hm, hx, hall⟩
  · simp at e
    exact .inl e
  · simp at e
    obtain ⟨rfl, rfl, rfl⟩ := e
    rw [cellsByteM] at hall
    have hnm : n ≤ m := by rw [hm]; split <;> omega
    have key : ∀ i, i < n → ∃ s : Int, w.cells? 0 (ad.add (i * 1)) 1 = some [.int .u8 s] ∧ 0 ≤ s ∧ s ≤ 255 := fun i hi => by
      obtain ⟨cs', h1, h2⟩ := hall i (by omega)
      obtain ⟨s, rfl, _, hw⟩ := DataW.trod_int Tryz.underlying5 h2
      exact ⟨s, h1, bounds_u8 hw⟩
    have ex : ∃ S : Nat → Int, ∀ i, i < n → w.cells? 0 (ad.add (i * 1)) 1 = some [.int .u8 (S i)] ∧ 0 ≤ S i ∧ S i ≤ 255 := by
      refine ⟨fun i => if hi : i < n then Classical.choose (key i hi) else 0, fun i hi => ?_⟩
      simp only [dif_pos hi]
      exact Classical.choose_spec (key i hi)
    obtain ⟨S, hS⟩ := ex
    have hlen : ((List.range n).map S).length = n := by simp
    have hg : ∀ j, j < n → fB ((List.range n).map S) j = S j := fun j hj => by
      unfold fB
      rw [List.getD_eq_getElem?_getD, List.getElem?_map, List.getElem?_range hj]
      rfl
    refine .inr ⟨ad, (List.range n).map S, _, _, rfl, hlen, by omega, by rw [hx], by simp, fun x hx => ?_, fun j hj => ?_⟩
    · obtain ⟨i, hi, rfl⟩ := List.mem_map.1 hx
      exact (hS i (List.mem_range.1 hi)).2
    · have hc := (World.cells?_some (hS j hj).1).2.2 0 (by omega)
      rw [Go.Deep.add_add] at hc
      have hc' : w.cell? (ad.add (j * 1 + 0)) = some (.int .u8 (S j)) := hc
      rw [Nat.mul_one, Nat.add_zero] at hc'
      have hc0 : w.cell? (ad.add (0 * 1 + 0)) = some (.int .u8 (S 0)) := by
        have := (World.cells?_some (hS 0 (by omega)).1).2.2 0 (by omega)
        rw [Go.Deep.add_add] at this
        exact this
      obtain ⟨bs, off, spot⟩ := ad
      have hsp : spot = none := by
        have h2 := World.cell?_spot hc0
        simpa [Addr.add] using h2
      subst hsp
      have hadd : (⟨bs, off, none⟩ : Addr).add j = ⟨bs, off + j, none⟩ := by
        unfold Addr.add
        split
        · simp only [Addr.mk.injEq, true_and, and_true]; omega
        · rfl
      rw [hadd] at hc'
      exact ⟨bs, off, rfl, World.block_lt_of_cell? w ⟨bs, off + j, none⟩ hc', by rw [hg j hj]; exact hc'⟩
set_option maxRecDepth 100000 in
/-- The nine cells of a step that can be read. -/
theorem open_stepM {H : Type} {enc : TypeId × Value → H} {w : World} {spare : Nat → Bool} {held : Bool} {fuel : Nat} {cs : List Value} {x : DataW H × List MemPlace}
    (h : DataW.trod enc Tryz.prog w 0 spare held fuel 35 cs = some x) :
    ∃ s : StepD, cs = [.int .i64 s.kind, .int .i64 s.e, .int .i64 s.a, .int .i64 s.b, .int .i64 s.c, .int .i64 s.d, .bool s.f, .slice s.ra s.rn s.rc, .slice s.sa s.sn s.sc] ∧ -9223372036854775808 ≤ s.e ∧ s.e ≤ 9223372036854775807 ∧ ∃ (fu : Nat) (y : DataW H × List MemPlace) (parts : List (DataW H)), DataW.trod enc Tryz.prog w 0 spare held fu 32 [.slice s.ra s.rn s.rc] = some y ∧ x.1 = .agg parts ∧ parts[7]? = some y.1 ∧ ∃ z : DataW H × List MemPlace, DataW.trod enc Tryz.prog w 0 spare held fu 33 [.slice s.sa s.sn s.sc] = some z ∧ parts[8]? = some z.1 := by
  obtain ⟨xs, m, _, hxe, hl, hxl, hf⟩ := DataW.trod_struct Tryz.underlying35 h
  rw [cellsStepL] at hl
  obtain ⟨v0, v1, v2, v3, v4, v5, v6, v7, v8, rfl⟩ : ∃ v0 v1 v2 v3 v4 v5 v6 v7 v8, cs = [v0, v1, v2, v3, v4, v5, v6, v7, v8] := by
    match cs, hl with
    | [v0, v1, v2, v3, v4, v5, v6, v7, v8], _ => exact ⟨v0, v1, v2, v3, v4, v5, v6, v7, v8, rfl⟩
  have hx9 : xs.length = 9 := hxl
  have g0 : DataW.trod enc Tryz.prog w 0 spare held m 3 (([v0, v1, v2, v3, v4, v5, v6, v7, v8].drop 0).take (Tryz.prog.cellsOf 3)) = xs[0]? := hf 0 _ rfl
  have g1 : DataW.trod enc Tryz.prog w 0 spare held m 3 (([v0, v1, v2, v3, v4, v5, v6, v7, v8].drop 1).take (Tryz.prog.cellsOf 3)) = xs[1]? := hf 1 _ rfl
  have g2 : DataW.trod enc Tryz.prog w 0 spare held m 3 (([v0, v1, v2, v3, v4, v5, v6, v7, v8].drop 2).take (Tryz.prog.cellsOf 3)) = xs[2]? := hf 2 _ rfl
  have g3 : DataW.trod enc Tryz.prog w 0 spare held m 3 (([v0, v1, v2, v3, v4, v5, v6, v7, v8].drop 3).take (Tryz.prog.cellsOf 3)) = xs[3]? := hf 3 _ rfl
  have g4 : DataW.trod enc Tryz.prog w 0 spare held m 3 (([v0, v1, v2, v3, v4, v5, v6, v7, v8].drop 4).take (Tryz.prog.cellsOf 3)) = xs[4]? := hf 4 _ rfl
  have g5 : DataW.trod enc Tryz.prog w 0 spare held m 3 (([v0, v1, v2, v3, v4, v5, v6, v7, v8].drop 5).take (Tryz.prog.cellsOf 3)) = xs[5]? := hf 5 _ rfl
  have g6 : DataW.trod enc Tryz.prog w 0 spare held m 4 (([v0, v1, v2, v3, v4, v5, v6, v7, v8].drop 6).take (Tryz.prog.cellsOf 4)) = xs[6]? := hf 6 _ rfl
  have g7 : DataW.trod enc Tryz.prog w 0 spare held m 32 (([v0, v1, v2, v3, v4, v5, v6, v7, v8].drop 7).take (Tryz.prog.cellsOf 32)) = xs[7]? := hf 7 _ rfl
  have g8 : DataW.trod enc Tryz.prog w 0 spare held m 33 (([v0, v1, v2, v3, v4, v5, v6, v7, v8].drop 8).take (Tryz.prog.cellsOf 33)) = xs[8]? := hf 8 _ rfl
  rw [List.getElem?_eq_getElem (by omega)] at g0 g1 g2 g3 g4 g5 g6 g7 g8
  simp only [cellsIntL, cellsBoolL, cellsRulesL, cellsBytesL, List.drop_succ_cons, List.drop_zero, List.take_succ_cons, List.take_zero] at g0 g1 g2 g3 g4 g5 g6 g7 g8
  obtain ⟨n0, k0, _, _⟩ := DataW.trod_int Tryz.underlying3 g0
  obtain ⟨n1, k1, _, wf1⟩ := DataW.trod_int Tryz.underlying3 g1
  obtain ⟨n2, k2, _, _⟩ := DataW.trod_int Tryz.underlying3 g2
  obtain ⟨n3, k3, _, _⟩ := DataW.trod_int Tryz.underlying3 g3
  obtain ⟨n4, k4, _, _⟩ := DataW.trod_int Tryz.underlying3 g4
  obtain ⟨n5, k5, _, _⟩ := DataW.trod_int Tryz.underlying3 g5
  obtain ⟨n6, k6, _⟩ := DataW.trod_bool Tryz.underlying4 g6
  have g7' := g7
  have g8' := g8
  have k7 : ∃ a l c, v7 = .slice a l c := by
    rcases open_slice Tryz.underlying32 g7 with ⟨e, _⟩ | ⟨a, l, c, _, _, _, _, e, _⟩
    · simp at e; exact ⟨_, _, _, e⟩
    · simp at e; exact ⟨_, _, _, e⟩
  have k8 : ∃ a l c, v8 = .slice a l c := by
    rcases open_slice Tryz.underlying33 g8 with ⟨e, _⟩ | ⟨a, l, c, _, _, _, _, e, _⟩
    · simp at e; exact ⟨_, _, _, e⟩
    · simp at e; exact ⟨_, _, _, e⟩
  obtain ⟨ra, rn, rc, k7⟩ := k7
  obtain ⟨sa, sn, sc, k8⟩ := k8
  simp only [List.cons.injEq, and_true] at k0 k1 k2 k3 k4 k5 k6
  subst k0 k1 k2 k3 k4 k5 k6 k7 k8
  have hb := bounds_i64 wf1
  exact ⟨⟨n0, n1, n2, n3, n4, n5, n6, ra, rn, rc, sa, sn, sc⟩, rfl, hb.1, hb.2, m, xs[7], xs.map (·.1), g7', by rw [hxe], (by rw [List.getElem?_map, List.getElem?_eq_getElem (by omega)]; rfl), xs[8], g8', (by rw [List.getElem?_map, List.getElem?_eq_getElem (by omega)]; rfl)⟩
/-- The script that can be read. -/
theorem open_scriptM {H : Type} {enc : TypeId × Value → H} {w : World} {spare : Nat → Bool} {held : Bool} {fuel : Nat} {a : Option Addr} {n cap : Nat} {x : DataW H × List MemPlace}
    (h : DataW.trod enc Tryz.prog w 0 spare held fuel 22 [.slice a n cap] = some x) :
    ∃ S : Nat → StepD, (0 < n → ∃ bs off, a = some ⟨bs, off, none⟩ ∧ bs < w.heap.size ∧ ScriptAt w bs off n S) ∧ ((a = none ∧ n = 0) ∨ ∃ D : List (DataW H), ∃ E : List (DataW H), x.1 = .slice D E ∧ D.length = n) ∧ (∀ i, i < n → ∃ (D E : List (DataW H)) (d : DataW H), x.1 = .slice D E ∧ d ∈ D ∧ (∃ (fu : Nat) (y : DataW H × List MemPlace) (parts : List (DataW H)), DataW.trod enc Tryz.prog w 0 spare held fu 32 [.slice (S i).ra (S i).rn (S i).rc] = some y ∧ d = .agg parts ∧ parts[7]? = some y.1 ∧ ∃ z : DataW H × List MemPlace, DataW.trod enc Tryz.prog w 0 spare held fu 33 [.slice (S i).sa (S i).sn (S i).sc] = some z ∧ parts[8]? = some z.1)) := by
  rcases open_slice Tryz.underlying22 h with ⟨e, _⟩ | ⟨ad, l, c, m, k, D, Pl, e, _, hlc, _, hm, hx, hall⟩
  · simp at e
    obtain ⟨rfl, rfl, rfl⟩ := e
    exact ⟨fun _ => ⟨0, 0, 0, 0, 0, 0, false, none, 0, 0, none, 0, 0⟩, fun hh => absurd hh (by omega), .inl ⟨rfl, rfl⟩, fun i hi => absurd hi (by omega)⟩
  · simp at e
    obtain ⟨rfl, rfl, rfl⟩ := e
    rw [cellsStepL] at hall
    have hnm : n ≤ m := by rw [hm]; split <;> omega
    have key : ∀ i, i < n → ∃ s : StepD, (w.cells? 0 (ad.add (i * 9)) 9 = some [.int .i64 s.kind, .int .i64 s.e, .int .i64 s.a, .int .i64 s.b, .int .i64 s.c, .int .i64 s.d, .bool s.f, .slice s.ra s.rn s.rc, .slice s.sa s.sn s.sc]) ∧ -9223372036854775808 ≤ s.e ∧ s.e ≤ 9223372036854775807 ∧ (∃ (fu : Nat) (y : DataW H × List MemPlace) (parts : List (DataW H)), DataW.trod enc Tryz.prog w 0 spare held fu 32 [.slice s.ra s.rn s.rc] = some y ∧ D i = .agg parts ∧ parts[7]? = some y.1 ∧ ∃ z : DataW H × List MemPlace, DataW.trod enc Tryz.prog w 0 spare held fu 33 [.slice s.sa s.sn s.sc] = some z ∧ parts[8]? = some z.1) := fun i hi => by
      obtain ⟨cs', h1, h2⟩ := hall i (by omega)
      obtain ⟨s, rfl, h3, h4, h5⟩ := open_stepM h2
      exact ⟨s, h1, h3, h4, h5⟩
    have ex : ∃ S : Nat → StepD, ∀ i, i < n → (w.cells? 0 (ad.add (i * 9)) 9 = some [.int .i64 (S i).kind, .int .i64 (S i).e, .int .i64 (S i).a, .int .i64 (S i).b, .int .i64 (S i).c, .int .i64 (S i).d, .bool (S i).f, .slice (S i).ra (S i).rn (S i).rc, .slice (S i).sa (S i).sn (S i).sc]) ∧ -9223372036854775808 ≤ (S i).e ∧ (S i).e ≤ 9223372036854775807 ∧ (∃ (fu : Nat) (y : DataW H × List MemPlace) (parts : List (DataW H)), DataW.trod enc Tryz.prog w 0 spare held fu 32 [.slice (S i).ra (S i).rn (S i).rc] = some y ∧ D i = .agg parts ∧ parts[7]? = some y.1 ∧ ∃ z : DataW H × List MemPlace, DataW.trod enc Tryz.prog w 0 spare held fu 33 [.slice (S i).sa (S i).sn (S i).sc] = some z ∧ parts[8]? = some z.1) := by
      refine ⟨fun i => if hi : i < n then Classical.choose (key i hi) else ⟨0, 0, 0, 0, 0, 0, false, none, 0, 0, none, 0, 0⟩, fun i hi => ?_⟩
      simp only [dif_pos hi]
      exact Classical.choose_spec (key i hi)
    obtain ⟨S, hS⟩ := ex
    refine ⟨S, fun h0 => ?_, .inr ⟨_, _, by rw [hx], by simp⟩, fun i hi => ⟨_, _, D i, by rw [hx], List.mem_map.2 ⟨i, List.mem_range.2 hi, rfl⟩, (hS i hi).2.2.2⟩⟩
    have hc : ∀ i, i < n → ∀ j, j < 9 → w.cell? ((ad.add (i * 9)).add j) = [Value.int .i64 (S i).kind, .int .i64 (S i).e, .int .i64 (S i).a, .int .i64 (S i).b, .int .i64 (S i).c, .int .i64 (S i).d, .bool (S i).f, .slice (S i).ra (S i).rn (S i).rc, .slice (S i).sa (S i).sn (S i).sc][j]? := fun i hi => (World.cells?_some (hS i hi).1).2.2
    obtain ⟨bs, off, spot⟩ := ad
    have hsp : spot = none := by
      have := hc 0 h0 0 (by omega)
      simp only [List.getElem?_cons_zero] at this
      have h2 := World.cell?_spot this
      simpa [Addr.add] using h2
    subst hsp
    have hadd : ∀ i j, ((⟨bs, off, none⟩ : Addr).add (i * 9)).add j = ⟨bs, off + i * 9 + j, none⟩ := fun i j => by
      rw [Go.Deep.add_add]
      unfold Addr.add
      split
      · rename_i hz
        simp only [Addr.mk.injEq, true_and, and_true]
        omega
      · simp [Nat.add_assoc]
    have hd : ∀ i, i < n → ∀ j, j < 9 → w.cell? ⟨bs, off + i * 9 + j, none⟩ = [Value.int .i64 (S i).kind, .int .i64 (S i).e, .int .i64 (S i).a, .int .i64 (S i).b, .int .i64 (S i).c, .int .i64 (S i).d, .bool (S i).f, .slice (S i).ra (S i).rn (S i).rc, .slice (S i).sa (S i).sn (S i).sc][j]? := fun i hi j hj => by rw [← hadd]; exact hc i hi j hj
    refine ⟨bs, off, rfl, ?_, fun i hi => hd i hi 0 (by omega), fun i hi => hd i hi 1 (by omega), fun i hi => hd i hi 2 (by omega), fun i hi => hd i hi 3 (by omega), fun i hi => hd i hi 4 (by omega), fun i hi => hd i hi 5 (by omega), fun i hi => hd i hi 6 (by omega), fun i hi => hd i hi 7 (by omega), fun i hi => hd i hi 8 (by omega), fun i hi => (hS i hi).2.1, fun i hi => (hS i hi).2.2.1⟩
    exact World.block_lt_of_cell? w ⟨bs, off + 0 * 9 + 0, none⟩ (hd 0 h0 0 (by omega))

/-- How long the bytes of a step can be. -/
theorem bytes_small {H : Type} {ds : List (DataW H)} {ts : List TypeId} (hsz : (DataW.weightsEach Tryz.prog ts ds).all (· ≤ reachBytes) = true) {j : Nat} (ht : ts[j]? = some 22) {D E : List (DataW H)} (hd : ds[j]? = some (.slice D E)) {parts : List (DataW H)} (hp : DataW.agg parts ∈ D) {A B : List (DataW H)} (h8 : parts[8]? = some (.slice A B)) : A.length ≤ 140737488351232 := by
  have h1 : (A.length + B.length) * Tryz.prog.bytesOf 5 ∈ DataW.weights Tryz.prog 33 (.slice A B) := by simp [DataW.weights, Tryz.underlying33]
  have h2 : (A.length + B.length) * Tryz.prog.bytesOf 5 ∈ DataW.weights Tryz.prog 35 (.agg parts) := by
    simp only [DataW.weights, Tryz.underlying35]
    exact DataW.weights_mem_each (j := 8) rfl h8 _ h1
  have h3 : (A.length + B.length) * Tryz.prog.bytesOf 5 ∈ DataW.weights Tryz.prog 22 (.slice D E) := by
    simp only [DataW.weights, Tryz.underlying22]
    exact List.mem_cons_of_mem _ (List.mem_append_left _ (weightsAll_mem hp _ h2))
  have h4 := List.all_eq_true.1 hsz _ (DataW.weights_mem_each ht hd _ h3)
  rw [bytesByteM] at h4
  have h5 := of_decide_eq_true h4
  simp only [reachBytes] at h5
  omega
end Go.Proofs.YtgndledehlilkaaGreat
