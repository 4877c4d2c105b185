/-
  The statement of Gone.
-/
import Derived.Test.YtgndledehlilkaaGone
import Derived.Test.YtgndledehlilkaaRows
import Derived.ProofKit
import Derived.OpenShut
import Derived.ShutString
import Derived.ChangeOld
import Derived.SizedLaws
import Derived.Deep.Slices
namespace Go.Proofs.Ytgndledehlilkaa
open Go.ChangeShapes Go.WideShapes Go.ChangeAt Go.RowKit Go.Deep

theorem own_gone : ownKnob Try.prog.godebug = none := by kernel_rfl
theorem laidOut_gone : laidOutB Try.prog = true := by kernel_rfl
theorem cellsIntK : Try.prog.cellsOf 3 = 1 := by kernel_rfl
theorem bytesIntK : Try.prog.bytesOf 3 = 8 := by kernel_rfl
theorem gone_range {a : Int} (h : (Lit.int .i64 a).wf = true) : -9223372036854775808 ≤ a ∧ a ≤ 9223372036854775807 := by
  have e1 : IntKind.i64.min = -9223372036854775808 := by decide
  have e2 : IntKind.i64.max = 9223372036854775807 := by decide
  simp [Lit.wf] at h
  omega
/-- The raw numbers that can be read. -/
theorem open_raw {H : Type} {enc : TypeId × Value → H} {w : World} {spare : Nat → Bool} {held : Bool} {fuel : Nat} {a : Option Addr} {n cap : Nat} {x : DataW H × List MemPlace}
    (h : DataW.trod enc Try.prog w 0 spare held fuel 25 [.slice a n cap] = some x) :
    ∃ X : Nat → Int, (0 < n → ∃ bs off, a = some ⟨bs, off, none⟩ ∧ bs < w.heap.size ∧ ∀ i, i < n → w.cell? ⟨bs, off + i, none⟩ = some (.int .i64 (X i)) ∧ -9223372036854775808 ≤ X i ∧ X i ≤ 9223372036854775807) ∧ ((a = none ∧ n = 0) ∨ ∃ D : List (DataW H), ∃ E : List (DataW H), x.1 = .slice D E ∧ D.length = n) := by
  rcases open_slice Try.underlying25 h with ⟨e, _⟩ | ⟨ad, l, c, m, k, D, Pl, e, _, hlc, _, hm, hx, hall⟩
  · simp at e
    obtain ⟨rfl, rfl, rfl⟩ := e
    exact ⟨fun _ => 0, fun hh => absurd hh (by omega), .inl ⟨rfl, rfl⟩⟩
  · simp at e
    obtain ⟨rfl, rfl, rfl⟩ := e
    rw [cellsIntK] at hall
    have hnm : n ≤ m := by rw [hm]; split <;> omega
    have key : ∀ i, i < n → ∃ s : Int, (w.cells? 0 (ad.add (i * 1)) 1 = some [.int .i64 s]) ∧ -9223372036854775808 ≤ s ∧ s ≤ 9223372036854775807 := fun i hi => by
      obtain ⟨cs', h1, h2⟩ := hall i (by omega)
      obtain ⟨s, k0, _, wf⟩ := DataW.trod_int Try.underlying3 h2
      have hb := bounds_i64 wf
      subst k0
      exact ⟨s, h1, hb.1, hb.2⟩
    have ex : ∃ S : Nat → Int, ∀ i, i < n → (w.cells? 0 (ad.add (i * 1)) 1 = some [.int .i64 (S i)]) ∧ -9223372036854775808 ≤ S i ∧ S i ≤ 9223372036854775807 := by
      refine ⟨fun i => if hi : i < n then Classical.choose (key i hi) else 0, fun i hi => ?_⟩
      simp only [dif_pos hi]
      exact Classical.choose_spec (key i hi)
    obtain ⟨S, hS⟩ := ex
    refine ⟨S, fun h0 => ?_, .inr ⟨_, _, by rw [hx], by simp⟩⟩
    have hc : ∀ i, i < n → ∀ j, j < 1 → w.cell? ((ad.add (i * 1)).add j) = [Value.int .i64 (S i)][j]? := fun i hi => (World.cells?_some (hS i hi).1).2.2
    obtain ⟨bs, off, spot⟩ := ad
    have hsp : spot = none := by
      have := hc 0 h0 0 (by omega)
      simp only [List.getElem?_cons_zero] at this
      have h2 := World.cell?_spot this
      simpa [Addr.add] using h2
    subst hsp
    have hadd : ∀ i j, ((⟨bs, off, none⟩ : Addr).add (i * 1)).add j = ⟨bs, off + i * 1 + j, none⟩ := fun i j => by
      rw [Go.Deep.add_add]
      unfold Addr.add
      split
      · rename_i hz
        simp only [Addr.mk.injEq, true_and, and_true]
        omega
      · simp [Nat.add_assoc]
    have hd : ∀ i, i < n → w.cell? ⟨bs, off + i, none⟩ = some (.int .i64 (S i)) := fun i hi => by
      have := hc i hi 0 (by omega)
      rw [hadd] at this
      simpa using this
    exact ⟨bs, off, rfl, World.block_lt_of_cell? w ⟨bs, off + 0, none⟩ (hd 0 h0), fun i hi => ⟨hd i hi, (hS i hi).2⟩⟩

set_option maxRecDepth 100000 in
theorem gone_lifted (os : Os) (started : os.Started) (H : Type) (enc : TypeId × Value → H) :
    ReturnsInHanded {} Try.checked os 8 .any (Rows.goneSpec.pre6 enc Try.prog Try.f8 Rows.goneRow.domain false) (Rows.goneSpec.post enc Try.prog Try.f8 false true false false) := by
  refine returnsInHanded_of_change_sized (C := Try.checked) own_gone started (by kernel_rfl) Try.func8
    (ChangeSpec.witness6 (enc := enc) (C := Try.checked) false ⟨#[], #[.slice none 0 0, .int .i64 0, .int .i64 0], []⟩ 8 (by kernel_rfl) (by kernel_rfl) (by kernel_rfl) (by kernel_rfl)) ?_
  intro W base args ds gs before hval0 hW hcnd hsz0 _
  have hval : ∀ (j : Nat) t v, Try.f8.params[j]? = some t → args[j]? = some v → Value.okWide Try.prog W .any base t v := hval0
  have hsz : (DataW.weightsEach Try.prog (Try.f8.params.toList ++ Rows.goneSpec.plain.varTypes Try.prog) (ds ++ gs)).all (· ≤ reachBytes) = true := hsz0
  have hW' := hW
  obtain ⟨p, q, hA0, hV, rfl, hfz, hnd⟩ := hW
  have hA : DataW.TrodAll enc Try.prog W 0 (fun _ => true) true Try.f8.params.toList args.toList ds p := hA0
  rw [Try.params8] at hA hval hsz
  obtain ⟨v0, vs0, d0, ds0, p0, q0, hargs, rfl, rfl, h0, r0⟩ := trodAll_cons hA
  obtain ⟨v1, vs1, d1, ds1, p1, q1, rfl, rfl, rfl, h1, r1⟩ := trodAll_cons r0
  obtain ⟨v2, vs2, d2, ds2, p2, q2, rfl, rfl, rfl, h2, r2⟩ := trodAll_cons r1
  obtain ⟨rfl, rfl, rfl⟩ := trodAll_nil r2
  obtain rfl : args = #[v0, v1, v2] := by cases args; simp_all
  obtain ⟨rfl, rfl⟩ := trodVars_none hV
  obtain ⟨a0, n, cap, rfl⟩ := okWide_slice Try.underlying25 (hval 0 25 v0 rfl rfl)
  obtain ⟨a1, rfl, rfl, rfl, w1⟩ := open_int Try.underlying3 (hval 1 3 v1 rfl rfl) h1
  obtain ⟨a2, rfl, rfl, rfl, w2⟩ := open_int Try.underlying3 (hval 2 3 v2 rfl rfl) h2
  have k0 := h0
  have lt0 : ∀ x ∈ p0, x.block < W.heap.size := by obtain ⟨m, hm⟩ := k0; exact DataW.trod_lt m _ _ _ hm
  obtain ⟨fuel, hf⟩ := h0
  have hf' : DataW.trod enc Try.prog W 0 (fun _ => true) true fuel 25 [.slice a0 n cap] = some (d0, p0) := by simpa [Value.cells] using hf
  obtain ⟨X, hX, hD⟩ := open_raw hf'
  have hn : n ≤ 17592186044416 := by
    rcases hD with ⟨_, rfl⟩ | ⟨D, E, hd, hl⟩
    · omega
    · have hd' : d0 = .slice D E := hd
      subst hd'
      have := sized_slice hsz (j := 0) (t := 25) (e := 3) rfl rfl Try.underlying25
      rw [bytesIntK, hl] at this
      simp only [reachBytes] at this
      omega
  clear hA0 hval0
  simp only [List.append_nil] at hW'
  refine (gone_any ⟨hn, hX⟩ a1 a2 (gone_range w1).1 (gone_range w1).2 (gone_range w2).1 (gone_range w2).2).mono fun e W' ⟨he, hg⟩ => ?_
  subst he
  have bel : Below W.heap.size W W' := Kept.below hg (Nat.le_refl _) (fun _ _ q => q)
  exact ⟨_, rfl, _, _, _, [], _, [], hW', trodAll_mk1 (shut_bool Try.underlying4 _), trodAll_cons_mk (Below.trod laidOut_gone (by kernel_rfl) (of_decide_eq_true (by kernel_rfl)) k0 bel lt0) (trodAll_cons_mk (shut_int Try.underlying3 w1) (trodAll_cons_mk (shut_int Try.underlying3 w2) trodAll_mk0)), rfl, bel.frame _, fun h => by cases h⟩

theorem gone_holds : Rows.GoneSaid :=
  OpenClaim.holds_of_wide 8 Try.f8 rfl rfl rfl rfl rfl rfl rfl ⟨rfl, rfl, rfl, rfl, rfl⟩ rfl rfl rfl rfl rfl (by kernel_rfl) Try.func8 (by kernel_rfl)
    (of_decide_eq_true (by kernel_rfl)) (by unfold Func.isWrapper; first | (rw [if_pos (by decide +kernel)]; kernel_rfl) | (rw [if_neg (by decide +kernel)]; exact ⟨rfl, rfl⟩))
    (fun os started H enc _ => gone_lifted os started H enc)
end Go.Proofs.Ytgndledehlilkaa
