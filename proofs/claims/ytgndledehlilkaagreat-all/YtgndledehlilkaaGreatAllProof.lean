/-
  The statement of All.
-/
import Derived.Test.YtgndledehlilkaaGreatMRead
import Derived.Test.YtgndledehlilkaaGreatLawD1M
import Derived.Test.YtgndledehlilkaaGreatInst2
namespace Go.Proofs.YtgndledehlilkaaGreat
open Go.ChangeShapes Go.WideShapes Go.ChangeAt Go.RowKit Go.Deep

set_option maxRecDepth 100000 in
theorem all_lifted (os : Os) (started : os.Started) (H : Type) (enc : TypeId × Value → H) :
    ReturnsInHanded {} Tryz.checked os 7 .any (Rows.allSpec.pre6 enc Tryz.prog Tryz.f7 Rows.allRow.domain false) (Rows.allSpec.post enc Tryz.prog Tryz.f7 false true false false) := by
  refine returnsInHanded_of_change_sized (C := Tryz.checked) ownL started (by kernel_rfl) Tryz.func7
    (ChangeSpec.witness6 (enc := enc) (C := Tryz.checked) false ⟨#[], #[.slice none 0 0], []⟩ 8 (by kernel_rfl) (by kernel_rfl) (by kernel_rfl) (by kernel_rfl)) ?_
  intro W base args ds gs before hval0 hW hcnd hsz0 _
  have hval : ∀ (j : Nat) t v, Tryz.f7.params[j]? = some t → args[j]? = some v → Value.okWide Tryz.prog W .any base t v := hval0
  have hsz : (DataW.weightsEach Tryz.prog (Tryz.f7.params.toList ++ Rows.allSpec.plain.varTypes Tryz.prog) (ds ++ gs)).all (· ≤ reachBytes) = true := hsz0
  have hW' := hW
  obtain ⟨p, q, hA0, hV, rfl, hfz, hnd⟩ := hW
  have hA : DataW.TrodAll enc Tryz.prog W 0 (fun _ => true) true Tryz.f7.params.toList args.toList ds p := hA0
  rw [Tryz.params7] at hA hval hsz
  obtain ⟨v0, d0, rfl, rfl, h0⟩ := trodAll_one hA
  obtain ⟨rfl, rfl⟩ := trodVars_none hV
  obtain ⟨a0, n, cap, rfl⟩ := okWide_slice Tryz.underlying22 (hval 0 22 v0 rfl rfl)
  have k0 := h0
  have lt0 : ∀ x ∈ p, x.block < W.heap.size := by obtain ⟨m, hm⟩ := k0; exact DataW.trod_lt m _ _ _ hm
  obtain ⟨fuel, hf⟩ := h0
  have hf' : DataW.trod enc Tryz.prog W 0 (fun _ => true) true fuel 22 [.slice a0 n cap] = some (d0, p) := by simpa [Value.cells] using hf
  obtain ⟨S, hS, hD, hRD⟩ := open_scriptM hf'
  have hn : n * 104 ≤ 140737488355328 := by
    rcases hD with ⟨_, rfl⟩ | ⟨D, E, hd, hl⟩
    · omega
    · have hd' : d0 = .slice D E := hd
      subst hd'
      have := sized_slice hsz (j := 0) (t := 22) (e := 35) rfl rfl Tryz.underlying22
      rw [bytesStepL, hl] at this
      simp only [reachBytes] at this
      omega
  have hrl : ∀ i, i < n → RulesAt W (S i) := fun i hi => by
    obtain ⟨D, E, d, hx1, hdm, fu, y, parts, htr, rfl, hp7, _⟩ := hRD i hi
    rcases open_rulesL htr with ⟨q1, q2, q3⟩ | ⟨ad, R, A, B, q1, q2, q3, q4, q5, q6⟩
    · exact ⟨[], .inl ⟨by rw [q1, q2, q3], rfl⟩, by simp, fun _ _ h0 => by simp at h0⟩
    · have hx1' : d0 = .slice D E := hx1
      subst hx1'
      rw [q3] at hp7
      have hsm := rules_small hsz (j := 0) rfl rfl hdm hp7
      rw [q4, ← q2] at hsm
      refine ⟨R, .inr ⟨ad, (S i).rc, by rw [q1, q2], by omega, q5⟩, hsm, fun ad' h1 h2 => ?_⟩
      rw [q1] at h1
      have : ad = ad' := by simpa using h1
      rw [← this]
      exact q6 (by omega)
  have hbl : ∀ i, i < n → BytesAt W (S i) := fun i hi => by
    obtain ⟨D, E, d, hx1, hdm, fu, y, parts, _, rfl, _, z, htr, hp8⟩ := hRD i hi
    rcases open_bytesM htr with ⟨q1, q2, q3⟩ | ⟨ad, Sb, A, B, q1, q2, q2c, q3, q4, q5, q6⟩
    · exact ⟨[], ⟨(fun x hx => absurd hx List.not_mem_nil), .inl ⟨by rw [q1, q2, q3], rfl⟩⟩, by simp, fun _ _ h0 => by simp at h0⟩
    · have hx1' : d0 = .slice D E := hx1
      subst hx1'
      rw [q3] at hp8
      have hsm := bytes_small hsz (j := 0) rfl rfl hdm hp8
      rw [q4, ← q2] at hsm
      refine ⟨Sb, ⟨q5, .inr ⟨ad, (S i).sc, by rw [q1, q2], by omega, by omega, fun j hj => q6 j (by omega)⟩⟩, hsm, fun ad' h1 h2 => ?_⟩
      rw [q1] at h1
      have : ad = ad' := by simpa using h1
      rw [← this]
      obtain ⟨bs, off, e1, e2, _⟩ := q6 0 (by omega)
      rw [e1]
      exact e2
  clear hA0 hval0
  refine (allM_any engX2 engX3 doSpec a0 n cap S hS hrl hbl hn).mono fun e W' ⟨he, bel⟩ => ?_
  subst he
  exact ⟨_, rfl, _, _, _, [], _, [], hW', trodAll_mk1 (shut_bool Tryz.underlying4 _), trodAll_mk1 (Below.trod laidOutL (by kernel_rfl) (of_decide_eq_true (by kernel_rfl)) k0 bel lt0), rfl, bel.frame _, fun h => by cases h⟩

theorem all_holds : Rows.AllSaid :=
  OpenClaim.holds_of_wide 7 Tryz.f7 rfl rfl rfl rfl rfl rfl rfl ⟨rfl, rfl, rfl, rfl, rfl⟩ rfl rfl rfl rfl rfl (by kernel_rfl) Tryz.func7 (by kernel_rfl)
    (of_decide_eq_true (by kernel_rfl)) (by unfold Func.isWrapper; first | (rw [if_pos (by decide +kernel)]; kernel_rfl) | (rw [if_neg (by decide +kernel)]; exact ⟨rfl, rfl⟩))
    (fun os started H enc _ => all_lifted os started H enc)
end Go.Proofs.YtgndledehlilkaaGreat
