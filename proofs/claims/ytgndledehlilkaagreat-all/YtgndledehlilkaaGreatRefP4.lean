/-
  The document's calls on tenants and tokens, as functions of what is the case.
-/
import Derived.Test.YtgndledehlilkaaGreatPure
import Derived.Test.YtgndledehlilkaaGreatRefT12
import Derived.Test.YtgndledehlilkaaGreatRefT13
import Derived.Test.YtgndledehlilkaaGreatRefT14
namespace Go.Proofs.YtgndledehlilkaaGreat
open Go.RowKit
section
variable {w : World} {O : Nat → Nat × Nat × Nat} {e b : Nat} {r : RefS}
theorem refCreate_fn (h : RefRep w O e b r) (hk : RefOk r) (quota : Int) :
    Calls Tryz.prog 22 #[.pointer (some ⟨b, 0, none⟩), .int .i64 quota] w fun en w' =>
      en = .returned (.tuple #[.int .i64 (createA r quota).1, .int .i64 (createA r quota).2, .int .i64 (createR r quota)]) ∧ changed w O e b (createdR r quota) w' := by
  by_cases h0 : createR r quota = 0
  · refine (refCreate_good h hk.wf quota h0).mono ?_
    rintro en w' ⟨no, n1, n2, n3, rfl, hc⟩
    have e := freeNo_is n1 n2 n3
    subst e
    unfold createA createdR
    rw [if_pos h0, if_pos h0, h0]
    exact ⟨rfl, hc⟩
  · refine (refCreate_bad h hk.wf quota h0).mono ?_
    rintro en w' ⟨rfl, hr, hk'⟩
    unfold createA createdR
    rw [if_neg h0, if_neg h0]
    exact ⟨rfl, O, fun _ _ => rfl, hr, hk'⟩
theorem refDrop_fn (h : RefRep w O e b r) (hk : RefOk r) (no : Int) :
    Calls Tryz.prog 24 #[.pointer (some ⟨b, 0, none⟩), .int .i64 no] w fun en w' => en = .returned (.int .i64 (dropR r no)) ∧ changed w O e b (droppedS r no) w' := by
  refine (refDrop_any h hk.wf no).mono ?_
  rintro en w' (⟨i, hi, hg, rfl, rfl, hr, hk'⟩ | ⟨hn, rfl, hr, hk'⟩)
  · have hu : usedB r (r.life i).no = true := usedB_true.2 ⟨i, hi, hg, rfl⟩
    unfold dropR droppedS
    rw [if_pos hu, if_pos hu, lifeNo_is hk.own hi hg]
    exact ⟨rfl, O, fun _ _ => rfl, hr, hk'⟩
  · have hu : usedB r no = false := usedB_false.2 hn
    unfold dropR droppedS
    rw [hu, if_neg (by simp), if_neg (by simp)]
    exact ⟨rfl, O, fun _ _ => rfl, hr, hk'⟩
theorem refDerive_fn (h : RefRep w O e b r) (hk : RefOk r) (n rights : Int) :
    Calls Tryz.prog 26 #[.pointer (some ⟨b, 0, none⟩), .int .i64 n, .int .i64 rights] w fun en w' =>
      en = .returned (.tuple #[.int .i64 (deriveA r n rights), .int .i64 (deriveR r n rights)]) ∧ changed w O e b (derivedR r n rights) w' := by
  refine (refDerive_any h hk.wf n rights).mono ?_
  rintro en w' (⟨h0, rfl, hr, hk'⟩ | ⟨h0, rfl, hc⟩)
  · unfold deriveA derivedR
    rw [if_neg h0, if_neg h0]
    exact ⟨rfl, O, fun _ _ => rfl, hr, hk'⟩
  · unfold deriveA derivedR
    rw [if_pos h0, if_pos h0, h0]
    exact ⟨rfl, hc⟩
theorem refRevoke_fn (h : RefRep w O e b r) (hk : RefOk r) (n which : Int) :
    Calls Tryz.prog 28 #[.pointer (some ⟨b, 0, none⟩), .int .i64 n, .int .i64 which] w fun en w' =>
      en = .returned (.int .i64 (revokeR r n which)) ∧ changed w O e b (revokedR r n which) w' := by
  refine (refRevoke_any h hk.wf n which).mono ?_
  rintro en w' ⟨rfl, hr, hk'⟩
  exact ⟨rfl, O, fun _ _ => rfl, hr, hk'⟩
theorem refShare_fn (h : RefRep w O e b r) (hk : RefOk r) (n gives takes : Int) :
    Calls Tryz.prog 34 #[.pointer (some ⟨b, 0, none⟩), .int .i64 n, .int .i64 gives, .int .i64 takes] w fun en w' =>
      en = .returned (.int .i64 (shareR r n gives takes)) ∧ changed w O e b (sharedR r n gives takes) w' := by
  refine (refShare_any h hk.wf n gives takes).mono ?_
  rintro en w' ⟨rfl, hr, hk'⟩
  exact ⟨rfl, O, fun _ _ => rfl, hr, hk'⟩
theorem refTable_fn (h : RefRep w O e b r) (hk : RefOk r) (n : Int) :
    Calls Tryz.prog 37 #[.pointer (some ⟨b, 0, none⟩), .int .i64 n] w fun en w' =>
      ∃ v, en = .returned (.tuple #[v, .int .i64 (mayI r n 1)]) ∧ w'.ownsRow w.heap.size 50 4 v (tableL r n).length ((tableL r n).flatMap routeCells) ∧ Still w w' := by
  refine (refTable_any h hk.wf hk.tab n).mono ?_
  rintro en w' (⟨hm, rfl, hs⟩ | ⟨hm, off, v, hc, rfl, ho, hs⟩)
  · have e : tableL r n = [] := by unfold tableL; rw [if_neg hm]
    rw [e]
    exact ⟨_, rfl, World.ownsRow_nil _ _ _ _, hs⟩
  · have e : tableL r n = tableR (r.life (lifeOf r n)) off := by unfold tableL tabF; rw [if_pos hm, chain_is hk.tab hk.own hc]
    rw [e, hm]
    exact ⟨_, rfl, ho, hs⟩
theorem refCount_fn (h : RefRep w O e b r) (hk : RefOk r) (n : Int) :
    Calls Tryz.prog 40 #[.pointer (some ⟨b, 0, none⟩), .int .i64 n] w fun en w' =>
      en = .returned (.tuple #[.agg #[.int .i64 (countF r n).own, .int .i64 (countF r n).taken, .int .i64 (countF r n).dropped, .int .i64 (countF r n).quota], .int .i64 (mayI r n 1)]) ∧ Still w w' := by
  refine (refCount_any h hk.wf hk.tab n).mono ?_
  rintro en w' (⟨hm, rfl, hs⟩ | ⟨hm, off, hc, rfl, hs⟩)
  · unfold countF
    rw [if_neg hm]
    exact ⟨rfl, hs⟩
  · have e1 := chain_is hk.tab hk.own hc
    subst e1
    have e2 : ((tableR (r.life (lifeOf r n)) (offF r (lifeOf r n))).length : Int) - ((r.life (lifeOf r n)).own.length : Int) = ((takenF r (lifeOf r n)).length : Int) := by
      rw [tableR_len]; unfold takenF; omega
    unfold countF
    rw [if_pos hm, hm, e2]
    exact ⟨rfl, hs⟩
end
end Go.Proofs.YtgndledehlilkaaGreat
