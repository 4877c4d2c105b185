/-
  One engine that a law has made; pick, prefix.
-/
import Derived.Test.YtgndledehlilkabInst
namespace Go.Proofs.Ytgndledehlilkab
open Go.RowKit

/-- An engine that was made behind w0 (its blocks bear the mark e, no block of w0 does). -/
structure On (w0 w : World) (O : Tag) (e b : Nat) (r : RefS) : Prop where
  rep : RepX w O e b r
  ok : RefOk r
  new : ∀ k, k < w0.heap.size → (O k).1 ≠ e
  still : Still w0 w
/-- Behind a call. -/
def Went (w0 w : World) (O : Tag) (e b : Nat) (r' : RefS) (w' : World) : Prop := ∃ O' : Tag, (∀ k, k < w.heap.size → O' k = O k) ∧ On w0 w' O' e b r' ∧ Kept (mineX O e) w w'
section
variable {w0 w w1 : World} {O : Tag} {e b : Nat} {r r' : RefS}
theorem On.again (h : On w0 w O e b r) (hs : Still w w1) : On w0 w1 O e b r := ⟨h.rep.again hs, h.ok, h.new, h.still.trans hs⟩
theorem On.went (h : On w0 w O e b r) (hok : RefOk r') (hd : doneX RepX w O e b r' w1) : Went w0 w O e b r' w1 := by
  obtain ⟨O', h1, h2, h3⟩ := hd
  have hz := h.still.size
  refine ⟨O', h1, ⟨h2, hok, fun k hk => by rw [h1 k (by omega)]; exact h.new k hk, Kept.trans' h.still h3 (fun i hi q => h.new i hi q.1)⟩, h3⟩
theorem on_create (h : On w0 w O e b r) (quota : Int) : Calls Try.prog 16 #[.pointer (some ⟨b, 0, none⟩), .int .i64 quota] w fun en w' =>
    en = .returned (.tuple #[.int .i64 (createA r quota).1, .int .i64 (createA r quota).2, .int .i64 (createR r quota)]) ∧ Went w0 w O e b (createdR r quota) w' :=
  (engX.create h.rep h.ok quota).mono fun _ _ ⟨h1, h2⟩ => ⟨h1, h.went (h.ok.created quota) h2⟩
theorem on_drop (h : On w0 w O e b r) (no : Int) : Calls Try.prog 14 #[.pointer (some ⟨b, 0, none⟩), .int .i64 no] w fun en w' =>
    en = .returned (.int .i64 (dropR r no)) ∧ Went w0 w O e b (droppedS r no) w' :=
  (engX.drop h.rep h.ok no).mono fun _ _ ⟨h1, h2⟩ => ⟨h1, h.went (h.ok.dropped no) h2⟩
theorem on_derive (h : On w0 w O e b r) (n rights : Int) : Calls Try.prog 7 #[.pointer (some ⟨b, 0, none⟩), .int .i64 n, .int .i64 rights] w fun en w' =>
    en = .returned (.tuple #[.int .i64 (deriveA r n rights), .int .i64 (deriveR r n rights)]) ∧ Went w0 w O e b (derivedR r n rights) w' :=
  (engX.derive h.rep h.ok n rights).mono fun _ _ ⟨h1, h2⟩ => ⟨h1, h.went (h.ok.derived n rights) h2⟩
theorem on_revoke (h : On w0 w O e b r) (n which : Int) : Calls Try.prog 13 #[.pointer (some ⟨b, 0, none⟩), .int .i64 n, .int .i64 which] w fun en w' =>
    en = .returned (.int .i64 (revokeR r n which)) ∧ Went w0 w O e b (revokedR r n which) w' :=
  (engX.revoke h.rep h.ok n which).mono fun _ _ ⟨h1, h2⟩ => ⟨h1, h.went (h.ok.revoked n which) h2⟩
theorem on_insert (h : On w0 w O e b r) (n addr len hop : Int) : Calls Try.prog 32 #[.pointer (some ⟨b, 0, none⟩), .int .i64 n, .int .i64 addr, .int .i64 len, .int .i64 hop] w fun en w' =>
    en = .returned (.int .i64 (insertR r n addr len hop)) ∧ Went w0 w O e b (insertedR r n addr len hop) w' :=
  (engX2.insert h.rep h.ok n addr len hop).mono fun _ _ ⟨h1, h2⟩ => ⟨h1, h.went (h.ok.inserted n addr len hop) h2⟩
theorem on_remove (h : On w0 w O e b r) (n addr len : Int) : Calls Try.prog 33 #[.pointer (some ⟨b, 0, none⟩), .int .i64 n, .int .i64 addr, .int .i64 len] w fun en w' =>
    en = .returned (.int .i64 (removeR r n addr len)) ∧ Went w0 w O e b (removedR r n addr len) w' :=
  (engX2.remove h.rep h.ok n addr len).mono fun _ _ ⟨h1, h2⟩ => ⟨h1, h.went (h.ok.removed n addr len) h2⟩
theorem on_share (h : On w0 w O e b r) (n gives takes : Int) : Calls Try.prog 34 #[.pointer (some ⟨b, 0, none⟩), .int .i64 n, .int .i64 gives, .int .i64 takes] w fun en w' =>
    en = .returned (.int .i64 (shareR r n gives takes)) ∧ Went w0 w O e b (sharedR r n gives takes) w' :=
  (engX2.share h.rep h.ok n gives takes).mono fun _ _ ⟨h1, h2⟩ => ⟨h1, h.went (h.ok.shared n gives takes) h2⟩
theorem on_table (h : On w0 w O e b r) (n : Int) : Calls Try.prog 36 #[.pointer (some ⟨b, 0, none⟩), .int .i64 n] w fun en w' =>
    ∃ v, en = .returned (.tuple #[v, .int .i64 (mayI r n 1)]) ∧ w'.ownsRow w.heap.size 42 4 v (tableL r n).length ((tableL r n).flatMap routeCells) ∧
      ∃ O' : Tag, (∀ k, k < w.heap.size → O' k = O k) ∧ On w0 w' O' e b r ∧ Kept (mineX O e) w w' ∧ ∀ g, v.ownBlock = some g → (O' g).1 ≠ e :=
  (engX2.table h.rep h.ok n).mono fun _ w' ⟨v, h1, h2, O', h3, h4, h5, h6⟩ => ⟨v, h1, h2, O', h3, by
    obtain ⟨O'', q1, q2, q3⟩ := h.went (w1 := w') h.ok ⟨O', h3, h4, h5⟩
    exact ⟨h4, h.ok, fun k hk => by rw [h3 k (Nat.lt_of_lt_of_le hk h.still.size)]; exact h.new k hk, q2.still⟩, h5, h6⟩
theorem on_count (h : On w0 w O e b r) (n : Int) : Calls Try.prog 15 #[.pointer (some ⟨b, 0, none⟩), .int .i64 n] w fun en w' =>
    en = .returned (.tuple #[.agg #[.int .i64 (countF r n).own, .int .i64 (countF r n).taken, .int .i64 (countF r n).dropped, .int .i64 (countF r n).quota], .int .i64 (mayI r n 1)]) ∧ Went w0 w O e b r w' :=
  (engX2.count h.rep h.ok n).mono fun _ _ ⟨h1, h2⟩ => ⟨h1, h.went h.ok h2⟩
end
/-- A number folded below n. -/
def pickF (c n : Int) : Int := (if c < 0 then -(c + 1) else c) % n
theorem pickF_range (c : Int) {n : Int} (hn : 1 ≤ n) : 0 ≤ pickF c n ∧ pickF c n < n := ⟨Int.emod_nonneg _ (by omega), Int.emod_lt_of_pos _ (by omega)⟩
set_option maxHeartbeats 400000 in
theorem pickK (c n : Int) (w : World) (hn : 1 ≤ n) (h1 : -9223372036854775808 ≤ c) (h2 : c ≤ 9223372036854775807) :
    Calls Try.prog 8 #[.int .i64 c, .int .i64 n] w fun e w' => e = .returned (.int .i64 (pickF c n)) ∧ w' = w := by
  by_cases hc : c < 0
  · have e0 : pickF c n = (-(c + 1)) % n := by unfold pickF; rw [if_pos hc]
    have e1 : -((c + 1).tmod n) = (-(c + 1)) % n := by rw [← Int.neg_tmod, Int.tmod_eq_emod_of_nonneg (by omega)]
    have E := hide (e0.trans e1.symm)
    clear e0 e1
    go_enter Try.func8, Try.ntmps8
    go_wp2
    go_ret
    exact ⟨by rw [unhide E]; rfl, rfl⟩
  · have e0 : pickF c n = c % n := by unfold pickF; rw [if_neg hc]
    have E := hide e0
    clear e0
    go_enter Try.func8, Try.ntmps8
    go_wp2
    go_ret
    exact ⟨by rw [unhide E]; rfl, rfl⟩
/-- A prefix out of two raw numbers. -/
def pfxA (a b : Int) : Int := headF (pickF a 65536) (pickF b 17)
def pfxL (b : Int) : Int := pickF b 17
theorem pfx_is (a b : Int) : isPfx (pfxA a b) (pfxL b) = true := by
  have h1 := pickF_range a (n := 65536) (by omega)
  have h2 := pickF_range b (n := 17) (by omega)
  unfold pfxA pfxL
  generalize pickF a 65536 = x at *
  generalize pickF b 17 = l at *
  unfold isPfx headF
  have hp := pw_le (j := (16 - l).toNat) (by omega)
  generalize pw (16 - l).toNat = p at *
  have h3 : x / p * p ≤ x := by have := Int.mul_ediv_add_emod x p; have := Int.emod_nonneg x (b := p) (by omega); rw [Int.mul_comm]; omega
  have h4 : 0 ≤ x / p * p := Int.mul_nonneg (Int.ediv_nonneg h1.1 (by omega)) (by omega)
  rw [Bool.and_eq_true, decide_eq_true_eq, beq_iff_eq]
  exact ⟨⟨h4, by omega, h2.1, by omega⟩, Int.mul_emod_left _ _⟩
set_option maxHeartbeats 400000 in
theorem prefixK (a b : Int) (w : World) (a1 : -9223372036854775808 ≤ a) (a2 : a ≤ 9223372036854775807) (b1 : -9223372036854775808 ≤ b) (b2 : b ≤ 9223372036854775807) :
    Calls Try.prog 28 #[.int .i64 a, .int .i64 b] w fun e w' => e = .returned (.tuple #[.int .i64 (pfxA a b), .int .i64 (pfxL b)]) ∧ w' = w := by
  have h1 := pickF_range a (n := 65536) (by omega)
  have h2 := pickF_range b (n := 17) (by omega)
  obtain ⟨x1, x2⟩ := h1
  obtain ⟨l1, l2⟩ := h2
  have hp := pw_le (j := (16 - pickF b 17).toNat) (by omega)
  have e1 : wrap64 (pickF a 65536 / pw (16 - pickF b 17).toNat * pw (16 - pickF b 17).toNat) = pfxA a b := by
    unfold pfxA headF
    generalize pw (16 - pickF b 17).toNat = p at *
    generalize pickF a 65536 = x at *
    have h3 : x / p * p ≤ x := by have := Int.mul_ediv_add_emod x p; have := Int.emod_nonneg x (b := p) (by omega); rw [Int.mul_comm]; omega
    have h4 : 0 ≤ x / p * p := Int.mul_nonneg (Int.ediv_nonneg x1 (by omega)) (by omega)
    unfold wrap64
    omega
  have e2 : pfxL b = pickF b 17 := rfl
  have E1 := hide e1
  have E2 := hide e2
  have h16 : (0 : Int) ≤ 16 - pickF b 17 := by omega
  have h64 : 16 - pickF b 17 ≤ 64 := by omega
  unfold pw at *
  clear e1 e2
  go_enter Try.func28, Try.ntmps28
  go_wp2_with fail
  refine (pickK _ _ _ (by omega) b1 b2).mono ?_
  rintro e w' ⟨rfl, hw⟩
  replace hw := hw.symm
  subst hw
  go_wp2_with fail
  refine (pickK _ _ _ (by omega) a1 a2).mono ?_
  rintro e w' ⟨rfl, hw⟩
  replace hw := hw.symm
  subst hw
  generalize pickF a 65536 = x at *
  generalize pickF b 17 = l at *
  go_wp2
  go_ret2
  exact ⟨by rw [← unhide E1, unhide E2]; rfl, rfl⟩
end Go.Proofs.Ytgndledehlilkab
