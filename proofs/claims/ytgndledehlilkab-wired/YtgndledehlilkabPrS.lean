/-
  Walks: district: Drop, Create, New.
-/
import Derived.Test.YtgndledehlilkabPrR
namespace Go.Proofs.Ytgndledehlilkab
open Go.RowKit

def memCells (q : Int) : List Value := [.int .i64 q, .int .i64 0, .int .i64 0] ++ (rulesCells 0 (fun _ => ru0) ++ listCells 0 (fun _ => rt0))
theorem memCells_len (q : Int) : (memCells q).length = 281 := by
  unfold memCells
  rw [List.length_append, List.length_append, rulesCells_len, listCells_len]
  rfl
theorem zeroMem : Try.zeroCells63 = (memCells 0).toArray := by kernel_rfl
theorem zeroMem_set (q : Int) : Try.zeroCells63.setIfInBounds 0 (.int .i64 q) = (memCells q).toArray := by
  rw [zeroMem]
  simp [memCells]
theorem memCells_one (q : Int) : (memCells q).toArray.all (·.oneCell') = true := by
  refine all_oneCell_toArray fun v hv => ?_
  unfold memCells at hv
  rcases List.mem_append.1 hv with h | h
  · simp only [List.mem_cons, List.not_mem_nil, or_false] at h
    rcases h with rfl | rfl | rfl <;> rfl
  · rcases List.mem_append.1 h with h | h
    · exact (Array.all_eq_true_iff_forall_mem.1 (rulesCells_one 0 (fun _ => ru0))) v (by simpa using h)
    · exact listCells_mem 0 (fun _ => rt0) v h
theorem infoMem : (Try.prog.info? 63).map (·.size) = some 281 := by kernel_rfl
theorem infoMem' (q : Int) : (Try.prog.info? 63).map (·.size) = some (memCells q).toArray.size := by rw [List.size_toArray, memCells_len]; exact infoMem
theorem rangeAt_append {w : World} {b o : Nat} {xs ys : List Value} (h : w.rangeAt b o (xs ++ ys)) : w.rangeAt b o xs ∧ w.rangeAt b (o + xs.length) ys := by
  refine ⟨fun j v hv => h j v ?_, fun j v hv => ?_⟩
  · have hj : j < xs.length := (List.getElem?_eq_some_iff.1 hv).1
    rw [List.getElem?_append_left hj]; exact hv
  · have := h (xs.length + j) v (by rw [List.getElem?_append_right (by omega), Nat.add_sub_cancel_left]; exact hv)
    rw [← Nat.add_assoc] at this
    exact this
theorem XAt.memThere {w : World} {b : Nat} {p : ProgS} (h : XAt w b p) {k : Nat} (hk : k < 8) : w.there b (1 + k * 281) 281 := by
  intro j hj
  refine ⟨?_, h.fz _⟩
  by_cases h0 : j = 0
  · subst h0; rw [Nat.add_zero, h.quota k hk]; rfl
  · by_cases h1 : j = 1
    · subst h1; rw [h.gives k hk]; rfl
    · by_cases h2 : j = 2
      · subst h2; rw [h.takes k hk]; rfl
      · by_cases h3 : j < 24
        · have := (h.rl k hk).range.isSome (j - 3) (by rw [rulesCells_len]; omega)
          rw [show 1 + k * 281 + 3 + (j - 3) = 1 + k * 281 + j from by omega] at this
          exact this
        · have := (h.ow k hk).range.isSome (j - 24) (by rw [listCells_len]; omega)
          rw [show 1 + k * 281 + 24 + (j - 24) = 1 + k * 281 + j from by omega] at this
          exact this
theorem XAt.memSet {w : World} {b : Nat} {p : ProgS} (h : XAt w b p) {k : Nat} (hk : k < 8) (q : Int) : XAt (w.setCells b (1 + k * 281) (memCells q).toArray.toList) b { p with quota := upd p.quota k q, gives := upd p.gives k 0, takes := upd p.takes k 0, rules := upd p.rules k [], own := upd p.own k [] } ∧ Kept (· = b) w (w.setCells b (1 + k * 281) (memCells q).toArray.toList) := by
  have ht := h.memThere hk
  have hr := World.rangeAt_setCells_same w b (1 + k * 281) (memCells q) (by rw [memCells_len]; exact ht)
  have hw : Within b (1 + k * 281) 281 w (w.setCells b (1 + k * 281) (memCells q)) := (Within.refl _ _ _ _).setCells _ _ (Nat.le_refl _) (by rw [memCells_len]; exact Nat.le_refl _)
  rw [List.toList_toArray]
  have hl : b < (w.setCells b (1 + k * 281) (memCells q)).heap.size := Nat.lt_of_lt_of_le h.lt hw.kept.size
  have hf : ∀ j, (w.setCells b (1 + k * 281) (memCells q)).frozen? ⟨b, j, none⟩ = false := fun j => (hw.fz j).trans (h.fz j)
  generalize w.setCells b (1 + k * 281) (memCells q) = w' at *
  unfold memCells at hr
  obtain ⟨r1, r2⟩ := rangeAt_append hr
  obtain ⟨r3, r4⟩ := rangeAt_append r2
  have e4 : 1 + k * 281 + ([.int .i64 q, .int .i64 0, .int .i64 0] : List Value).length + (rulesCells 0 (fun _ => ru0)).length = 1 + k * 281 + 24 := by rw [rulesCells_len]; simp
  rw [e4] at r4
  have ep : padR [] = fun _ => ru0 := by funext j; simp [padR]
  have eq : pad [] = fun _ => rt0 := by funext j; simp [pad]
  refine ⟨h.setMember hk hw (r1 0 _ rfl) (r1 1 _ rfl) (r1 2 _ rfl) ?_ ?_, hw.kept⟩
  · rw [ep]; exact RAt.ofRange hl hf (Nat.zero_le _) r3
  · rw [eq]; exact LAt.ofRange hl hf (Nat.zero_le _) r4
def clrX (p : ProgS) (k : Nat) (q : Int) : ProgS := { p with quota := upd p.quota k q, gives := upd p.gives k 0, takes := upd p.takes k 0, rules := upd p.rules k [], own := upd p.own k [] }
theorem clrX_wf {p : ProgS} (hf : ProgWf p) {k : Nat} {q : Int} (h0 : 0 ≤ q) (h1 : q ≤ 64) : ProgWf (clrX p k q) := ⟨hf.room, fun i hi => by
  show 0 ≤ upd p.quota k q i ∧ upd p.quota k q i ≤ 64
  by_cases e : i = k
  · subst e; rw [upd_same]; exact ⟨h0, h1⟩
  · rw [upd_other _ _ e]; exact hf.quota i hi, hf.given, hf.rights, hf.parent⟩
def dropX (p : ProgS) (n : Int) : ProgS := endTo (clrX p n.toNat 0) n p.given
set_option maxHeartbeats 1000000 in
theorem engDrop_any {w : World} {b : Nat} {p : ProgS} (h : XAt w b p) (hf : ProgWf p) (n : Int) :
    Calls Try.prog 14 #[.pointer (some ⟨b, 0, none⟩), .int .i64 n] w fun en w' =>
      (isT p n = true ∧ en = .returned (.int .i64 0) ∧ XAt w' b (dropX p n) ∧ Kept (· = b) w w') ∨ (isT p n = false ∧ en = .returned (.int .i64 5) ∧ XAt w' b p ∧ Kept (· = b) w w') := by
  cases ht : isT p n with
  | false =>
    have HT := hide ht
    clear ht
    go_enter Try.func14, Try.ntmps14
    go_wp2_with (go_at_call 41; refine (isTenant_any h _).mono ?_; rintro e w' ⟨rfl, hww⟩; replace hww := hww.symm; subst hww; rw [unhide HT])
    go_ret
    exact Or.inr ⟨trivial, rfl, h, Kept.refl _ _⟩
  | true =>
    have HT := hide ht
    have hn : 0 ≤ n ∧ n < 8 := by
      simp only [isT, Bool.and_eq_true, decide_eq_true_eq] at ht
      exact ht.1
    clear ht
    obtain ⟨k, rfl⟩ : ∃ k : Nat, n = (k : Int) := ⟨n.toNat, by omega⟩
    have hk : k < 8 := by omega
    obtain ⟨hx, hkp⟩ := h.memSet hk 0
    have hth : w.there b (1 + k * 281) (memCells 0).toArray.size := by rw [List.size_toArray, memCells_len]; exact h.memThere hk
    have hzm := zeroMem
    have hi := infoMem' 0
    have ho := memCells_one 0
    have HX := hide hx
    have HKP := hide hkp
    have HTH := hide hth
    clear hx hkp hth
    go_enter Try.func14, Try.ntmps14
    go_wp2_with fail
    refine (isTenant_any h _).mono ?_
    rintro e w' ⟨rfl, hww⟩
    replace hww := hww.symm
    subst hww
    rw [unhide HT]
    generalize memCells 0 = cs at *
    go_wp2_with (refine wpList_store_mid rfl 63 _ _ rfl _ _ cs.toArray rfl (by rw [← hzm]; rfl) (unhide HTH) hi ho (unhide ?_))
    refine hide ?_
    generalize w.setCells b (1 + k * 281) cs.toArray.toList = Y at *
    have hpf := clrX_wf hf (k := k) (q := 0) (by omega) (by omega)
    go_wp2_with (go_at_call 42; refine (endAll_any (p := clrX p k 0) (unhide HX) hpf _).mono ?_; rintro e w' ⟨rfl, hx2, hw⟩)
    go_ret
    exact Or.inl ⟨trivial, rfl, by unfold dropX; rw [Int.toNat_natCast]; exact hx2, Kept.trans (unhide HKP) hw⟩
end Go.Proofs.Ytgndledehlilkab
