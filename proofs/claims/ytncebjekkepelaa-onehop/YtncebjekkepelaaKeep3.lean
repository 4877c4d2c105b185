/-
  begun: an engine with tenants of known quotas.
-/
import Derived.Test.YtncebjekkepelaaKeep2
namespace Go.Proofs.Ytncebjekkepelaa
open Go.RowKit

/-- The engine with the first i of the tenants. -/
def begF (Q : List Int) (i : Nat) : RefS := ⟨64, i, fun j => ⟨j, Q.getD j 0, 0, 0, [], [], false⟩, i, fun j => ⟨j, 15, [], false⟩⟩
theorem begF_createS (Q : List Int) (i : Nat) : createS (begF Q i) i (Q.getD i 0) = begF Q (i + 1) := by
  unfold createS begF
  simp only [RefS.mk.injEq, true_and]
  refine ⟨?_, ?_⟩
  · funext j
    unfold upd
    split
    · rename_i e; subst e; rfl
    · rfl
  · funext j
    unfold upd
    split
    · rename_i e; subst e; rfl
    · rfl
def sumQ (Q : List Int) : Nat → Int
  | 0 => 0
  | n + 1 => sumQ Q n + Q.getD n 0
theorem begF_sum (Q : List Int) (i : Nat) : ∀ n, liveSum (begF Q i) n = sumQ Q n
  | 0 => rfl
  | n + 1 => by
    unfold liveSum sumQ
    rw [begF_sum Q i n]
    rfl
theorem begF_count (Q : List Int) (i : Nat) : ∀ n, liveCount (begF Q i) n = n
  | 0 => rfl
  | n + 1 => by
    unfold liveCount
    rw [begF_count Q i n]
    rfl
theorem begF_free (Q : List Int) {i : Nat} (hi : i < 8) : freeNo (begF Q i) = i := by
  refine (freeNo_is (by omega) ?_ ?_).symm
  · intro j hj
    right
    have hj' : j < i := hj
    show (j : Int) ≠ (i : Int)
    omega
  · intro j hj hf
    rcases hf j hj with h | h
    · cases h
    · exact h rfl
theorem sumQ_mono {Q : List Int} (h : ∀ j, j < Q.length → 1 ≤ Q.getD j 0) {m n : Nat} (hmn : m ≤ n) (hn : n ≤ Q.length) : sumQ Q m ≤ sumQ Q n := by
  induction n with
  | zero => obtain rfl : m = 0 := (by omega); exact Int.le_refl _
  | succ n ih =>
    by_cases e : m = n + 1
    · subst e; exact Int.le_refl _
    · have := ih (by omega) (by omega)
      have := h n (by omega)
      simp only [sumQ]; omega
theorem begF_create {Q : List Int} (h : ∀ j, j < Q.length → 1 ≤ Q.getD j 0 ∧ Q.getD j 0 ≤ 64) (hs : sumQ Q Q.length ≤ 64) (hl : Q.length ≤ 8) {i : Nat} (hi : i < Q.length) :
    createR (begF Q i) (Q.getD i 0) = 0 ∧ createA (begF Q i) (Q.getD i 0) = ((i : Int), (i : Int) + 1) ∧ createdR (begF Q i) (Q.getD i 0) = begF Q (i + 1) := by
  have h1 := h i hi
  have h2 := sumQ_mono (fun j hj => (h j hj).1) (show i + 1 ≤ Q.length by omega) (Nat.le_refl _)
  simp only [sumQ] at h2
  have e0 : createR (begF Q i) (Q.getD i 0) = 0 := by
    unfold createR
    have a1 : liveCount (begF Q i) (begF Q i).nl = i := begF_count Q i i
    have a2 : liveSum (begF Q i) (begF Q i).nl = sumQ Q i := begF_sum Q i i
    rw [a1, a2, if_neg (by omega), if_neg (by omega), if_neg (by show ¬ (64 : Int) < _; omega), if_neg (by show ¬ 100 ≤ i; omega)]
  refine ⟨e0, ?_, ?_⟩
  · unfold createA
    rw [if_pos e0, begF_free Q (by omega)]
    rfl
  · unfold createdR
    rw [if_pos e0, begF_free Q (by omega)]
    exact begF_createS Q i
set_option maxHeartbeats 2000000 in
theorem begunK {w : World} {g cap : Nat} {Q : List Int} (O : Tag) (e : Nat) (hO : ∀ k, k < w.heap.size → (O k).1 ≠ e) (h : ∀ j, j < Q.length → 1 ≤ Q.getD j 0 ∧ Q.getD j 0 ≤ 64) (hs : sumQ Q Q.length ≤ 64) (hl : Q.length ≤ 8)
    (hg : g < w.heap.size) (hc : ∀ j, j < Q.length → w.cell? ⟨g, j, none⟩ = some (.int .i64 (Q.getD j 0))) :
    Calls Try.prog 9 #[.slice (some ⟨g, 0, none⟩) Q.length cap] w fun en w' => ∃ b O', en = .returned (.pointer (some ⟨b, 0, none⟩)) ∧ (∀ k, k < w.heap.size → O' k = O k) ∧ On w w' O' e b (begF Q Q.length) := by
  have HO := hide hO
  have H := hide h
  have HS := hide hs
  have HC := hide hc
  clear hO h hs hc
  go_enter Try.func9, Try.ntmps9
  go_wp2_with fail
  refine (engX.new_yes 64 w (by omega) (by omega)).mono ?_
  rintro en w1 ⟨b, rfl, hst, hrep⟩
  obtain ⟨O1, hO1, hr1⟩ := hrep O e (begF Q 0).life (begF Q 0).tok
  have hon : On w w1 O1 e b (begF Q 0) := ⟨hr1, RefOk.new (by omega) (by omega) _ _, fun k hk => by rw [hO1 k hk]; exact unhide HO k hk, hst⟩
  have HON := hide hon
  have HO1 := hide hO1
  clear hst hrep hO1 hr1 hon
  go_wp2
  go_loopw [5, 6, 7, 8] (fun i _ _ _ w' => ∃ k : Nat, k ≤ Q.length ∧ i = .int .i64 k ∧ ∃ O' : Tag, (∀ j, j < w.heap.size → O' j = O j) ∧ On w w' O' e b (begF Q k)) (fun i _ _ _ _ => Q.length - (intOf i).toNat)
  case atStart => exact ⟨0, Nat.zero_le _, rfl, O1, unhide HO1, unhide HON⟩
  case round =>
    obtain ⟨k, hk, rfl, O2, hO2, hon⟩ := hrel
    have hzw := hon.still.size
    by_cases hlt : k < Q.length
    · have c := (hon.still.cell g k hg).trans (unhide HC k hlt)
      have hgw : g < wr.heap.size := by omega
      have hk0 : (0 : Int) ≤ (k : Int) := by omega
      have hkl : (k : Int) < (Q.length : Int) := by omega
      obtain ⟨e1, e2, e3⟩ := begF_create (unhide H) (unhide HS) hl hlt
      have HON2 := hide hon
      have HO2 := hide hO2
      have E1 := hide e1
      have E2 := hide e2
      have E3 := hide e3
      clear hon hO2 e1 e2 e3
      generalize Q.getD k 0 = q at *
      go_wp2_with fail
      refine (on_create (unhide HON2) _).mono ?_
      rintro en w2 ⟨rfl, O3, hO3, hon3, _⟩
      rw [unhide E1, unhide E2]
      rw [unhide E3] at hon3
      have HON3 := hide hon3
      have HO3 : Hid (∀ j, j < w.heap.size → O3 j = O j) := fun j hj => (hO3 j (by omega)).trans (unhide HO2 j hj)
      clear hO3 hon3
      go_wp2
      go_roundw
      case rel => exact ⟨k + 1, by omega, by go_num, O3, unhide HO3, unhide HON3⟩
      case measure => simp [intOf]; omega
    · obtain rfl : k = Q.length := by omega
      have HON2 := hide hon
      have HO2 := hide hO2
      clear hon hO2
      go_wp2
      go_ret
      exact ⟨b, O2, rfl, unhide HO2, unhide HON2⟩
end Go.Proofs.Ytncebjekkepelaa
