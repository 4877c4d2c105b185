/-
  begun: an engine with tenants of known quotas.
-/
import Derived.Test.YtgndledehlilkabKeep1
import Derived.Test.YtgndledehlilkabKeepP
namespace Go.Proofs.Ytgndledehlilkab
open Go.RowKit

set_option maxHeartbeats 2000000 in
theorem begunT {w : World} {g cap : Nat} {Q : List Int} {T : Nat → Tok} (hT : ∀ j, j < Q.length → T j = ⟨j, 15, [], false⟩) (O : Tag) (e : Nat) (hO : ∀ k, k < w.heap.size → (O k).1 ≠ e) (h : ∀ j, j < Q.length → 1 ≤ Q.getD j 0 ∧ Q.getD j 0 ≤ 64) (hs : sumQ Q Q.length ≤ 64) (hl : Q.length ≤ 8)
    (hg : g < w.heap.size) (hc : ∀ j, j < Q.length → w.cell? ⟨g, j, none⟩ = some (.int .i64 (Q.getD j 0))) :
    Calls Try.prog 4 #[.slice (some ⟨g, 0, none⟩) Q.length cap] w fun en w' => ∃ b O', en = .returned (.pointer (some ⟨b, 0, none⟩)) ∧ (∀ k, k < w.heap.size → O' k = O k) ∧ On w w' O' e b (begT Q T Q.length) := by
  have HO := hide hO
  have H := hide h
  have HS := hide hs
  have HC := hide hc
  clear hO h hs hc
  go_enter Try.func4, Try.ntmps4
  go_wp2_with fail
  refine (engX.new_yes 64 w (by omega) (by omega)).mono ?_
  rintro en w1 ⟨b, rfl, hst, hrep⟩
  obtain ⟨O1, hO1, hr1⟩ := hrep O e (begT Q T 0).life (begT Q T 0).tok
  have hon : On w w1 O1 e b (begT Q T 0) := ⟨hr1, RefOk.new (by omega) (by omega) _ _, fun k hk => by rw [hO1 k hk]; exact unhide HO k hk, hst⟩
  have HON := hide hon
  have HO1 := hide hO1
  clear hst hrep hO1 hr1 hon
  go_wp2
  go_loopw [5, 6, 7, 8] (fun i _ _ _ w' => ∃ k : Nat, k ≤ Q.length ∧ i = .int .i64 k ∧ ∃ O' : Tag, (∀ j, j < w.heap.size → O' j = O j) ∧ On w w' O' e b (begT Q T k)) (fun i _ _ _ _ => Q.length - (intOf i).toNat)
  case atStart => exact ⟨0, Nat.zero_le _, rfl, O1, unhide HO1, unhide HON⟩
  case round =>
    obtain ⟨k, hk, rfl, O2, hO2, hon⟩ := hrel
    have hzw := hon.still.size
    by_cases hlt : k < Q.length
    · have c := (hon.still.cell g k hg).trans (unhide HC k hlt)
      have hgw : g < wr.heap.size := by omega
      have hk0 : (0 : Int) ≤ (k : Int) := by omega
      have hkl : (k : Int) < (Q.length : Int) := by omega
      obtain ⟨e1, e2, e3⟩ := begF_create hT (unhide H) (unhide HS) hl hlt
      have HON2 := hide hon
      have HO2 := hide hO2
      have E1 := hide e1
      have E2 := hide e2
      have E3 := hide e3
      clear hon hO2 e1 e2 e3
      generalize Q.getD k 0 = q at *
      go_wp2_with fail
      refine (on_create (unhide HON2) _).mono ?_
      rintro en w2 ⟨rfl, O3, hO3, hon3, _⟩
      rw [unhide E1, unhide E2]
      rw [unhide E3] at hon3
      have HON3 := hide hon3
      have HO3 : Hid (∀ j, j < w.heap.size → O3 j = O j) := fun j hj => (hO3 j (by omega)).trans (unhide HO2 j hj)
      clear hO3 hon3
      go_wp2
      go_roundw
      case rel => exact ⟨k + 1, by omega, by go_num, O3, unhide HO3, unhide HON3⟩
      case measure => simp [intOf]; omega
    · obtain rfl : k = Q.length := by omega
      have HON2 := hide hon
      have HO2 := hide hO2
      clear hon hO2
      go_wp2
      go_ret
      exact ⟨b, O2, rfl, unhide HO2, unhide HON2⟩
theorem begunK {w : World} {g cap : Nat} {Q : List Int} (O : Tag) (e : Nat) (hO : ∀ k, k < w.heap.size → (O k).1 ≠ e) (h : ∀ j, j < Q.length → 1 ≤ Q.getD j 0 ∧ Q.getD j 0 ≤ 64) (hs : sumQ Q Q.length ≤ 64) (hl : Q.length ≤ 8)
    (hg : g < w.heap.size) (hc : ∀ j, j < Q.length → w.cell? ⟨g, j, none⟩ = some (.int .i64 (Q.getD j 0))) :
    Calls Try.prog 4 #[.slice (some ⟨g, 0, none⟩) Q.length cap] w fun en w' => ∃ b O', en = .returned (.pointer (some ⟨b, 0, none⟩)) ∧ (∀ k, k < w.heap.size → O' k = O k) ∧ On w w' O' e b (begF Q Q.length) :=
  begunT (T := fun j => ⟨j, 15, [], false⟩) (fun _ _ => rfl) O e hO h hs hl hg hc
end Go.Proofs.Ytgndledehlilkab
