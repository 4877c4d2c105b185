/-
  Walks: districtref: Create.
-/
import Derived.Test.YtgndledehlilkaaGreatPure
import Derived.Test.YtgndledehlilkaaGreatRefW3
import Derived.Deep.RegionHeld3
import Derived.Deep.AppendLies
import Derived.StillTactics
import Derived.OwnWalk
import Derived.Laws.Pointers
import Derived.KernelRfl
namespace Go.Proofs.YtgndledehlilkaaGreat
open Go.RowKit
theorem infoLife : (Tryz.prog.info? 101).map (fun i => (i.zero, i.size, i.bytes)) = some (some (.agg #[.int .i64 0, .int .i64 0, .int .i64 0, .int .i64 0, .slice none 0 0, .slice none 0 0, .bool false]), 7, 88) := by kernel_rfl
theorem infoTok : (Tryz.prog.info? 104).map (fun i => (i.zero, i.size, i.bytes)) = some (some (.agg #[.int .i64 0, .int .i64 0, .slice none 0 0, .bool false]), 4, 48) := by kernel_rfl
set_option maxHeartbeats 2000000 in
theorem refCreate_bad {w : World} {O : Nat → Nat × Nat × Nat} {e b : Nat} {r : RefS} (h : RefRep w O e b r) (hf : RefWf r) (quota : Int) (hne : createR r quota ≠ 0) :
    Calls Tryz.prog 22 #[.pointer (some ⟨b, 0, none⟩), .int .i64 quota] w fun en w' =>
      en = .returned (.tuple #[.int .i64 0, .int .i64 0, .int .i64 (createR r quota)]) ∧ RefRep w' O e b r ∧ Kept (mineR O e) w w' := by
  by_cases hq : quota < 1 ∨ 64 < quota
  · have e1 : createR r quota = 2 := by unfold createR; rw [if_pos hq]
    rw [e1]
    have HQ := hide hq
    clear e1 hne hq
    go_enter Tryz.func22, Tryz.ntmps22
    go_wp2_with (go_at_call 20; refine (between_no _ _ _ _ (unhide HQ)).mono ?_; rintro e w' ⟨rfl, hw⟩; replace hw := hw.symm; subst hw)
    go_ret3
    exact ⟨rfl, h, Kept.refl _ _⟩
  · have e1 : createR r quota = if 8 ≤ liveCount r r.nl then 5 else if r.room < quota + liveSum r r.nl then 6 else if 100 ≤ r.nt then 7 else 0 := by unfold createR; rw [if_neg hq]
    have hq1 : 1 ≤ quota := by omega
    have hq2 : quota ≤ 64 := by omega
    clear hq
    have hn := hf.nt
    have hl := hf.nl
    have hrm := hf.room
    have hcl := liveCount_le r r.nl
    have hsl := liveSum_le hf r.nl (Nat.le_refl _)
    obtain ⟨lv, tv, ov, rv, ln, ht⟩ := h
    have hR : RefRep w O e b r := ⟨lv, tv, ov, rv, ln, ht⟩
    obtain ⟨c0, c1, c2, _⟩ := ht.cells
    obtain ⟨a, cap, rfl, h1, h2, h3⟩ := ht.livesAt
    obtain ⟨a', cap', rfl, h1', h2', h3'⟩ := ht.toksAt
    unfold maxLen at h2 h2'
    have HR := hide hR
    have HT := hide ht
    have H3 := hide h3
    have HE := hide e1
    have HN := hide hne
    clear ht hR h3 h3' e1 hne
    go_enter Tryz.func22, Tryz.ntmps22
    go_wp2_with (go_at_call 20; refine (between_yes _ _ _ _ (by omega) (by omega)).mono ?_; rintro e w' ⟨rfl, hw⟩; replace hw := hw.symm; subst hw)
    go_loop [8, 9, 10] (fun s c i => ∃ k : Nat, k ≤ r.nl ∧ i = .int .i64 k ∧ s = .int .i64 (quota + liveSum r k) ∧ c = .int .i64 (liveCount r k : Int)) (fun _ _ i => r.nl - (intOf i).toNat)
    case atStart => exact ⟨0, Nat.zero_le _, rfl, by simp [liveSum], by simp [liveCount]⟩
    case round =>
      obtain ⟨k, hk, rfl, rfl, rfl⟩ := hrel
      by_cases hlt : k < r.nl
      · obtain ⟨g, rfl⟩ := unhide H3 k hlt
        have t6 : w.cell? ⟨g, k * 7 + 6, none⟩ = some (.bool (r.life k).gone) := (unhide HT).lifeCell hlt 6 (by omega)
        have t1 : w.cell? ⟨g, k * 7 + 1, none⟩ = some (.int .i64 (r.life k).quota) := (unhide HT).lifeCell hlt 1 (by omega)
        have hqk := hf.quota k hlt
        have hck := liveCount_le r k
        have hsk := liveSum_le hf k (by omega)
        have E1 : Hid (liveCount r (k + 1) = liveCount r k + if (r.life k).gone then 0 else 1) := rfl
        have E2 : Hid (liveSum r (k + 1) = liveSum r k + if (r.life k).gone then 0 else (r.life k).quota) := rfl
        cases hg : (r.life k).gone
        all_goals
          rw [hg] at t6
          have HG := hide hg
          clear hg
          go_wp2
          go_round
          case rel => exact ⟨k + 1, by omega, by go_num, by rw [unhide E2, unhide HG]; simp; try omega, by rw [unhide E1, unhide HG]; simp⟩
          case measure => simp [intOf]; omega
      · obtain rfl : k = r.nl := by omega
        by_cases hc8 : 8 ≤ liveCount r r.nl
        · have e1 : createR r quota = 5 := by rw [unhide HE, if_pos hc8]
          have H1 := hide e1
          clear e1
          go_wp2
          go_ret3
          rw [unhide H1]
          exact ⟨rfl, unhide HR, Kept.refl _ _⟩
        · by_cases hs : r.room < quota + liveSum r r.nl
          · have e1 : createR r quota = 6 := by rw [unhide HE, if_neg hc8, if_pos hs]
            have H1 := hide e1
            clear e1
            go_wp2
            go_ret3
            rw [unhide H1]
            exact ⟨rfl, unhide HR, Kept.refl _ _⟩
          · by_cases h100 : 100 ≤ r.nt
            · have e1 : createR r quota = 7 := by rw [unhide HE, if_neg hc8, if_neg hs, if_pos h100]
              have H1 := hide e1
              clear e1
              go_wp2
              go_ret3
              rw [unhide H1]
              exact ⟨rfl, unhide HR, Kept.refl _ _⟩
            · exact absurd (by rw [unhide HE, if_neg hc8, if_neg hs, if_neg h100]) (unhide HN)
end Go.Proofs.YtgndledehlilkaaGreat
