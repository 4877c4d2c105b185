/-
  Walks: districtref: Create where it is let in.
-/
import Derived.Test.YtgndledehlilkaaGreatPure
import Derived.Test.YtgndledehlilkaaGreatRefW4
import Derived.Deep.DrawnRows
import Derived.Deep.RegionLaw
import Derived.BigRegion
namespace Go.Proofs.YtgndledehlilkaaGreat
open Go.RowKit
attribute [local go_sem ↓] Go.wp_at_zero Go.wp_at_succ
set_option maxRecDepth 100000 in
set_option maxHeartbeats 4000000 in
theorem refCreate_good {w : World} {O : Nat → Nat × Nat × Nat} {e b : Nat} {r : RefS} (h : RefRep w O e b r) (hf : RefWf r) (quota : Int) (h0 : createR r quota = 0) :
    Calls Tryz.prog 22 #[.pointer (some ⟨b, 0, none⟩), .int .i64 quota] w fun en w' =>
      ∃ no : Nat, no ≤ 8 ∧ freeR r no ∧ (∀ j, j < no → ¬ freeR r (j : Nat)) ∧ en = .returned (.tuple #[.int .i64 no, .int .i64 (r.nt + 1 : Int), .int .i64 0]) ∧
        ∃ O', (∀ k, k < w.heap.size → O' k = O k) ∧ RefRep w' O' e b (createS r no quota) ∧ Kept (mineR O e) w w' := by
  have hq : ¬ (quota < 1 ∨ 64 < quota) := fun hq => by unfold createR at h0; rw [if_pos hq] at h0; omega
  unfold createR at h0
  rw [if_neg hq] at h0
  have hc8 : ¬ 8 ≤ liveCount r r.nl := fun hc => by rw [if_pos hc] at h0; omega
  rw [if_neg hc8] at h0
  have hs : ¬ r.room < quota + liveSum r r.nl := fun hc => by rw [if_pos hc] at h0; omega
  rw [if_neg hs] at h0
  have h100 : ¬ 100 ≤ r.nt := fun hc => by rw [if_pos hc] at h0; omega
  clear h0
  have hq1 : 1 ≤ quota := by omega
  have hq2 : quota ≤ 64 := by omega
  clear hq
  have hn := hf.nt
  have hl := hf.nl
  have hrm := hf.room
  have hcl := liveCount_le r r.nl
  have hsl := liveSum_le hf r.nl (Nat.le_refl _)
  obtain ⟨lv, tv, ov, rv, ln, ht⟩ := h
  have hR : RefRep w O e b r := ⟨lv, tv, ov, rv, ln, ht⟩
  obtain ⟨c0, c1, c2, fz⟩ := ht.cells
  obtain ⟨a, cap, rfl, h1, h2, h3⟩ := ht.livesAt
  obtain ⟨a', cap', rfl, h1', h2', h3'⟩ := ht.toksAt
  unfold maxLen at h2 h2'
  have b0 := ht.lt
  have HR := hide hR
  have HT := hide ht
  have H3 := hide h3
  clear ht hR h3 h3'
  obtain ⟨i0, hi0, hz0, hz1, hz2⟩ := info_parts infoLife
  obtain ⟨j0, hj0, hy0, hy1, hy2⟩ := info_parts infoTok
  go_enter Tryz.func22, Tryz.ntmps22
  go_wp2_with (go_at_call 20; refine (between_yes _ _ _ _ (by omega) (by omega)).mono ?_; rintro e w' ⟨rfl, hw⟩; replace hw := hw.symm; subst hw)
  go_loop [8, 9, 10] (fun s c i => ∃ k : Nat, k ≤ r.nl ∧ i = .int .i64 k ∧ s = .int .i64 (quota + liveSum r k) ∧ c = .int .i64 (liveCount r k : Int)) (fun _ _ i => r.nl - (intOf i).toNat)
  case atStart => exact ⟨0, Nat.zero_le _, rfl, by simp [liveSum], by simp [liveCount]⟩
  case round =>
    obtain ⟨k, hk, rfl, rfl, rfl⟩ := hrel
    by_cases hlt : k < r.nl
    · obtain ⟨g, rfl⟩ := unhide H3 k hlt
      have t6 : w.cell? ⟨g, k * 7 + 6, none⟩ = some (.bool (r.life k).gone) := (unhide HT).lifeCell hlt 6 (by omega)
      have t1 : w.cell? ⟨g, k * 7 + 1, none⟩ = some (.int .i64 (r.life k).quota) := (unhide HT).lifeCell hlt 1 (by omega)
      have hqk := hf.quota k hlt
      have hck := liveCount_le r k
      have hsk := liveSum_le hf k (by omega)
      have E1 : Hid (liveCount r (k + 1) = liveCount r k + if (r.life k).gone then 0 else 1) := rfl
      have E2 : Hid (liveSum r (k + 1) = liveSum r k + if (r.life k).gone then 0 else (r.life k).quota) := rfl
      cases hg : (r.life k).gone
      all_goals
        rw [hg] at t6
        have HG := hide hg
        clear hg
        go_wp2
        go_round
        case rel => exact ⟨k + 1, by omega, by go_num, by rw [unhide E2, unhide HG]; simp; try omega, by rw [unhide E1, unhide HG]; simp⟩
        case measure => simp [intOf]; omega
    · obtain rfl : k = r.nl := by omega
      go_wp2
      go_loop [11] (fun t => ∃ m : Nat, m ≤ 8 ∧ t = .int .i64 m ∧ ∀ j : Nat, j < m → ¬ freeR r j) (fun t => 9 - (intOf t).toNat)
      case atStart => exact ⟨0, Nat.zero_le _, rfl, fun j hj => by omega⟩
      case round =>
        obtain ⟨m, hm, rfl, hall⟩ := hrel
        have HA := hide hall
        clear hall
        go_wp2_with fail
        refine (living_any (unhide HR) hf _).mono ?_
        rintro en w1 ⟨q, rfl, hq, hw⟩
        replace hw := hw.symm
        subst hw
        rcases hq with ⟨i, rfl, hi, hg, hno⟩ | ⟨rfl, hfree⟩
        · have hm8 : m < 8 := by have := hf.no i hi; omega
          have HB : Hid (¬ freeR r m) := fun hfr => by
            rcases hfr i hi with hh | hh
            · rw [hg] at hh; cases hh
            · exact hh hno
          clear hg hno
          go_wp2
          go_round
          case rel => exact ⟨m + 1, by omega, by go_num, fun j hj => by
            by_cases ej : j = m
            · subst ej; exact unhide HB
            · exact unhide HA j (by omega)⟩
          case measure => simp [intOf]; omega
        · have HFR : Hid (freeR r m) := hfree
          clear hfree
          have hnb : (Value.slice a r.nl cap).ownBlock ≠ some b := fun hh => by have := (unhide HT).ltag b hh; rw [(unhide HT).btag] at this; simp at this
          have HL : Hid (w.ownsRow 0 101 7 (.slice a r.nl cap) r.nl (enc r.nl fun i => lifeCells (r.life i) (ov i) (rv i))) := (unhide HT).lives
          go_wp2_with (at_builtin; refine wpList_append_lies _ rfl _ _ _ rfl 0 101 i0 _ 7 88 Tryz.underlying73 hi0 hz0 hz1 hz2 rfl (by omega) (.slice a r.nl cap) r.nl _ rfl ((unhide HL).alloc _) ⟨w.heap.size, 0, none⟩ 1 1 [.int .i64 m, .int .i64 quota, .int .i64 0, .int .i64 0, .slice none 0 0, .slice none 0 0, .bool false] rfl rfl (World.news_of_block (cs := #[.int .i64 m, .int .i64 quota, .int .i64 0, .int .i64 0, .slice none 0 0, .slice none 0 0, .bool false]) (t := 101) (fr := (0, 0)) (heap_alloc_new w _)) (by simp [Value.oneCell']) (by omega) (by unfold maxLen; omega) (by omega) (by omega) (w.heap.size + 1) (by simp) ?_; intro g1 cap1 w1 hown1 hgrow hat hlt1; have d1 : w1.cell? ⟨b, 1, none⟩ = some (.slice a r.nl cap) := (hgrow.cell_far ⟨b, 1, none⟩ (by simp; omega) (Ne.symm hnb)).trans (by rw [World.cell?_alloc_lt _ _ _ b0]; exact c1); have d2 : w1.frozen? ⟨b, 1, none⟩ = false := (hgrow.frozen_far ⟨b, 1, none⟩ (by simp; omega) (Ne.symm hnb)).trans (by rw [World.frozen?_alloc_old _ _ _ (Nat.ne_of_lt b0)]; exact fz 1))
          obtain ⟨O1, hO1, hOg⟩ := tag_new (O := O) (t := (e, 1, 0)) hat (fun g hg => (unhide HT).ltag g hg) (Nat.le_refl (w.heap.size + 1))
          have k0 : RefAt (w.alloc (.cells #[.int .i64 m, .int .i64 quota, .int .i64 0, .int .i64 0, .slice none 0 0, .slice none 0 0, .bool false] 101)) O e b r (.slice a r.nl cap) (.slice a' r.nt cap') ov rv ln := (unhide HT).still ((Kept.refl _ _).alloc _)
          have k1 := k0.pushLife (O' := O1) (L := ⟨m, quota, 0, 0, [], [], false⟩) rfl rfl hgrow hown1 (fun k hk => hO1 k (by simpa using hk)) (fun g hg => by
            have : g1 = g := by simpa [Value.ownBlock] using hg
            rw [← this]; exact hOg)
          have kk : Hid (Kept (mineR O e) w (w1.setCell ⟨b, 1, none⟩ (.slice (some ⟨g1, 0, none⟩) (r.nl + 1) cap1))) := by
            refine Kept.setCell (Kept.grown ((Kept.refl _ _).alloc _) hgrow (fun k hk => ?_)) (.inl ?_) _
            · left
              unfold mineR; rw [(unhide HT).ltag k hk]; simp
            · unfold mineR; rw [(unhide HT).btag]; simp
          have ks : Hid (w.heap.size ≤ (w1.setCell ⟨b, 1, none⟩ (.slice (some ⟨g1, 0, none⟩) (r.nl + 1) cap1)).heap.size) := (unhide kk).size
          have hOO : Hid (∀ k, k < w.heap.size → O1 k = O k) := fun k hk => hO1 k (by omega)
          clear d1 d2 hgrow hown1 hat hlt1 k0 hO1 hOg hnb HL
          generalize w1.setCell ⟨b, 1, none⟩ (.slice (some ⟨g1, 0, none⟩) (r.nl + 1) cap1) = W at *
          obtain ⟨_, p1, p2, pz⟩ := k1.cells
          have pz2 := pz 2
          have pb := k1.lt
          have hnb : (Value.slice a' r.nt cap').ownBlock ≠ some b := fun hh => by have := k1.ttag b hh; rw [k1.btag] at this; simp at this
          have HK := hide k1
          have HL : Hid (W.ownsRow 0 104 4 (.slice a' r.nt cap') r.nt (enc r.nt fun k => tokCells (r.tok k) (ln k))) := k1.toks
          have hfz : ∀ o, (W.alloc o).frozen? ⟨b, 2, none⟩ = false := fun o => by rw [World.frozen?_alloc_old _ _ _ (Nat.ne_of_lt pb)]; exact pz 2
          have hwr : IntKind.i64.wrap (r.nl : Int) = (r.nl : Int) := wrap_small (by omega) (by omega)
          clear k1 c0 c1 c2 fz pz
          go_region_law ((refine step_append_lies _ (by rfl) _ _ _ (by rfl) 0 104 j0 _ 4 48 Tryz.underlying74 hj0 hy0 hy1 hy2 rfl (by omega) (.slice a' r.nt cap') r.nt _ (by rfl) (((unhide HL).alloc _).drew) ⟨W.heap.size, 0, none⟩ 1 1 [.int .i64 (r.nl : Int), .int .i64 15, .slice none 0 0, .bool false] (by rfl) (by rfl) (World.news_of_block (cs := #[.int .i64 (r.nl : Int), .int .i64 15, .slice none 0 0, .bool false]) (t := 104) (fr := (0, 0)) (heap_alloc_new W _)) (by simp [Value.oneCell']) (by omega) (by unfold maxLen; omega) (by omega) (by omega) (W.heap.size + 1) (by simp) ?_; intro g2 cap2 w2 hown2 hgrow hat hlt2; have d1 : w2.cell? ⟨b, 2, none⟩ = some (.slice a' r.nt cap') := (hgrow.cell_far ⟨b, 2, none⟩ (by simp; omega) (Ne.symm hnb)).trans (by rw [World.cell?_drew, World.cell?_alloc_lt _ _ _ pb]; exact p2); have d2 : w2.frozen? ⟨b, 2, none⟩ = false := (hgrow.frozen_far ⟨b, 2, none⟩ (by simp; omega) (Ne.symm hnb)).trans (by rw [World.frozen?_drew]; exact hfz _)))
          all_goals
            go_wp2
            obtain ⟨O2, hO2, hOg2⟩ := tag_new (O := O1) (t := (e, 2, 0)) hat (fun g hg => (unhide HK).ttag g hg) (Nat.le_refl (W.heap.size + 1))
            have k0 : RefAt (W.alloc (.cells #[.int .i64 (r.nl : Int), .int .i64 15, .slice none 0 0, .bool false] 104)).drew O1 e b _ _ _ _ _ _ := (unhide HK).still ((Kept.refl _ _).alloc _).drew
            have k2 := k0.pushTok (O' := O2) (T := ⟨r.nl, 15, [], false⟩) (nv := .slice none 0 0) hgrow hown2 (World.ownsRow_nil _ _ _ _) (fun k hk => hO2 k (by simpa using hk)) (fun g hg => by
              have : g2 = g := by simpa [Value.ownBlock] using hg
              rw [← this]; exact hOg2) (fun g hg => by simp [Value.ownBlock] at hg)
            have kf : Hid (Kept (mineR O e) w (w2.setCell ⟨b, 2, none⟩ (.slice (some ⟨g2, 0, none⟩) (r.nt + 1) cap2))) := by
              refine Kept.trans' (unhide kk) (Q := mineR O1 e) ?_ (fun i hi hq => by unfold mineR at *; rwa [unhide hOO i hi] at hq)
              refine Kept.setCell (Kept.grown ((Kept.refl _ _).alloc _).drew hgrow (fun k hk => ?_)) (.inl ?_) _
              · left
                unfold mineR; rw [(unhide HK).ttag k hk]; simp
              · unfold mineR; rw [(unhide HK).btag]; simp
            have hOf : Hid (∀ k, k < w.heap.size → O2 k = O k) := fun k hk => (hO2 k (by have := unhide ks; omega)).trans (unhide hOO k hk)
            have hc2 := (k2.cells).2.2.1
            have K2 := hide k2
            clear d1 d2 hgrow hown2 hat hlt2 k0 hO2 hOg2 hnb HL hfz p1 p2 pz2 k2
            generalize w2.setCell ⟨b, 2, none⟩ (.slice (some ⟨g2, 0, none⟩) (r.nt + 1) cap2) = W2 at *
            go_quiet (fail)
            go_wp2
            go_ret3
            refine ⟨m, hm, unhide HFR, unhide HA, by simp, O2, unhide hOf, ?_, (unhide kf).drewN _⟩
            exact ⟨_, _, _, _, _, (unhide K2).still ((Kept.refl _ _).drewN _)⟩
end Go.Proofs.YtgndledehlilkaaGreat
