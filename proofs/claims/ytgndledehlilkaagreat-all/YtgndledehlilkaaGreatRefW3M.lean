import Derived.Test.YtgndledehlilkaaGreatPure
import Derived.Test.YtgndledehlilkaaGreatRefW1M
import Derived.Test.YtgndledehlilkaaGreatRefOps
import Derived.Deep.RegionHeld3
import Derived.Deep.AppendLies
import Derived.StillTactics
import Derived.OwnWalk
import Derived.Laws.Pointers
import Derived.KernelRfl
import Derived.Deep.DrawnRows
import Derived.Deep.RegionLaw
import Derived.BigRegion
import Derived.Test.YtgndledehlilkaaGreatAppend
namespace Go.Proofs.YtgndledehlilkaaGreat
open Go.RowKit
set_option maxHeartbeats 1000000 in
theorem refDrop_any {w : World} {O : Nat → Nat × Nat × Nat} {e b : Nat} {r : RefS} (h : RefRep w O e b r) (hf : RefWf r) (no : Int) :
    Calls Tryz.prog 24 #[.pointer (some ⟨b, 0, none⟩), .int .i64 no] w fun en w' =>
      (∃ i, i < r.nl ∧ (r.life i).gone = false ∧ (r.life i).no = no ∧ en = .returned (.int .i64 0) ∧ RefRep w' O e b (dropS r i) ∧ Kept (mineR O e) w w') ∨
      ((∀ i, i < r.nl → (r.life i).gone = true ∨ (r.life i).no ≠ no) ∧ en = .returned (.int .i64 5) ∧ RefRep w' O e b r ∧ Kept (mineR O e) w w') := by
  go_enter Tryz.func24, Tryz.ntmps24
  go_wp2_with fail
  refine (living_any h hf _).mono ?_
  rintro en w1 ⟨q, rfl, hq, hw⟩
  replace hw := hw.symm
  subst hw
  rcases hq with ⟨i, rfl, hi, hg, hno⟩ | ⟨rfl, hall⟩
  · have HF : Hid ((r.life i).gone = false ∧ (r.life i).no = no) := ⟨hg, hno⟩
    clear hg hno
    obtain ⟨lv, tv, ov, rv, ln, h⟩ := h
    obtain ⟨_, c1, _, _⟩ := h.cells
    obtain ⟨a, cap, rfl, h1, h2, h3⟩ := h.livesAt
    obtain ⟨g, rfl⟩ := h3 i hi
    have t6 : w.cell? ⟨g, i * 7 + 6, none⟩ = some (.bool (r.life i).gone) := h.lifeCell hi 6 (by omega)
    have t4 : w.cell? ⟨g, i * 7 + 4, none⟩ = some (ov i) := h.lifeCell hi 4 (by omega)
    have f6 : w.frozen? ⟨g, i * 7 + 6, none⟩ = false := h.lives.frozenAt _
    have f4 : w.frozen? ⟨g, i * 7 + 4, none⟩ = false := h.lives.frozenAt _
    have hgb : g ≠ b := tag_ne (h.ltag g rfl) h.btag (by simp)
    have hbg : b ≠ g := Ne.symm hgb
    have hn := hf.nt
    have hl := hf.nl
    unfold maxLen at h2
    have HA := hide h
    clear h h3
    go_wp2
    go_ret
    refine Or.inl ⟨i, hi, (unhide HF).1, (unhide HF).2, rfl, ?_, ?_⟩
    · have k1 := (unhide HA).setLife (j := 6) (u := .bool true) hi (by omega) { r.life i with gone := true } rfl rfl rfl
      have k2 := k1.setOwn (i := i) (u := .slice none 0 0) hi [] (World.ownsRow_nil _ _ _ _) (fun k hk => by simp [Value.ownBlock] at hk)
      simp only [upd_upd, upd_same] at k2
      exact ⟨_, _, _, _, _, k2⟩
    · have hm : mineR O e g := by unfold mineR; rw [(unhide HA).ltag g rfl]; simp
      exact ((Kept.refl _ _).setCell (.inl hm) _).setCell (.inl hm) _
  · have HA := hide hall
    clear hall
    go_wp2
    go_ret
    exact Or.inr ⟨unhide HA, rfl, h, Kept.refl _ _⟩
set_option maxHeartbeats 1000000 in
theorem refRevoke_any {w : World} {O : Nat → Nat × Nat × Nat} {e b : Nat} {r : RefS} (h : RefRep w O e b r) (hf : RefWf r) (n which : Int) :
    Calls Tryz.prog 28 #[.pointer (some ⟨b, 0, none⟩), .int .i64 n, .int .i64 which] w fun en w' =>
      en = .returned (.int .i64 (revokeR r n which)) ∧ RefRep w' O e b (revokedR r n which) ∧ Kept (mineR O e) w w' := by
  by_cases hm : mayI r n 8 = 0
  · by_cases hb : 1 ≤ which ∧ which ≤ r.nt
    · obtain ⟨k, rfl⟩ : ∃ k : Nat, which = (k : Int) + 1 := ⟨(which - 1).toNat, by omega⟩
      have hk : k < r.nt := by omega
      have e0 : ((k : Int) + 1 - 1).toNat = k := by omega
      have e1 : revokeR r n ((k : Int) + 1) = revErr (lineHas (r.tok k).line n) := by
        unfold revokeR
        rw [if_pos hm, if_pos hb, e0]
      have e2 : revokedR r n ((k : Int) + 1) = revState (lineHas (r.tok k).line n) r k := by
        unfold revokedR
        rw [e1, e0]
        cases lineHas (r.tok k).line n <;> rfl
      rw [e1, e2]
      have HM := hide hm
      have hn := hf.nt
      have hlen := hf.lineLen k hk
      clear hm e1 e0 e2
      obtain ⟨lv, tv, ov, rv, ln, ht⟩ := h
      obtain ⟨a, cap, rfl, h1, h2, h3⟩ := ht.toksAt
      obtain ⟨g, rfl⟩ := h3 k hk
      have hll := ht.lines k hk
      obtain ⟨al, capl, el, hl1, hl2⟩ := ownsRow_slice hll
      rw [el] at hll
      have hgb : g ≠ b := tag_ne (ht.ttag g rfl) ht.btag (by simp)
      have hbg : b ≠ g := Ne.symm hgb
      unfold maxLen at h2 hl2
      have HT := hide ht
      have HE := hide el
      clear ht h3 el hll
      go_enter Tryz.func28, Tryz.ntmps28
      go_wp2_with fail
      refine (may_any ⟨_, _, _, _, _, unhide HT⟩ hf _ _ (by omega) (by omega)).mono ?_
      rintro en w1 ⟨rfl, hw⟩
      rw [unhide HM]
      have ht1 := (unhide HT).still hw
      obtain ⟨_, _, c2, _⟩ := ht1.cells
      have t2 : w1.cell? ⟨g, k * 4 + 2, none⟩ = some (ln k) := ht1.tokCell hk 2 (by omega)
      have t3 : w1.cell? ⟨g, k * 4 + 3, none⟩ = some (.bool (r.tok k).revoked) := ht1.tokCell hk 3 (by omega)
      have f3 : w1.frozen? ⟨g, k * 4 + 3, none⟩ = false := ht1.toks.frozenAt _
      have hll := ht1.lines k hk
      rw [unhide HE] at t2 hll
      have HL := hide hll
      have HT1 := hide ht1
      have HW := hide hw
      clear ht1 hll hw HT HE
      go_wp2_with (go_at_call 20; refine (between_yes _ _ _ _ (by omega) (by omega)).mono ?_; rintro e w' ⟨rfl, hw⟩; replace hw := hw.symm; subst hw)
      go_loop [10] (fun t => ∃ i : Nat, i ≤ (r.tok k).line.length ∧ t = .int .i64 i ∧ lineHas ((r.tok k).line.take i) n = false) (fun t => (r.tok k).line.length - (intOf t).toNat)
      case atStart => exact ⟨0, Nat.zero_le _, rfl, by simp [lineHas]⟩
      case round =>
        obtain ⟨j, hj, rfl, hany⟩ := hrel
        have HN := hide hany
        clear hany
        by_cases hlt : j < (r.tok k).line.length
        · obtain ⟨gl, el, hgl⟩ := ownsRow_some (unhide HL) (by omega)
          subst el
          have lc := lineCell (unhide HL) hlt
          by_cases hd : (((r.tok k).line.getD j 0 : Nat) : Int) = n
          · have ha := any_of_at _ _ hlt hd
            have hd' : ((((r.tok k).line.getD j 0 : Nat) : Int) == n) = true := by simpa using hd
            have HA := hide ha
            clear ha hd
            generalize (r.tok k).line.getD j 0 = m at *
            go_wp2
            go_ret
            rw [unhide HA]
            refine ⟨rfl, ?_, ?_⟩
            · exact ⟨_, _, _, _, _, (unhide HT1).setTok (j := 3) (u := .bool true) hk (by omega) { r.tok k with revoked := true } rfl rfl⟩
            · refine Kept.trans (Still.kept (unhide HW) _) (Kept.setCell (Kept.refl _ _) (.inl ?_) _)
              unfold mineR
              rw [(unhide HT1).ttag g rfl]; simp
          · have ha := any_take_succ _ _ hlt (unhide HN) hd
            have hd' : ((((r.tok k).line.getD j 0 : Nat) : Int) == n) = false := by simpa using hd
            have HA := hide ha
            clear ha hd
            generalize (r.tok k).line.getD j 0 = m at *
            go_wp2
            go_round
            case rel => exact ⟨j + 1, by omega, by go_num, unhide HA⟩
            case measure => simp [intOf]; omega
        · have ha : lineHas (r.tok k).line n = false := by
            have := unhide HN
            rwa [List.take_of_length_le (by omega)] at this
          have HA := hide ha
          clear ha
          go_wp2
          go_ret
          rw [unhide HA]
          exact ⟨rfl, ⟨_, _, _, _, _, unhide HT1⟩, Still.kept (unhide HW) _⟩
    · have e1 : revokeR r n which = 4 := by
        unfold revokeR
        rw [if_pos hm, if_neg hb]
      have e2 : revokedR r n which = r := by
        unfold revokedR
        rw [e1]; rfl
      rw [e1, e2]
      have HM := hide hm
      have hb' : which < 1 ∨ (r.nt : Int) < which := by omega
      have HB := hide hb'
      clear hm e1 hb hb' e2
      obtain ⟨lv, tv, ov, rv, ln, ht⟩ := h
      obtain ⟨a, cap, rfl, h1, h2, h3⟩ := ht.toksAt
      have HT := hide ht
      clear ht h3
      go_enter Tryz.func28, Tryz.ntmps28
      go_wp2_with fail
      refine (may_any ⟨_, _, _, _, _, unhide HT⟩ hf _ _ (by omega) (by omega)).mono ?_
      rintro en w1 ⟨rfl, hw⟩
      rw [unhide HM]
      have ht1 := (unhide HT).still hw
      obtain ⟨_, _, c2, _⟩ := ht1.cells
      have HT1 := hide ht1
      clear ht1
      go_wp2_with (go_at_call 20; refine (between_no _ _ _ _ (unhide HB)).mono ?_; rintro e w' ⟨rfl, hw⟩; replace hw := hw.symm; subst hw)
      go_ret
      exact ⟨rfl, ⟨_, _, _, _, _, unhide HT1⟩, Still.kept hw _⟩
  · have e1 : revokeR r n which = mayI r n 8 := by
      unfold revokeR
      rw [if_neg hm]
    have e2 : revokedR r n which = r := by
      unfold revokedR
      rw [e1, if_neg hm]
    rw [e1, e2]
    have hc := mayI_cases r n 8
    have hne : (mayI r n 8 != 0) = true := by simpa using hm
    clear e1 hm e2
    go_enter Tryz.func28, Tryz.ntmps28
    go_wp2_with fail
    refine (may_any h hf _ _ (by omega) (by omega)).mono ?_
    rintro en w1 ⟨rfl, hw⟩
    have h1 := h.still hw
    generalize hx : mayI r n 8 = x at *
    have Hx := hide hx
    clear hx
    go_wp2
    go_ret
    exact ⟨ret_int (unhide Hx).symm, h1, Still.kept hw _⟩
theorem infoLife : (Tryz.prog.info? 101).map (fun i => (i.zero, i.size, i.bytes)) = some (some (.agg #[.int .i64 0, .int .i64 0, .int .i64 0, .int .i64 0, .slice none 0 0, .slice none 0 0, .bool false]), 7, 88) := by kernel_rfl
theorem infoTok : (Tryz.prog.info? 104).map (fun i => (i.zero, i.size, i.bytes)) = some (some (.agg #[.int .i64 0, .int .i64 0, .slice none 0 0, .bool false]), 4, 48) := by kernel_rfl
set_option maxHeartbeats 2000000 in
theorem refCreate_bad {w : World} {O : Nat → Nat × Nat × Nat} {e b : Nat} {r : RefS} (h : RefRep w O e b r) (hf : RefWf r) (quota : Int) (hne : createR r quota ≠ 0) :
    Calls Tryz.prog 22 #[.pointer (some ⟨b, 0, none⟩), .int .i64 quota] w fun en w' =>
      en = .returned (.tuple #[.int .i64 0, .int .i64 0, .int .i64 (createR r quota)]) ∧ RefRep w' O e b r ∧ Kept (mineR O e) w w' := by
  by_cases hq : quota < 1 ∨ 64 < quota
  · have e1 : createR r quota = 2 := by unfold createR; rw [if_pos hq]
    rw [e1]
    have HQ := hide hq
    clear e1 hne hq
    go_enter Tryz.func22, Tryz.ntmps22
    go_wp2_with (go_at_call 20; refine (between_no _ _ _ _ (unhide HQ)).mono ?_; rintro e w' ⟨rfl, hw⟩; replace hw := hw.symm; subst hw)
    go_ret3
    exact ⟨rfl, h, Kept.refl _ _⟩
  · have e1 : createR r quota = if 8 ≤ liveCount r r.nl then 5 else if r.room < quota + liveSum r r.nl then 6 else if 100 ≤ r.nt then 7 else 0 := by unfold createR; rw [if_neg hq]
    have hq1 : 1 ≤ quota := by omega
    have hq2 : quota ≤ 64 := by omega
    clear hq
    have hn := hf.nt
    have hl := hf.nl
    have hrm := hf.room
    have hcl := liveCount_le r r.nl
    have hsl := liveSum_le hf r.nl (Nat.le_refl _)
    obtain ⟨lv, tv, ov, rv, ln, ht⟩ := h
    have hR : RefRep w O e b r := ⟨lv, tv, ov, rv, ln, ht⟩
    obtain ⟨c0, c1, c2, _⟩ := ht.cells
    obtain ⟨a, cap, rfl, h1, h2, h3⟩ := ht.livesAt
    obtain ⟨a', cap', rfl, h1', h2', h3'⟩ := ht.toksAt
    unfold maxLen at h2 h2'
    have HR := hide hR
    have HT := hide ht
    have H3 := hide h3
    have HE := hide e1
    have HN := hide hne
    clear ht hR h3 h3' e1 hne
    go_enter Tryz.func22, Tryz.ntmps22
    go_wp2_with (go_at_call 20; refine (between_yes _ _ _ _ (by omega) (by omega)).mono ?_; rintro e w' ⟨rfl, hw⟩; replace hw := hw.symm; subst hw)
    go_loop [8, 9, 10] (fun s c i => ∃ k : Nat, k ≤ r.nl ∧ i = .int .i64 k ∧ s = .int .i64 (quota + liveSum r k) ∧ c = .int .i64 (liveCount r k : Int)) (fun _ _ i => r.nl - (intOf i).toNat)
    case atStart => exact ⟨0, Nat.zero_le _, rfl, by simp [liveSum], by simp [liveCount]⟩
    case round =>
      obtain ⟨k, hk, rfl, rfl, rfl⟩ := hrel
      by_cases hlt : k < r.nl
      · obtain ⟨g, rfl⟩ := unhide H3 k hlt
        have t6 : w.cell? ⟨g, k * 7 + 6, none⟩ = some (.bool (r.life k).gone) := (unhide HT).lifeCell hlt 6 (by omega)
        have t1 : w.cell? ⟨g, k * 7 + 1, none⟩ = some (.int .i64 (r.life k).quota) := (unhide HT).lifeCell hlt 1 (by omega)
        have hqk := hf.quota k hlt
        have hck := liveCount_le r k
        have hsk := liveSum_le hf k (by omega)
        have E1 : Hid (liveCount r (k + 1) = liveCount r k + if (r.life k).gone then 0 else 1) := rfl
        have E2 : Hid (liveSum r (k + 1) = liveSum r k + if (r.life k).gone then 0 else (r.life k).quota) := rfl
        cases hg : (r.life k).gone
        all_goals
          rw [hg] at t6
          have HG := hide hg
          clear hg
          go_wp2
          go_round
          case rel => exact ⟨k + 1, by omega, by go_num, by rw [unhide E2, unhide HG]; simp; try omega, by rw [unhide E1, unhide HG]; simp⟩
          case measure => simp [intOf]; omega
      · obtain rfl : k = r.nl := by omega
        by_cases hc8 : 8 ≤ liveCount r r.nl
        · have e1 : createR r quota = 5 := by rw [unhide HE, if_pos hc8]
          have H1 := hide e1
          clear e1
          go_wp2
          go_ret3
          rw [unhide H1]
          exact ⟨rfl, unhide HR, Kept.refl _ _⟩
        · by_cases hs : r.room < quota + liveSum r r.nl
          · have e1 : createR r quota = 6 := by rw [unhide HE, if_neg hc8, if_pos hs]
            have H1 := hide e1
            clear e1
            go_wp2
            go_ret3
            rw [unhide H1]
            exact ⟨rfl, unhide HR, Kept.refl _ _⟩
          · by_cases h100 : 100 ≤ r.nt
            · have e1 : createR r quota = 7 := by rw [unhide HE, if_neg hc8, if_neg hs, if_pos h100]
              have H1 := hide e1
              clear e1
              go_wp2
              go_ret3
              rw [unhide H1]
              exact ⟨rfl, unhide HR, Kept.refl _ _⟩
            · exact absurd (by rw [unhide HE, if_neg hc8, if_neg hs, if_neg h100]) (unhide HN)
section
attribute [local go_sem ↓] Go.wp_at_zero Go.wp_at_succ
set_option maxRecDepth 100000 in
set_option maxHeartbeats 4000000 in
theorem refCreate_good {w : World} {O : Nat → Nat × Nat × Nat} {e b : Nat} {r : RefS} (h : RefRep w O e b r) (hf : RefWf r) (quota : Int) (h0 : createR r quota = 0) :
    Calls Tryz.prog 22 #[.pointer (some ⟨b, 0, none⟩), .int .i64 quota] w fun en w' =>
      ∃ no : Nat, no ≤ 8 ∧ freeR r no ∧ (∀ j, j < no → ¬ freeR r (j : Nat)) ∧ en = .returned (.tuple #[.int .i64 no, .int .i64 (r.nt + 1 : Int), .int .i64 0]) ∧
        ∃ O', (∀ k, k < w.heap.size → O' k = O k) ∧ RefRep w' O' e b (createS r no quota) ∧ Kept (mineR O e) w w' := by
  have hq : ¬ (quota < 1 ∨ 64 < quota) := fun hq => by unfold createR at h0; rw [if_pos hq] at h0; omega
  unfold createR at h0
  rw [if_neg hq] at h0
  have hc8 : ¬ 8 ≤ liveCount r r.nl := fun hc => by rw [if_pos hc] at h0; omega
  rw [if_neg hc8] at h0
  have hs : ¬ r.room < quota + liveSum r r.nl := fun hc => by rw [if_pos hc] at h0; omega
  rw [if_neg hs] at h0
  have h100 : ¬ 100 ≤ r.nt := fun hc => by rw [if_pos hc] at h0; omega
  clear h0
  have hq1 : 1 ≤ quota := by omega
  have hq2 : quota ≤ 64 := by omega
  clear hq
  have hn := hf.nt
  have hl := hf.nl
  have hrm := hf.room
  have hcl := liveCount_le r r.nl
  have hsl := liveSum_le hf r.nl (Nat.le_refl _)
  obtain ⟨lv, tv, ov, rv, ln, ht⟩ := h
  have hR : RefRep w O e b r := ⟨lv, tv, ov, rv, ln, ht⟩
  obtain ⟨c0, c1, c2, fz⟩ := ht.cells
  obtain ⟨a, cap, rfl, h1, h2, h3⟩ := ht.livesAt
  obtain ⟨a', cap', rfl, h1', h2', h3'⟩ := ht.toksAt
  unfold maxLen at h2 h2'
  have b0 := ht.lt
  have HR := hide hR
  have HT := hide ht
  have H3 := hide h3
  clear ht hR h3 h3'
  obtain ⟨i0, hi0, hz0, hz1, hz2⟩ := info_parts infoLife
  obtain ⟨j0, hj0, hy0, hy1, hy2⟩ := info_parts infoTok
  go_enter Tryz.func22, Tryz.ntmps22
  go_wp2_with (go_at_call 20; refine (between_yes _ _ _ _ (by omega) (by omega)).mono ?_; rintro e w' ⟨rfl, hw⟩; replace hw := hw.symm; subst hw)
  go_loop [8, 9, 10] (fun s c i => ∃ k : Nat, k ≤ r.nl ∧ i = .int .i64 k ∧ s = .int .i64 (quota + liveSum r k) ∧ c = .int .i64 (liveCount r k : Int)) (fun _ _ i => r.nl - (intOf i).toNat)
  case atStart => exact ⟨0, Nat.zero_le _, rfl, by simp [liveSum], by simp [liveCount]⟩
  case round =>
    obtain ⟨k, hk, rfl, rfl, rfl⟩ := hrel
    by_cases hlt : k < r.nl
    · obtain ⟨g, rfl⟩ := unhide H3 k hlt
      have t6 : w.cell? ⟨g, k * 7 + 6, none⟩ = some (.bool (r.life k).gone) := (unhide HT).lifeCell hlt 6 (by omega)
      have t1 : w.cell? ⟨g, k * 7 + 1, none⟩ = some (.int .i64 (r.life k).quota) := (unhide HT).lifeCell hlt 1 (by omega)
      have hqk := hf.quota k hlt
      have hck := liveCount_le r k
      have hsk := liveSum_le hf k (by omega)
      have E1 : Hid (liveCount r (k + 1) = liveCount r k + if (r.life k).gone then 0 else 1) := rfl
      have E2 : Hid (liveSum r (k + 1) = liveSum r k + if (r.life k).gone then 0 else (r.life k).quota) := rfl
      cases hg : (r.life k).gone
      all_goals
        rw [hg] at t6
        have HG := hide hg
        clear hg
        go_wp2
        go_round
        case rel => exact ⟨k + 1, by omega, by go_num, by rw [unhide E2, unhide HG]; simp; try omega, by rw [unhide E1, unhide HG]; simp⟩
        case measure => simp [intOf]; omega
    · obtain rfl : k = r.nl := by omega
      go_wp2
      go_loop [11] (fun t => ∃ m : Nat, m ≤ 8 ∧ t = .int .i64 m ∧ ∀ j : Nat, j < m → ¬ freeR r j) (fun t => 9 - (intOf t).toNat)
      case atStart => exact ⟨0, Nat.zero_le _, rfl, fun j hj => by omega⟩
      case round =>
        obtain ⟨m, hm, rfl, hall⟩ := hrel
        have HA := hide hall
        clear hall
        go_wp2_with fail
        refine (living_any (unhide HR) hf _).mono ?_
        rintro en w1 ⟨q, rfl, hq, hw⟩
        replace hw := hw.symm
        subst hw
        rcases hq with ⟨i, rfl, hi, hg, hno⟩ | ⟨rfl, hfree⟩
        · have hm8 : m < 8 := by have := hf.no i hi; omega
          have HB : Hid (¬ freeR r m) := fun hfr => by
            rcases hfr i hi with hh | hh
            · rw [hg] at hh; cases hh
            · exact hh hno
          clear hg hno
          go_wp2
          go_round
          case rel => exact ⟨m + 1, by omega, by go_num, fun j hj => by
            by_cases ej : j = m
            · subst ej; exact unhide HB
            · exact unhide HA j (by omega)⟩
          case measure => simp [intOf]; omega
        · have HFR : Hid (freeR r m) := hfree
          clear hfree
          have hnb : (Value.slice a r.nl cap).ownBlock ≠ some b := fun hh => by have := (unhide HT).ltag b hh; rw [(unhide HT).btag] at this; simp at this
          have HL : Hid (w.ownsRow 0 101 7 (.slice a r.nl cap) r.nl (enc r.nl fun i => lifeCells (r.life i) (ov i) (rv i))) := (unhide HT).lives
          go_wp2_with (at_builtin; refine wpList_append_lies _ rfl _ _ _ rfl 0 101 i0 _ 7 88 Tryz.underlying73 hi0 hz0 hz1 hz2 rfl (by omega) (.slice a r.nl cap) r.nl _ rfl ((unhide HL).alloc _) ⟨w.heap.size, 0, none⟩ 1 1 [.int .i64 m, .int .i64 quota, .int .i64 0, .int .i64 0, .slice none 0 0, .slice none 0 0, .bool false] rfl rfl (World.news_of_block (cs := #[.int .i64 m, .int .i64 quota, .int .i64 0, .int .i64 0, .slice none 0 0, .slice none 0 0, .bool false]) (t := 101) (fr := (0, 0)) (heap_alloc_new w _)) (by simp [Value.oneCell']) (by omega) (by unfold maxLen; omega) (by omega) (by omega) (w.heap.size + 1) (by simp) ?_; intro g1 cap1 w1 hown1 hgrow hat hlt1; have d1 : w1.cell? ⟨b, 1, none⟩ = some (.slice a r.nl cap) := (hgrow.cell_far ⟨b, 1, none⟩ (by simp; omega) (Ne.symm hnb)).trans (by rw [World.cell?_alloc_lt _ _ _ b0]; exact c1); have d2 : w1.frozen? ⟨b, 1, none⟩ = false := (hgrow.frozen_far ⟨b, 1, none⟩ (by simp; omega) (Ne.symm hnb)).trans (by rw [World.frozen?_alloc_old _ _ _ (Nat.ne_of_lt b0)]; exact fz 1))
          obtain ⟨O1, hO1, hOg⟩ := tag_new (O := O) (t := (e, 1, 0)) hat (fun g hg => (unhide HT).ltag g hg) (Nat.le_refl (w.heap.size + 1))
          have k0 : RefAt (w.alloc (.cells #[.int .i64 m, .int .i64 quota, .int .i64 0, .int .i64 0, .slice none 0 0, .slice none 0 0, .bool false] 101)) O e b r (.slice a r.nl cap) (.slice a' r.nt cap') ov rv ln := (unhide HT).still ((Kept.refl _ _).alloc _)
          have k1 := k0.pushLife (O' := O1) (L := ⟨m, quota, 0, 0, [], [], false⟩) rfl rfl hgrow hown1 (fun k hk => hO1 k (by simpa using hk)) (fun g hg => by
            have : g1 = g := by simpa [Value.ownBlock] using hg
            rw [← this]; exact hOg)
          have kk : Hid (Kept (mineR O e) w (w1.setCell ⟨b, 1, none⟩ (.slice (some ⟨g1, 0, none⟩) (r.nl + 1) cap1))) := by
            refine Kept.setCell (Kept.grown ((Kept.refl _ _).alloc _) hgrow (fun k hk => ?_)) (.inl ?_) _
            · left
              unfold mineR; rw [(unhide HT).ltag k hk]; simp
            · unfold mineR; rw [(unhide HT).btag]; simp
          have ks : Hid (w.heap.size ≤ (w1.setCell ⟨b, 1, none⟩ (.slice (some ⟨g1, 0, none⟩) (r.nl + 1) cap1)).heap.size) := (unhide kk).size
          have hOO : Hid (∀ k, k < w.heap.size → O1 k = O k) := fun k hk => hO1 k (by omega)
          clear d1 d2 hgrow hown1 hat hlt1 k0 hO1 hOg hnb HL
          generalize w1.setCell ⟨b, 1, none⟩ (.slice (some ⟨g1, 0, none⟩) (r.nl + 1) cap1) = W at *
          obtain ⟨_, p1, p2, pz⟩ := k1.cells
          have pz2 := pz 2
          have pb := k1.lt
          have hnb : (Value.slice a' r.nt cap').ownBlock ≠ some b := fun hh => by have := k1.ttag b hh; rw [k1.btag] at this; simp at this
          have HK := hide k1
          have HL : Hid (W.ownsRow 0 104 4 (.slice a' r.nt cap') r.nt (enc r.nt fun k => tokCells (r.tok k) (ln k))) := k1.toks
          have hfz : ∀ o, (W.alloc o).frozen? ⟨b, 2, none⟩ = false := fun o => by rw [World.frozen?_alloc_old _ _ _ (Nat.ne_of_lt pb)]; exact pz 2
          have hwr : IntKind.i64.wrap (r.nl : Int) = (r.nl : Int) := wrap_small (by omega) (by omega)
          clear k1 c0 c1 c2 fz pz
          go_region_law ((refine step_append_lies _ (by rfl) _ _ _ (by rfl) 0 104 j0 _ 4 48 Tryz.underlying74 hj0 hy0 hy1 hy2 rfl (by omega) (.slice a' r.nt cap') r.nt _ (by rfl) (((unhide HL).alloc _).drew) ⟨W.heap.size, 0, none⟩ 1 1 [.int .i64 (r.nl : Int), .int .i64 15, .slice none 0 0, .bool false] (by rfl) (by rfl) (World.news_of_block (cs := #[.int .i64 (r.nl : Int), .int .i64 15, .slice none 0 0, .bool false]) (t := 104) (fr := (0, 0)) (heap_alloc_new W _)) (by simp [Value.oneCell']) (by omega) (by unfold maxLen; omega) (by omega) (by omega) (W.heap.size + 1) (by simp) ?_; intro g2 cap2 w2 hown2 hgrow hat hlt2; have d1 : w2.cell? ⟨b, 2, none⟩ = some (.slice a' r.nt cap') := (hgrow.cell_far ⟨b, 2, none⟩ (by simp; omega) (Ne.symm hnb)).trans (by rw [World.cell?_drew, World.cell?_alloc_lt _ _ _ pb]; exact p2); have d2 : w2.frozen? ⟨b, 2, none⟩ = false := (hgrow.frozen_far ⟨b, 2, none⟩ (by simp; omega) (Ne.symm hnb)).trans (by rw [World.frozen?_drew]; exact hfz _)))
          all_goals
            go_wp2
            obtain ⟨O2, hO2, hOg2⟩ := tag_new (O := O1) (t := (e, 2, 0)) hat (fun g hg => (unhide HK).ttag g hg) (Nat.le_refl (W.heap.size + 1))
            have k0 : RefAt (W.alloc (.cells #[.int .i64 (r.nl : Int), .int .i64 15, .slice none 0 0, .bool false] 104)).drew O1 e b _ _ _ _ _ _ := (unhide HK).still ((Kept.refl _ _).alloc _).drew
            have k2 := k0.pushTok (O' := O2) (T := ⟨r.nl, 15, [], false⟩) (nv := .slice none 0 0) hgrow hown2 (World.ownsRow_nil _ _ _ _) (fun k hk => hO2 k (by simpa using hk)) (fun g hg => by
              have : g2 = g := by simpa [Value.ownBlock] using hg
              rw [← this]; exact hOg2) (fun g hg => by simp [Value.ownBlock] at hg)
            have kf : Hid (Kept (mineR O e) w (w2.setCell ⟨b, 2, none⟩ (.slice (some ⟨g2, 0, none⟩) (r.nt + 1) cap2))) := by
              refine Kept.trans' (unhide kk) (Q := mineR O1 e) ?_ (fun i hi hq => by unfold mineR at *; rwa [unhide hOO i hi] at hq)
              refine Kept.setCell (Kept.grown ((Kept.refl _ _).alloc _).drew hgrow (fun k hk => ?_)) (.inl ?_) _
              · left
                unfold mineR; rw [(unhide HK).ttag k hk]; simp
              · unfold mineR; rw [(unhide HK).btag]; simp
            have hOf : Hid (∀ k, k < w.heap.size → O2 k = O k) := fun k hk => (hO2 k (by have := unhide ks; omega)).trans (unhide hOO k hk)
            have hc2 := (k2.cells).2.2.1
            have K2 := hide k2
            clear d1 d2 hgrow hown2 hat hlt2 k0 hO2 hOg2 hnb HL hfz p1 p2 pz2 k2
            generalize w2.setCell ⟨b, 2, none⟩ (.slice (some ⟨g2, 0, none⟩) (r.nt + 1) cap2) = W2 at *
            go_quiet (fail)
            go_wp2
            go_ret3
            refine ⟨m, hm, unhide HFR, unhide HA, by simp, O2, unhide hOf, ?_, (unhide kf).drewN _⟩
            exact ⟨_, _, _, _, _, (unhide K2).still ((Kept.refl _ _).drewN _)⟩
end
section
theorem infoInt : (Tryz.prog.info? 3).map (fun i => (i.zero, i.size, i.bytes)) = some (some (.int .i64 0), 1, 8) := by kernel_rfl
def deriveRPost (w : World) (O : Nat → Nat × Nat × Nat) (e b : Nat) (r : RefS) (n rights : Int) (en : Ending) (w' : World) : Prop :=
  (deriveR r n rights ≠ 0 ∧ en = .returned (.tuple #[.int .i64 0, .int .i64 (deriveR r n rights)]) ∧ RefRep w' O e b r ∧ Kept (mineR O e) w w') ∨
  (deriveR r n rights = 0 ∧ en = .returned (.tuple #[.int .i64 (r.nt + 1 : Int), .int .i64 0]) ∧
    ∃ O' : Nat → Nat × Nat × Nat, (∀ k, k < w.heap.size → O' k = O k) ∧ RefRep w' O' e b (deriveS r (n - 1).toNat rights) ∧ Kept (mineR O e) w w')
attribute [local go_sem ↓] Go.wp_at_zero Go.wp_at_succ
set_option maxRecDepth 100000 in
set_option maxHeartbeats 4000000 in
theorem refDerive_any {w : World} {O : Nat → Nat × Nat × Nat} {e b : Nat} {r : RefS} (h : RefRep w O e b r) (hf : RefWf r) (n rights : Int) :
    Calls Tryz.prog 26 #[.pointer (some ⟨b, 0, none⟩), .int .i64 n, .int .i64 rights] w fun en w' => deriveRPost w O e b r n rights en w' := by
  cases ha : aliveI r n with
  | false =>
    have e1 : deriveR r n rights = 3 := by unfold deriveR; rw [ha]; rfl
    have HA := hide ha
    have H1 := hide e1
    clear ha e1
    go_enter Tryz.func26, Tryz.ntmps26
    go_wp2_with (go_at_call 55; refine (alive_any h hf _).mono ?_; rintro e w' ⟨rfl, hw⟩; rw [unhide HA])
    go_ret2
    exact Or.inl ⟨by rw [unhide H1]; omega, by rw [unhide H1]; rfl, h.still hw, Still.kept hw _⟩
  | true =>
    obtain ⟨hn1, hn2, _⟩ := aliveI_bounds ha
    obtain ⟨k, rfl⟩ : ∃ k : Nat, n = (k : Int) + 1 := ⟨(n - 1).toNat, by omega⟩
    have hk : k < r.nt := by omega
    have e0 : ((k : Int) + 1 - 1).toNat = k := by omega
    have HA := hide ha
    by_cases hr : rights < 0 ∨ 15 < rights
    · have e1 : deriveR r ((k : Int) + 1) rights = 2 := by unfold deriveR; rw [ha, if_pos rfl, if_pos hr]
      have HR := hide hr
      have H1 := hide e1
      clear ha e1 hr e0
      go_enter Tryz.func26, Tryz.ntmps26
      go_wp2_with (first | (go_at_call 55; refine (alive_any h hf _).mono ?_; rintro e w' ⟨rfl, hw⟩; rw [unhide HA]) | (go_at_call 20; refine (between_no _ _ _ _ (unhide HR)).mono ?_; rintro e w' ⟨rfl, hww⟩; replace hww := hww.symm; subst hww))
      go_ret2
      exact Or.inl ⟨by rw [unhide H1]; omega, by rw [unhide H1]; rfl, h.still hw, Still.kept hw _⟩
    · have e1 : deriveR r ((k : Int) + 1) rights = if lacks (r.tok k).rights rights then 4 else if 100 ≤ r.nt then 7 else 0 := by unfold deriveR; rw [ha, if_pos rfl, if_neg hr, e0]
      have E0 := hide e0
      have H1 := hide e1
      have hr1 : 0 ≤ rights := by omega
      have hr2 : rights ≤ 15 := by omega
      have e2 : mayI r ((k : Int) + 1) 8 = errI (!hasB (r.tok k).rights 8) := by
        unfold mayI
        rw [ha, if_pos rfl, e0]
        cases hasB (r.tok k).rights 8 <;> rfl
      have HM := hide e2
      clear ha e1 hr e0 e2
      have hn := hf.nt
      have hl := hf.nl
      have hlen := hf.lineLen k hk
      have hri := hf.rights k hk
      obtain ⟨lv, tv, ov, rv, ln, ht⟩ := h
      obtain ⟨a, cap, rfl, h1, h2, h3⟩ := ht.toksAt
      obtain ⟨g, rfl⟩ := h3 k hk
      have hll := ht.lines k hk
      obtain ⟨al, capl, el, hl1, hl2⟩ := ownsRow_slice hll
      unfold maxLen at h2 hl2
      have HT := hide ht
      have HE := hide el
      have b0 := ht.lt
      clear ht h3 el hll
      obtain ⟨i0, hi0, hz0, hz1, hz2⟩ := info_parts infoInt
      obtain ⟨j0, hj0, hy0, hy1, hy2⟩ := info_parts infoTok
      go_enter Tryz.func26, Tryz.ntmps26
      go_wp2_with fail
      refine (alive_any ⟨_, _, _, _, _, unhide HT⟩ hf _).mono ?_
      rintro en w1 ⟨rfl, hw⟩
      rw [unhide HA]
      have ht1 := (unhide HT).still hw
      obtain ⟨_, _, c2, _⟩ := ht1.cells
      have t0 : w1.cell? ⟨g, k * 4, none⟩ = some (.int .i64 ((r.tok k).life : Int)) := ht1.tokCell hk 0 (by omega)
      have t1 : w1.cell? ⟨g, k * 4 + 1, none⟩ = some (.int .i64 (r.tok k).rights) := ht1.tokCell hk 1 (by omega)
      have t2 : w1.cell? ⟨g, k * 4 + 2, none⟩ = some (ln k) := ht1.tokCell hk 2 (by omega)
      have t3 : w1.cell? ⟨g, k * 4 + 3, none⟩ = some (.bool (r.tok k).revoked) := ht1.tokCell hk 3 (by omega)
      rw [unhide HE] at t2
      have HW := hide hw
      have hsz1 := hw.size
      clear ht1 hw
      go_wp2_with (go_at_call 20; refine (between_yes _ _ _ _ (by omega) (by omega)).mono ?_; rintro e w' ⟨rfl, hww⟩; replace hww := hww.symm; subst hww)
      refine (may_any ⟨_, _, _, _, _, (unhide HT).still (Kept.alloc (unhide HW) _)⟩ hf _ _ (by omega) (by omega)).mono ?_
      rintro en w2 ⟨rfl, hw2⟩
      rw [unhide HM]
      have q0 : w2.cell? ⟨w1.heap.size, 0, none⟩ = some (.int .i64 ((r.tok k).life : Int)) := (hw2.cell _ _ (by simp)).trans (by rw [World.cell?_alloc_new]; rfl)
      have q1 : w2.cell? ⟨w1.heap.size, 1, none⟩ = some (.int .i64 (r.tok k).rights) := (hw2.cell _ _ (by simp)).trans (by rw [World.cell?_alloc_new]; rfl)
      have q2 : w2.cell? ⟨w1.heap.size, 2, none⟩ = some (.slice al (r.tok k).line.length capl) := (hw2.cell _ _ (by simp)).trans (by rw [World.cell?_alloc_new]; rfl)
      have hsz2 : w1.heap.size < w2.heap.size := by have := hw2.size; simp at this; omega
      have HS : Hid (Still w w2) := Kept.trans (Kept.alloc (unhide HW) _) hw2
      have ht2 := (unhide HT).still (unhide HS)
      clear hw2 t0 t1 t2 t3 c2 HW
      generalize w1.heap.size = bt at *
      obtain ⟨_, _, c2, fz⟩ := ht2.cells
      have HT2 := hide ht2
      clear ht2
      go_wp2
      go_loop [11, 12] (fun x p => ∃ j : Nat, j ≤ 4 ∧ p = .int .i64 (pw j) ∧ x = .int .i64 (errI (!hasB (r.tok k).rights 8 || wants rights (r.tok k).rights j))) (fun _ p => (16 - intOf p).toNat)
      case atStart => exact ⟨0, by omega, rfl, by simp [wants]⟩
      case round =>
        obtain ⟨j, hj, rfl, rfl⟩ := hrel
        by_cases hj4 : j < 4
        · obtain ⟨hp1, hp2⟩ := pw_small hj4
          have E1 : Hid (wants rights (r.tok k).rights (j + 1) = (wants rights (r.tok k).rights j || (hasB rights (pw j) && !hasB (r.tok k).rights (pw j)))) := rfl
          have E2 := hide (pw_succ j)
          generalize pw j = p at *
          cases hb1 : hasB rights p
          all_goals cases hb2 : hasB (r.tok k).rights p
          all_goals
            have HB1 := hide hb1
            have HB2 := hide hb2
            clear hb1 hb2
            go_wp2_with fail
            refine (has_any _ _ _ (by omega) (by omega) (by omega) (by omega)).mono ?_
            rintro en w3 ⟨rfl, hww⟩
            replace hww := hww.symm
            subst hww
            rw [unhide HB1]
            go_wp2_with fail
            refine (has_any _ _ _ (by omega) (by omega) (by omega) (by omega)).mono ?_
            rintro en w3 ⟨rfl, hww⟩
            replace hww := hww.symm
            subst hww
            rw [unhide HB2]
            go_wp2
            go_round
            case rel => exact ⟨j + 1, by omega, by rw [unhide E2], by rw [unhide E1, unhide HB1, unhide HB2]; simp [errI]⟩
            case measure => simp [intOf]; omega
        · obtain rfl : j = 4 := by omega
          rw [pw_four]
          have E1 : Hid ((!hasB (r.tok k).rights 8 || wants rights (r.tok k).rights 4) = lacks (r.tok k).rights rights) := rfl
          rw [unhide E1]
          clear E1
          cases hlk : lacks (r.tok k).rights rights with
          | true =>
            have e1 : deriveR r ((k : Int) + 1) rights = 4 := by rw [unhide H1, hlk]; rfl
            have H2 := hide e1
            have e3 : errI true = 4 := rfl
            rw [e3]
            clear hlk e1 e3
            go_wp2
            go_ret2
            exact Or.inl ⟨by rw [unhide H2]; omega, by rw [unhide H2]; rfl, ⟨_, _, _, _, _, unhide HT2⟩, Still.kept (unhide HS) _⟩
          | false =>
            have e3 : errI false = 0 := rfl
            rw [e3]
            clear e3
            by_cases h100 : 100 ≤ r.nt
            · have e1 : deriveR r ((k : Int) + 1) rights = 7 := by rw [unhide H1, hlk, if_neg (by simp), if_pos h100]
              have H2 := hide e1
              clear hlk e1
              go_wp2
              go_ret2
              exact Or.inl ⟨by rw [unhide H2]; omega, by rw [unhide H2]; rfl, ⟨_, _, _, _, _, unhide HT2⟩, Still.kept (unhide HS) _⟩
            · have e1 : deriveR r ((k : Int) + 1) rights = 0 := by rw [unhide H1, hlk, if_neg (by simp), if_neg h100]
              have H2 := hide e1
              clear hlk e1
              have HLL : Hid (w2.ownsRow 0 3 1 (.slice al (r.tok k).line.length capl) (r.tok k).line.length (lineCells (r.tok k).line)) := by
                have := (unhide HT2).lines k hk
                rwa [unhide HE] at this
              go_wp2_with (first | (at_builtin; refine wpList_append_owned rfl _ _ _ rfl 0 3 i0 _ 1 8 Tryz.underlying24 hi0 hz0 hz1 hz2 rfl (by omega) (.slice none 0 0) 0 [] rfl (World.ownsRow_nil _ _ _ _) (.slice al (r.tok k).line.length capl) (r.tok k).line.length _ rfl (unhide HLL) (fun c hc => by simp [lineCells] at hc; obtain ⟨x, _, rfl⟩ := hc; rfl) (by unfold maxLen; omega) (by omega) (by omega) _ rfl ?_; intro v1 w3 hown3 hgrow3 hat3; rw [Nat.zero_add, List.nil_append] at hown3; obtain ⟨a1, cap1, ev1, hv1, hv2⟩ := ownsRow_slice hown3; subst ev1) | (at_builtin; refine wpList_append_lies _ rfl _ _ _ rfl 0 3 i0 _ 1 8 Tryz.underlying24 hi0 hz0 hz1 hz2 rfl (by omega) (.slice a1 (r.tok k).line.length cap1) (r.tok k).line.length _ rfl (hown3.alloc _) ⟨w3.heap.size, 0, none⟩ 1 1 [.int .i64 ((k : Int) + 1)] rfl rfl (World.news_of_block (cs := #[.int .i64 ((k : Int) + 1)]) (t := 3) (fr := (0, 0)) (heap_alloc_new w3 _)) (by simp [Value.oneCell']) (by omega) (by unfold maxLen; omega) (by omega) (by omega) (w3.heap.size + 1) (by simp) ?_; intro g4 cap4 w4 hown4 hgrow4 hat4 hlt4))
              have hst4 : Still w2 w4 := by
                refine Kept.grown (Kept.alloc (Kept.grown (Kept.refl _ _) hgrow3 (fun k hk => by simp [Value.ownBlock] at hk)) _) hgrow4 (fun k hk => .inr ?_)
                rcases hat3 with hh | hh
                · rw [hk] at hh; simp [Value.ownBlock] at hh
                · rw [hk] at hh; simp at hh; omega
              have hg4 : w2.heap.size ≤ g4 := by
                have := hgrow3.size
                rcases hat4 with hh | hh
                · rw [hh] at hat3
                  rcases hat3 with hh | hh
                  · simp [Value.ownBlock] at hh
                  · simp at hh; omega
                · omega
              have hOO : Hid (∀ x, x < w2.heap.size → upd O g4 (e, 5, r.nt) x = O x) := fun x hx => upd_other _ _ (by omega)
              have ht4 : RefAt w4 (upd O g4 (e, 5, r.nt)) e b r lv (.slice (some ⟨g, 0, none⟩) r.nt cap) ov rv ln := (unhide HT2).frame (fun x hx _ _ => hst4.heap hx) (unhide hOO)
              have HG4 : Hid (upd O g4 (e, 5, r.nt) g4 = (e, 5, r.nt)) := upd_same _ _ _
              have HO4 : Hid (w4.ownsRow 0 3 1 (.slice (some ⟨g4, 0, none⟩) ((r.tok k).line.length + 1) cap4) ((r.tok k).line.length + 1) (lineCells (r.tok k).line ++ [.int .i64 ((k : Int) + 1)])) := hown4
              have hs4 := hst4.size
              have hsw := (unhide HS).size
              have q0' : w4.cell? ⟨bt, 0, none⟩ = some (.int .i64 ((r.tok k).life : Int)) := (hst4.cell _ _ (by omega)).trans q0
              have HS4 : Hid (Still w w4) := Kept.trans (unhide HS) hst4
              clear hst4 hgrow4 hgrow3 hown4 hown3 hat3 hat4 hv1 hv2 q0 q1 q2 c2 fz HT2 HLL
              generalize hOn : upd O g4 (e, 5, r.nt) = O1 at *
              clear hOn
              obtain ⟨_, _, p2, pz⟩ := ht4.cells
              have pz2 := pz 2
              have pb := ht4.lt
              have hgt := ht4.ttag g rfl
              have hgb : g ≠ b := tag_ne hgt ht4.btag (by simp)
              have hgl : g < w4.heap.size := ownsRow_lt ht4.toks rfl
              have hgw : g < w.heap.size := ownsRow_lt (unhide HT).toks rfl
              have hnb : (Value.slice (some ⟨g, 0, none⟩) r.nt cap).ownBlock ≠ some b := by simp [Value.ownBlock]; exact hgb
              have hnt : (Value.slice (some ⟨g, 0, none⟩) r.nt cap).ownBlock ≠ some bt := by simp [Value.ownBlock]; omega
              have HK := hide ht4
              have HL : Hid (w4.ownsRow 0 104 4 (.slice (some ⟨g, 0, none⟩) r.nt cap) r.nt (enc r.nt fun k => tokCells (r.tok k) (ln k))) := ht4.toks
              have hfz : ∀ o, (w4.alloc o).frozen? ⟨b, 2, none⟩ = false := fun o => by rw [World.frozen?_alloc_old _ _ _ (Nat.ne_of_lt pb)]; exact pz 2
              have hbt4 : bt < w4.heap.size := by omega
              clear ht4 pz
              go_region_law ((refine step_append_lies _ (by rfl) _ _ _ (by rfl) 0 104 j0 _ 4 48 Tryz.underlying74 hj0 hy0 hy1 hy2 rfl (by omega) (.slice (some ⟨g, 0, none⟩) r.nt cap) r.nt _ (by rfl) (((unhide HL).alloc _).drew) ⟨w4.heap.size, 0, none⟩ 1 1 [.int .i64 ((r.tok k).life : Int), .int .i64 rights, .slice (some ⟨g4, 0, none⟩) ((r.tok k).line.length + 1) cap4, .bool false] (by rfl) (by rfl) (World.news_of_block (cs := #[.int .i64 ((r.tok k).life : Int), .int .i64 rights, .slice (some ⟨g4, 0, none⟩) ((r.tok k).line.length + 1) cap4, .bool false]) (t := 104) (fr := (0, 0)) (heap_alloc_new w4 _)) (by simp [Value.oneCell']) (by omega) (by unfold maxLen; omega) (by omega) (by omega) (w4.heap.size + 1) (by simp) ?_; intro g5 cap5 w5 hown5 hgrow hat hlt5; have d1 : w5.cell? ⟨b, 2, none⟩ = some (.slice (some ⟨g, 0, none⟩) r.nt cap) := (hgrow.cell_far ⟨b, 2, none⟩ (by simp; omega) (Ne.symm hnb)).trans (by rw [World.cell?_drew, World.cell?_alloc_lt _ _ _ pb]; exact p2); have d2 : w5.frozen? ⟨b, 2, none⟩ = false := (hgrow.frozen_far ⟨b, 2, none⟩ (by simp; omega) (Ne.symm hnb)).trans (by rw [World.frozen?_drew]; exact hfz _)))
              all_goals
                obtain ⟨O2, hO2, hOg2⟩ := tag_new (O := O1) (t := (e, 2, 0)) hat (fun x hx => (unhide HK).ttag x hx) (Nat.le_refl (w4.heap.size + 1))
                have k0 : RefAt (w4.alloc (.cells #[.int .i64 ((r.tok k).life : Int), .int .i64 rights, .slice (some ⟨g4, 0, none⟩) ((r.tok k).line.length + 1) cap4, .bool false] 104)).drew O1 e b _ _ _ _ _ _ := (unhide HK).still ((Kept.refl _ _).alloc _).drew
                have hg4l : g4 < w4.heap.size := ownsRow_lt (unhide HO4) rfl
                have hn5 : w5.ownsRow 0 3 1 (.slice (some ⟨g4, 0, none⟩) ((r.tok k).line.length + 1) cap4) ((r.tok k).line ++ [k + 1]).length (lineCells ((r.tok k).line ++ [k + 1])) := by
                  have e1 : ((r.tok k).line ++ [k + 1]).length = (r.tok k).line.length + 1 := by simp
                  have e2 : lineCells ((r.tok k).line ++ [k + 1]) = lineCells (r.tok k).line ++ [.int .i64 ((k : Int) + 1)] := by simp [lineCells]
                  rw [e1, e2]
                  refine ownsRow_of_block (unhide HO4) (fun x hx => ?_)
                  have hx' : g4 = x := by simpa [Value.ownBlock] using hx
                  subst hx'
                  rw [hgrow.block g4 (by simp; omega) (by simp [Value.ownBlock]; omega)]
                  show (w4.alloc _).heap[g4]? = _
                  exact Below.heap_alloc _ _ _ hg4l
                have k2 := k0.pushTok (O' := O2) (T := ⟨(r.tok k).life, rights, (r.tok k).line ++ [k + 1], false⟩) (nv := .slice (some ⟨g4, 0, none⟩) ((r.tok k).line.length + 1) cap4) hgrow hown5 hn5 (fun x hx => hO2 x (by simpa using hx)) (fun x hx => by
                  have : g5 = x := by simpa [Value.ownBlock] using hx
                  rw [← this]; exact hOg2) (fun x hx => by
                  have : g4 = x := by simpa [Value.ownBlock] using hx
                  rw [← this, hO2 g4 (by omega)]; exact unhide HG4)
                have kf : Hid (Kept (mineR O e) w (w5.setCell ⟨b, 2, none⟩ (.slice (some ⟨g5, 0, none⟩) (r.nt + 1) cap5))) := by
                  refine Kept.trans' (Still.kept (unhide HS4) _) (Q := mineR O1 e) ?_ (fun i hi hq => by unfold mineR at *; rwa [unhide hOO i (by omega)] at hq)
                  refine Kept.setCell (Kept.grown ((Kept.refl _ _).alloc _).drew hgrow (fun x hx => ?_)) (.inl ?_) _
                  · left
                    unfold mineR; rw [(unhide HK).ttag x hx]; simp
                  · unfold mineR; rw [(unhide HK).btag]; simp
                have hOf : Hid (∀ x, x < w.heap.size → O2 x = O x) := fun x hx => (hO2 x (by omega)).trans (unhide hOO x (by omega))
                have hc2 := (k2.cells).2.2.1
                have K2 := hide k2
                clear d1 d2 hgrow hown5 hat hlt5 k0 hO2 hOg2 hnb HL hfz p2 pz2 k2 hn5
                go_wp2
                go_ret2
                refine Or.inr ⟨unhide H2, by simp, O2, unhide hOf, ?_, unhide kf⟩
                rw [unhide E0]
                exact ⟨_, _, _, _, _, unhide K2⟩
end
end Go.Proofs.YtgndledehlilkaaGreat
