/-
  Walks: districtref: Drop, Revoke.
-/
import Derived.Test.YtgndledehlilkaaGreatPure
import Derived.Test.YtgndledehlilkaaGreatRefW2
import Derived.Test.YtgndledehlilkaaGreatRefOps
namespace Go.Proofs.YtgndledehlilkaaGreat
open Go.RowKit
set_option maxHeartbeats 1000000 in
theorem refDrop_any {w : World} {O : Nat → Nat × Nat × Nat} {e b : Nat} {r : RefS} (h : RefRep w O e b r) (hf : RefWf r) (no : Int) :
    Calls Tryz.prog 24 #[.pointer (some ⟨b, 0, none⟩), .int .i64 no] w fun en w' =>
      (∃ i, i < r.nl ∧ (r.life i).gone = false ∧ (r.life i).no = no ∧ en = .returned (.int .i64 0) ∧ RefRep w' O e b (dropS r i) ∧ Kept (mineR O e) w w') ∨
      ((∀ i, i < r.nl → (r.life i).gone = true ∨ (r.life i).no ≠ no) ∧ en = .returned (.int .i64 5) ∧ RefRep w' O e b r ∧ Kept (mineR O e) w w') := by
  go_enter Tryz.func24, Tryz.ntmps24
  go_wp2_with fail
  refine (living_any h hf _).mono ?_
  rintro en w1 ⟨q, rfl, hq, hw⟩
  replace hw := hw.symm
  subst hw
  rcases hq with ⟨i, rfl, hi, hg, hno⟩ | ⟨rfl, hall⟩
  · have HF : Hid ((r.life i).gone = false ∧ (r.life i).no = no) := ⟨hg, hno⟩
    clear hg hno
    obtain ⟨lv, tv, ov, rv, ln, h⟩ := h
    obtain ⟨_, c1, _, _⟩ := h.cells
    obtain ⟨a, cap, rfl, h1, h2, h3⟩ := h.livesAt
    obtain ⟨g, rfl⟩ := h3 i hi
    have t6 : w.cell? ⟨g, i * 7 + 6, none⟩ = some (.bool (r.life i).gone) := h.lifeCell hi 6 (by omega)
    have t4 : w.cell? ⟨g, i * 7 + 4, none⟩ = some (ov i) := h.lifeCell hi 4 (by omega)
    have f6 : w.frozen? ⟨g, i * 7 + 6, none⟩ = false := h.lives.frozenAt _
    have f4 : w.frozen? ⟨g, i * 7 + 4, none⟩ = false := h.lives.frozenAt _
    have hgb : g ≠ b := tag_ne (h.ltag g rfl) h.btag (by simp)
    have hbg : b ≠ g := Ne.symm hgb
    have hn := hf.nt
    have hl := hf.nl
    unfold maxLen at h2
    have HA := hide h
    clear h h3
    go_wp2
    go_ret
    refine Or.inl ⟨i, hi, (unhide HF).1, (unhide HF).2, rfl, ?_, ?_⟩
    · have k1 := (unhide HA).setLife (j := 6) (u := .bool true) hi (by omega) { r.life i with gone := true } rfl rfl rfl
      have k2 := k1.setOwn (i := i) (u := .slice none 0 0) hi [] (World.ownsRow_nil _ _ _ _) (fun k hk => by simp [Value.ownBlock] at hk)
      simp only [upd_upd, upd_same] at k2
      exact ⟨_, _, _, _, _, k2⟩
    · have hm : mineR O e g := by unfold mineR; rw [(unhide HA).ltag g rfl]; simp
      exact ((Kept.refl _ _).setCell (.inl hm) _).setCell (.inl hm) _
  · have HA := hide hall
    clear hall
    go_wp2
    go_ret
    exact Or.inr ⟨unhide HA, rfl, h, Kept.refl _ _⟩
set_option maxHeartbeats 1000000 in
theorem refRevoke_any {w : World} {O : Nat → Nat × Nat × Nat} {e b : Nat} {r : RefS} (h : RefRep w O e b r) (hf : RefWf r) (n which : Int) :
    Calls Tryz.prog 28 #[.pointer (some ⟨b, 0, none⟩), .int .i64 n, .int .i64 which] w fun en w' =>
      en = .returned (.int .i64 (revokeR r n which)) ∧ RefRep w' O e b (revokedR r n which) ∧ Kept (mineR O e) w w' := by
  by_cases hm : mayI r n 8 = 0
  · by_cases hb : 1 ≤ which ∧ which ≤ r.nt
    · obtain ⟨k, rfl⟩ : ∃ k : Nat, which = (k : Int) + 1 := ⟨(which - 1).toNat, by omega⟩
      have hk : k < r.nt := by omega
      have e0 : ((k : Int) + 1 - 1).toNat = k := by omega
      have e1 : revokeR r n ((k : Int) + 1) = revErr (lineHas (r.tok k).line n) := by
        unfold revokeR
        rw [if_pos hm, if_pos hb, e0]
      have e2 : revokedR r n ((k : Int) + 1) = revState (lineHas (r.tok k).line n) r k := by
        unfold revokedR
        rw [e1, e0]
        cases lineHas (r.tok k).line n <;> rfl
      rw [e1, e2]
      have HM := hide hm
      have hn := hf.nt
      have hlen := hf.lineLen k hk
      clear hm e1 e0 e2
      obtain ⟨lv, tv, ov, rv, ln, ht⟩ := h
      obtain ⟨a, cap, rfl, h1, h2, h3⟩ := ht.toksAt
      obtain ⟨g, rfl⟩ := h3 k hk
      have hll := ht.lines k hk
      obtain ⟨al, capl, el, hl1, hl2⟩ := ownsRow_slice hll
      rw [el] at hll
      have hgb : g ≠ b := tag_ne (ht.ttag g rfl) ht.btag (by simp)
      have hbg : b ≠ g := Ne.symm hgb
      unfold maxLen at h2 hl2
      have HT := hide ht
      have HE := hide el
      clear ht h3 el hll
      go_enter Tryz.func28, Tryz.ntmps28
      go_wp2_with fail
      refine (may_any ⟨_, _, _, _, _, unhide HT⟩ hf _ _ (by omega) (by omega)).mono ?_
      rintro en w1 ⟨rfl, hw⟩
      rw [unhide HM]
      have ht1 := (unhide HT).still hw
      obtain ⟨_, _, c2, _⟩ := ht1.cells
      have t2 : w1.cell? ⟨g, k * 4 + 2, none⟩ = some (ln k) := ht1.tokCell hk 2 (by omega)
      have t3 : w1.cell? ⟨g, k * 4 + 3, none⟩ = some (.bool (r.tok k).revoked) := ht1.tokCell hk 3 (by omega)
      have f3 : w1.frozen? ⟨g, k * 4 + 3, none⟩ = false := ht1.toks.frozenAt _
      have hll := ht1.lines k hk
      rw [unhide HE] at t2 hll
      have HL := hide hll
      have HT1 := hide ht1
      have HW := hide hw
      clear ht1 hll hw HT HE
      go_wp2_with (go_at_call 20; refine (between_yes _ _ _ _ (by omega) (by omega)).mono ?_; rintro e w' ⟨rfl, hw⟩; replace hw := hw.symm; subst hw)
      go_loop [10] (fun t => ∃ i : Nat, i ≤ (r.tok k).line.length ∧ t = .int .i64 i ∧ lineHas ((r.tok k).line.take i) n = false) (fun t => (r.tok k).line.length - (intOf t).toNat)
      case atStart => exact ⟨0, Nat.zero_le _, rfl, by simp [lineHas]⟩
      case round =>
        obtain ⟨j, hj, rfl, hany⟩ := hrel
        have HN := hide hany
        clear hany
        by_cases hlt : j < (r.tok k).line.length
        · obtain ⟨gl, el, hgl⟩ := ownsRow_some (unhide HL) (by omega)
          subst el
          have lc := lineCell (unhide HL) hlt
          by_cases hd : (((r.tok k).line.getD j 0 : Nat) : Int) = n
          · have ha := any_of_at _ _ hlt hd
            have hd' : ((((r.tok k).line.getD j 0 : Nat) : Int) == n) = true := by simpa using hd
            have HA := hide ha
            clear ha hd
            generalize (r.tok k).line.getD j 0 = m at *
            go_wp2
            go_ret
            rw [unhide HA]
            refine ⟨rfl, ?_, ?_⟩
            · exact ⟨_, _, _, _, _, (unhide HT1).setTok (j := 3) (u := .bool true) hk (by omega) { r.tok k with revoked := true } rfl rfl⟩
            · refine Kept.trans (Still.kept (unhide HW) _) (Kept.setCell (Kept.refl _ _) (.inl ?_) _)
              unfold mineR
              rw [(unhide HT1).ttag g rfl]; simp
          · have ha := any_take_succ _ _ hlt (unhide HN) hd
            have hd' : ((((r.tok k).line.getD j 0 : Nat) : Int) == n) = false := by simpa using hd
            have HA := hide ha
            clear ha hd
            generalize (r.tok k).line.getD j 0 = m at *
            go_wp2
            go_round
            case rel => exact ⟨j + 1, by omega, by go_num, unhide HA⟩
            case measure => simp [intOf]; omega
        · have ha : lineHas (r.tok k).line n = false := by
            have := unhide HN
            rwa [List.take_of_length_le (by omega)] at this
          have HA := hide ha
          clear ha
          go_wp2
          go_ret
          rw [unhide HA]
          exact ⟨rfl, ⟨_, _, _, _, _, unhide HT1⟩, Still.kept (unhide HW) _⟩
    · have e1 : revokeR r n which = 4 := by
        unfold revokeR
        rw [if_pos hm, if_neg hb]
      have e2 : revokedR r n which = r := by
        unfold revokedR
        rw [e1]; rfl
      rw [e1, e2]
      have HM := hide hm
      have hb' : which < 1 ∨ (r.nt : Int) < which := by omega
      have HB := hide hb'
      clear hm e1 hb hb' e2
      obtain ⟨lv, tv, ov, rv, ln, ht⟩ := h
      obtain ⟨a, cap, rfl, h1, h2, h3⟩ := ht.toksAt
      have HT := hide ht
      clear ht h3
      go_enter Tryz.func28, Tryz.ntmps28
      go_wp2_with fail
      refine (may_any ⟨_, _, _, _, _, unhide HT⟩ hf _ _ (by omega) (by omega)).mono ?_
      rintro en w1 ⟨rfl, hw⟩
      rw [unhide HM]
      have ht1 := (unhide HT).still hw
      obtain ⟨_, _, c2, _⟩ := ht1.cells
      have HT1 := hide ht1
      clear ht1
      go_wp2_with (go_at_call 20; refine (between_no _ _ _ _ (unhide HB)).mono ?_; rintro e w' ⟨rfl, hw⟩; replace hw := hw.symm; subst hw)
      go_ret
      exact ⟨rfl, ⟨_, _, _, _, _, unhide HT1⟩, Still.kept hw _⟩
  · have e1 : revokeR r n which = mayI r n 8 := by
      unfold revokeR
      rw [if_neg hm]
    have e2 : revokedR r n which = r := by
      unfold revokedR
      rw [e1, if_neg hm]
    rw [e1, e2]
    have hc := mayI_cases r n 8
    have hne : (mayI r n 8 != 0) = true := by simpa using hm
    clear e1 hm e2
    go_enter Tryz.func28, Tryz.ntmps28
    go_wp2_with fail
    refine (may_any h hf _ _ (by omega) (by omega)).mono ?_
    rintro en w1 ⟨rfl, hw⟩
    have h1 := h.still hw
    generalize hx : mayI r n 8 = x at *
    have Hx := hide hx
    clear hx
    go_wp2
    go_ret
    exact ⟨ret_int (unhide Hx).symm, h1, Still.kept hw _⟩
end Go.Proofs.YtgndledehlilkaaGreat
