/-
  Walks: districtref: Share.
-/
import Derived.Test.YthmmaccdccjgnaaGreatPure
import Derived.Test.YthmmaccdccjgnaaGreatRefT10
namespace Go.Proofs.YthmmaccdccjgnaaGreat
open Go.RowKit
theorem betweenM (g : Int) (w : World) : Calls Tryz.prog 18 #[.int .i64 g, .int .i64 0, .int .i64 255] w fun e w' => e = .returned (.bool (okMask g)) ∧ w' = w := by
  by_cases h : 0 ≤ g ∧ g ≤ 255
  · have e1 : okMask g = true := by simp [okMask, h]
    rw [e1]
    exact between_yes _ _ _ _ h.1 h.2
  · have e1 : okMask g = false := by simp [okMask]; omega
    rw [e1]
    exact between_no _ _ _ _ (by omega)
set_option maxRecDepth 100000 in
set_option maxHeartbeats 4000000 in
theorem refShare_any {w : World} {O : Nat → Nat × Nat × Nat} {e b : Nat} {r : RefS} (h : RefRep w O e b r) (hf : RefWf r) (n gives takes : Int) :
    Calls Tryz.prog 32 #[.pointer (some ⟨b, 0, none⟩), .int .i64 n, .int .i64 gives, .int .i64 takes] w fun en w' =>
      en = .returned (.int .i64 (shareR r n gives takes)) ∧ RefRep w' O e b (sharedR r n gives takes) ∧ Kept (mineR O e) w w' := by
  by_cases hm : mayI r n 4 = 0
  · have e1 : shareR r n gives takes = if (okMask gives && okMask takes) = true then 0 else 2 := by unfold shareR; rw [if_pos hm]
    obtain ⟨_, hn1, hn2⟩ := mayI_zero hm
    obtain ⟨k, rfl⟩ : ∃ k : Nat, n = (k : Int) + 1 := ⟨(n - 1).toNat, by omega⟩
    have hk : k < r.nt := by omega
    have hlf : lifeOf r ((k : Int) + 1) = (r.tok k).life := by unfold lifeOf; rw [show ((k : Int) + 1 - 1).toNat = k from by omega]
    have hnl := hf.life k hk
    have hn := hf.nt
    have hl := hf.nl
    have HM := hide hm
    obtain ⟨lv, tv, ov, rv, ln, ht⟩ := h
    have bl := ht.lt
    obtain ⟨a, cap, rfl, h1, h2, h3⟩ := ht.toksAt
    obtain ⟨g, rfl⟩ := h3 k hk
    obtain ⟨al, capl, rfl, h1', h2', h3'⟩ := ht.livesAt
    obtain ⟨gl, rfl⟩ := h3' _ hnl
    unfold maxLen at h2 h2'
    have hgb : gl ≠ b := tag_ne (ht.ltag gl rfl) ht.btag (by simp)
    have hbg : b ≠ gl := Ne.symm hgb
    have HT := hide ht
    clear ht h3 h3' hm
    by_cases hok : (okMask gives && okMask takes) = true
    · rw [if_pos hok] at e1
      have e2 : sharedR r ((k : Int) + 1) gives takes = shareS r (r.tok k).life gives takes := by unfold sharedR; rw [if_pos e1, hlf]
      rw [e1, e2]
      rw [Bool.and_eq_true] at hok
      obtain ⟨hg1, hg2⟩ := hok
      have HG1 := hide hg1
      have HG2 := hide hg2
      clear e1 e2 hlf hg1 hg2
      go_enter Tryz.func32, Tryz.ntmps32
      go_wp2_with fail
      refine (may_any ⟨_, _, _, _, _, unhide HT⟩ hf _ _ (by omega) (by omega)).mono ?_
      rintro en w1 ⟨rfl, hw⟩
      rw [unhide HM]
      have ht1 := (unhide HT).still hw
      obtain ⟨_, c1, c2, _⟩ := ht1.cells
      have t0 : w1.cell? ⟨g, k * 4, none⟩ = some (.int .i64 ((r.tok k).life : Int)) := ht1.tokCell hk 0 (by omega)
      have u2 : w1.cell? ⟨gl, (r.tok k).life * 7 + 2, none⟩ = some (.int .i64 (r.life (r.tok k).life).gives) := ht1.lifeCell hnl 2 (by omega)
      have u3 : w1.cell? ⟨gl, (r.tok k).life * 7 + 3, none⟩ = some (.int .i64 (r.life (r.tok k).life).takes) := ht1.lifeCell hnl 3 (by omega)
      have f2 : w1.frozen? ⟨gl, (r.tok k).life * 7 + 2, none⟩ = false := ht1.lives.frozenAt _
      have f3 : w1.frozen? ⟨gl, (r.tok k).life * 7 + 3, none⟩ = false := ht1.lives.frozenAt _
      have HT1 := hide ht1
      have HW := hide hw
      clear ht1 hw
      go_wp2_with fail
      refine (betweenM _ _).mono ?_
      rintro en w2 ⟨rfl, hw⟩
      replace hw := hw.symm
      subst hw
      rw [unhide HG1]
      go_wp2_with fail
      refine (betweenM _ _).mono ?_
      rintro en w2 ⟨rfl, hw⟩
      replace hw := hw.symm
      subst hw
      rw [unhide HG2]
      go_wp2
      go_ret
      refine ⟨rfl, ?_, ?_⟩
      · have k1 := (unhide HT1).setLife (j := 2) (u := .int .i64 gives) hnl (by omega) { r.life (r.tok k).life with gives := gives } rfl rfl rfl
        have k2 := k1.setLife (i := (r.tok k).life) (j := 3) (u := .int .i64 takes) hnl (by omega) { r.life (r.tok k).life with gives := gives, takes := takes } (by simp only [upd_same]) (by simp only [upd_same]) (by simp only [upd_same]; rfl)
        simp only [upd_upd] at k2
        exact ⟨_, _, _, _, _, k2⟩
      · have hm : mineR O e gl := by unfold mineR; rw [(unhide HT1).ltag gl rfl]; simp
        exact Kept.trans (Still.kept (unhide HW) _) (((Kept.refl _ _).setCell (.inl hm) _).setCell (.inl hm) _)
    · rw [if_neg hok] at e1
      have e2 : sharedR r ((k : Int) + 1) gives takes = r := by unfold sharedR; rw [e1]; rfl
      rw [e1, e2]
      have HOK : Hid ((okMask gives && okMask takes) = false) := by show _ = _; simpa using hok
      clear e1 e2 hlf hok
      go_enter Tryz.func32, Tryz.ntmps32
      go_wp2_with fail
      refine (may_any ⟨_, _, _, _, _, unhide HT⟩ hf _ _ (by omega) (by omega)).mono ?_
      rintro en w1 ⟨rfl, hw⟩
      rw [unhide HM]
      have HW := hide hw
      clear hw
      go_wp2_with fail
      refine (betweenM _ _).mono ?_
      rintro en w2 ⟨rfl, hw⟩
      replace hw := hw.symm
      subst hw
      cases hg1 : okMask gives with
      | false =>
        clear hg1
        go_wp2_with fail
        refine (betweenM _ _).mono ?_
        rintro en w2 ⟨rfl, hw⟩
        replace hw := hw.symm
        subst hw
        generalize okMask takes = tk at *
        go_wp2
        go_ret
        exact ⟨rfl, ⟨_, _, _, _, _, (unhide HT).still (unhide HW)⟩, Still.kept (unhide HW) _⟩
      | true =>
        have hg2 : okMask takes = false := by
          have := unhide HOK
          rw [hg1] at this
          simpa using this
        have HG2 := hide hg2
        clear hg1 hg2
        go_wp2_with fail
        refine (betweenM _ _).mono ?_
        rintro en w2 ⟨rfl, hw⟩
        replace hw := hw.symm
        subst hw
        rw [unhide HG2]
        go_wp2
        go_ret
        exact ⟨rfl, ⟨_, _, _, _, _, (unhide HT).still (unhide HW)⟩, Still.kept (unhide HW) _⟩
  · have e1 : shareR r n gives takes = mayI r n 4 := by unfold shareR; rw [if_neg hm]
    have e2 : sharedR r n gives takes = r := by unfold sharedR; rw [e1, if_neg hm]
    rw [e1, e2]
    have hc := mayI_cases r n 4
    have hne : (mayI r n 4 != 0) = true := by simpa using hm
    clear e1 hm e2
    go_enter Tryz.func32, Tryz.ntmps32
    go_wp2_with fail
    refine (may_any h hf _ _ (by omega) (by omega)).mono ?_
    rintro en w1 ⟨rfl, hw⟩
    have h1 := h.still hw
    generalize hx : mayI r n 4 = x at *
    have Hx := hide hx
    clear hx
    go_wp2
    go_ret
    exact ⟨ret_int (unhide Hx).symm, h1, Still.kept hw _⟩
end Go.Proofs.YthmmaccdccjgnaaGreat
