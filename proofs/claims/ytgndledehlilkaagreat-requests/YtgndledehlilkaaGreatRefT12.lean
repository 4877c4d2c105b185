/-
  Walks: districtref: Insert.
-/
import Derived.Test.YtgndledehlilkaaGreatPure
import Derived.Test.YtgndledehlilkaaGreatRefT12a
import Derived.Deep.RegionLaw
import Derived.BigRegion
namespace Go.Proofs.YtgndledehlilkaaGreat
open Go.RowKit
theorem push_fin {w V w5 : World} {O : Nat → Nat × Nat × Nat} {e b gl capl l g5 cap5 oc : Nat} {oa : Option Addr} {r : RefS} {tv : Value} {ov rv ln : Nat → Value} {x : RouteD} {o : Obj} (hs : Still w V) (h : RefAt V O e b r (.slice (some ⟨gl, 0, none⟩) r.nl capl) tv ov rv ln) (hl : l < r.nl) (hov : ov l = .slice oa (r.life l).own.length oc)
    (hgrow : (V.alloc o).drew.grownBy w5 (Value.slice oa (r.life l).own.length oc).ownBlock) (hat : (Value.slice oa (r.life l).own.length oc).ownBlock = some g5 ∨ g5 = V.heap.size + 1)
    (hown : w5.ownsRow 0 50 4 (.slice (some ⟨g5, 0, none⟩) ((r.life l).own.length + 1) cap5) ((r.life l).own.length + 1) ((r.life l).own.flatMap routeCells ++ [.int .i64 x.addr, .int .i64 x.len, .int .i64 x.hop, .int .i64 x.from_])) :
    changed w O e b (ownS r l ((r.life l).own ++ [x])) (w5.setCell ⟨gl, l * 7 + 4, none⟩ (.slice (some ⟨g5, 0, none⟩) ((r.life l).own.length + 1) cap5)) := by
  have htg : ∀ y, (Value.slice oa (r.life l).own.length oc).ownBlock = some y → O y = (e, 3, l) := fun y hy => h.otag l y hl (by rw [hov]; exact hy)
  obtain ⟨O2, hO2, hOg2⟩ := tag_new (O := O) (t := (e, 3, l)) hat htg (Nat.le_refl (V.heap.size + 1))
  have k0 : RefAt (V.alloc o).drew O e b r (.slice (some ⟨gl, 0, none⟩) r.nl capl) tv ov rv ln := h.still ((Kept.refl _ _).alloc _).drew
  have k2 := k0.pushOwn (O' := O2) (l := (r.life l).own ++ [x]) (u := .slice (some ⟨g5, 0, none⟩) ((r.life l).own.length + 1) cap5) hl hgrow htg (by rw [List.length_append, flat_snoc]; exact hown) (fun y hy => hO2 y (by simpa using hy)) (fun y hy => by
    have : g5 = y := by simpa [Value.ownBlock] using hy
    rw [← this]; exact hOg2)
  have hz := hs.size
  refine ⟨O2, fun y hy => hO2 y (by omega), ⟨_, _, _, _, _, k2⟩, ?_⟩
  refine Kept.trans (Still.kept hs _) ?_
  refine Kept.setCell (Kept.grown ((Kept.refl _ _).alloc _).drew hgrow (fun y hy => ?_)) (.inl ?_) _
  · left
    unfold mineR; rw [htg y hy]; simp
  · unfold mineR
    show (O gl).1 = e ∧ (O gl).2.1 ≤ 5
    rw [h.ltag gl rfl]; simp
attribute [local go_sem ↓] Go.wp_at_zero Go.wp_at_succ
set_option maxRecDepth 100000 in
set_option maxHeartbeats 8000000 in
theorem refInsert_any {w : World} {O : Nat → Nat × Nat × Nat} {e b : Nat} {r : RefS} (h : RefRep w O e b r) (hf : RefWf r) (htb : RefTab r) (n addr len hop : Int) :
    Calls Tryz.prog 30 #[.pointer (some ⟨b, 0, none⟩), .int .i64 n, .int .i64 addr, .int .i64 len, .int .i64 hop] w fun en w' =>
      en = .returned (.int .i64 (insertR r n addr len hop)) ∧ changed w O e b (insertedR r n addr len hop) w' := by
  by_cases hm : mayI r n 2 = 0
  · obtain ⟨_, hn1, hn2⟩ := mayI_zero hm
    obtain ⟨k, rfl⟩ : ∃ k : Nat, n = (k : Int) + 1 := ⟨(n - 1).toNat, by omega⟩
    have hk : k < r.nt := by omega
    have hlf : lifeOf r ((k : Int) + 1) = (r.tok k).life := by unfold lifeOf; rw [show ((k : Int) + 1 - 1).toNat = k from by omega]
    have hnl := hf.life k hk
    have hn := hf.nt
    have hl := hf.nl
    have HM := hide hm
    have hqq := hf.quota _ hnl
    have hoo := htb.ownN _ hnl
    obtain ⟨lv, tv, ov, rv, ln, ht⟩ := h
    have bl := ht.lt
    obtain ⟨a, cap, rfl, h1, h2, h3⟩ := ht.toksAt
    obtain ⟨g, rfl⟩ := h3 k hk
    obtain ⟨al, capl, rfl, h1', h2', h3'⟩ := ht.livesAt
    obtain ⟨gl, rfl⟩ := h3' _ hnl
    obtain ⟨oa, oc, oe, ol1, ol2⟩ := ownsRow_slice (ht.owns _ hnl)
    have OE := hide oe
    unfold maxLen at h2 h2' ol2
    have hgb : gl ≠ b := tag_ne (ht.ltag gl rfl) ht.btag (by simp)
    have hbg : b ≠ gl := Ne.symm hgb
    have HT := hide ht
    clear ht h3 h3' oe
    cases hok : (isPfx addr len && okMask hop) with
    | false =>
      have e1 : insertR r ((k : Int) + 1) addr len hop = 2 := by unfold insertR; rw [if_pos hm, hok]; rfl
      have e2 : insertedR r ((k : Int) + 1) addr len hop = r := by unfold insertedR; rw [e1]; rfl
      rw [e1, e2]
      have HOK := hide hok
      clear e1 e2 hlf hok hm
      go_enter Tryz.func30, Tryz.ntmps30
      go_wp2_with fail
      refine (may_any ⟨_, _, _, _, _, unhide HT⟩ hf _ _ (by omega) (by omega)).mono ?_
      rintro en w1 ⟨rfl, hw⟩
      rw [unhide HM]
      have HW := hide hw
      clear hw
      go_wp2_with fail
      refine (prefix_any _ _ _).mono ?_
      rintro en w2 ⟨rfl, hw⟩
      replace hw := hw.symm
      subst hw
      go_wp2_with fail
      refine (betweenM _ _).mono ?_
      rintro en w2 ⟨rfl, hw⟩
      replace hw := hw.symm
      subst hw
      have HR : Hid (changed w O e b r w1) := ⟨O, fun _ _ => rfl, ⟨_, _, _, _, _, (unhide HT).still (unhide HW)⟩, Still.kept (unhide HW) _⟩
      cases hp : isPfx addr len with
      | false =>
        clear hp
        generalize okMask hop = tk at *
        go_wp2
        go_ret
        exact ⟨rfl, unhide HR⟩
      | true =>
        have hh : okMask hop = false := by
          have := unhide HOK
          rw [hp] at this
          simpa using this
        rw [hh]
        clear hp hh
        go_wp2
        go_ret
        exact ⟨rfl, unhide HR⟩
    | true =>
      rw [Bool.and_eq_true] at hok
      obtain ⟨hp, hh⟩ := hok
      have e1 : insertR r ((k : Int) + 1) addr len hop = insIn (r.life (r.tok k).life) ⟨addr, len, hop, (r.life (r.tok k).life).no⟩ := by unfold insertR newRoute; rw [if_pos hm, hp, hh, hlf]; rfl
      have e2 : insertedR r ((k : Int) + 1) addr len hop = if insIn (r.life (r.tok k).life) ⟨addr, len, hop, (r.life (r.tok k).life).no⟩ = 0 then ownS r (r.tok k).life (insOwn (r.life (r.tok k).life).own ⟨addr, len, hop, (r.life (r.tok k).life).no⟩) else r := by unfold insertedR; rw [e1]; unfold newRoute; rw [hlf]
      have E1 := hide e1
      have E2 := hide e2
      have HP := hide hp
      have HH := hide hh
      clear e1 e2 hlf hp hh hm
      go_enter Tryz.func30, Tryz.ntmps30
      go_wp2_with fail
      refine (may_any ⟨_, _, _, _, _, unhide HT⟩ hf _ _ (by omega) (by omega)).mono ?_
      rintro en w1 ⟨rfl, hw⟩
      rw [unhide HM]
      have ht1 := (unhide HT).still hw
      obtain ⟨_, c1, c2, _⟩ := ht1.cells
      have t0 : w1.cell? ⟨g, k * 4, none⟩ = some (.int .i64 ((r.tok k).life : Int)) := ht1.tokCell hk 0 (by omega)
      have u0 : w1.cell? ⟨gl, (r.tok k).life * 7, none⟩ = some (.int .i64 (r.life (r.tok k).life).no) := ht1.lifeCell hnl 0 (by omega)
      have HT1 := hide ht1
      have HW := hide hw
      have hz1 := hw.size
      clear ht1 hw
      go_wp2_with fail
      refine (prefix_any _ _ _).mono ?_
      rintro en w2 ⟨rfl, hw⟩
      replace hw := hw.symm
      subst hw
      rw [unhide HP]
      go_wp2_with fail
      refine (betweenM _ _).mono ?_
      rintro en w2 ⟨rfl, hw⟩
      replace hw := hw.symm
      subst hw
      rw [unhide HH]
      go_wp2_with fail
      generalize hno : (r.life (r.tok k).life).no = no at *
      have HNO := hide hno
      clear hno
      have hs0 : Still w1 (w1.alloc (.cells #[.int .i64 addr, .int .i64 len, .int .i64 hop, .int .i64 no] 50)) := (Kept.refl _ _).alloc _
      have hbx : Box4 (w1.alloc (.cells #[.int .i64 addr, .int .i64 len, .int .i64 hop, .int .i64 no] 50)) w1.heap.size ⟨addr, len, hop, no⟩ := Box4.new w1 ⟨addr, len, hop, no⟩ _
      have ht2 := (unhide HT1).still hs0
      obtain ⟨_, d1, _, _⟩ := ht2.cells
      have u4 : (w1.alloc (.cells #[.int .i64 addr, .int .i64 len, .int .i64 hop, .int .i64 no] 50)).cell? ⟨gl, (r.tok k).life * 7 + 4, none⟩ = some (ov (r.tok k).life) := ht2.lifeCell hnl 4 (by omega)
      have u1 : (w1.alloc (.cells #[.int .i64 addr, .int .i64 len, .int .i64 hop, .int .i64 no] 50)).cell? ⟨gl, (r.tok k).life * 7 + 1, none⟩ = some (.int .i64 (r.life (r.tok k).life).quota) := ht2.lifeCell hnl 1 (by omega)
      rw [unhide OE] at u4
      have x0 : (w1.alloc (.cells #[.int .i64 addr, .int .i64 len, .int .i64 hop, .int .i64 no] 50)).cell? ⟨w1.heap.size, 0, none⟩ = some (.int .i64 addr) := hbx.c0
      have x1 : (w1.alloc (.cells #[.int .i64 addr, .int .i64 len, .int .i64 hop, .int .i64 no] 50)).cell? ⟨w1.heap.size, 1, none⟩ = some (.int .i64 len) := hbx.c1
      have x2 : (w1.alloc (.cells #[.int .i64 addr, .int .i64 len, .int .i64 hop, .int .i64 no] 50)).cell? ⟨w1.heap.size, 2, none⟩ = some (.int .i64 hop) := hbx.c2
      have x3 : (w1.alloc (.cells #[.int .i64 addr, .int .i64 len, .int .i64 hop, .int .i64 no] 50)).cell? ⟨w1.heap.size, 3, none⟩ = some (.int .i64 no) := hbx.c3
      have bW : b < (w1.alloc (.cells #[.int .i64 addr, .int .i64 len, .int .i64 hop, .int .i64 no] 50)).heap.size := ht2.lt
      have gW : gl < (w1.alloc (.cells #[.int .i64 addr, .int .i64 len, .int .i64 hop, .int .i64 no] 50)).heap.size := ownsRow_lt ht2.lives rfl
      have sW : w1.heap.size < (w1.alloc (.cells #[.int .i64 addr, .int .i64 len, .int .i64 hop, .int .i64 no] 50)).heap.size := by simp
      have HT2 := hide ht2
      have HS0 : Hid (Still w (w1.alloc (.cells #[.int .i64 addr, .int .i64 len, .int .i64 hop, .int .i64 no] 50))) := Kept.trans (unhide HW) hs0
      clear hs0 hbx ht2 c1 c2 t0 u0
      generalize w1.alloc (.cells #[.int .i64 addr, .int .i64 len, .int .i64 hop, .int .i64 no] 50) = W at *
      have hs1w : w.heap.size ≤ w1.heap.size := hz1
      generalize w1.heap.size = s0 at *
      have HRO : Hid (W.drew.ownsRow 0 50 4 (.slice oa (r.life (r.tok k).life).own.length oc) (r.life (r.tok k).life).own.length ((r.life (r.tok k).life).own.flatMap routeCells)) := by
        have := (unhide HT2).owns _ hnl
        rw [unhide OE] at this
        exact this
      have hl0 : (0 : Int) ≤ ((r.tok k).life : Int) := by omega
      have hl1 : ((r.tok k).life : Int) < (r.nl : Int) := by omega
      have FA : Hid (∀ w', w'.ownsRow 0 50 4 (.slice oa (r.life (r.tok k).life).own.length oc) (r.life (r.tok k).life).own.length ((r.life (r.tok k).life).own.flatMap routeCells) → Calls Tryz.prog 64 #[.slice oa (r.life (r.tok k).life).own.length oc, .agg #[.int .i64 addr, .int .i64 len, .int .i64 hop, .int .i64 no]] w' fun e w'' => e = .returned (.int .i64 (findI (r.life (r.tok k).life).own ⟨addr, len, hop, no⟩)) ∧ Still w' w'') := fun w' hw' => find_any hw' ⟨addr, len, hop, no⟩
      go_region_held3 (fun w' => w'.cell? ⟨b, 1, none⟩ = some (.slice (some ⟨gl, 0, none⟩) r.nl capl) ∧ w'.cell? ⟨gl, (r.tok k).life * 7 + 4, none⟩ = some (.slice oa (r.life (r.tok k).life).own.length oc) ∧ w'.cell? ⟨s0, 0, none⟩ = some (.int .i64 addr) ∧ w'.cell? ⟨s0, 1, none⟩ = some (.int .i64 len) ∧ w'.cell? ⟨s0, 2, none⟩ = some (.int .i64 hop) ∧ w'.cell? ⟨s0, 3, none⟩ = some (.int .i64 no)) (first | go_keep | (go_split_ands; exact ⟨(hw4.cell _ _ bW).trans d1, (hw4.cell _ _ gW).trans u4, (hw4.cell _ _ sW).trans x0, (hw4.cell _ _ sW).trans x1, (hw4.cell _ _ sW).trans x2, (hw4.cell _ _ sW).trans x3⟩)) ((go_at_call 64; refine (unhide FA _ (unhide HRO)).mono ?_; rintro e w4 ⟨rfl, hw4⟩))
      have hw4' : Still W w4 := Kept.trans ((Kept.refl _ _).drew) hw4
      have ht4 := (unhide HT2).still hw4'
      have d1' := (hw4'.cell _ 1 bW).trans d1
      have u4' := (hw4'.cell _ _ gW).trans u4
      have u1' := (hw4'.cell _ _ gW).trans u1
      have x0' := (hw4'.cell _ 0 sW).trans x0
      have x1' := (hw4'.cell _ 1 sW).trans x1
      have x2' := (hw4'.cell _ 2 sW).trans x2
      have x3' := (hw4'.cell _ 3 sW).trans x3
      have hro4 := ht4.owns _ hnl
      rw [unhide OE] at hro4
      have HT4 := hide ht4
      have HS4 : Hid (Still w w4) := Kept.trans (unhide HS0) hw4'
      have HRO4 := hide hro4
      have hz4 := hw4'.size
      have hfz : ∀ j, w4.frozen? ⟨gl, j, none⟩ = false := fun j => ht4.lives.frozenAt j
      clear hw4 hw4' ht4 hro4 d1 u4 u1 x0 x1 x2 x3 FA HRO
      rcases findI_cases (r.life (r.tok k).life).own ⟨addr, len, hop, no⟩ with ⟨i, hi, hfi, _⟩ | ⟨hfi, hnone⟩
      · have e1 : insIn (r.life (r.tok k).life) ⟨addr, len, hop, no⟩ = 0 := by unfold insIn; rw [hfi, if_pos (by omega)]
        have e2 : insOwn (r.life (r.tok k).life).own ⟨addr, len, hop, no⟩ = (r.life (r.tok k).life).own.set i ⟨addr, len, hop, no⟩ := by unfold insOwn; rw [hfi, if_pos (by omega), Int.toNat_natCast]
        obtain ⟨go, rfl, hgo⟩ := ownsRow_some (unhide HRO4) (by omega)
        obtain ⟨q0, q1, q2, q3⟩ := routeCell (unhide HRO4) rfl hi
        have qf : ∀ j, w4.frozen? ⟨go, j, none⟩ = false := fun j => (unhide HRO4).frozenAt j
        have hgog : go ≠ gl := tag_ne ((unhide HT4).otag _ go hnl (by rw [unhide OE]; rfl)) ((unhide HT4).ltag gl rfl) (by simp)
        have hgob : go ≠ b := tag_ne ((unhide HT4).otag _ go hnl (by rw [unhide OE]; rfl)) (unhide HT4).btag (by simp)
        rw [hfi]
        have EE1 := hide e1
        have EE2 := hide e2
        have hi0 : (0 : Int) ≤ (i : Int) := by omega
        have hi1 : (i : Int) < ((r.life (r.tok k).life).own.length : Int) := by omega
        clear e1 e2 hfi
        go_wp2_with fail
        have hrowK : Hid (((((w4.setCell ⟨go, i * 4, none⟩ (.int .i64 addr)).setCell ⟨go, i * 4 + 1, none⟩ (.int .i64 len)).setCell ⟨go, i * 4 + 2, none⟩ (.int .i64 hop)).setCell ⟨go, i * 4 + 3, none⟩ (.int .i64 no)).ownsRow 0 50 4 (.slice (some ⟨go, 0, none⟩) (r.life (r.tok k).life).own.length oc) (r.life (r.tok k).life).own.length (((r.life (r.tok k).life).own.set i ⟨addr, len, hop, no⟩).flatMap routeCells)) := by
          have hr := unhide HRO4
          rw [flat_enc _ rt0] at hr
          have h1 := (hr.stored (i * 4) (.int .i64 addr)).1
          have h2 := (h1.stored (i * 4 + 1) (.int .i64 len)).1
          have h3 := (h2.stored (i * 4 + 2) (.int .i64 hop)).1
          have h4 := (h3.stored (i * 4 + 3) (.int .i64 no)).1
          rw [flat_set _ hi ⟨addr, len, hop, no⟩] at h4
          exact h4
        have hblk : Hid (∀ y, y ≠ go → ((((w4.setCell ⟨go, i * 4, none⟩ (.int .i64 addr)).setCell ⟨go, i * 4 + 1, none⟩ (.int .i64 len)).setCell ⟨go, i * 4 + 2, none⟩ (.int .i64 hop)).setCell ⟨go, i * 4 + 3, none⟩ (.int .i64 no)).heap[y]? = w4.heap[y]?) := fun y hy => by
          rw [Below.heap_setCell _ _ _ _ hy, Below.heap_setCell _ _ _ _ hy, Below.heap_setCell _ _ _ _ hy, Below.heap_setCell _ _ _ _ hy]
        have HFIN : Hid (∀ m, changed w O e b (insertedR r ((k : Int) + 1) addr len hop) (((((w4.setCell ⟨go, i * 4, none⟩ (.int .i64 addr)).setCell ⟨go, i * 4 + 1, none⟩ (.int .i64 len)).setCell ⟨go, i * 4 + 2, none⟩ (.int .i64 hop)).setCell ⟨go, i * 4 + 3, none⟩ (.int .i64 no)).drewN m)) := fun m => by
          have hog : (ov (r.tok k).life).ownBlock = some go := by rw [unhide OE]; rfl
          have hk2 := (unhide HT4).turnOwn hnl ((r.life (r.tok k).life).own.set i ⟨addr, len, hop, no⟩) hog (unhide hblk) (by rw [unhide OE, List.length_set]; exact unhide hrowK)
          refine ⟨O, fun _ _ => rfl, ?_, ?_⟩
          · rw [unhide E2, unhide EE1, if_pos rfl, unhide EE2]
            exact ⟨_, _, _, _, _, hk2.still ((Kept.refl _ _).drewN _)⟩
          · have hmm : mineR O e go := by unfold mineR; rw [(unhide HT4).otag _ go hnl hog]; simp
            exact Kept.drewN (((((Still.kept (unhide HS4) _).setCell (.inl hmm) _).setCell (.inl hmm) _).setCell (.inl hmm) _).setCell (.inl hmm) _) m
        clear hrowK hblk
        go_region
        all_goals
          go_wp2
          go_ret
          exact ⟨by rw [unhide E1, unhide EE1]; rfl, unhide HFIN 1⟩
      · have e0 : insIn (r.life (r.tok k).life) ⟨addr, len, hop, no⟩ = if (r.life (r.tok k).life).quota ≤ ((r.life (r.tok k).life).own.length : Int) then 8 else 0 := by unfold insIn; rw [hfi, if_neg (by omega)]
        have e2 : insOwn (r.life (r.tok k).life).own ⟨addr, len, hop, no⟩ = (r.life (r.tok k).life).own ++ [⟨addr, len, hop, no⟩] := by unfold insOwn; rw [hfi, if_neg (by omega)]
        rw [hfi]
        have EE2 := hide e2
        clear e2 hfi hnone
        go_wp2_with fail
        go_quiet (fail)
        have d1v : (w4.drewN nq).cell? ⟨b, 1, none⟩ = _ := d1'
        have u4v : (w4.drewN nq).cell? ⟨gl, (r.tok k).life * 7 + 4, none⟩ = _ := u4'
        have x0v : (w4.drewN nq).cell? ⟨s0, 0, none⟩ = _ := x0'
        have x1v : (w4.drewN nq).cell? ⟨s0, 1, none⟩ = _ := x1'
        have x2v : (w4.drewN nq).cell? ⟨s0, 2, none⟩ = _ := x2'
        have x3v : (w4.drewN nq).cell? ⟨s0, 3, none⟩ = _ := x3'
        have hfv : ∀ j, (w4.drewN nq).frozen? ⟨gl, j, none⟩ = false := hfz
        have HTV : Hid (RefAt (w4.drewN nq) O e b r (.slice (some ⟨gl, 0, none⟩) r.nl capl) (.slice (some ⟨g, 0, none⟩) r.nt cap) ov rv ln) := (unhide HT4).still ((Kept.refl _ _).drewN _)
        have HSV : Hid (Still w (w4.drewN nq)) := Kept.drewN (unhide HS4) _
        have hzv : (w4.drewN nq).heap.size = w4.heap.size := rfl
        have HZV := hide hzv
        have HROV : Hid ((w4.drewN nq).ownsRow 0 50 4 (.slice oa (r.life (r.tok k).life).own.length oc) (r.life (r.tok k).life).own.length ((r.life (r.tok k).life).own.flatMap routeCells)) := unhide HRO4
        have bV : b < (w4.drewN nq).heap.size := by rw [hzv]; omega
        have gV : gl < (w4.drewN nq).heap.size := by rw [hzv]; omega
        have sV : s0 < (w4.drewN nq).heap.size := by rw [hzv]; omega
        clear d1' u4' x0' x1' x2' x3' hfz hzv HT4 HS4 HRO4
        by_cases hfull : (r.life (r.tok k).life).quota ≤ ((r.life (r.tok k).life).own.length : Int)
        · rw [if_pos hfull] at e0
          have EE0 := hide e0
          clear e0
          go_wp2
          go_ret
          exact ⟨by rw [unhide E1, unhide EE0]; rfl, O, fun _ _ => rfl, by rw [unhide E2, unhide EE0, if_neg (by omega)]; exact ⟨_, _, _, _, _, unhide HTV⟩, Still.kept (unhide HSV) _⟩
        · rw [if_neg hfull] at e0
          have EE0 := hide e0
          clear e0
          obtain ⟨i0, hi0, hz0, hz1', hz2⟩ := info_parts infoRoute
          generalize w4.drewN nq = V at *
          have hnog : (Value.slice oa (r.life (r.tok k).life).own.length oc).ownBlock ≠ some gl := fun hh => by
            have h1 := (unhide HTV).otag _ gl hnl (by rw [unhide OE]; exact hh)
            rw [(unhide HTV).ltag gl rfl] at h1; simp at h1
          have hnob : (Value.slice oa (r.life (r.tok k).life).own.length oc).ownBlock ≠ some b := fun hh => by
            have h1 := (unhide HTV).otag _ b hnl (by rw [unhide OE]; exact hh)
            rw [(unhide HTV).btag] at h1; simp at h1
          go_wp2_with fail
          go_region_law ((refine step_append_lies _ (by rfl) _ _ _ (by rfl) 0 50 i0 _ 4 32 Tryz.underlying52 hi0 hz0 hz1' hz2 rfl (by omega) (.slice oa (r.life (r.tok k).life).own.length oc) (r.life (r.tok k).life).own.length _ (by rfl) (((unhide HROV).alloc _).drew) ⟨V.heap.size, 0, none⟩ 1 1 [.int .i64 addr, .int .i64 len, .int .i64 hop, .int .i64 no] (by rfl) (by rfl) (World.news_of_block (cs := #[.int .i64 addr, .int .i64 len, .int .i64 hop, .int .i64 no]) (t := 50) (fr := (0, 0)) (heap_alloc_new V _)) (by simp [Value.oneCell']) (by omega) (by unfold maxLen; omega) (by omega) (by omega) (V.heap.size + 1) (by simp) ?_; intro g5 cap5 w5 hown5 hgrow hat hlt5; have dd0 : w5.cell? ⟨b, 1, none⟩ = some (.slice (some ⟨gl, 0, none⟩) r.nl capl) := (hgrow.cell_far ⟨b, 1, none⟩ (by simp; omega) (Ne.symm hnob)).trans (by rw [World.cell?_drew, World.cell?_alloc_lt _ _ _ bV]; exact d1v); have dd1 : w5.cell? ⟨gl, (r.tok k).life * 7 + 4, none⟩ = some (.slice oa (r.life (r.tok k).life).own.length oc) := (hgrow.cell_far ⟨gl, (r.tok k).life * 7 + 4, none⟩ (by simp; omega) (Ne.symm hnog)).trans (by rw [World.cell?_drew, World.cell?_alloc_lt _ _ _ gV]; exact u4v); have dd2 : w5.frozen? ⟨gl, (r.tok k).life * 7 + 4, none⟩ = false := (hgrow.frozen_far ⟨gl, (r.tok k).life * 7 + 4, none⟩ (by simp; omega) (Ne.symm hnog)).trans (by rw [World.frozen?_drew, World.frozen?_alloc_old _ _ _ (Nat.ne_of_lt gV)]; exact hfv _)))
          all_goals
            have HFIN := hide (push_fin (l := (r.tok k).life) (x := ⟨addr, len, hop, no⟩) (unhide HSV) (unhide HTV) hnl (by rw [unhide OE]) hgrow hat hown5)
            clear hgrow hat hown5 hlt5 dd0 dd1 dd2 d1v u4v x0v x1v x2v x3v
            go_wp2
            go_ret
            exact ⟨by rw [unhide E1, unhide EE0]; rfl, by rw [unhide E2, unhide EE0, if_pos rfl, unhide EE2]; exact unhide HFIN⟩
  · have e1 : insertR r n addr len hop = mayI r n 2 := by unfold insertR; rw [if_neg hm]
    have e2 : insertedR r n addr len hop = r := by unfold insertedR; rw [e1, if_neg hm]
    rw [e1, e2]
    have hc := mayI_cases r n 2
    have hne : (mayI r n 2 != 0) = true := by simpa using hm
    clear e1 hm e2
    go_enter Tryz.func30, Tryz.ntmps30
    go_wp2_with fail
    refine (may_any h hf _ _ (by omega) (by omega)).mono ?_
    rintro en w1 ⟨rfl, hw⟩
    have HR : Hid (changed w O e b r w1) := ⟨O, fun _ _ => rfl, h.still hw, Still.kept hw _⟩
    generalize hx : mayI r n 2 = x at *
    have Hx := hide hx
    clear hx
    go_wp2
    go_ret
    exact ⟨ret_int (unhide Hx).symm, unhide HR⟩
end Go.Proofs.YtgndledehlilkaaGreat
