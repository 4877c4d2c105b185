/-
  Walks: districtref: Remove.
-/
import Derived.Test.YtgndledehlilkaaGreatPure
import Derived.Test.YtgndledehlilkaaGreatRefT12a
namespace Go.Proofs.YtgndledehlilkaaGreat
open Go.RowKit
set_option maxRecDepth 100000 in
set_option maxHeartbeats 8000000 in
theorem refRemove_any {w : World} {O : Nat → Nat × Nat × Nat} {e b : Nat} {r : RefS} (h : RefRep w O e b r) (hf : RefWf r) (htb : RefTab r) (n addr len : Int) :
    Calls Tryz.prog 32 #[.pointer (some ⟨b, 0, none⟩), .int .i64 n, .int .i64 addr, .int .i64 len] w fun en w' =>
      en = .returned (.int .i64 (removeR r n addr len)) ∧ changed w O e b (removedR r n addr len) w' := by
  by_cases hm : mayI r n 2 = 0
  · obtain ⟨_, hn1, hn2⟩ := mayI_zero hm
    obtain ⟨k, rfl⟩ : ∃ k : Nat, n = (k : Int) + 1 := ⟨(n - 1).toNat, by omega⟩
    have hk : k < r.nt := by omega
    have hlf : lifeOf r ((k : Int) + 1) = (r.tok k).life := by unfold lifeOf; rw [show ((k : Int) + 1 - 1).toNat = k from by omega]
    have hnl := hf.life k hk
    have hn := hf.nt
    have hl := hf.nl
    have HM := hide hm
    have hqq := hf.quota _ hnl
    have hoo := htb.ownN _ hnl
    obtain ⟨lv, tv, ov, rv, ln, ht⟩ := h
    have bl := ht.lt
    obtain ⟨a, cap, rfl, h1, h2, h3⟩ := ht.toksAt
    obtain ⟨g, rfl⟩ := h3 k hk
    obtain ⟨al, capl, rfl, h1', h2', h3'⟩ := ht.livesAt
    obtain ⟨gl, rfl⟩ := h3' _ hnl
    obtain ⟨oa, oc, oe, ol1, ol2⟩ := ownsRow_slice (ht.owns _ hnl)
    have OE := hide oe
    unfold maxLen at h2 h2' ol2
    have HT := hide ht
    clear ht h3 h3' oe
    cases hok : isPfx addr len with
    | false =>
      have e1 : removeR r ((k : Int) + 1) addr len = 2 := by unfold removeR; rw [if_pos hm, hok]; rfl
      have e2 : removedR r ((k : Int) + 1) addr len = r := by unfold removedR; rw [e1]; rfl
      rw [e1, e2]
      have HOK := hide hok
      clear e1 e2 hlf hok hm
      go_enter Tryz.func32, Tryz.ntmps32
      go_wp2_with fail
      refine (may_any ⟨_, _, _, _, _, unhide HT⟩ hf _ _ (by omega) (by omega)).mono ?_
      rintro en w1 ⟨rfl, hw⟩
      rw [unhide HM]
      have HR : Hid (changed w O e b r w1) := ⟨O, fun _ _ => rfl, ⟨_, _, _, _, _, (unhide HT).still hw⟩, Still.kept hw _⟩
      clear hw
      go_wp2_with fail
      refine (prefix_any _ _ _).mono ?_
      rintro en w2 ⟨rfl, hw⟩
      replace hw := hw.symm
      subst hw
      rw [unhide HOK]
      go_wp2
      go_ret
      exact ⟨rfl, unhide HR⟩
    | true =>
      have e1 : removeR r ((k : Int) + 1) addr len = remIn (r.life (r.tok k).life) (pfxRoute addr len) := by unfold removeR; rw [if_pos hm, hok, hlf]; rfl
      have e2 : removedR r ((k : Int) + 1) addr len = if remIn (r.life (r.tok k).life) (pfxRoute addr len) = 0 then ownS r (r.tok k).life (remOwn (r.life (r.tok k).life).own (pfxRoute addr len)) else r := by unfold removedR; rw [e1, hlf]
      have E1 := hide e1
      have E2 := hide e2
      have HP := hide hok
      clear e1 e2 hlf hok hm
      obtain ⟨i0, hi0, hz0, hz1', hz2⟩ := info_parts infoRoute
      go_enter Tryz.func32, Tryz.ntmps32
      go_wp2_with fail
      refine (may_any ⟨_, _, _, _, _, unhide HT⟩ hf _ _ (by omega) (by omega)).mono ?_
      rintro en w1 ⟨rfl, hw⟩
      rw [unhide HM]
      have ht1 := (unhide HT).still hw
      obtain ⟨_, c1, c2, _⟩ := ht1.cells
      have t0 : w1.cell? ⟨g, k * 4, none⟩ = some (.int .i64 ((r.tok k).life : Int)) := ht1.tokCell hk 0 (by omega)
      have HT1 := hide ht1
      have HW := hide hw
      have hz1 := hw.size
      clear ht1 hw
      go_wp2_with fail
      refine (prefix_any _ _ _).mono ?_
      rintro en w2 ⟨rfl, hw⟩
      replace hw := hw.symm
      subst hw
      rw [unhide HP]
      go_wp2_with fail
      have hs0 : Still w1 (w1.alloc (.cells #[.int .i64 addr, .int .i64 len, .int .i64 0, .int .i64 0] 50)) := (Kept.refl _ _).alloc _
      have hbx : Box4 (w1.alloc (.cells #[.int .i64 addr, .int .i64 len, .int .i64 0, .int .i64 0] 50)) w1.heap.size (pfxRoute addr len) := Box4.new w1 (pfxRoute addr len) _
      have ht2 := (unhide HT1).still hs0
      obtain ⟨_, d1, _, _⟩ := ht2.cells
      have u4 : (w1.alloc (.cells #[.int .i64 addr, .int .i64 len, .int .i64 0, .int .i64 0] 50)).cell? ⟨gl, (r.tok k).life * 7 + 4, none⟩ = some (ov (r.tok k).life) := ht2.lifeCell hnl 4 (by omega)
      rw [unhide OE] at u4
      have x0 : (w1.alloc (.cells #[.int .i64 addr, .int .i64 len, .int .i64 0, .int .i64 0] 50)).cell? ⟨w1.heap.size, 0, none⟩ = some (.int .i64 addr) := hbx.c0
      have x1 : (w1.alloc (.cells #[.int .i64 addr, .int .i64 len, .int .i64 0, .int .i64 0] 50)).cell? ⟨w1.heap.size, 1, none⟩ = some (.int .i64 len) := hbx.c1
      have x2 : (w1.alloc (.cells #[.int .i64 addr, .int .i64 len, .int .i64 0, .int .i64 0] 50)).cell? ⟨w1.heap.size, 2, none⟩ = some (.int .i64 0) := hbx.c2
      have x3 : (w1.alloc (.cells #[.int .i64 addr, .int .i64 len, .int .i64 0, .int .i64 0] 50)).cell? ⟨w1.heap.size, 3, none⟩ = some (.int .i64 0) := hbx.c3
      have bW : b < (w1.alloc (.cells #[.int .i64 addr, .int .i64 len, .int .i64 0, .int .i64 0] 50)).heap.size := ht2.lt
      have gW : gl < (w1.alloc (.cells #[.int .i64 addr, .int .i64 len, .int .i64 0, .int .i64 0] 50)).heap.size := ownsRow_lt ht2.lives rfl
      have sW : w1.heap.size < (w1.alloc (.cells #[.int .i64 addr, .int .i64 len, .int .i64 0, .int .i64 0] 50)).heap.size := by simp
      have HT2 := hide ht2
      have HS0 : Hid (Still w (w1.alloc (.cells #[.int .i64 addr, .int .i64 len, .int .i64 0, .int .i64 0] 50))) := Kept.trans (unhide HW) hs0
      clear hs0 hbx ht2 c1 c2 t0
      generalize w1.alloc (.cells #[.int .i64 addr, .int .i64 len, .int .i64 0, .int .i64 0] 50) = W at *
      generalize w1.heap.size = s0 at *
      have HRO : Hid (W.drew.ownsRow 0 50 4 (.slice oa (r.life (r.tok k).life).own.length oc) (r.life (r.tok k).life).own.length ((r.life (r.tok k).life).own.flatMap routeCells)) := by
        have := (unhide HT2).owns _ hnl
        rw [unhide OE] at this
        exact this
      have hl0 : (0 : Int) ≤ ((r.tok k).life : Int) := by omega
      have hl1 : ((r.tok k).life : Int) < (r.nl : Int) := by omega
      have FA : Hid (∀ w', w'.ownsRow 0 50 4 (.slice oa (r.life (r.tok k).life).own.length oc) (r.life (r.tok k).life).own.length ((r.life (r.tok k).life).own.flatMap routeCells) → Calls Tryz.prog 64 #[.slice oa (r.life (r.tok k).life).own.length oc, .agg #[.int .i64 addr, .int .i64 len, .int .i64 0, .int .i64 0]] w' fun e w'' => e = .returned (.int .i64 (findI (r.life (r.tok k).life).own (pfxRoute addr len))) ∧ Still w' w'') := fun w' hw' => find_any hw' (pfxRoute addr len)
      go_region_held3 (fun w' => w'.cell? ⟨b, 1, none⟩ = some (.slice (some ⟨gl, 0, none⟩) r.nl capl) ∧ w'.cell? ⟨gl, (r.tok k).life * 7 + 4, none⟩ = some (.slice oa (r.life (r.tok k).life).own.length oc) ∧ w'.cell? ⟨s0, 0, none⟩ = some (.int .i64 addr) ∧ w'.cell? ⟨s0, 1, none⟩ = some (.int .i64 len) ∧ w'.cell? ⟨s0, 2, none⟩ = some (.int .i64 0) ∧ w'.cell? ⟨s0, 3, none⟩ = some (.int .i64 0)) (first | go_keep | (go_split_ands; exact ⟨(hw4.cell _ _ bW).trans d1, (hw4.cell _ _ gW).trans u4, (hw4.cell _ _ sW).trans x0, (hw4.cell _ _ sW).trans x1, (hw4.cell _ _ sW).trans x2, (hw4.cell _ _ sW).trans x3⟩)) ((go_at_call 64; refine (unhide FA _ (unhide HRO)).mono ?_; rintro e w4 ⟨rfl, hw4⟩))
      have hw4' : Still W w4 := Kept.trans ((Kept.refl _ _).drew) hw4
      have ht4 := (unhide HT2).still hw4'
      have d1' := (hw4'.cell _ 1 bW).trans d1
      have u4' := (hw4'.cell _ _ gW).trans u4
      have hro4 := ht4.owns _ hnl
      rw [unhide OE] at hro4
      have HT4 := hide ht4
      have HS4 : Hid (Still w w4) := Kept.trans (unhide HS0) hw4'
      have HRO4 := hide hro4
      have hz4 := hw4'.size
      have hfz : Hid (∀ j, w4.frozen? ⟨gl, j, none⟩ = false) := fun j => ht4.lives.frozenAt j
      clear hw4 hw4' ht4 hro4 d1 u4 x0 x1 x2 x3 FA HRO
      rcases findI_cases (r.life (r.tok k).life).own (pfxRoute addr len) with ⟨i, hi, hfi, _⟩ | ⟨hfi, hnone⟩
      · have e1 : remIn (r.life (r.tok k).life) (pfxRoute addr len) = 0 := by unfold remIn; rw [hfi, if_pos (by omega)]
        have e2 : remOwn (r.life (r.tok k).life).own (pfxRoute addr len) = remTo (r.life (r.tok k).life).own i (r.life (r.tok k).life).own.length := by unfold remOwn remTo; rw [hfi, Int.toNat_natCast, List.take_of_length_le (Nat.le_refl _)]
        obtain ⟨go, rfl, hgo⟩ := ownsRow_some (unhide HRO4) (by omega)
        rw [hfi]
        have EE1 := hide e1
        have EE2 := hide e2
        have hi0' : (0 : Int) ≤ (i : Int) := by omega
        have hi1' : (i : Int) < ((r.life (r.tok k).life).own.length : Int) := by omega
        have hol : (r.life (r.tok k).life).own.length ≤ 64 := by omega
        have bw4 : b < w4.heap.size := by omega
        have gw4 : gl < w4.heap.size := by omega
        clear e1 e2 hfi
        go_wp2
        go_loopw [14, 15] (fun v j w' => ∃ m : Nat, m ≤ (r.life (r.tok k).life).own.length ∧ j = .int .i64 m ∧ w'.ownsRow w4.heap.size 50 4 v (remTo (r.life (r.tok k).life).own i m).length ((remTo (r.life (r.tok k).life).own i m).flatMap routeCells) ∧ Still w4 w') (fun _ j _ => (r.life (r.tok k).life).own.length - (intOf j).toNat)
        case atStart => exact ⟨0, Nat.zero_le _, rfl, by simp [remTo]; exact World.ownsRow_nil _ _ _ _, Kept.refl _ _⟩
        case round =>
          obtain ⟨m, hm, rfl, hmo, hms⟩ := hrel
          obtain ⟨ma, mc, rfl, hm1, hm2⟩ := ownsRow_slice hmo
          unfold maxLen at hm2
          have hlenm := remTo_len (r.life (r.tok k).life).own i m
          have HMO := hide hmo
          have HMS := hide hms
          have hzm := hms.size
          have d1m := (hms.cell _ 1 bw4).trans d1'
          have u4m := (hms.cell _ ((r.tok k).life * 7 + 4) gw4).trans u4'
          have hrm : wr.ownsRow 0 50 4 (.slice (some ⟨go, 0, none⟩) (r.life (r.tok k).life).own.length oc) (r.life (r.tok k).life).own.length ((r.life (r.tok k).life).own.flatMap routeCells) := ownsRow_of_block (unhide HRO4) (fun y hy => hms.heap (ownsRow_lt (unhide HRO4) hy))
          have hfm : Hid (wr.frozen? ⟨gl, (r.tok k).life * 7 + 4, none⟩ = false) := (hms.frozen _ _ gw4).trans (unhide hfz _)
          clear hmo hms
          by_cases hlt : m < (r.life (r.tok k).life).own.length
          · obtain ⟨q0, q1, q2, q3⟩ := routeCell hrm rfl hlt
            have hmi0 : (0 : Int) ≤ (m : Int) := by omega
            have hmi1 : (m : Int) < ((r.life (r.tok k).life).own.length : Int) := by omega
            have gow : go < wr.heap.size := by omega
            have HMH := hide (fun hc : m = i => by subst hc; exact remTo_hit (r.life (r.tok k).life).own hlt : m = i → remTo (r.life (r.tok k).life).own i (m + 1) = remTo (r.life (r.tok k).life).own i m)
            have HMM := hide (fun hc : m ≠ i => remTo_miss (r.life (r.tok k).life).own hlt hc)
            clear hrm
            generalize (r.life (r.tok k).life).own.getD m rt0 = x at *
            by_cases hmi : m = i
            · have hd : ((m : Int) != (i : Int)) = false := by simp [hmi]
              have HE := unhide HMH hmi
              have HEH := hide HE
              clear hmi HE
              go_wp2
              go_roundw
              case rel => exact ⟨m + 1, by omega, by go_num, by rw [unhide HEH]; exact unhide HMO, unhide HMS⟩
              case measure => simp [intOf]; omega
            · have hd : ((m : Int) != (i : Int)) = true := by rw [bne_iff_ne]; omega
              have HE := unhide HMM hmi
              have HEH := hide HE
              clear hmi HE
              generalize remTo (r.life (r.tok k).life).own i m = st at *
              go_wp2_with (at_builtin; refine wpList_append_lies _ rfl _ _ _ rfl w4.heap.size 50 i0 _ 4 32 Tryz.underlying52 hi0 hz0 hz1' hz2 rfl (by omega) (.slice ma st.length mc) st.length _ rfl ((unhide HMO).alloc _) ⟨wr.heap.size, 0, none⟩ 1 1 [.int .i64 x.addr, .int .i64 x.len, .int .i64 x.hop, .int .i64 x.from_] rfl rfl (World.news_of_block (cs := #[.int .i64 x.addr, .int .i64 x.len, .int .i64 x.hop, .int .i64 x.from_]) (t := 50) (fr := (0, 0)) (heap_alloc_new wr _)) (by simp [Value.oneCell']) (by omega) (by unfold maxLen; omega) (by omega) (by simp; omega) (wr.heap.size + 1) (by simp) ?_; intro g5 cap5 w5 hown5 hgrow5 hat5 hlt5)
              have hks5 : Still w4 w5 := Kept.grown (Kept.alloc (unhide HMS) _) hgrow5 (fun z hz => .inr ((unhide HMO).lt z hz).1)
              go_roundw
              case rel =>
                refine ⟨m + 1, by omega, by go_num, ?_, hks5⟩
                rw [unhide HEH, flat_snoc, List.length_append]
                exact hown5
              case measure => simp [intOf]; omega
          · obtain rfl : m = (r.life (r.tok k).life).own.length := by omega
            have HFIN := hide (set_fin (unhide HS4) (unhide HT4) hnl (unhide HMS) (unhide HMO))
            have hfmm := unhide hfm
            clear hrm
            go_wp2
            go_ret
            exact ⟨by rw [unhide E1, unhide EE1]; rfl, by rw [unhide E2, unhide EE1, if_pos rfl, unhide EE2]; exact unhide HFIN⟩
      · have e0 : remIn (r.life (r.tok k).life) (pfxRoute addr len) = 9 := by unfold remIn; rw [hfi, if_neg (by omega)]
        rw [hfi]
        have EE0 := hide e0
        clear e0 hfi hnone
        go_wp2
        go_ret
        exact ⟨by rw [unhide E1, unhide EE0]; rfl, O, fun _ _ => rfl, by rw [unhide E2, unhide EE0, if_neg (by omega)]; exact ⟨_, _, _, _, _, unhide HT4⟩, Still.kept (unhide HS4) _⟩
  · have e1 : removeR r n addr len = mayI r n 2 := by unfold removeR; rw [if_neg hm]
    have e2 : removedR r n addr len = r := by unfold removedR; rw [e1, if_neg hm]
    rw [e1, e2]
    have hc := mayI_cases r n 2
    have hne : (mayI r n 2 != 0) = true := by simpa using hm
    clear e1 hm e2
    go_enter Tryz.func32, Tryz.ntmps32
    go_wp2_with fail
    refine (may_any h hf _ _ (by omega) (by omega)).mono ?_
    rintro en w1 ⟨rfl, hw⟩
    have HR : Hid (changed w O e b r w1) := ⟨O, fun _ _ => rfl, h.still hw, Still.kept hw _⟩
    generalize hx : mayI r n 2 = x at *
    have Hx := hide hx
    clear hx
    go_wp2
    go_ret
    exact ⟨ret_int (unhide Hx).symm, unhide HR⟩
end Go.Proofs.YtgndledehlilkaaGreat
