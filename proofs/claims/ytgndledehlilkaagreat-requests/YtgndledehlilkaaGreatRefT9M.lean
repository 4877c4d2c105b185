import Derived.Test.YtgndledehlilkaaGreatPure
import Derived.Test.YtgndledehlilkaaGreatRefT5M
namespace Go.Proofs.YtgndledehlilkaaGreat
open Go.RowKit
set_option maxRecDepth 100000 in
set_option maxHeartbeats 8000000 in
theorem whole_any {w : World} {O : Nat → Nat × Nat × Nat} {e b : Nat} {r : RefS} (h : RefRep w O e b r) (hf : RefWf r) (htb : RefTab r) (t : Nat) (ht : t < r.nl) :
    Calls Tryz.prog 71 #[.pointer (some ⟨b, 0, none⟩), .int .i64 t] w fun en w' => ∃ (off : List RouteD) (v : Value), Chain r t (nxAll r t rt0 true r.nl) off ∧ off.length ≤ 1114112 ∧ en = .returned (.tuple #[v, .int .i64 (droppedR (r.life t) off)]) ∧ w'.ownsRow w.heap.size 50 4 v (tableR (r.life t) off).length ((tableR (r.life t) off).flatMap routeCells) ∧ Still w w' := by
  have hown := htb.ownN t ht
  have hqt := hf.quota t ht
  have hn := hf.nt
  have hl := hf.nl
  obtain ⟨lv, tv, ov, rv, ln, h⟩ := h
  obtain ⟨al, cap, rfl, h1, h2, h3⟩ := h.livesAt
  obtain ⟨g, rfl⟩ := h3 t ht
  have hgl : g < w.heap.size := ownsRow_lt h.lives rfl
  have bl := h.lt
  unfold maxLen at h2
  have HT := hide h
  obtain ⟨oa, oc, oe, ol1, ol2⟩ := ownsRow_slice (h.owns t ht)
  have OE := hide oe
  have ht0 : (0 : Int) ≤ (t : Int) := by omega
  have ht1 : (t : Int) < (r.nl : Int) := by omega
  unfold maxLen at ol2
  clear h h3 oe
  have HF := hide hf
  have HTB := hide htb
  clear hf htb
  obtain ⟨i0, hi0, hz0, hz1, hz2⟩ := info_parts infoRoute
  go_enter Tryz.func71, Tryz.ntmps71
  go_wp2_with fail
  refine (offered_any ⟨_, _, _, _, _, unhide HT⟩ (unhide HF) (unhide HTB) t ht).mono ?_
  rintro en W1 ⟨off, v, hch, hlo, rfl, how, hs1⟩
  have ht1' := (unhide HT).still hs1
  obtain ⟨_, c1, _, _⟩ := ht1'.cells
  have t4 : W1.cell? ⟨g, t * 7 + 4, none⟩ = some (ov t) := ht1'.lifeCell ht 4 (by omega)
  have t1 : W1.cell? ⟨g, t * 7 + 1, none⟩ = some (.int .i64 (r.life t).quota) := ht1'.lifeCell ht 1 (by omega)
  have hro := ht1'.owns t ht
  rw [unhide OE] at t4 hro
  obtain ⟨va, vc, rfl, hv1, hv2⟩ := ownsRow_slice how
  unfold maxLen at hv2
  have HCH := hide hch
  have HOW := hide how
  have HRO := hide hro
  have HS1 := hide hs1
  have hz1' := hs1.size
  clear ht1' hch how hro hs1
  have hol : (r.life t).own.length ≤ 64 := by omega
  go_wp2_with (at_builtin; refine wpList_append_owned rfl _ _ _ rfl W1.heap.size 50 i0 _ 4 32 Tryz.underlying52 hi0 hz0 hz1 hz2 rfl (by omega) (.slice none 0 0) 0 [] rfl (World.ownsRow_nil _ _ _ _) (.slice oa (r.life t).own.length oc) (r.life t).own.length _ rfl (unhide HRO) (routeCells_one _) (by unfold maxLen; omega) (by omega) (by omega) _ rfl ?_; intro v2 w2 hown2 hgrow2 hat2; rw [Nat.zero_add, List.nil_append] at hown2; obtain ⟨a2, cap2, ev2, hv21, hv22⟩ := ownsRow_slice hown2; subst ev2)
  have hs2 : Still W1 w2 := Kept.grown (Kept.refl _ _) hgrow2 (fun y hy => by simp [Value.ownBlock] at hy)
  have HS2 := hide hs2
  have HO2 := hide hown2
  clear hgrow2 hat2 hown2 hs2 hv21 hv22
  have hsp : ((r.life t).own.length : Int) + (spare (r.life t) : Int) = (r.life t).quota := by unfold spare; omega
  generalize hcc : spare (r.life t) = c at *
  have HCC := hide hcc
  clear hcc
  generalize hoo : (r.life t).own = own at *
  have HOO := hide hoo
  clear hoo
  go_loopw [7, 8, 9] (fun o d i w' => ∃ k : Nat, k ≤ off.length ∧ i = .int .i64 k ∧ d = .int .i64 ((k - min k c : Nat) : Int) ∧ w'.ownsRow W1.heap.size 50 4 o (own.length + min k c) ((own ++ off.take (min k c)).flatMap routeCells) ∧ Still W1 w') (fun _ _ i _ => off.length - (intOf i).toNat)
  case atStart => exact ⟨0, Nat.zero_le _, rfl, by simp, by simpa using unhide HO2, unhide HS2⟩
  case round =>
    obtain ⟨k, hk, rfl, rfl, hko, hks⟩ := hrel
    obtain ⟨ka, kc, rfl, hk1, hk2⟩ := ownsRow_slice hko
    unfold maxLen at hk2
    have HKO := hide hko
    have HKS := hide hks
    have hzk := hks.size
    have c1' := (hks.cell _ 1 (by omega)).trans c1
    have t1' := (hks.cell _ (t * 7 + 1) (by omega)).trans t1
    clear hko hks
    by_cases hlt : k < off.length
    · obtain ⟨gv, rfl, hgv⟩ := ownsRow_some (unhide HOW) (by omega)
      have hvw : wr.ownsRow 0 50 4 (.slice (some ⟨gv, 0, none⟩) off.length vc) off.length (off.flatMap routeCells) := ownsRow_of_block ((unhide HOW).mono (Nat.zero_le _)) (fun y hy => (unhide HKS).heap (ownsRow_lt (unhide HOW) hy))
      obtain ⟨x0, x1, x2, x3⟩ := routeCell hvw rfl hlt
      have hk0 : (0 : Int) ≤ (k : Int) := by omega
      have hkl : (k : Int) < (off.length : Int) := by omega
      have hgvw : gv < wr.heap.size := by omega
      have HTM := hide (fun hc : k < c => take_min_succ off hlt hc)
      clear hvw
      generalize off.getD k rt0 = x at *
      by_cases hc : k < c
      · have hmn : min k c = k := Nat.min_eq_left (by omega)
        have hmn1 : min (k + 1) c = k + 1 := Nat.min_eq_left (by omega)
        rw [hmn] at HKO ⊢
        have HT2 := unhide HTM hc
        rw [hmn, hmn1] at HT2
        have HT3 := hide HT2
        have M1 := hide hmn1
        have hqq : ((own.length + k : Nat) : Int) < (r.life t).quota := by omega
        clear HT2 hmn hmn1
        go_wp2_with (at_builtin; refine wpList_append_lies _ rfl _ _ _ rfl W1.heap.size 50 i0 _ 4 32 Tryz.underlying52 hi0 hz0 hz1 hz2 rfl (by omega) (.slice ka (own.length + k) kc) (own.length + k) _ rfl ((unhide HKO).alloc _) ⟨wr.heap.size, 0, none⟩ 1 1 [.int .i64 x.addr, .int .i64 x.len, .int .i64 x.hop, .int .i64 x.from_] rfl rfl (World.news_of_block (cs := #[.int .i64 x.addr, .int .i64 x.len, .int .i64 x.hop, .int .i64 x.from_]) (t := 50) (fr := (0, 0)) (heap_alloc_new wr _)) (by simp [Value.oneCell']) (by omega) (by unfold maxLen; omega) (by omega) (by simp; omega) (wr.heap.size + 1) (by simp) ?_; intro g4 cap4 w4 hown4 hgrow4 hat4 hlt4)
        have hks4 : Still W1 w4 := Kept.grown (Kept.alloc (unhide HKS) _) hgrow4 (fun z hz => .inr ((unhide HKO).lt z hz).1)
        go_roundw
        case rel =>
          refine ⟨k + 1, by omega, by go_num, by rw [unhide M1]; simp, ?_, hks4⟩
          rw [unhide M1, unhide HT3, ← List.append_assoc, flat_snoc]
          exact hown4
        case measure => simp [intOf]; omega
      · have hmn : min k c = c := Nat.min_eq_right (by omega)
        have hmn1 : min (k + 1) c = c := Nat.min_eq_right (by omega)
        rw [hmn] at HKO ⊢
        have M1 := hide hmn1
        have hqq : ¬ ((own.length + c : Nat) : Int) < (r.life t).quota := by omega
        have hkc : c ≤ k := by omega
        clear hmn hmn1
        have hdd : ((k - c : Nat) : Int) = (k : Int) - (c : Int) := by omega
        have HDD := hide hdd
        clear hdd
        have hkc0 : (0 : Int) ≤ ((k - c : Nat) : Int) := by omega
        have hkc1 : ((k - c : Nat) : Int) ≤ 1114112 := by omega
        generalize hkk : ((k - c : Nat) : Int) = dd at *
        have HKK := hide hkk
        clear hkk
        go_wp2
        go_roundw
        case rel =>
          refine ⟨k + 1, by omega, by go_num, ?_, ?_, unhide HKS⟩
          · rw [unhide M1]
            have h1 := unhide HDD
            have h2 : ((k + 1 - c : Nat) : Int) = dd + 1 := by omega
            rw [h2]
          · rw [unhide M1]; exact unhide HKO
        case measure => simp [intOf]; omega
    · obtain rfl : k = off.length := by omega
      have hL : (own ++ off.take (min off.length c)).length = own.length + min off.length c := by
        rw [List.length_append, List.length_take]
        omega
      have hta : off.take (min off.length c) = off.take c := by
        by_cases hh : c ≤ off.length
        · rw [Nat.min_eq_right hh]
        · rw [Nat.min_eq_left (by omega), List.take_of_length_le (Nat.le_refl _), List.take_of_length_le (by omega)]
      have hrow := (unhide HKO).mono (Nat.zero_le _)
      rw [← hL] at hrow
      have hlb : (own ++ off.take (min off.length c)).length ≤ 2000000 := by rw [hL]; omega
      have HSO := hide (sorted_any (v := .slice ka (own.length + min off.length c) kc) (l := own ++ off.take (min off.length c)) (by rw [hL] at hrow ⊢; exact hrow) hlb)
      have HLL := hide hL
      have HTA := hide hta
      clear hrow hL hta hlb
      go_wp2_with fail
      refine (unhide HSO).mono ?_
      rintro en w5 ⟨v5, rfl, hown5, hs5⟩
      obtain ⟨a5, cap5, rfl, _, _⟩ := ownsRow_slice hown5
      have hfin : w5.ownsRow w.heap.size 50 4 (.slice a5 (own ++ off.take (min off.length c)).length cap5) (tableR (r.life t) off).length ((tableR (r.life t) off).flatMap routeCells) := by
        have e1 : tableR (r.life t) off = sortR (own ++ off.take (min off.length c)) := by
          unfold tableR
          rw [unhide HOO, unhide HCC, unhide HTA]
        have e2 : (tableR (r.life t) off).length = (own ++ off.take (min off.length c)).length := by
          rw [e1]
          exact sortTo_len _ _ (Nat.le_refl _)
        rw [e2, e1]
        exact hown5.mono (by omega)
      have HFIN := hide hfin
      have HS5 : Hid (Still w w5) := Kept.trans (Kept.trans (unhide HS1) (unhide HKS)) hs5
      have HDR : Hid (droppedR (r.life t) off = ((off.length - min off.length c : Nat) : Int)) := by
        show droppedR (r.life t) off = _
        unfold droppedR
        rw [unhide HCC]
      clear hown5 hs5 hfin HSO
      go_wp2
      go_ret2
      exact ⟨off, .slice a5 (own ++ off.take (min off.length c)).length cap5, unhide HCH, hlo, by rw [unhide HDR, unhide HLL]; rfl, unhide HFIN, unhide HS5⟩
def refTablePost (w : World) (r : RefS) (n : Int) (en : Ending) (w' : World) : Prop :=
  (mayI r n 1 ≠ 0 ∧ en = .returned (.tuple #[.slice none 0 0, .int .i64 (mayI r n 1)]) ∧ Still w w') ∨
  (mayI r n 1 = 0 ∧ ∃ (off : List RouteD) (v : Value), Chain r (lifeOf r n) (nxAll r (lifeOf r n) rt0 true r.nl) off ∧ en = .returned (.tuple #[v, .int .i64 0]) ∧ w'.ownsRow w.heap.size 50 4 v (tableR (r.life (lifeOf r n)) off).length ((tableR (r.life (lifeOf r n)) off).flatMap routeCells) ∧ Still w w')
set_option maxRecDepth 100000 in
set_option maxHeartbeats 4000000 in
theorem refTable_any {w : World} {O : Nat → Nat × Nat × Nat} {e b : Nat} {r : RefS} (h : RefRep w O e b r) (hf : RefWf r) (htb : RefTab r) (n : Int) :
    Calls Tryz.prog 37 #[.pointer (some ⟨b, 0, none⟩), .int .i64 n] w fun en w' => refTablePost w r n en w' := by
  by_cases hm : mayI r n 1 = 0
  · obtain ⟨_, hn1, hn2⟩ := mayI_zero hm
    obtain ⟨k, rfl⟩ : ∃ k : Nat, n = (k : Int) + 1 := ⟨(n - 1).toNat, by omega⟩
    have hk : k < r.nt := by omega
    have hlf : lifeOf r ((k : Int) + 1) = (r.tok k).life := by unfold lifeOf; rw [show ((k : Int) + 1 - 1).toNat = k from by omega]
    have HLF := hide hlf
    have HM := hide hm
    have hnl := hf.life k hk
    have hn := hf.nt
    clear hm hlf
    obtain ⟨lv, tv, ov, rv, ln, ht⟩ := h
    obtain ⟨a, cap, rfl, h1, h2, h3⟩ := ht.toksAt
    obtain ⟨g, rfl⟩ := h3 k hk
    unfold maxLen at h2
    have HT := hide ht
    clear ht h3
    go_enter Tryz.func37, Tryz.ntmps37
    go_wp2_with fail
    refine (may_any ⟨_, _, _, _, _, unhide HT⟩ hf _ _ (by omega) (by omega)).mono ?_
    rintro en w1 ⟨rfl, hw⟩
    rw [unhide HM]
    have ht1 := (unhide HT).still hw
    obtain ⟨_, _, c2, _⟩ := ht1.cells
    have t0 : w1.cell? ⟨g, k * 4, none⟩ = some (.int .i64 ((r.tok k).life : Int)) := ht1.tokCell hk 0 (by omega)
    have HT1 := hide ht1
    have HW := hide hw
    have hz := hw.size
    clear ht1 hw
    go_wp2_with fail
    refine (whole_any ⟨_, _, _, _, _, unhide HT1⟩ hf htb _ hnl).mono ?_
    rintro en w2 ⟨off, v, hch, hlo, rfl, how, hs2⟩
    obtain ⟨va, vc, rfl, _, _⟩ := ownsRow_slice how
    have HF : Hid (refTablePost w r ((k : Int) + 1) (.returned (.tuple #[.slice va (tableR (r.life (r.tok k).life) off).length vc, .int .i64 0])) w2) := by
      refine Or.inr ⟨unhide HM, off, _, ?_, rfl, ?_, Kept.trans (unhide HW) hs2⟩
      · rw [unhide HLF]; exact hch
      · rw [unhide HLF]; exact how.mono hz
    clear hch how hs2
    generalize (tableR (r.life (r.tok k).life) off).length = tl at *
    generalize droppedR (r.life (r.tok k).life) off = dl at *
    go_wp2
    go_ret2
    exact unhide HF
  · have hc := mayI_cases r n 1
    have hne : (mayI r n 1 != 0) = true := by simpa using hm
    have HM := hide hm
    clear hm
    go_enter Tryz.func37, Tryz.ntmps37
    go_wp2_with fail
    refine (may_any h hf _ _ (by omega) (by omega)).mono ?_
    rintro en w1 ⟨rfl, hw⟩
    have HP : Hid (refTablePost w r n (.returned (.tuple #[.slice none 0 0, .int .i64 (mayI r n 1)])) w1) := Or.inl ⟨unhide HM, rfl, hw⟩
    clear hw
    generalize mayI r n 1 = x at *
    go_wp2
    go_ret2
    exact unhide HP
def refCountPost (w : World) (r : RefS) (n : Int) (en : Ending) (w' : World) : Prop :=
  (mayI r n 1 ≠ 0 ∧ en = .returned (.tuple #[.agg #[.int .i64 0, .int .i64 0, .int .i64 0, .int .i64 0], .int .i64 (mayI r n 1)]) ∧ Still w w') ∨
  (mayI r n 1 = 0 ∧ ∃ (off : List RouteD), Chain r (lifeOf r n) (nxAll r (lifeOf r n) rt0 true r.nl) off ∧ en = .returned (.tuple #[.agg #[.int .i64 ((r.life (lifeOf r n)).own.length : Int), .int .i64 (((tableR (r.life (lifeOf r n)) off).length : Int) - ((r.life (lifeOf r n)).own.length : Int)), .int .i64 (droppedR (r.life (lifeOf r n)) off), .int .i64 (r.life (lifeOf r n)).quota], .int .i64 0]) ∧ Still w w')
set_option maxRecDepth 100000 in
set_option maxHeartbeats 4000000 in
theorem refCount_any {w : World} {O : Nat → Nat × Nat × Nat} {e b : Nat} {r : RefS} (h : RefRep w O e b r) (hf : RefWf r) (htb : RefTab r) (n : Int) :
    Calls Tryz.prog 40 #[.pointer (some ⟨b, 0, none⟩), .int .i64 n] w fun en w' => refCountPost w r n en w' := by
  by_cases hm : mayI r n 1 = 0
  · obtain ⟨_, hn1, hn2⟩ := mayI_zero hm
    obtain ⟨k, rfl⟩ : ∃ k : Nat, n = (k : Int) + 1 := ⟨(n - 1).toNat, by omega⟩
    have hk : k < r.nt := by omega
    have hlf : lifeOf r ((k : Int) + 1) = (r.tok k).life := by unfold lifeOf; rw [show ((k : Int) + 1 - 1).toNat = k from by omega]
    have HLF := hide hlf
    have HM := hide hm
    have hnl := hf.life k hk
    have hn := hf.nt
    have hl := hf.nl
    have hqq := hf.quota _ hnl
    have hoo := htb.ownN _ hnl
    clear hm hlf
    obtain ⟨lv, tv, ov, rv, ln, ht⟩ := h
    have bl := ht.lt
    obtain ⟨a, cap, rfl, h1, h2, h3⟩ := ht.toksAt
    obtain ⟨g, rfl⟩ := h3 k hk
    obtain ⟨al, capl, rfl, h1', h2', h3'⟩ := ht.livesAt
    obtain ⟨gl, rfl⟩ := h3' _ hnl
    obtain ⟨oa, oc, oe, ol1, ol2⟩ := ownsRow_slice (ht.owns _ hnl)
    have OE := hide oe
    unfold maxLen at h2 h2' ol2
    have HT := hide ht
    clear ht h3 h3' oe
    go_enter Tryz.func40, Tryz.ntmps40
    go_wp2_with fail
    have hb0 : Box4 (w.alloc (.cells #[.int .i64 0, .int .i64 0, .int .i64 0, .int .i64 0] 89)) w.heap.size rt0 := Box4.new w rt0 _
    have hs0 : Still w (w.alloc (.cells #[.int .i64 0, .int .i64 0, .int .i64 0, .int .i64 0] 89)) := (Kept.refl _ _).alloc _
    refine (may_any ⟨_, _, _, _, _, (unhide HT).still hs0⟩ hf _ _ (by omega) (by omega)).mono ?_
    rintro en w1 ⟨rfl, hw⟩
    rw [unhide HM]
    have hw1 : Still w w1 := Kept.trans hs0 hw
    have ht1 := (unhide HT).still hw1
    obtain ⟨_, _, c2, _⟩ := ht1.cells
    have t0 : w1.cell? ⟨g, k * 4, none⟩ = some (.int .i64 ((r.tok k).life : Int)) := ht1.tokCell hk 0 (by omega)
    have HT1 := hide ht1
    have HW := hide hw1
    have HB1 := hide (hb0.still hw)
    clear ht1 hw hw1 hb0 hs0
    go_wp2_with fail
    refine (whole_any ⟨_, _, _, _, _, unhide HT1⟩ hf htb _ hnl).mono ?_
    rintro en w2 ⟨off, v, hch, hlo, rfl, how, hs2⟩
    obtain ⟨va, vc, rfl, _, _⟩ := ownsRow_slice how
    have ht2 := (unhide HT1).still hs2
    obtain ⟨_, d1, _, _⟩ := ht2.cells
    have u4 : w2.cell? ⟨gl, (r.tok k).life * 7 + 4, none⟩ = some (ov (r.tok k).life) := ht2.lifeCell hnl 4 (by omega)
    have u1 : w2.cell? ⟨gl, (r.tok k).life * 7 + 1, none⟩ = some (.int .i64 (r.life (r.tok k).life).quota) := ht2.lifeCell hnl 1 (by omega)
    rw [unhide OE] at u4
    have hbx := (unhide HB1).still hs2
    have m0 := hbx.c0
    have m1 := hbx.c1
    have m2 := hbx.c2
    have m3 := hbx.c3
    have mf := hbx.fz
    have htl := tableR_le (off := off) hqq.1 hqq.2 hoo
    have hll0 : (0 : Int) ≤ ((r.tok k).life : Int) := by omega
    have hll1 : ((r.tok k).life : Int) < (r.nl : Int) := by omega
    have BP := hide (hbx.put ⟨((r.life (r.tok k).life).own.length : Int), ((tableR (r.life (r.tok k).life) off).length : Int) - ((r.life (r.tok k).life).own.length : Int), droppedR (r.life (r.tok k).life) off, (r.life (r.tok k).life).quota⟩)
    have HCH := hide hch
    have HS2 : Hid (Still w w2) := Kept.trans (unhide HW) hs2
    have hs2z := hs2.size
    clear how hch hs2 ht2 hbx c2 t0
    generalize hse : w.heap.size = s0 at *
    have Hse := hide hse
    clear hse
    go_wp2
    have KP : Hid (Still w ((((w2.setCell ⟨s0, 0, none⟩ (.int .i64 ((r.life (r.tok k).life).own.length : Int))).setCell ⟨s0, 1, none⟩ (.int .i64 (((tableR (r.life (r.tok k).life) off).length : Int) - ((r.life (r.tok k).life).own.length : Int)))).setCell ⟨s0, 2, none⟩ (.int .i64 (droppedR (r.life (r.tok k).life) off))).setCell ⟨s0, 3, none⟩ (.int .i64 (r.life (r.tok k).life).quota))) := by
      have hh := unhide Hse
      exact Kept.setCell (Kept.setCell (Kept.setCell (Kept.setCell (unhide HS2) (.inr (by show w.heap.size ≤ s0; omega)) _) (.inr (by show w.heap.size ≤ s0; omega)) _) (.inr (by show w.heap.size ≤ s0; omega)) _) (.inr (by show w.heap.size ≤ s0; omega)) _
    have o0 := (unhide BP).c0
    have o1 := (unhide BP).c1
    have o2 := (unhide BP).c2
    have o3 := (unhide BP).c3
    refine bodyPost_ret (v := .tuple #[.agg #[.int .i64 ((r.life (r.tok k).life).own.length : Int), .int .i64 (((tableR (r.life (r.tok k).life) off).length : Int) - ((r.life (r.tok k).life).own.length : Int)), .int .i64 (droppedR (r.life (r.tok k).life) off), .int .i64 (r.life (r.tok k).life).quota], .int .i64 0]) ?_ rfl ?_
    · simp [results, Tryz.results40, go_sem, o0, o1, o2, o3]
    · exact Or.inr ⟨unhide HM, off, by rw [unhide HLF]; exact unhide HCH, by rw [unhide HLF], unhide KP⟩
  · have hc := mayI_cases r n 1
    have hne : (mayI r n 1 != 0) = true := by simpa using hm
    have HM := hide hm
    clear hm
    go_enter Tryz.func40, Tryz.ntmps40
    go_wp2_with fail
    have hb0 : Box4 (w.alloc (.cells #[.int .i64 0, .int .i64 0, .int .i64 0, .int .i64 0] 89)) w.heap.size rt0 := Box4.new w rt0 _
    have hs0 : Still w (w.alloc (.cells #[.int .i64 0, .int .i64 0, .int .i64 0, .int .i64 0] 89)) := (Kept.refl _ _).alloc _
    refine (may_any (h.still hs0) hf _ _ (by omega) (by omega)).mono ?_
    rintro en w1 ⟨rfl, hw⟩
    have hbx := hb0.still hw
    have m0 := hbx.c0
    have m1 := hbx.c1
    have m2 := hbx.c2
    have m3 := hbx.c3
    have mf := hbx.fz
    have HS1 : Hid (Still w w1) := Kept.trans hs0 hw
    have BP := hide (hbx.put rt0)
    clear hw hs0 hb0 hbx
    generalize hse : w.heap.size = s0 at *
    have Hse := hide hse
    clear hse
    generalize hx : mayI r n 1 = x at *
    have HX := hide hx
    clear hx
    go_wp2
    have KP : Hid (Still w ((((w1.setCell ⟨s0, 0, none⟩ (.int .i64 rt0.addr)).setCell ⟨s0, 1, none⟩ (.int .i64 rt0.len)).setCell ⟨s0, 2, none⟩ (.int .i64 rt0.hop)).setCell ⟨s0, 3, none⟩ (.int .i64 rt0.from_))) := by
      have hh := unhide Hse
      exact Kept.setCell (Kept.setCell (Kept.setCell (Kept.setCell (unhide HS1) (.inr (by show w.heap.size ≤ s0; omega)) _) (.inr (by show w.heap.size ≤ s0; omega)) _) (.inr (by show w.heap.size ≤ s0; omega)) _) (.inr (by show w.heap.size ≤ s0; omega)) _
    have o0 := (unhide BP).c0
    have o1 := (unhide BP).c1
    have o2 := (unhide BP).c2
    have o3 := (unhide BP).c3
    refine bodyPost_ret (v := .tuple #[.agg #[.int .i64 0, .int .i64 0, .int .i64 0, .int .i64 0], .int .i64 x]) ?_ rfl ?_
    · simp only [rt0] at o0 o1 o2 o3
      simp [results, Tryz.results40, go_sem, o0, o1, o2, o3]
    · exact Or.inl ⟨by rw [unhide HX]; exact unhide HM, by rw [unhide HX], unhide KP⟩
theorem betweenM (g : Int) (w : World) : Calls Tryz.prog 20 #[.int .i64 g, .int .i64 0, .int .i64 255] w fun e w' => e = .returned (.bool (okMask g)) ∧ w' = w := by
  by_cases h : 0 ≤ g ∧ g ≤ 255
  · have e1 : okMask g = true := by simp [okMask, h]
    rw [e1]
    exact between_yes _ _ _ _ h.1 h.2
  · have e1 : okMask g = false := by simp [okMask]; omega
    rw [e1]
    exact between_no _ _ _ _ (by omega)
set_option maxRecDepth 100000 in
set_option maxHeartbeats 4000000 in
theorem refShare_any {w : World} {O : Nat → Nat × Nat × Nat} {e b : Nat} {r : RefS} (h : RefRep w O e b r) (hf : RefWf r) (n gives takes : Int) :
    Calls Tryz.prog 34 #[.pointer (some ⟨b, 0, none⟩), .int .i64 n, .int .i64 gives, .int .i64 takes] w fun en w' =>
      en = .returned (.int .i64 (shareR r n gives takes)) ∧ RefRep w' O e b (sharedR r n gives takes) ∧ Kept (mineR O e) w w' := by
  by_cases hm : mayI r n 4 = 0
  · have e1 : shareR r n gives takes = if (okMask gives && okMask takes) = true then 0 else 2 := by unfold shareR; rw [if_pos hm]
    obtain ⟨_, hn1, hn2⟩ := mayI_zero hm
    obtain ⟨k, rfl⟩ : ∃ k : Nat, n = (k : Int) + 1 := ⟨(n - 1).toNat, by omega⟩
    have hk : k < r.nt := by omega
    have hlf : lifeOf r ((k : Int) + 1) = (r.tok k).life := by unfold lifeOf; rw [show ((k : Int) + 1 - 1).toNat = k from by omega]
    have hnl := hf.life k hk
    have hn := hf.nt
    have hl := hf.nl
    have HM := hide hm
    obtain ⟨lv, tv, ov, rv, ln, ht⟩ := h
    have bl := ht.lt
    obtain ⟨a, cap, rfl, h1, h2, h3⟩ := ht.toksAt
    obtain ⟨g, rfl⟩ := h3 k hk
    obtain ⟨al, capl, rfl, h1', h2', h3'⟩ := ht.livesAt
    obtain ⟨gl, rfl⟩ := h3' _ hnl
    unfold maxLen at h2 h2'
    have hgb : gl ≠ b := tag_ne (ht.ltag gl rfl) ht.btag (by simp)
    have hbg : b ≠ gl := Ne.symm hgb
    have HT := hide ht
    clear ht h3 h3' hm
    by_cases hok : (okMask gives && okMask takes) = true
    · rw [if_pos hok] at e1
      have e2 : sharedR r ((k : Int) + 1) gives takes = shareS r (r.tok k).life gives takes := by unfold sharedR; rw [if_pos e1, hlf]
      rw [e1, e2]
      rw [Bool.and_eq_true] at hok
      obtain ⟨hg1, hg2⟩ := hok
      have HG1 := hide hg1
      have HG2 := hide hg2
      clear e1 e2 hlf hg1 hg2
      go_enter Tryz.func34, Tryz.ntmps34
      go_wp2_with fail
      refine (may_any ⟨_, _, _, _, _, unhide HT⟩ hf _ _ (by omega) (by omega)).mono ?_
      rintro en w1 ⟨rfl, hw⟩
      rw [unhide HM]
      have ht1 := (unhide HT).still hw
      obtain ⟨_, c1, c2, _⟩ := ht1.cells
      have t0 : w1.cell? ⟨g, k * 4, none⟩ = some (.int .i64 ((r.tok k).life : Int)) := ht1.tokCell hk 0 (by omega)
      have u2 : w1.cell? ⟨gl, (r.tok k).life * 7 + 2, none⟩ = some (.int .i64 (r.life (r.tok k).life).gives) := ht1.lifeCell hnl 2 (by omega)
      have u3 : w1.cell? ⟨gl, (r.tok k).life * 7 + 3, none⟩ = some (.int .i64 (r.life (r.tok k).life).takes) := ht1.lifeCell hnl 3 (by omega)
      have f2 : w1.frozen? ⟨gl, (r.tok k).life * 7 + 2, none⟩ = false := ht1.lives.frozenAt _
      have f3 : w1.frozen? ⟨gl, (r.tok k).life * 7 + 3, none⟩ = false := ht1.lives.frozenAt _
      have HT1 := hide ht1
      have HW := hide hw
      clear ht1 hw
      go_wp2_with fail
      refine (betweenM _ _).mono ?_
      rintro en w2 ⟨rfl, hw⟩
      replace hw := hw.symm
      subst hw
      rw [unhide HG1]
      go_wp2_with fail
      refine (betweenM _ _).mono ?_
      rintro en w2 ⟨rfl, hw⟩
      replace hw := hw.symm
      subst hw
      rw [unhide HG2]
      go_wp2
      go_ret
      refine ⟨rfl, ?_, ?_⟩
      · have k1 := (unhide HT1).setLife (j := 2) (u := .int .i64 gives) hnl (by omega) { r.life (r.tok k).life with gives := gives } rfl rfl rfl
        have k2 := k1.setLife (i := (r.tok k).life) (j := 3) (u := .int .i64 takes) hnl (by omega) { r.life (r.tok k).life with gives := gives, takes := takes } (by simp only [upd_same]) (by simp only [upd_same]) (by simp only [upd_same]; rfl)
        simp only [upd_upd] at k2
        exact ⟨_, _, _, _, _, k2⟩
      · have hm : mineR O e gl := by unfold mineR; rw [(unhide HT1).ltag gl rfl]; simp
        exact Kept.trans (Still.kept (unhide HW) _) (((Kept.refl _ _).setCell (.inl hm) _).setCell (.inl hm) _)
    · rw [if_neg hok] at e1
      have e2 : sharedR r ((k : Int) + 1) gives takes = r := by unfold sharedR; rw [e1]; rfl
      rw [e1, e2]
      have HOK : Hid ((okMask gives && okMask takes) = false) := by show _ = _; simpa using hok
      clear e1 e2 hlf hok
      go_enter Tryz.func34, Tryz.ntmps34
      go_wp2_with fail
      refine (may_any ⟨_, _, _, _, _, unhide HT⟩ hf _ _ (by omega) (by omega)).mono ?_
      rintro en w1 ⟨rfl, hw⟩
      rw [unhide HM]
      have HW := hide hw
      clear hw
      go_wp2_with fail
      refine (betweenM _ _).mono ?_
      rintro en w2 ⟨rfl, hw⟩
      replace hw := hw.symm
      subst hw
      cases hg1 : okMask gives with
      | false =>
        clear hg1
        go_wp2_with fail
        refine (betweenM _ _).mono ?_
        rintro en w2 ⟨rfl, hw⟩
        replace hw := hw.symm
        subst hw
        generalize okMask takes = tk at *
        go_wp2
        go_ret
        exact ⟨rfl, ⟨_, _, _, _, _, (unhide HT).still (unhide HW)⟩, Still.kept (unhide HW) _⟩
      | true =>
        have hg2 : okMask takes = false := by
          have := unhide HOK
          rw [hg1] at this
          simpa using this
        have HG2 := hide hg2
        clear hg1 hg2
        go_wp2_with fail
        refine (betweenM _ _).mono ?_
        rintro en w2 ⟨rfl, hw⟩
        replace hw := hw.symm
        subst hw
        rw [unhide HG2]
        go_wp2
        go_ret
        exact ⟨rfl, ⟨_, _, _, _, _, (unhide HT).still (unhide HW)⟩, Still.kept (unhide HW) _⟩
  · have e1 : shareR r n gives takes = mayI r n 4 := by unfold shareR; rw [if_neg hm]
    have e2 : sharedR r n gives takes = r := by unfold sharedR; rw [e1, if_neg hm]
    rw [e1, e2]
    have hc := mayI_cases r n 4
    have hne : (mayI r n 4 != 0) = true := by simpa using hm
    clear e1 hm e2
    go_enter Tryz.func34, Tryz.ntmps34
    go_wp2_with fail
    refine (may_any h hf _ _ (by omega) (by omega)).mono ?_
    rintro en w1 ⟨rfl, hw⟩
    have h1 := h.still hw
    generalize hx : mayI r n 4 = x at *
    have Hx := hide hx
    clear hx
    go_wp2
    go_ret
    exact ⟨ret_int (unhide Hx).symm, h1, Still.kept hw _⟩
end Go.Proofs.YtgndledehlilkaaGreat
