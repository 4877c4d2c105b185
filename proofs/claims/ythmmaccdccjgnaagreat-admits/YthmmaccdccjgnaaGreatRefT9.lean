/-
  Walks: districtref: Whole.
-/
import Derived.Test.YthmmaccdccjgnaaGreatPure
import Derived.Test.YthmmaccdccjgnaaGreatRefT8
namespace Go.Proofs.YthmmaccdccjgnaaGreat
open Go.RowKit
set_option maxRecDepth 100000 in
set_option maxHeartbeats 8000000 in
theorem whole_any {w : World} {O : Nat → Nat × Nat × Nat} {e b : Nat} {r : RefS} (h : RefRep w O e b r) (hf : RefWf r) (htb : RefTab r) (t : Nat) (ht : t < r.nl) :
    Calls Tryz.prog 69 #[.pointer (some ⟨b, 0, none⟩), .int .i64 t] w fun en w' => ∃ (off : List RouteD) (v : Value), Chain r t (nxAll r t rt0 true r.nl) off ∧ off.length ≤ 1114112 ∧ en = .returned (.tuple #[v, .int .i64 (droppedR (r.life t) off)]) ∧ w'.ownsRow w.heap.size 50 4 v (tableR (r.life t) off).length ((tableR (r.life t) off).flatMap routeCells) ∧ Still w w' := by
  have hown := htb.ownN t ht
  have hqt := hf.quota t ht
  have hn := hf.nt
  have hl := hf.nl
  obtain ⟨lv, tv, ov, rv, ln, h⟩ := h
  obtain ⟨al, cap, rfl, h1, h2, h3⟩ := h.livesAt
  obtain ⟨g, rfl⟩ := h3 t ht
  have hgl : g < w.heap.size := ownsRow_lt h.lives rfl
  have bl := h.lt
  unfold maxLen at h2
  have HT := hide h
  obtain ⟨oa, oc, oe, ol1, ol2⟩ := ownsRow_slice (h.owns t ht)
  have OE := hide oe
  have ht0 : (0 : Int) ≤ (t : Int) := by omega
  have ht1 : (t : Int) < (r.nl : Int) := by omega
  unfold maxLen at ol2
  clear h h3 oe
  have HF := hide hf
  have HTB := hide htb
  clear hf htb
  obtain ⟨i0, hi0, hz0, hz1, hz2⟩ := info_parts infoRoute
  go_enter Tryz.func69, Tryz.ntmps69
  go_wp2_with fail
  refine (offered_any ⟨_, _, _, _, _, unhide HT⟩ (unhide HF) (unhide HTB) t ht).mono ?_
  rintro en W1 ⟨off, v, hch, hlo, rfl, how, hs1⟩
  have ht1' := (unhide HT).still hs1
  obtain ⟨_, c1, _, _⟩ := ht1'.cells
  have t4 : W1.cell? ⟨g, t * 7 + 4, none⟩ = some (ov t) := ht1'.lifeCell ht 4 (by omega)
  have t1 : W1.cell? ⟨g, t * 7 + 1, none⟩ = some (.int .i64 (r.life t).quota) := ht1'.lifeCell ht 1 (by omega)
  have hro := ht1'.owns t ht
  rw [unhide OE] at t4 hro
  obtain ⟨va, vc, rfl, hv1, hv2⟩ := ownsRow_slice how
  unfold maxLen at hv2
  have HCH := hide hch
  have HOW := hide how
  have HRO := hide hro
  have HS1 := hide hs1
  have hz1' := hs1.size
  clear ht1' hch how hro hs1
  have hol : (r.life t).own.length ≤ 64 := by omega
  go_wp2_with (at_builtin; refine wpList_append_owned rfl _ _ _ rfl W1.heap.size 50 i0 _ 4 32 Tryz.underlying52 hi0 hz0 hz1 hz2 rfl (by omega) (.slice none 0 0) 0 [] rfl (World.ownsRow_nil _ _ _ _) (.slice oa (r.life t).own.length oc) (r.life t).own.length _ rfl (unhide HRO) (routeCells_one _) (by unfold maxLen; omega) (by omega) (by omega) _ rfl ?_; intro v2 w2 hown2 hgrow2 hat2; rw [Nat.zero_add, List.nil_append] at hown2; obtain ⟨a2, cap2, ev2, hv21, hv22⟩ := ownsRow_slice hown2; subst ev2)
  have hs2 : Still W1 w2 := Kept.grown (Kept.refl _ _) hgrow2 (fun y hy => by simp [Value.ownBlock] at hy)
  have HS2 := hide hs2
  have HO2 := hide hown2
  clear hgrow2 hat2 hown2 hs2 hv21 hv22
  have hsp : ((r.life t).own.length : Int) + (spare (r.life t) : Int) = (r.life t).quota := by unfold spare; omega
  generalize hcc : spare (r.life t) = c at *
  have HCC := hide hcc
  clear hcc
  generalize hoo : (r.life t).own = own at *
  have HOO := hide hoo
  clear hoo
  go_loopw [7, 8, 9] (fun o d i w' => ∃ k : Nat, k ≤ off.length ∧ i = .int .i64 k ∧ d = .int .i64 ((k - min k c : Nat) : Int) ∧ w'.ownsRow W1.heap.size 50 4 o (own.length + min k c) ((own ++ off.take (min k c)).flatMap routeCells) ∧ Still W1 w') (fun _ _ i _ => off.length - (intOf i).toNat)
  case atStart => exact ⟨0, Nat.zero_le _, rfl, by simp, by simpa using unhide HO2, unhide HS2⟩
  case round =>
    obtain ⟨k, hk, rfl, rfl, hko, hks⟩ := hrel
    obtain ⟨ka, kc, rfl, hk1, hk2⟩ := ownsRow_slice hko
    unfold maxLen at hk2
    have HKO := hide hko
    have HKS := hide hks
    have hzk := hks.size
    have c1' := (hks.cell _ 1 (by omega)).trans c1
    have t1' := (hks.cell _ (t * 7 + 1) (by omega)).trans t1
    clear hko hks
    by_cases hlt : k < off.length
    · obtain ⟨gv, rfl, hgv⟩ := ownsRow_some (unhide HOW) (by omega)
      have hvw : wr.ownsRow 0 50 4 (.slice (some ⟨gv, 0, none⟩) off.length vc) off.length (off.flatMap routeCells) := ownsRow_of_block ((unhide HOW).mono (Nat.zero_le _)) (fun y hy => (unhide HKS).heap (ownsRow_lt (unhide HOW) hy))
      obtain ⟨x0, x1, x2, x3⟩ := routeCell hvw rfl hlt
      have hk0 : (0 : Int) ≤ (k : Int) := by omega
      have hkl : (k : Int) < (off.length : Int) := by omega
      have hgvw : gv < wr.heap.size := by omega
      have HTM := hide (fun hc : k < c => take_min_succ off hlt hc)
      clear hvw
      generalize off.getD k rt0 = x at *
      by_cases hc : k < c
      · have hmn : min k c = k := Nat.min_eq_left (by omega)
        have hmn1 : min (k + 1) c = k + 1 := Nat.min_eq_left (by omega)
        rw [hmn] at HKO ⊢
        have HT2 := unhide HTM hc
        rw [hmn, hmn1] at HT2
        have HT3 := hide HT2
        have M1 := hide hmn1
        have hqq : ((own.length + k : Nat) : Int) < (r.life t).quota := by omega
        clear HT2 hmn hmn1
        go_wp2_with (at_builtin; refine wpList_append_lies _ rfl _ _ _ rfl W1.heap.size 50 i0 _ 4 32 Tryz.underlying52 hi0 hz0 hz1 hz2 rfl (by omega) (.slice ka (own.length + k) kc) (own.length + k) _ rfl ((unhide HKO).alloc _) ⟨wr.heap.size, 0, none⟩ 1 1 [.int .i64 x.addr, .int .i64 x.len, .int .i64 x.hop, .int .i64 x.from_] rfl rfl (World.news_of_block (cs := #[.int .i64 x.addr, .int .i64 x.len, .int .i64 x.hop, .int .i64 x.from_]) (t := 50) (fr := (0, 0)) (heap_alloc_new wr _)) (by simp [Value.oneCell']) (by omega) (by unfold maxLen; omega) (by omega) (by simp; omega) (wr.heap.size + 1) (by simp) ?_; intro g4 cap4 w4 hown4 hgrow4 hat4 hlt4)
        have hks4 : Still W1 w4 := Kept.grown (Kept.alloc (unhide HKS) _) hgrow4 (fun z hz => .inr ((unhide HKO).lt z hz).1)
        go_roundw
        case rel =>
          refine ⟨k + 1, by omega, by go_num, by rw [unhide M1]; simp, ?_, hks4⟩
          rw [unhide M1, unhide HT3, ← List.append_assoc, flat_snoc]
          exact hown4
        case measure => simp [intOf]; omega
      · have hmn : min k c = c := Nat.min_eq_right (by omega)
        have hmn1 : min (k + 1) c = c := Nat.min_eq_right (by omega)
        rw [hmn] at HKO ⊢
        have M1 := hide hmn1
        have hqq : ¬ ((own.length + c : Nat) : Int) < (r.life t).quota := by omega
        have hkc : c ≤ k := by omega
        clear hmn hmn1
        have hdd : ((k - c : Nat) : Int) = (k : Int) - (c : Int) := by omega
        have HDD := hide hdd
        clear hdd
        have hkc0 : (0 : Int) ≤ ((k - c : Nat) : Int) := by omega
        have hkc1 : ((k - c : Nat) : Int) ≤ 1114112 := by omega
        generalize hkk : ((k - c : Nat) : Int) = dd at *
        have HKK := hide hkk
        clear hkk
        go_wp2
        go_roundw
        case rel =>
          refine ⟨k + 1, by omega, by go_num, ?_, ?_, unhide HKS⟩
          · rw [unhide M1]
            have h1 := unhide HDD
            have h2 : ((k + 1 - c : Nat) : Int) = dd + 1 := by omega
            rw [h2]
          · rw [unhide M1]; exact unhide HKO
        case measure => simp [intOf]; omega
    · obtain rfl : k = off.length := by omega
      have hL : (own ++ off.take (min off.length c)).length = own.length + min off.length c := by
        rw [List.length_append, List.length_take]
        omega
      have hta : off.take (min off.length c) = off.take c := by
        by_cases hh : c ≤ off.length
        · rw [Nat.min_eq_right hh]
        · rw [Nat.min_eq_left (by omega), List.take_of_length_le (Nat.le_refl _), List.take_of_length_le (by omega)]
      have hrow := (unhide HKO).mono (Nat.zero_le _)
      rw [← hL] at hrow
      have hlb : (own ++ off.take (min off.length c)).length ≤ 2000000 := by rw [hL]; omega
      have HSO := hide (sorted_any (v := .slice ka (own.length + min off.length c) kc) (l := own ++ off.take (min off.length c)) (by rw [hL] at hrow ⊢; exact hrow) hlb)
      have HLL := hide hL
      have HTA := hide hta
      clear hrow hL hta hlb
      go_wp2_with fail
      refine (unhide HSO).mono ?_
      rintro en w5 ⟨v5, rfl, hown5, hs5⟩
      obtain ⟨a5, cap5, rfl, _, _⟩ := ownsRow_slice hown5
      have hfin : w5.ownsRow w.heap.size 50 4 (.slice a5 (own ++ off.take (min off.length c)).length cap5) (tableR (r.life t) off).length ((tableR (r.life t) off).flatMap routeCells) := by
        have e1 : tableR (r.life t) off = sortR (own ++ off.take (min off.length c)) := by
          unfold tableR
          rw [unhide HOO, unhide HCC, unhide HTA]
        have e2 : (tableR (r.life t) off).length = (own ++ off.take (min off.length c)).length := by
          rw [e1]
          exact sortTo_len _ _ (Nat.le_refl _)
        rw [e2, e1]
        exact hown5.mono (by omega)
      have HFIN := hide hfin
      have HS5 : Hid (Still w w5) := Kept.trans (Kept.trans (unhide HS1) (unhide HKS)) hs5
      have HDR : Hid (droppedR (r.life t) off = ((off.length - min off.length c : Nat) : Int)) := by
        show droppedR (r.life t) off = _
        unfold droppedR
        rw [unhide HCC]
      clear hown5 hs5 hfin HSO
      go_wp2
      go_ret2
      exact ⟨off, .slice a5 (own ++ off.take (min off.length c)).length cap5, unhide HCH, hlo, by rw [unhide HDR, unhide HLL]; rfl, unhide HFIN, unhide HS5⟩
end Go.Proofs.YthmmaccdccjgnaaGreat
