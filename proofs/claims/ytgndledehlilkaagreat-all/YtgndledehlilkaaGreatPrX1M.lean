import Derived.Test.YtgndledehlilkaaGreatDoP
import Derived.Laws.BitsLemmas
import Derived.Test.YtgndledehlilkaaGreatAppend
import Derived.Test.YtgndledehlilkaaGreatRulesIn
import Derived.Deep.RegionHeld3
namespace Go.Proofs.YtgndledehlilkaaGreat
open Go.RowKit

theorem wrap_u8i {x : Int} (h0 : 0 ≤ x) (h1 : x ≤ 255) : IntKind.i64.wrap x = x := by
  unfold IntKind.wrap; simp [IntKind.bits, IntKind.signed]; omega
set_option maxHeartbeats 400000 in
theorem byte_any {w : World} {a : Option Addr} {n c : Nat} {S : List Int} (h : BytesIn w (.slice a n c) S) (k : Int) (hk : 0 ≤ k) (hk2 : k ≤ 1000000) :
    Calls Tryz.prog 78 #[.slice a n c, .int .i64 k] w fun en w' => en = .returned (.int .i64 (fB S k.toNat)) ∧ w' = w := by
  obtain ⟨a', c', e, hl⟩ := h.slice
  simp only [Value.slice.injEq] at e
  obtain ⟨rfl, rfl, rfl⟩ := e
  obtain ⟨b0, b1⟩ := fB_ok h.1 k.toNat
  by_cases hlt : k < S.length
  · obtain ⟨bs, off, rfl, _, hc⟩ := h.at (k := k.toNat) (by omega)
    have hw := wrap_u8i b0 b1
    clear h
    generalize fB S k.toNat = x at *
    go_enter Tryz.func78, Tryz.ntmps78
    go_wp2
    go_ret
    exact ⟨rfl, rfl⟩
  · have e0 : fB S k.toNat = 0 := fB_out (by omega)
    rw [e0]
    clear h e0 b0 b1
    go_enter Tryz.func78, Tryz.ntmps78
    go_wp2
    go_ret
    exact ⟨rfl, rfl⟩

theorem i64_or8 {x y : Int} (hx0 : 0 ≤ x) (hx1 : x ≤ 255) (hy0 : 0 ≤ y) (hy1 : y ≤ 255) : bits .or .i64 (x * 256) y = 256 * x + y := by
  rw [bits_join .i64 63 (by decide) (fun n h0 h1 => by rw [IntKind.wrap_i64]; omega) 8 (x * 256) y (by omega) (by omega) (by omega) (by omega) (by omega) (by omega)]
  omega
set_option maxHeartbeats 400000 in
theorem word_any {w : World} {a : Option Addr} {n c : Nat} {S : List Int} (h : BytesIn w (.slice a n c) S) (k : Int) (hk : 0 ≤ k) (hk2 : k ≤ 100000) :
    Calls Tryz.prog 112 #[.slice a n c, .int .i64 k] w fun en w' => en = .returned (.int .i64 (fW S k.toNat)) ∧ w' = w := by
  have H := hide h
  obtain ⟨b0, b1⟩ := fB_ok h.1 k.toNat
  obtain ⟨b2, b3⟩ := fB_ok h.1 (k.toNat + 1)
  have e1 : fW S k.toNat = 256 * fB S k.toNat + fB S (k.toNat + 1) := rfl
  have e2 : (k + 1).toNat = k.toNat + 1 := by omega
  have ho := i64_or8 b0 b1 b2 b3
  rw [e1]
  clear h e1
  go_enter Tryz.func112, Tryz.ntmps112
  go_wp2_with (go_at_call 78; refine (byte_any (unhide H) _ (by omega) (by omega)).mono ?_; rintro e w' ⟨rfl, hw⟩; replace hw := hw.symm; subst hw)
  go_ret
  exact ⟨rfl, rfl⟩
set_option maxHeartbeats 400000 in
theorem flag_any {w : World} {a : Option Addr} {n c : Nat} {S : List Int} (h : BytesIn w (.slice a n c) S) (k : Int) (hk : 0 ≤ k) (hk2 : k ≤ 100000) :
    Calls Tryz.prog 115 #[.slice a n c, .int .i64 k] w fun en w' => en = .returned (.bool (fB S k.toNat == 1)) ∧ w' = w := by
  have H := hide h
  clear h
  go_enter Tryz.func115, Tryz.ntmps115
  go_wp2_with (go_at_call 78; refine (byte_any (unhide H) _ (by omega) (by omega)).mono ?_; rintro e w' ⟨rfl, hw⟩; replace hw := hw.symm; subst hw)
  go_ret
  exact ⟨rfl, rfl⟩
set_option maxHeartbeats 1000000 in
theorem size_any {w : World} {a : Option Addr} {n c : Nat} {S : List Int} (h : BytesIn w (.slice a n c) S) :
    Calls Tryz.prog 109 #[.slice a n c] w fun en w' => en = .returned (.int .i64 (sizeB S)) ∧ w' = w := by
  have H := hide h
  obtain ⟨b0, b1⟩ := fB_ok h.1 3
  clear h
  unfold sizeB
  have hx : ∃ x, fB S 0 = x := ⟨_, rfl⟩
  obtain ⟨x, hx⟩ := hx
  rw [hx]
  rcases (by omega : x = 1 ∨ x = 2 ∨ x = 3 ∨ x = 4 ∨ x = 5 ∨ x = 6 ∨ x = 7 ∨ x = 8 ∨ x = 9 ∨ x = 10 ∨ x = 11 ∨ x = 12 ∨ (x ≠ 1 ∧ x ≠ 2 ∧ x ≠ 3 ∧ x ≠ 4 ∧ x ≠ 5 ∧ x ≠ 6 ∧ x ≠ 7 ∧ x ≠ 8 ∧ x ≠ 9 ∧ x ≠ 10 ∧ x ≠ 11 ∧ x ≠ 12)) with rfl | rfl | rfl | rfl | rfl | rfl | rfl | rfl | rfl | rfl | rfl | rfl | ⟨n1, n2, n3, n4, n5, n6, n7, n8, n9, n10, n11, n12⟩
  case inr.inr.inr.inr.inr.inr.inr.inr.inr.inr.inr.inr =>
    rw [if_neg (by omega), if_neg (by omega), if_neg (by omega), if_neg (by omega), if_neg (by omega), if_neg (by omega), if_neg (by omega)]
    rw [← beq_eq_false_iff_ne] at n1 n2 n3 n4 n5 n6 n7 n8 n9 n10 n11 n12
    go_enter Tryz.func109, Tryz.ntmps109
    go_wp2_with (go_at_call 78; refine (byte_any (unhide H) _ (by omega) (by omega)).mono ?_; rintro e w' ⟨rfl, hw⟩; replace hw := hw.symm; subst hw)
    go_ret
    exact ⟨rfl, rfl⟩
  all_goals
    simp only [Int.reduceEq, or_true, or_false, if_true, if_false, or_self]
    go_enter Tryz.func109, Tryz.ntmps109
    go_wp2_with (go_at_call 78; refine (byte_any (unhide H) _ (by omega) (by omega)).mono ?_; rintro e w' ⟨rfl, hw⟩; replace hw := hw.symm; subst hw)
    go_ret
    exact ⟨rfl, rfl⟩
set_option maxHeartbeats 1000000 in
theorem flagsFit_any {w : World} {a : Option Addr} {n c : Nat} {S : List Int} (h : BytesIn w (.slice a n c) S) :
    Calls Tryz.prog 110 #[.slice a n c] w fun en w' => en = .returned (.bool (flagsB S)) ∧ w' = w := by
  have H := hide h
  obtain ⟨b0, b1⟩ := fB_ok h.1 3
  clear h
  unfold flagsB
  by_cases h10 : fB S 0 = 10
  · rw [if_pos h10]
    go_enter Tryz.func110, Tryz.ntmps110
    go_wp2_with (go_at_call 78; refine (byte_any (unhide H) _ (by omega) (by omega)).mono ?_; rintro e w' ⟨rfl, hw⟩; replace hw := hw.symm; subst hw)
    go_ret
    exact ⟨rfl, rfl⟩
  · rw [if_neg h10]
    by_cases h8 : fB S 0 = 8
    · rw [if_pos h8]
      clear h10
      obtain ⟨N3, hN3⟩ : ∃ m : Nat, fB S 3 = (m : Int) := ⟨(fB S 3).toNat, by omega⟩
      rw [hN3] at b0 b1
      have e3 : (fB S 3).toNat = N3 := by omega
      rw [e3]
      clear e3
      go_enter Tryz.func110, Tryz.ntmps110
      go_wp2_with (go_at_call 78; refine (byte_any (unhide H) _ (by omega) (by omega)).mono ?_; rintro e w' ⟨rfl, hw⟩; replace hw := hw.symm; subst hw)
      go_loopw [3] (fun t w' => ∃ i : Nat, i ≤ N3 ∧ t = .int .i64 i ∧ flagsTo S i = true ∧ w' = w) (fun t _ => N3 - (intOf t).toNat)
      case atStart => exact ⟨0, Nat.zero_le _, rfl, flagsTo_zero S, rfl⟩
      case round =>
        obtain ⟨i, hi, rfl, hf, rfl⟩ := hrel
        have HF := hide hf
        clear hf
        by_cases hlt : i < N3
        · have hsu := hide (flagsTo_succ S i)
          have ek : (4 + 6 * (i : Int)).toNat = 4 + 6 * i := by omega
          by_cases hy : fB S (4 + 6 * i) ≤ 1
          · have HY := hide hy
            go_wp2_with (go_at_call 78; refine (byte_any (unhide H) _ (by omega) (by omega)).mono ?_; rintro e w' ⟨rfl, hw⟩; replace hw := hw.symm; subst hw)
            go_roundw
            case rel => exact ⟨i + 1, by omega, by go_num, by rw [unhide hsu, unhide HF, decide_eq_true (unhide HY)]; rfl, trivial⟩
            case measure => simp [intOf]; omega
          · have hfin : flagsTo S N3 = false := flagsTo_mono (k := i + 1) (by omega) (by rw [unhide hsu, unhide HF, decide_eq_false hy]; rfl)
            have HFI := hide hfin
            clear hfin
            go_wp2_with (go_at_call 78; refine (byte_any (unhide H) _ (by omega) (by omega)).mono ?_; rintro e w' ⟨rfl, hw⟩; replace hw := hw.symm; subst hw)
            go_ret
            exact ⟨by rw [unhide HFI]; rfl, rfl⟩
        · obtain rfl : i = N3 := by omega
          go_wp2_with (go_at_call 78; refine (byte_any (unhide H) _ (by omega) (by omega)).mono ?_; rintro e w' ⟨rfl, hw⟩; replace hw := hw.symm; subst hw)
          go_ret
          exact ⟨by rw [unhide HF]; rfl, rfl⟩
    · rw [if_neg h8]
      rw [← ne_eq, ← beq_eq_false_iff_ne] at h8 h10
      go_enter Tryz.func110, Tryz.ntmps110
      go_wp2_with (go_at_call 78; refine (byte_any (unhide H) _ (by omega) (by omega)).mono ?_; rintro e w' ⟨rfl, hw⟩; replace hw := hw.symm; subst hw)
      go_ret
      exact ⟨rfl, rfl⟩
set_option maxHeartbeats 400000 in
theorem isRequest_any {w : World} {a : Option Addr} {n c : Nat} {S : List Int} (h : BytesIn w (.slice a n c) S) :
    Calls Tryz.prog 76 #[.slice a n c] w fun en w' => en = .returned (.bool (isReq S)) ∧ w' = w := by
  obtain ⟨a', c', e, hl⟩ := h.slice
  simp only [Value.slice.injEq] at e
  obtain ⟨rfl, rfl, rfl⟩ := e
  have er : isReq S = (((S.length : Int) == sizeB S) && flagsB S) := rfl
  rw [er]
  have HS := hide (size_any h)
  have HF := hide (flagsFit_any h)
  clear er h
  generalize sizeB S = z at *
  generalize flagsB S = fl at *
  cases hq : ((S.length : Int) == z)
  all_goals
    go_enter Tryz.func76, Tryz.ntmps76
    go_wp2_with fail
    refine (unhide HS).mono ?_
    rintro en w1 ⟨rfl, hw⟩
    replace hw := hw.symm
    subst hw
    go_wp2_with (go_at_call 110; refine (unhide HF).mono ?_; rintro e w' ⟨rfl, hw⟩; replace hw := hw.symm; subst hw)
    go_ret
    exact ⟨rfl, rfl⟩

set_option maxHeartbeats 1000000 in
theorem rule_any {w : World} {a : Option Addr} {n c : Nat} {S : List Int} (h : BytesIn w (.slice a n c) S) (k : Int) (hk : 0 ≤ k) (hk2 : k ≤ 10000) :
    Calls Tryz.prog 130 #[.slice a n c, .int .i64 k] w fun en w' => en = .returned (.agg #[.bool (ruleW S k.toNat).allow, .int .i64 (ruleW S k.toNat).addr, .int .i64 (ruleW S k.toNat).len, .int .i64 (ruleW S k.toNat).ge, .int .i64 (ruleW S k.toNat).le]) ∧ Still w w' := by
  have hs : Still w (w.alloc (.cells #[.bool false, .int .i64 0, .int .i64 0, .int .i64 0, .int .i64 0] 55)) := (Kept.refl _ _).alloc _
  have H := hide (h.still hs)
  have e1 : (k + 1).toNat = k.toNat + 1 := by omega
  have e3 : (k + 3).toNat = k.toNat + 3 := by omega
  have e4 : (k + 4).toNat = k.toNat + 4 := by omega
  have e5 : (k + 5).toNat = k.toNat + 5 := by omega
  unfold ruleW
  clear h hs
  go_enter Tryz.func130, Tryz.ntmps130
  go_wp2_with (first | (go_at_call 78; refine (byte_any (unhide H) _ (by omega) (by omega)).mono ?_; rintro e w' ⟨rfl, hw⟩; replace hw := hw.symm; subst hw) | (go_at_call 112; refine (word_any (unhide H) _ (by omega) (by omega)).mono ?_; rintro e w' ⟨rfl, hw⟩; replace hw := hw.symm; subst hw) | (go_at_call 115; refine (flag_any (unhide H) _ (by omega) (by omega)).mono ?_; rintro e w' ⟨rfl, hw⟩; replace hw := hw.symm; subst hw))
  refine bodyPost_ret (v := .agg #[.bool (fB S k.toNat == 1), .int .i64 (fW S (k.toNat + 1)), .int .i64 (fB S (k.toNat + 3)), .int .i64 (fB S (k.toNat + 4)), .int .i64 (fB S (k.toNat + 5))]) ?_ rfl ⟨rfl, (Kept.refl _ _).alloc _⟩
  simp [results, Tryz.results130, go_sem]
theorem infoRuleX : (Tryz.prog.info? 55).map (fun i => (i.zero, i.size, i.bytes)) = some (some (.agg #[.bool false, .int .i64 0, .int .i64 0, .int .i64 0, .int .i64 0]), 5, 40) := by kernel_rfl
theorem infoByteX : (Tryz.prog.info? 5).map (fun i => (i.zero, i.size, i.bytes)) = some (some (.int .u8 0), 1, 1) := by kernel_rfl
theorem keptRowX {w w' : World} {base sz : Nat} {t : TypeId} {v : Value} {n : Nat} {xs : List Value} (h : w.ownsRow base t sz v n xs) (hk : Still w w') : w'.ownsRow base t sz v n xs := ownsRow_of_block h fun _ hg => hk.heap (ownsRow_lt h hg)
/-- The first k rules of a request. -/
def rulesTo (S : List Int) (k : Nat) : List RuleD := (List.range k).map fun i => ruleW S (4 + 6 * i)
theorem rulesTo_len (S : List Int) (k : Nat) : (rulesTo S k).length = k := by unfold rulesTo; simp
theorem rulesTo_succ (S : List Int) (k : Nat) : rulesTo S (k + 1) = rulesTo S k ++ [ruleW S (4 + 6 * k)] := by unfold rulesTo; rw [List.range_succ, List.map_append]; rfl
theorem rule_snocX (L : List RuleD) (x : RuleD) : (L ++ [x]).flatMap ruleCells = L.flatMap ruleCells ++ ruleCells x := by rw [List.flatMap_append]; simp
theorem RulesIn.ofRow {w : World} {base : Nat} {v : Value} {R : List RuleD} (h : w.ownsRow base 55 5 v R.length (R.flatMap ruleCells)) (hl : R.length ≤ 1000) : RulesIn w v R := by
  obtain ⟨a, c, rfl, h1, h2⟩ := ownsRow_slice h
  rcases h.2 with ⟨e1, e2⟩ | ⟨g, cap, cur, e, _⟩
  · left
    simp only [Value.slice.injEq] at e1
    exact ⟨by rw [e1.1, e1.2.1, e1.2.2], List.eq_nil_of_length_eq_zero (by omega)⟩
  · simp only [Value.slice.injEq] at e
    obtain ⟨rfl, _, rfl⟩ := e
    exact .inr ⟨⟨g, 0, none⟩, c, rfl, by omega, h.cells (g := g) rfl⟩
set_option maxHeartbeats 1000000 in
theorem rules_any {w : World} {a : Option Addr} {n c : Nat} {S : List Int} (h : BytesIn w (.slice a n c) S) :
    Calls Tryz.prog 119 #[.slice a n c] w fun en w' => ∃ v, en = .returned v ∧ w'.ownsRow w.heap.size 55 5 v (rulesB S).length ((rulesB S).flatMap ruleCells) ∧ Still w w' := by
  obtain ⟨i0, hi0, hz0, hz1, hz2⟩ := info_parts infoRuleX
  obtain ⟨b0, b1⟩ := fB_ok h.1 3
  obtain ⟨N3, hN3⟩ : ∃ m : Nat, fB S 3 = (m : Int) := ⟨(fB S 3).toNat, by omega⟩
  have er : rulesB S = rulesTo S N3 := by unfold rulesB rulesTo; rw [hN3]; rfl
  rw [er]
  simp only [rulesTo_len]
  rw [hN3] at b0 b1
  have H := hide h
  clear h er
  go_enter Tryz.func119, Tryz.ntmps119
  go_wp2
  go_loopw [3, 4] (fun l i w' => ∃ k : Nat, k ≤ N3 ∧ i = .int .i64 k ∧ w'.ownsRow w.heap.size 55 5 l k ((rulesTo S k).flatMap ruleCells) ∧ Still w w') (fun _ i _ => N3 - (intOf i).toNat)
  case atStart => exact ⟨0, by omega, rfl, World.ownsRow_nil _ _ _ _, Kept.refl _ _⟩
  case round =>
    obtain ⟨k, hk, rfl, hrow, hst⟩ := hrel
    obtain ⟨la, lc, rfl, hl1, hl2⟩ := ownsRow_slice hrow
    have HW := hide ((unhide H).still hst)
    have HROW := hide hrow
    have HST := hide hst
    have hsz := hst.size
    clear hrow hst
    by_cases hlt : k < N3
    · have hstep := hide (rulesTo_succ S k)
      have ek : (4 + 6 * (k : Int)).toNat = 4 + 6 * k := by omega
      go_wp2_with (first | (go_at_call 78; refine (byte_any (unhide HW) _ (by omega) (by omega)).mono ?_; rintro e w' ⟨rfl, hw⟩; replace hw := hw.symm; subst hw) | fail)
      refine (rule_any (unhide HW) _ (by omega) (by omega)).mono ?_
      rintro en w1 ⟨rfl, hs1⟩
      rw [ek]
      have HROW2 := hide (keptRowX (unhide HROW) hs1)
      have HST2 := hide (Kept.trans (unhide HST) hs1)
      have hsz1 := hs1.size
      generalize ruleW S (4 + 6 * k) = x at *
      generalize rulesTo S k = cl at *
      clear HROW HST HW hs1
      go_wp2_with (at_builtin; refine wpList_append_lies _ rfl _ _ _ rfl w.heap.size 55 i0 _ 5 40 Tryz.underlying32 hi0 hz0 hz1 hz2 rfl (by omega) (.slice la k lc) k _ rfl ((unhide HROW2).alloc _) ⟨w1.heap.size, 0, none⟩ 1 1 [.bool x.allow, .int .i64 x.addr, .int .i64 x.len, .int .i64 x.ge, .int .i64 x.le] rfl rfl (World.news_of_block (cs := #[.bool x.allow, .int .i64 x.addr, .int .i64 x.len, .int .i64 x.ge, .int .i64 x.le]) (t := 55) (fr := (0, 0)) (heap_alloc_new w1 _)) (by simp [Value.oneCell']) (by omega) (by unfold maxLen; omega) (by omega) (by simp; omega) (w1.heap.size + 1) (by simp) ?_; intro g4 cap4 w4 hown4 hgrow4 hat4 hlt4)
      have hge : ∀ y, (Value.slice la k lc).ownBlock = some y → w.heap.size ≤ y := fun y hy => ((unhide HROW2).lt y hy).1
      have hkg : Kept (fun y => (Value.slice la k lc).ownBlock = some y) w1 w4 := Kept.grown ((Kept.refl _ _).alloc _) hgrow4 (fun y hy => .inl hy)
      have hst5 : Still w w4 := Kept.trans' (unhide HST2) hkg (fun i hi q => by have := hge i q; omega)
      have HO4 := hide hown4
      have HST5 := hide hst5
      clear hkg hst5 hown4 hgrow4 hat4 hge
      go_roundw
      case rel =>
        refine ⟨k + 1, by omega, by go_num, ?_, unhide HST5⟩
        rw [unhide hstep, rule_snocX]
        exact unhide HO4
      case measure => simp [intOf]; omega
    · obtain rfl : k = N3 := by omega
      go_wp2_with (go_at_call 78; refine (byte_any (unhide HW) _ (by omega) (by omega)).mono ?_; rintro e w' ⟨rfl, hw⟩; replace hw := hw.symm; subst hw)
      go_ret
      exact ⟨_, rfl, unhide HROW, unhide HST⟩
set_option maxHeartbeats 400000 in
theorem high_any (n : Int) (w : World) : Calls Tryz.prog 128 #[.int .i64 n] w fun en w' => en = .returned (.int .u8 (hiB n)) ∧ w' = w := by
  go_enter Tryz.func128, Tryz.ntmps128
  go_wp2
  go_ret
  exact ⟨by simp [hiB], rfl⟩
set_option maxHeartbeats 400000 in
theorem low_any (n : Int) (w : World) : Calls Tryz.prog 129 #[.int .i64 n] w fun en w' => en = .returned (.int .u8 (loB n)) ∧ w' = w := by
  go_enter Tryz.func129, Tryz.ntmps129
  go_wp2
  go_ret
  exact ⟨by simp [loB], rfl⟩
def byteC (x : Int) : Value := .int .u8 x
theorem byteC_one (F : List Int) : ∀ c ∈ F.map byteC, c.oneCell' = true := by
  intro c hc
  obtain ⟨x, _, rfl⟩ := List.mem_map.1 hc
  rfl
/-- A new list of a few bytes. -/
theorem bytesNew (w : World) (F : List Int) {base : Nat} (hb : base ≤ w.heap.size) (hl : F.length ≤ 1000) : (w.alloc (.cells (F.map byteC).toArray 5)).ownsRow base 5 1 (.slice (some ⟨w.heap.size, 0, none⟩) F.length F.length) F.length (F.map byteC) := by
  refine ⟨by simp, .inr ⟨w.heap.size, F.length, (F.map byteC).toArray, rfl, hb, heap_alloc_new w _, Nat.le_refl _, by unfold maxLen; omega, by simp, by rw [List.take_of_length_le (by simp)]⟩⟩
theorem wrap_lo (b : Int) : IntKind.u8.wrap b = loB b := by rw [IntKind.wrap_u8]; rfl
set_option maxHeartbeats 400000 in
theorem created_any (t k : Int) (w : World) : Calls Tryz.prog 111 #[.int .i64 t, .int .i64 k] w fun en w' => ∃ v, en = .returned v ∧ w'.ownsRow w.heap.size 5 1 v 3 ([loB t, hiB k, loB k].map byteC) ∧ Still w w' := by
  go_enter Tryz.func111, Tryz.ntmps111
  go_wp2_with (first | (go_at_call 128; refine (high_any _ _).mono ?_; rintro e w' ⟨rfl, hw⟩; replace hw := hw.symm; subst hw) | (go_at_call 129; refine (low_any _ _).mono ?_; rintro e w' ⟨rfl, hw⟩; replace hw := hw.symm; subst hw))
  go_ret
  exact ⟨_, rfl, bytesNew w [loB t, hiB k, loB k] (Nat.le_refl _) (by simp), (Kept.refl _ _).alloc _⟩
set_option maxHeartbeats 400000 in
theorem token_any (k : Int) (w : World) : Calls Tryz.prog 113 #[.int .i64 k] w fun en w' => ∃ v, en = .returned v ∧ w'.ownsRow w.heap.size 5 1 v 2 ([hiB k, loB k].map byteC) ∧ Still w w' := by
  go_enter Tryz.func113, Tryz.ntmps113
  go_wp2_with (first | (go_at_call 128; refine (high_any _ _).mono ?_; rintro e w' ⟨rfl, hw⟩; replace hw := hw.symm; subst hw) | (go_at_call 129; refine (low_any _ _).mono ?_; rintro e w' ⟨rfl, hw⟩; replace hw := hw.symm; subst hw))
  go_ret
  exact ⟨_, rfl, bytesNew w [hiB k, loB k] (Nat.le_refl _) (by simp), (Kept.refl _ _).alloc _⟩
set_option maxHeartbeats 400000 in
theorem truth_any (b : Bool) (w : World) : Calls Tryz.prog 116 #[.bool b] w fun en w' => ∃ v, en = .returned v ∧ w'.ownsRow w.heap.size 5 1 v 1 ([boolB b].map byteC) ∧ Still w w' := by
  cases b
  all_goals
    go_enter Tryz.func116, Tryz.ntmps116
    go_wp2
    go_ret
    first | exact ⟨_, rfl, bytesNew w [boolB false] (Nat.le_refl _) (by simp), (Kept.refl _ _).alloc _⟩ | exact ⟨_, rfl, bytesNew w [boolB true] (Nat.le_refl _) (by simp), (Kept.refl _ _).alloc _⟩
set_option maxHeartbeats 1000000 in
theorem route_any0 (a b c d : Int) (w : World) : Calls Tryz.prog 114 #[.agg #[.int .i64 a, .int .i64 b, .int .i64 c, .int .i64 d]] w fun en w' => ∃ v, en = .returned v ∧ w'.ownsRow w.heap.size 5 1 v 5 ([hiB a, loB a, loB b, loB c, loB d].map byteC) ∧ Still w w' := by
  have ha := wrap_lo a
  have hb := wrap_lo b
  have hc := wrap_lo c
  have hd := wrap_lo d
  go_enter Tryz.func114, Tryz.ntmps114
  go_wp2
  have hS : Still w (w.alloc (.cells #[.int .i64 a, .int .i64 b, .int .i64 c, .int .i64 d] 50)) := (Kept.refl _ _).alloc _
  have hsz : w.heap.size < (w.alloc (.cells #[.int .i64 a, .int .i64 b, .int .i64 c, .int .i64 d] 50)).heap.size := by simp
  have c0 : (w.alloc (.cells #[.int .i64 a, .int .i64 b, .int .i64 c, .int .i64 d] 50)).cell? ⟨w.heap.size, 0, none⟩ = some (.int .i64 a) := by rw [World.cell?_alloc_new]; rfl
  have c1 : (w.alloc (.cells #[.int .i64 a, .int .i64 b, .int .i64 c, .int .i64 d] 50)).cell? ⟨w.heap.size, 1, none⟩ = some (.int .i64 b) := by rw [World.cell?_alloc_new]; rfl
  have c2 : (w.alloc (.cells #[.int .i64 a, .int .i64 b, .int .i64 c, .int .i64 d] 50)).cell? ⟨w.heap.size, 2, none⟩ = some (.int .i64 c) := by rw [World.cell?_alloc_new]; rfl
  have c3 : (w.alloc (.cells #[.int .i64 a, .int .i64 b, .int .i64 c, .int .i64 d] 50)).cell? ⟨w.heap.size, 3, none⟩ = some (.int .i64 d) := by rw [World.cell?_alloc_new]; rfl
  generalize w.alloc (.cells #[.int .i64 a, .int .i64 b, .int .i64 c, .int .i64 d] 50) = W at *
  have HS := hide hS
  generalize hs0 : w.heap.size = s0 at *
  have Hs0 := hide hs0
  have sn : s0 ≠ W.heap.size := Nat.ne_of_lt hsz
  clear hS hs0
  go_region_held3 (fun w' => w'.cell? ⟨s0, 0, none⟩ = some (.int .i64 a) ∧ w'.cell? ⟨s0, 1, none⟩ = some (.int .i64 b) ∧ w'.cell? ⟨s0, 2, none⟩ = some (.int .i64 c) ∧ w'.cell? ⟨s0, 3, none⟩ = some (.int .i64 d)) (first | (go_split_ands; exact ⟨by go_keep, by go_keep, by go_keep, by go_keep⟩)) (first | (go_at_call 128; refine (high_any _ _).mono ?_; rintro e w' ⟨rfl, hw⟩; replace hw := hw.symm; subst hw) | (go_at_call 129; refine (low_any _ _).mono ?_; rintro e w' ⟨rfl, hw⟩; replace hw := hw.symm; subst hw))
  all_goals
    have HR : Hid ((W.alloc (.cells ([hiB a, loB a, loB b, loB c, loB d].map byteC).toArray 5)).drew.ownsRow w.heap.size 5 1 (.slice (some ⟨W.heap.size, 0, none⟩) 5 5) 5 ([hiB a, loB a, loB b, loB c, loB d].map byteC)) := ownsRow_of_block (bytesNew W [hiB a, loB a, loB b, loB c, loB d] (by have := unhide Hs0; omega) (by simp)) fun _ _ => rfl
    have HST : Hid (Still w (W.alloc (.cells ([hiB a, loB a, loB b, loB c, loB d].map byteC).toArray 5)).drew) := Kept.drew (Kept.alloc (unhide HS) _)
    go_wp2
    go_ret
    exact ⟨_, rfl, unhide HR, unhide HST⟩
theorem route_any (x : RouteD) (w : World) : Calls Tryz.prog 114 #[.agg #[.int .i64 x.addr, .int .i64 x.len, .int .i64 x.hop, .int .i64 x.from_]] w fun en w' => ∃ v, en = .returned v ∧ w'.ownsRow w.heap.size 5 1 v 5 ((routeB x).map byteC) ∧ Still w w' := route_any0 _ _ _ _ w
set_option maxHeartbeats 1000000 in
theorem sums_any0 (a b c d : Int) (w : World) : Calls Tryz.prog 118 #[.agg #[.int .i64 a, .int .i64 b, .int .i64 c, .int .i64 d]] w fun en w' => ∃ v, en = .returned v ∧ w'.ownsRow w.heap.size 5 1 v 5 ([loB a, loB b, hiB c, loB c, loB d].map byteC) ∧ Still w w' := by
  have ha := wrap_lo a
  have hb := wrap_lo b
  have hc := wrap_lo c
  have hd := wrap_lo d
  go_enter Tryz.func118, Tryz.ntmps118
  go_wp2
  have hS : Still w (w.alloc (.cells #[.int .i64 a, .int .i64 b, .int .i64 c, .int .i64 d] 89)) := (Kept.refl _ _).alloc _
  have hsz : w.heap.size < (w.alloc (.cells #[.int .i64 a, .int .i64 b, .int .i64 c, .int .i64 d] 89)).heap.size := by simp
  have c0 : (w.alloc (.cells #[.int .i64 a, .int .i64 b, .int .i64 c, .int .i64 d] 89)).cell? ⟨w.heap.size, 0, none⟩ = some (.int .i64 a) := by rw [World.cell?_alloc_new]; rfl
  have c1 : (w.alloc (.cells #[.int .i64 a, .int .i64 b, .int .i64 c, .int .i64 d] 89)).cell? ⟨w.heap.size, 1, none⟩ = some (.int .i64 b) := by rw [World.cell?_alloc_new]; rfl
  have c2 : (w.alloc (.cells #[.int .i64 a, .int .i64 b, .int .i64 c, .int .i64 d] 89)).cell? ⟨w.heap.size, 2, none⟩ = some (.int .i64 c) := by rw [World.cell?_alloc_new]; rfl
  have c3 : (w.alloc (.cells #[.int .i64 a, .int .i64 b, .int .i64 c, .int .i64 d] 89)).cell? ⟨w.heap.size, 3, none⟩ = some (.int .i64 d) := by rw [World.cell?_alloc_new]; rfl
  generalize w.alloc (.cells #[.int .i64 a, .int .i64 b, .int .i64 c, .int .i64 d] 89) = W at *
  have HS := hide hS
  generalize hs0 : w.heap.size = s0 at *
  have Hs0 := hide hs0
  have sn : s0 ≠ W.heap.size := Nat.ne_of_lt hsz
  clear hS hs0
  go_region_held3 (fun w' => w'.cell? ⟨s0, 0, none⟩ = some (.int .i64 a) ∧ w'.cell? ⟨s0, 1, none⟩ = some (.int .i64 b) ∧ w'.cell? ⟨s0, 2, none⟩ = some (.int .i64 c) ∧ w'.cell? ⟨s0, 3, none⟩ = some (.int .i64 d)) (first | (go_split_ands; exact ⟨by go_keep, by go_keep, by go_keep, by go_keep⟩)) (first | (go_at_call 128; refine (high_any _ _).mono ?_; rintro e w' ⟨rfl, hw⟩; replace hw := hw.symm; subst hw) | (go_at_call 129; refine (low_any _ _).mono ?_; rintro e w' ⟨rfl, hw⟩; replace hw := hw.symm; subst hw))
  all_goals
    have HR : Hid ((W.alloc (.cells ([loB a, loB b, hiB c, loB c, loB d].map byteC).toArray 5)).drew.ownsRow w.heap.size 5 1 (.slice (some ⟨W.heap.size, 0, none⟩) 5 5) 5 ([loB a, loB b, hiB c, loB c, loB d].map byteC)) := ownsRow_of_block (bytesNew W [loB a, loB b, hiB c, loB c, loB d] (by have := unhide Hs0; omega) (by simp)) fun _ _ => rfl
    have HST : Hid (Still w (W.alloc (.cells ([loB a, loB b, hiB c, loB c, loB d].map byteC).toArray 5)).drew) := Kept.drew (Kept.alloc (unhide HS) _)
    go_wp2
    go_ret
    exact ⟨_, rfl, unhide HR, unhide HST⟩
theorem sums_any (x : SumsD) (w : World) : Calls Tryz.prog 118 #[.agg #[.int .i64 x.own, .int .i64 x.taken, .int .i64 x.dropped, .int .i64 x.quota]] w fun en w' => ∃ v, en = .returned v ∧ w'.ownsRow w.heap.size 5 1 v 5 ((sumsB x).map byteC) ∧ Still w w' := sums_any0 _ _ _ _ w
set_option maxHeartbeats 1000000 in
theorem answer_any {w : World} {base : Nat} {v : Value} (e : Int) {F : List Int} (h : w.ownsRow base 5 1 v F.length (F.map byteC)) (hl : F.length ≤ 1000) : Calls Tryz.prog 77 #[.int .i64 e, v] w fun en w' => ∃ u, en = .returned u ∧ w'.ownsRow w.heap.size 5 1 u (ansB e F).length ((ansB e F).map byteC) ∧ Still w w' := by
  obtain ⟨i0, hi0, hz0, hz1, hz2⟩ := info_parts infoByteX
  have hwe := wrap_lo e
  have hS : Still w (w.alloc (.cells #[.int .u8 (loB e)] 5)) := (Kept.refl _ _).alloc _
  have hr1 := bytesNew w [loB e] (Nat.le_refl _) (by simp)
  have hr0 : w.ownsRow 0 5 1 v F.length (F.map byteC) := ⟨h.1, by
    rcases h.2 with q | ⟨g, cap, cur, q1, _, q2⟩
    · exact .inl q
    · exact .inr ⟨g, cap, cur, q1, Nat.zero_le _, q2⟩⟩
  have HR1 : Hid ((w.alloc (.cells #[.int .u8 (loB e)] 5)).ownsRow w.heap.size 5 1 (.slice (some ⟨w.heap.size, 0, none⟩) 1 1) 1 ([loB e].map byteC)) := hr1
  have HR0 := hide (keptRowX hr0 hS)
  have HS := hide hS
  clear hr1 hr0 hS h
  by_cases h0 : e = 0
  · have ea : ansB e F = [loB e] ++ F := by unfold ansB; rw [if_pos h0, h0]; rfl
    rw [ea]
    clear ea
    have h0' : (e == 0) = true := by rw [h0]; rfl
    clear h0
    go_enter Tryz.func77, Tryz.ntmps77
    go_wp2_with (at_builtin; refine wpList_append_owned rfl _ _ _ rfl w.heap.size 5 i0 _ 1 1 Tryz.underlying33 hi0 hz0 hz1 hz2 rfl (by omega) (.slice (some ⟨w.heap.size, 0, none⟩) 1 1) 1 _ rfl (unhide HR1) v F.length _ rfl (unhide HR0) (byteC_one F) (by unfold maxLen; omega) (by omega) (by simp) (w.heap.size + 1) (by simp) ?_; intro v4 w4 hown4 hgrow4 hat4)
    have hst : Still w w4 := Kept.trans' (unhide HS) (Kept.grown (Kept.refl (fun y => y = w.heap.size) _) hgrow4 (fun y hy => .inl (by simpa [Value.ownBlock] using hy.symm))) (fun i hi q => by omega)
    have HO := hide hown4
    have HST := hide hst
    clear hst hown4 hgrow4 hat4
    go_wp2
    go_ret
    refine ⟨_, rfl, ?_, unhide HST⟩
    have e1 : F.length + 1 = 1 + F.length := by omega
    rw [e1]
    exact unhide HO
  · have ea : ansB e F = [loB e] := by unfold ansB; rw [if_neg h0]
    rw [ea]
    clear ea
    have h0' : (e == 0) = false := by rw [beq_eq_false_iff_ne]; exact h0
    clear h0
    go_enter Tryz.func77, Tryz.ntmps77
    go_wp2
    go_ret
    exact ⟨_, rfl, unhide HR1, unhide HS⟩
end Go.Proofs.YtgndledehlilkaaGreat
