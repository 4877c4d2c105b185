/-
  Walks: package wire: the rules of a request; the bytes of answers.
-/
import Derived.Test.YtgndledehlilkabPrX1
import Derived.Test.YtgndledehlilkabAppend
import Derived.Test.YtgndledehlilkabRulesIn
import Derived.Deep.RegionHeld3
namespace Go.Proofs.Ytgndledehlilkab
open Go.RowKit

set_option maxHeartbeats 1000000 in
theorem rule_any {w : World} {a : Option Addr} {n c : Nat} {S : List Int} (h : BytesIn w (.slice a n c) S) (k : Int) (hk : 0 ≤ k) (hk2 : k ≤ 10000) :
    Calls Try.prog 76 #[.slice a n c, .int .i64 k] w fun en w' => en = .returned (.agg #[.bool (ruleW S k.toNat).allow, .int .i64 (ruleW S k.toNat).addr, .int .i64 (ruleW S k.toNat).len, .int .i64 (ruleW S k.toNat).ge, .int .i64 (ruleW S k.toNat).le]) ∧ Still w w' := by
  have hs : Still w (w.alloc (.cells #[.bool false, .int .i64 0, .int .i64 0, .int .i64 0, .int .i64 0] 55)) := (Kept.refl _ _).alloc _
  have H := hide (h.still hs)
  have e1 : (k + 1).toNat = k.toNat + 1 := by omega
  have e3 : (k + 3).toNat = k.toNat + 3 := by omega
  have e4 : (k + 4).toNat = k.toNat + 4 := by omega
  have e5 : (k + 5).toNat = k.toNat + 5 := by omega
  unfold ruleW
  clear h hs
  go_enter Try.func76, Try.ntmps76
  go_wp2_with (first | (go_at_call 19; refine (byte_any (unhide H) _ (by omega) (by omega)).mono ?_; rintro e w' ⟨rfl, hw⟩; replace hw := hw.symm; subst hw) | (go_at_call 51; refine (word_any (unhide H) _ (by omega) (by omega)).mono ?_; rintro e w' ⟨rfl, hw⟩; replace hw := hw.symm; subst hw) | (go_at_call 54; refine (flag_any (unhide H) _ (by omega) (by omega)).mono ?_; rintro e w' ⟨rfl, hw⟩; replace hw := hw.symm; subst hw))
  refine bodyPost_ret (v := .agg #[.bool (fB S k.toNat == 1), .int .i64 (fW S (k.toNat + 1)), .int .i64 (fB S (k.toNat + 3)), .int .i64 (fB S (k.toNat + 4)), .int .i64 (fB S (k.toNat + 5))]) ?_ rfl ⟨rfl, (Kept.refl _ _).alloc _⟩
  simp [results, Try.results76, go_sem]
theorem infoRuleX : (Try.prog.info? 55).map (fun i => (i.zero, i.size, i.bytes)) = some (some (.agg #[.bool false, .int .i64 0, .int .i64 0, .int .i64 0, .int .i64 0]), 5, 40) := by kernel_rfl
theorem infoByteX : (Try.prog.info? 5).map (fun i => (i.zero, i.size, i.bytes)) = some (some (.int .u8 0), 1, 1) := by kernel_rfl
theorem keptRowX {w w' : World} {base sz : Nat} {t : TypeId} {v : Value} {n : Nat} {xs : List Value} (h : w.ownsRow base t sz v n xs) (hk : Still w w') : w'.ownsRow base t sz v n xs := ownsRow_of_block h fun _ hg => hk.heap (ownsRow_lt h hg)
/-- The first k rules of a request. -/
def rulesToW (S : List Int) (k : Nat) : List RuleD := (List.range k).map fun i => ruleW S (4 + 6 * i)
theorem rulesToW_len (S : List Int) (k : Nat) : (rulesToW S k).length = k := by unfold rulesToW; simp
theorem rulesToW_succ (S : List Int) (k : Nat) : rulesToW S (k + 1) = rulesToW S k ++ [ruleW S (4 + 6 * k)] := by unfold rulesToW; rw [List.range_succ, List.map_append]; rfl
theorem rule_snocX (L : List RuleD) (x : RuleD) : (L ++ [x]).flatMap ruleCells = L.flatMap ruleCells ++ ruleCells x := by rw [List.flatMap_append]; simp
theorem RulesIn.ofRow {w : World} {base : Nat} {v : Value} {R : List RuleD} (h : w.ownsRow base 55 5 v R.length (R.flatMap ruleCells)) (hl : R.length ≤ 1000) : RulesIn w v R := by
  obtain ⟨a, c, rfl, h1, h2⟩ := ownsRow_slice h
  rcases h.2 with ⟨e1, e2⟩ | ⟨g, cap, cur, e, _⟩
  · left
    simp only [Value.slice.injEq] at e1
    exact ⟨by rw [e1.1, e1.2.1, e1.2.2], List.eq_nil_of_length_eq_zero (by omega)⟩
  · simp only [Value.slice.injEq] at e
    obtain ⟨rfl, _, rfl⟩ := e
    exact .inr ⟨⟨g, 0, none⟩, c, rfl, by omega, h.cells (g := g) rfl⟩
set_option maxHeartbeats 1000000 in
theorem rules_any {w : World} {a : Option Addr} {n c : Nat} {S : List Int} (h : BytesIn w (.slice a n c) S) :
    Calls Try.prog 58 #[.slice a n c] w fun en w' => ∃ v, en = .returned v ∧ w'.ownsRow w.heap.size 55 5 v (rulesB S).length ((rulesB S).flatMap ruleCells) ∧ Still w w' := by
  obtain ⟨i0, hi0, hz0, hz1, hz2⟩ := info_parts infoRuleX
  obtain ⟨b0, b1⟩ := fB_ok h.1 3
  obtain ⟨N3, hN3⟩ : ∃ m : Nat, fB S 3 = (m : Int) := ⟨(fB S 3).toNat, by omega⟩
  have er : rulesB S = rulesToW S N3 := by unfold rulesB rulesToW; rw [hN3]; rfl
  rw [er]
  simp only [rulesToW_len]
  rw [hN3] at b0 b1
  have H := hide h
  clear h er
  go_enter Try.func58, Try.ntmps58
  go_wp2
  go_loopw [3, 4] (fun l i w' => ∃ k : Nat, k ≤ N3 ∧ i = .int .i64 k ∧ w'.ownsRow w.heap.size 55 5 l k ((rulesToW S k).flatMap ruleCells) ∧ Still w w') (fun _ i _ => N3 - (intOf i).toNat)
  case atStart => exact ⟨0, by omega, rfl, World.ownsRow_nil _ _ _ _, Kept.refl _ _⟩
  case round =>
    obtain ⟨k, hk, rfl, hrow, hst⟩ := hrel
    obtain ⟨la, lc, rfl, hl1, hl2⟩ := ownsRow_slice hrow
    have HW := hide ((unhide H).still hst)
    have HROW := hide hrow
    have HST := hide hst
    have hsz := hst.size
    clear hrow hst
    by_cases hlt : k < N3
    · have hstep := hide (rulesToW_succ S k)
      have ek : (4 + 6 * (k : Int)).toNat = 4 + 6 * k := by omega
      go_wp2_with (first | (go_at_call 19; refine (byte_any (unhide HW) _ (by omega) (by omega)).mono ?_; rintro e w' ⟨rfl, hw⟩; replace hw := hw.symm; subst hw) | fail)
      refine (rule_any (unhide HW) _ (by omega) (by omega)).mono ?_
      rintro en w1 ⟨rfl, hs1⟩
      rw [ek]
      have HROW2 := hide (keptRowX (unhide HROW) hs1)
      have HST2 := hide (Kept.trans (unhide HST) hs1)
      have hsz1 := hs1.size
      generalize ruleW S (4 + 6 * k) = x at *
      generalize rulesToW S k = cl at *
      clear HROW HST HW hs1
      go_wp2_with (at_builtin; refine wpList_append_lies _ rfl _ _ _ rfl w.heap.size 55 i0 _ 5 40 Try.underlying80 hi0 hz0 hz1 hz2 rfl (by omega) (.slice la k lc) k _ rfl ((unhide HROW2).alloc _) ⟨w1.heap.size, 0, none⟩ 1 1 [.bool x.allow, .int .i64 x.addr, .int .i64 x.len, .int .i64 x.ge, .int .i64 x.le] rfl rfl (World.news_of_block (cs := #[.bool x.allow, .int .i64 x.addr, .int .i64 x.len, .int .i64 x.ge, .int .i64 x.le]) (t := 55) (fr := (0, 0)) (heap_alloc_new w1 _)) (by simp [Value.oneCell']) (by omega) (by unfold maxLen; omega) (by omega) (by simp; omega) (w1.heap.size + 1) (by simp) ?_; intro g4 cap4 w4 hown4 hgrow4 hat4 hlt4)
      have hge : ∀ y, (Value.slice la k lc).ownBlock = some y → w.heap.size ≤ y := fun y hy => ((unhide HROW2).lt y hy).1
      have hkg : Kept (fun y => (Value.slice la k lc).ownBlock = some y) w1 w4 := Kept.grown ((Kept.refl _ _).alloc _) hgrow4 (fun y hy => .inl hy)
      have hst5 : Still w w4 := Kept.trans' (unhide HST2) hkg (fun i hi q => by have := hge i q; omega)
      have HO4 := hide hown4
      have HST5 := hide hst5
      clear hkg hst5 hown4 hgrow4 hat4 hge
      go_roundw
      case rel =>
        refine ⟨k + 1, by omega, by go_num, ?_, unhide HST5⟩
        rw [unhide hstep, rule_snocX]
        exact unhide HO4
      case measure => simp [intOf]; omega
    · obtain rfl : k = N3 := by omega
      go_wp2_with (go_at_call 19; refine (byte_any (unhide HW) _ (by omega) (by omega)).mono ?_; rintro e w' ⟨rfl, hw⟩; replace hw := hw.symm; subst hw)
      go_ret
      exact ⟨_, rfl, unhide HROW, unhide HST⟩
set_option maxHeartbeats 400000 in
theorem high_any (n : Int) (w : World) : Calls Try.prog 74 #[.int .i64 n] w fun en w' => en = .returned (.int .u8 (hiB n)) ∧ w' = w := by
  go_enter Try.func74, Try.ntmps74
  go_wp2
  go_ret
  exact ⟨by simp [hiB], rfl⟩
set_option maxHeartbeats 400000 in
theorem low_any (n : Int) (w : World) : Calls Try.prog 75 #[.int .i64 n] w fun en w' => en = .returned (.int .u8 (loB n)) ∧ w' = w := by
  go_enter Try.func75, Try.ntmps75
  go_wp2
  go_ret
  exact ⟨by simp [loB], rfl⟩
def byteC (x : Int) : Value := .int .u8 x
theorem byteC_one (F : List Int) : ∀ c ∈ F.map byteC, c.oneCell' = true := by
  intro c hc
  obtain ⟨x, _, rfl⟩ := List.mem_map.1 hc
  rfl
/-- A new list of a few bytes. -/
theorem bytesNew (w : World) (F : List Int) {base : Nat} (hb : base ≤ w.heap.size) (hl : F.length ≤ 1000) : (w.alloc (.cells (F.map byteC).toArray 5)).ownsRow base 5 1 (.slice (some ⟨w.heap.size, 0, none⟩) F.length F.length) F.length (F.map byteC) := by
  refine ⟨by simp, .inr ⟨w.heap.size, F.length, (F.map byteC).toArray, rfl, hb, heap_alloc_new w _, Nat.le_refl _, by unfold maxLen; omega, by simp, by rw [List.take_of_length_le (by simp)]⟩⟩
theorem wrap_lo (b : Int) : IntKind.u8.wrap b = loB b := by rw [IntKind.wrap_u8]; rfl
set_option maxHeartbeats 400000 in
theorem created_any (t k : Int) (w : World) : Calls Try.prog 50 #[.int .i64 t, .int .i64 k] w fun en w' => ∃ v, en = .returned v ∧ w'.ownsRow w.heap.size 5 1 v 3 ([loB t, hiB k, loB k].map byteC) ∧ Still w w' := by
  go_enter Try.func50, Try.ntmps50
  go_wp2_with (first | (go_at_call 74; refine (high_any _ _).mono ?_; rintro e w' ⟨rfl, hw⟩; replace hw := hw.symm; subst hw) | (go_at_call 75; refine (low_any _ _).mono ?_; rintro e w' ⟨rfl, hw⟩; replace hw := hw.symm; subst hw))
  go_ret
  exact ⟨_, rfl, bytesNew w [loB t, hiB k, loB k] (Nat.le_refl _) (by simp), (Kept.refl _ _).alloc _⟩
set_option maxHeartbeats 400000 in
theorem token_any (k : Int) (w : World) : Calls Try.prog 52 #[.int .i64 k] w fun en w' => ∃ v, en = .returned v ∧ w'.ownsRow w.heap.size 5 1 v 2 ([hiB k, loB k].map byteC) ∧ Still w w' := by
  go_enter Try.func52, Try.ntmps52
  go_wp2_with (first | (go_at_call 74; refine (high_any _ _).mono ?_; rintro e w' ⟨rfl, hw⟩; replace hw := hw.symm; subst hw) | (go_at_call 75; refine (low_any _ _).mono ?_; rintro e w' ⟨rfl, hw⟩; replace hw := hw.symm; subst hw))
  go_ret
  exact ⟨_, rfl, bytesNew w [hiB k, loB k] (Nat.le_refl _) (by simp), (Kept.refl _ _).alloc _⟩
set_option maxHeartbeats 400000 in
theorem truth_any (b : Bool) (w : World) : Calls Try.prog 55 #[.bool b] w fun en w' => ∃ v, en = .returned v ∧ w'.ownsRow w.heap.size 5 1 v 1 ([boolB b].map byteC) ∧ Still w w' := by
  cases b
  all_goals
    go_enter Try.func55, Try.ntmps55
    go_wp2
    go_ret
    first | exact ⟨_, rfl, bytesNew w [boolB false] (Nat.le_refl _) (by simp), (Kept.refl _ _).alloc _⟩ | exact ⟨_, rfl, bytesNew w [boolB true] (Nat.le_refl _) (by simp), (Kept.refl _ _).alloc _⟩
set_option maxHeartbeats 1000000 in
theorem route_any0 (a b c d : Int) (w : World) : Calls Try.prog 53 #[.agg #[.int .i64 a, .int .i64 b, .int .i64 c, .int .i64 d]] w fun en w' => ∃ v, en = .returned v ∧ w'.ownsRow w.heap.size 5 1 v 5 ([hiB a, loB a, loB b, loB c, loB d].map byteC) ∧ Still w w' := by
  have ha := wrap_lo a
  have hb := wrap_lo b
  have hc := wrap_lo c
  have hd := wrap_lo d
  go_enter Try.func53, Try.ntmps53
  go_wp2
  have hS : Still w (w.alloc (.cells #[.int .i64 a, .int .i64 b, .int .i64 c, .int .i64 d] 42)) := (Kept.refl _ _).alloc _
  have hsz : w.heap.size < (w.alloc (.cells #[.int .i64 a, .int .i64 b, .int .i64 c, .int .i64 d] 42)).heap.size := by simp
  have c0 : (w.alloc (.cells #[.int .i64 a, .int .i64 b, .int .i64 c, .int .i64 d] 42)).cell? ⟨w.heap.size, 0, none⟩ = some (.int .i64 a) := by rw [World.cell?_alloc_new]; rfl
  have c1 : (w.alloc (.cells #[.int .i64 a, .int .i64 b, .int .i64 c, .int .i64 d] 42)).cell? ⟨w.heap.size, 1, none⟩ = some (.int .i64 b) := by rw [World.cell?_alloc_new]; rfl
  have c2 : (w.alloc (.cells #[.int .i64 a, .int .i64 b, .int .i64 c, .int .i64 d] 42)).cell? ⟨w.heap.size, 2, none⟩ = some (.int .i64 c) := by rw [World.cell?_alloc_new]; rfl
  have c3 : (w.alloc (.cells #[.int .i64 a, .int .i64 b, .int .i64 c, .int .i64 d] 42)).cell? ⟨w.heap.size, 3, none⟩ = some (.int .i64 d) := by rw [World.cell?_alloc_new]; rfl
  generalize w.alloc (.cells #[.int .i64 a, .int .i64 b, .int .i64 c, .int .i64 d] 42) = W at *
  have HS := hide hS
  generalize hs0 : w.heap.size = s0 at *
  have Hs0 := hide hs0
  have sn : s0 ≠ W.heap.size := Nat.ne_of_lt hsz
  clear hS hs0
  go_region_held3 (fun w' => w'.cell? ⟨s0, 0, none⟩ = some (.int .i64 a) ∧ w'.cell? ⟨s0, 1, none⟩ = some (.int .i64 b) ∧ w'.cell? ⟨s0, 2, none⟩ = some (.int .i64 c) ∧ w'.cell? ⟨s0, 3, none⟩ = some (.int .i64 d)) (first | (go_split_ands; exact ⟨by go_keep, by go_keep, by go_keep, by go_keep⟩)) (first | (go_at_call 74; refine (high_any _ _).mono ?_; rintro e w' ⟨rfl, hw⟩; replace hw := hw.symm; subst hw) | (go_at_call 75; refine (low_any _ _).mono ?_; rintro e w' ⟨rfl, hw⟩; replace hw := hw.symm; subst hw))
  all_goals
    have HR : Hid ((W.alloc (.cells ([hiB a, loB a, loB b, loB c, loB d].map byteC).toArray 5)).drew.ownsRow w.heap.size 5 1 (.slice (some ⟨W.heap.size, 0, none⟩) 5 5) 5 ([hiB a, loB a, loB b, loB c, loB d].map byteC)) := ownsRow_of_block (bytesNew W [hiB a, loB a, loB b, loB c, loB d] (by have := unhide Hs0; omega) (by simp)) fun _ _ => rfl
    have HST : Hid (Still w (W.alloc (.cells ([hiB a, loB a, loB b, loB c, loB d].map byteC).toArray 5)).drew) := Kept.drew (Kept.alloc (unhide HS) _)
    go_wp2
    go_ret
    exact ⟨_, rfl, unhide HR, unhide HST⟩
theorem route_any (x : RouteD) (w : World) : Calls Try.prog 53 #[.agg #[.int .i64 x.addr, .int .i64 x.len, .int .i64 x.hop, .int .i64 x.from_]] w fun en w' => ∃ v, en = .returned v ∧ w'.ownsRow w.heap.size 5 1 v 5 ((routeB x).map byteC) ∧ Still w w' := route_any0 _ _ _ _ w
set_option maxHeartbeats 1000000 in
theorem sums_any0 (a b c d : Int) (w : World) : Calls Try.prog 57 #[.agg #[.int .i64 a, .int .i64 b, .int .i64 c, .int .i64 d]] w fun en w' => ∃ v, en = .returned v ∧ w'.ownsRow w.heap.size 5 1 v 5 ([loB a, loB b, hiB c, loB c, loB d].map byteC) ∧ Still w w' := by
  have ha := wrap_lo a
  have hb := wrap_lo b
  have hc := wrap_lo c
  have hd := wrap_lo d
  go_enter Try.func57, Try.ntmps57
  go_wp2
  have hS : Still w (w.alloc (.cells #[.int .i64 a, .int .i64 b, .int .i64 c, .int .i64 d] 40)) := (Kept.refl _ _).alloc _
  have hsz : w.heap.size < (w.alloc (.cells #[.int .i64 a, .int .i64 b, .int .i64 c, .int .i64 d] 40)).heap.size := by simp
  have c0 : (w.alloc (.cells #[.int .i64 a, .int .i64 b, .int .i64 c, .int .i64 d] 40)).cell? ⟨w.heap.size, 0, none⟩ = some (.int .i64 a) := by rw [World.cell?_alloc_new]; rfl
  have c1 : (w.alloc (.cells #[.int .i64 a, .int .i64 b, .int .i64 c, .int .i64 d] 40)).cell? ⟨w.heap.size, 1, none⟩ = some (.int .i64 b) := by rw [World.cell?_alloc_new]; rfl
  have c2 : (w.alloc (.cells #[.int .i64 a, .int .i64 b, .int .i64 c, .int .i64 d] 40)).cell? ⟨w.heap.size, 2, none⟩ = some (.int .i64 c) := by rw [World.cell?_alloc_new]; rfl
  have c3 : (w.alloc (.cells #[.int .i64 a, .int .i64 b, .int .i64 c, .int .i64 d] 40)).cell? ⟨w.heap.size, 3, none⟩ = some (.int .i64 d) := by rw [World.cell?_alloc_new]; rfl
  generalize w.alloc (.cells #[.int .i64 a, .int .i64 b, .int .i64 c, .int .i64 d] 40) = W at *
  have HS := hide hS
  generalize hs0 : w.heap.size = s0 at *
  have Hs0 := hide hs0
  have sn : s0 ≠ W.heap.size := Nat.ne_of_lt hsz
  clear hS hs0
  go_region_held3 (fun w' => w'.cell? ⟨s0, 0, none⟩ = some (.int .i64 a) ∧ w'.cell? ⟨s0, 1, none⟩ = some (.int .i64 b) ∧ w'.cell? ⟨s0, 2, none⟩ = some (.int .i64 c) ∧ w'.cell? ⟨s0, 3, none⟩ = some (.int .i64 d)) (first | (go_split_ands; exact ⟨by go_keep, by go_keep, by go_keep, by go_keep⟩)) (first | (go_at_call 74; refine (high_any _ _).mono ?_; rintro e w' ⟨rfl, hw⟩; replace hw := hw.symm; subst hw) | (go_at_call 75; refine (low_any _ _).mono ?_; rintro e w' ⟨rfl, hw⟩; replace hw := hw.symm; subst hw))
  all_goals
    have HR : Hid ((W.alloc (.cells ([loB a, loB b, hiB c, loB c, loB d].map byteC).toArray 5)).drew.ownsRow w.heap.size 5 1 (.slice (some ⟨W.heap.size, 0, none⟩) 5 5) 5 ([loB a, loB b, hiB c, loB c, loB d].map byteC)) := ownsRow_of_block (bytesNew W [loB a, loB b, hiB c, loB c, loB d] (by have := unhide Hs0; omega) (by simp)) fun _ _ => rfl
    have HST : Hid (Still w (W.alloc (.cells ([loB a, loB b, hiB c, loB c, loB d].map byteC).toArray 5)).drew) := Kept.drew (Kept.alloc (unhide HS) _)
    go_wp2
    go_ret
    exact ⟨_, rfl, unhide HR, unhide HST⟩
theorem sums_any (x : SumsD) (w : World) : Calls Try.prog 57 #[.agg #[.int .i64 x.own, .int .i64 x.taken, .int .i64 x.dropped, .int .i64 x.quota]] w fun en w' => ∃ v, en = .returned v ∧ w'.ownsRow w.heap.size 5 1 v 5 ((sumsB x).map byteC) ∧ Still w w' := sums_any0 _ _ _ _ w
set_option maxHeartbeats 1000000 in
theorem answer_any {w : World} {base : Nat} {v : Value} (e : Int) {F : List Int} (h : w.ownsRow base 5 1 v F.length (F.map byteC)) (hl : F.length ≤ 1000) : Calls Try.prog 18 #[.int .i64 e, v] w fun en w' => ∃ u, en = .returned u ∧ w'.ownsRow w.heap.size 5 1 u (ansB e F).length ((ansB e F).map byteC) ∧ Still w w' := by
  obtain ⟨i0, hi0, hz0, hz1, hz2⟩ := info_parts infoByteX
  have hwe := wrap_lo e
  have hS : Still w (w.alloc (.cells #[.int .u8 (loB e)] 5)) := (Kept.refl _ _).alloc _
  have hr1 := bytesNew w [loB e] (Nat.le_refl _) (by simp)
  have hr0 : w.ownsRow 0 5 1 v F.length (F.map byteC) := ⟨h.1, by
    rcases h.2 with q | ⟨g, cap, cur, q1, _, q2⟩
    · exact .inl q
    · exact .inr ⟨g, cap, cur, q1, Nat.zero_le _, q2⟩⟩
  have HR1 : Hid ((w.alloc (.cells #[.int .u8 (loB e)] 5)).ownsRow w.heap.size 5 1 (.slice (some ⟨w.heap.size, 0, none⟩) 1 1) 1 ([loB e].map byteC)) := hr1
  have HR0 := hide (keptRowX hr0 hS)
  have HS := hide hS
  clear hr1 hr0 hS h
  by_cases h0 : e = 0
  · have ea : ansB e F = [loB e] ++ F := by unfold ansB; rw [if_pos h0, h0]; rfl
    rw [ea]
    clear ea
    have h0' : (e == 0) = true := by rw [h0]; rfl
    clear h0
    go_enter Try.func18, Try.ntmps18
    go_wp2_with (at_builtin; refine wpList_append_owned rfl _ _ _ rfl w.heap.size 5 i0 _ 1 1 Try.underlying29 hi0 hz0 hz1 hz2 rfl (by omega) (.slice (some ⟨w.heap.size, 0, none⟩) 1 1) 1 _ rfl (unhide HR1) v F.length _ rfl (unhide HR0) (byteC_one F) (by unfold maxLen; omega) (by omega) (by simp) (w.heap.size + 1) (by simp) ?_; intro v4 w4 hown4 hgrow4 hat4)
    have hst : Still w w4 := Kept.trans' (unhide HS) (Kept.grown (Kept.refl (fun y => y = w.heap.size) _) hgrow4 (fun y hy => .inl (by simpa [Value.ownBlock] using hy.symm))) (fun i hi q => by omega)
    have HO := hide hown4
    have HST := hide hst
    clear hst hown4 hgrow4 hat4
    go_wp2
    go_ret
    refine ⟨_, rfl, ?_, unhide HST⟩
    have e1 : F.length + 1 = 1 + F.length := by omega
    rw [e1]
    exact unhide HO
  · have ea : ansB e F = [loB e] := by unfold ansB; rw [if_neg h0]
    rw [ea]
    clear ea
    have h0' : (e == 0) = false := by rw [beq_eq_false_iff_ne]; exact h0
    clear h0
    go_enter Try.func18, Try.ntmps18
    go_wp2
    go_ret
    exact ⟨_, rfl, unhide HR1, unhide HS⟩
end Go.Proofs.Ytgndledehlilkab
