import Derived.Test.YtgndledehlilkaaGreatLawB3
import Derived.Test.YtgndledehlilkaaGreatRefX9M
import Derived.Test.YtgndledehlilkaaGreatLawM7M
import Derived.Test.YtgndledehlilkaaGreatLawI8
import Derived.Laws.BytesArg
namespace Go.Proofs.YtgndledehlilkaaGreat
open Go.RowKit

theorem copyB_run {P : Program} {w : World} {t ty e : TypeId} {i : TypeInfo} (hu : P.underlying t = some (.slice e)) (hi : P.info? e = some i) (hsize : i.size = 1) {base g m c : Nat} {xs : List Value}
    (hown : w.ownsRow base e 1 (.slice (some ⟨g, 0, none⟩) m c) m xs) {u : Value} {S : List Int} (hS : BytesIn w u S) (hm : S.length ≤ m) :
    ∃ w', (Builtin.copy_ #[t, t] ty #[.slice (some ⟨g, 0, none⟩) m c, u]).run P w = .ok (goInt S.length) w' ∧ w'.ownsRow base e 1 (.slice (some ⟨g, 0, none⟩) m c) m (S.map byteC ++ xs.drop S.length) ∧ w.grownBy w' (some g) := by
  rcases hS.2 with ⟨rfl, rfl⟩ | ⟨ad, c', rfl, _, _, hc⟩
  · have hr := run_copy_nil (P := P) w t t ty e ⟨g, 0, none⟩ m c hu (by rw [hi]; rfl)
    exact ⟨w, hr, by simpa using hown, ⟨rfl, rfl, rfl, Nat.le_refl _, fun _ _ _ => rfl⟩⟩
  · rcases hown.2 with ⟨e1, _⟩ | ⟨g', cap, cur, e1, hb, hg, hnc, hcm, hcs, htake⟩
    · simp at e1
    · simp only [Value.slice.injEq, Option.some.injEq, Addr.mk.injEq, and_true, true_and] at e1
      obtain ⟨rfl, rfl⟩ := e1
      have hl5 : (S.map byteC).length = S.length := by simp
      have hmin : Nat.min S.length m = S.length := Nat.min_eq_left hm
      have hsrc : ∀ j v, (S.map byteC)[j]? = some v → w.cell? (ad.add j) = some v := fun j v hv => by
        have hj : j < S.length := by
          rcases Nat.lt_or_ge j S.length with h | h
          · exact h
          · rw [List.getElem?_eq_none (by simpa using h)] at hv; cases hv
        obtain ⟨bs, off, rfl, _, q⟩ := hc j hj
        have ea : (⟨bs, off, none⟩ : Addr).add j = ⟨bs, off + j, none⟩ := by
          unfold Addr.add
          split
          · simp only [Addr.mk.injEq, true_and, and_true]; omega
          · rfl
        rw [ea, q]
        rw [List.getElem?_map, fB_in hj] at hv
        exact hv
      have hr := run_copy_wide (P := P) w t t ty e i g 0 m c ad S.length c' cur e (S.map byteC) hu hi hg (by rw [hmin, hsize, hl5]; omega) hsrc (by rw [hl5, hcs]; omega) (byteC_one S)
      rw [hmin] at hr
      have hcs0 := hl5
      generalize S.map byteC = cs at *
      refine ⟨_, hr, ⟨?_, .inr ⟨g, c, _, rfl, hb, setRow_heap w g cur _ e _ hg, hnc, hcm, ?_, ?_⟩⟩, ⟨rfl, rfl, rfl, by simp, fun k _ hk => setRow_other w g k _ (fun e => hk (by simp [e]))⟩⟩
      · rw [List.length_append, List.length_drop, hown.1, hl5]; omega
      · simp [hl5, hcs]; omega
      · have := take_over cur.toList cs (m * 1) (by omega)
        rw [htake, hl5] at this
        simpa [hl5] using this
/-- The bytes that are handed in, with what lies behind them: under way. -/
def fullB (S : List Int) (g : Nat → Value) (i j : Nat) : List Value := if j < S.length then [byteC (fB S j)] else if j < i then [.int .u8 77] else [g (j - S.length)]
theorem fullB_len (S : List Int) (g : Nat → Value) (i j : Nat) : (fullB S g i j).length = 1 := by
  unfold fullB
  split
  · rfl
  · split <;> rfl
theorem fullB_one (S : List Int) (g : Nat → Value) (i j : Nat) : ∃ a, fullB S g i j = [a] := by
  unfold fullB
  split
  · exact ⟨_, rfl⟩
  · split
    · exact ⟨_, rfl⟩
    · exact ⟨_, rfl⟩
/-- .. and written over, as far as i. -/
def overB (S : List Int) (i j : Nat) : List Value := if j < i then [.int .u8 99] else if j < S.length then [byteC (fB S j)] else [.int .u8 77]
theorem overB_len (S : List Int) (i j : Nat) : (overB S i j).length = 1 := by
  unfold overB
  split
  · rfl
  · split <;> rfl
theorem fullB_over (S : List Int) (g : Nat → Value) : enc (S.length + 8) (fullB S g (S.length + 8)) = enc (S.length + 8) (overB S 0) := enc_congr fun j hj => by
  unfold fullB overB
  rw [if_neg (show ¬ j < 0 by omega)]
  by_cases h : j < S.length
  · rw [if_pos h, if_pos h]
  · rw [if_neg h, if_neg h, if_pos hj]
theorem fullB_start (S : List Int) (ys : List Value) (h : ys.length = 8) : S.map byteC ++ ys = enc (S.length + 8) (fullB S (fun j => ys.getD j (.bool false)) S.length) := by
  have e1 : S.map byteC = enc S.length fun i => [byteC (fB S i)] := enc_bytes S
  have e2 : ys = enc 8 fun j => [ys.getD j (.bool false)] := by
    match ys, h with
    | [a, b, c, d, e, f, g, i], _ => rfl
  rw [e1, e2, enc_append]
  refine enc_congr fun j hj => ?_
  unfold fullB
  by_cases h' : j < S.length
  · rw [if_pos h', if_pos h']
  · rw [if_neg h', if_neg h', if_neg h']
    rw [← e2]
theorem BytesIn.over {w : World} {base g m cap c : Nat} {S : List Int} (h : w.ownsRow base 5 1 (.slice (some ⟨g, 0, none⟩) m cap) m (enc m (overB S 0))) (hm : S.length ≤ m) (hc : S.length ≤ c) (hS : okBytes S) (hb : S.length ≤ 140737488355328) : BytesIn w (.slice (some ⟨g, 0, none⟩) S.length c) S := by
  refine ⟨hS, .inr ⟨_, c, rfl, hc, hb, fun j hj => ⟨g, 0, rfl, ownsRow_lt h rfl, ?_⟩⟩⟩
  have := ownsRow_cell h (fun _ _ => overB_len S 0 _) (i := j) (by omega) (j := 0) (by omega)
  have ho : overB S 0 j = [byteC (fB S j)] := by unfold overB; rw [if_neg (by omega), if_pos hj]
  rw [ho] at this
  simpa [byteC] using this
/-- Behind the two calls of a request. -/
theorem pair_do {I : EngI} {w wr w3 w4 w5 : World} {O O1 O2 : Tag} {e bx by_ gA : Nat} {r' : RefS} {v : Value} (hst : Still w wr) (he1 : 1 ≤ e) (hO1 : ∀ k, k < wr.heap.size → O1 k = cutO O w.heap.size k) (hX : I.Rep w3 O1 e bx r') (hk3 : Kept (mineX (cutO O w.heap.size) e) wr w3) (hv : ∀ g, v.ownBlock = some g → wr.heap.size ≤ g ∧ g < w3.heap.size ∧ (O1 g).1 ≠ e)
    (hO2 : ∀ k, k < w3.heap.size → O2 k = O1 k) (hR : RefRep w4 O2 e by_ r') (hk4 : Kept (mineR O1 e) w3 w4) (hok : RefOk r') (hk5 : Kept (· = gA) w4 w5) (hgA : w.heap.size ≤ gA) (hgA2 : gA < wr.heap.size) :
    ∃ O5 : Tag, (∀ k, k < w.heap.size → O5 k = O k) ∧ PairI I w5 O5 e bx by_ r' ∧ Kept (mineA O e) w w5 ∧ ∀ g, v.ownBlock = some g → O5 g = (0, 9, 0) := by
  have z0 := hst.size
  have z3 := hk3.size
  have z4 := hk4.size
  have hp : PairI I w4 O2 e bx by_ r' := ⟨I.frame hX (fun k hk hm => hk4.block k hk (fun hq => by have := hq.2; have := hm.2; omega)) (fun k hk _ => hO2 k hk), hR, hok⟩
  have hg2 : O2 gA = (0, 8, 0) := by rw [hO2 gA (by omega), hO1 gA hgA2, cutO_ge hgA]
  have hkw : Kept (mineA O e) w w4 := by
    refine Kept.trans' (Kept.trans' (Still.kept hst _) hk3 ?_) hk4 ?_
    · intro i hi hq
      have := hq.1
      rw [cutO_lt hi] at this
      exact this
    · intro i hi hq
      have := hq.1
      rw [hO1 i (by omega), cutO_lt hi] at this
      exact this
  refine ⟨fun k => if v.ownBlock = some k then (0, 9, 0) else O2 k, fun k hk => ?_, ?_, Kept.trans' hkw hk5 (fun i hi hq => by omega), fun g hg => if_pos hg⟩
  · show (if v.ownBlock = some k then (0, 9, 0) else O2 k) = O k
    rw [if_neg (fun e => by have := (hv k e).1; omega), hO2 k (by omega), hO1 k (by omega), cutO_lt hk]
  · refine hp.frame (fun k hk ht => hk5.block k hk (fun hq => by rw [hq, hg2] at ht; simp at ht; omega)) (fun k _ c => if_neg (fun e => ?_))
    obtain ⟨_, q2, q3⟩ := hv k e
    rw [hO2 k q2] at c
    exact q3 c
theorem doR_form {r : RefS} (hk : RefOk r) (S : List Int) : ∃ er F, doR r S = ansB er F ∧ F.length ≤ 999 := by
  unfold doR
  by_cases h1 : fB S 0 = 1
  · rw [if_pos h1]; exact ⟨_, _, rfl, by simp⟩
  rw [if_neg h1]
  by_cases h2 : fB S 0 = 2
  · rw [if_pos h2]; exact ⟨_, _, rfl, by simp⟩
  rw [if_neg h2]
  by_cases h3 : fB S 0 = 3
  · rw [if_pos h3]; exact ⟨_, _, rfl, by simp⟩
  rw [if_neg h3]
  by_cases h4 : fB S 0 = 4
  · rw [if_pos h4]; exact ⟨_, _, rfl, by simp⟩
  rw [if_neg h4]
  by_cases h5 : fB S 0 = 5
  · rw [if_pos h5]; exact ⟨_, _, rfl, by simp⟩
  rw [if_neg h5]
  by_cases h6 : fB S 0 = 6
  · rw [if_pos h6]; exact ⟨_, _, rfl, by simp⟩
  rw [if_neg h6]
  by_cases h7 : fB S 0 = 7
  · rw [if_pos h7]; exact ⟨_, _, rfl, by simp⟩
  rw [if_neg h7]
  by_cases h8 : fB S 0 = 8
  · rw [if_pos h8]; exact ⟨_, _, rfl, by simp⟩
  rw [if_neg h8]
  by_cases h9 : fB S 0 = 9
  · rw [if_pos h9]; exact ⟨_, _, rfl, by simp [routeB]⟩
  rw [if_neg h9]
  by_cases h10 : fB S 0 = 10
  · rw [if_pos h10]; exact ⟨_, _, rfl, by simp⟩
  rw [if_neg h10]
  by_cases h11 : fB S 0 = 11
  · rw [if_pos h11]; exact ⟨_, _, rfl, by have := tableX_le hk (fW S 1); rw [List.length_cons, flatB_len]; omega⟩
  rw [if_neg h11]
  exact ⟨_, _, rfl, by simp [sumsB]⟩
theorem doB_len {r : RefS} (hk : RefOk r) (S : List Int) : 1 ≤ (doB r S).length ∧ (doB r S).length ≤ 1000 := by
  unfold doB
  split
  · obtain ⟨er, F, e, hF⟩ := doR_form hk S
    rw [e]
    unfold ansB
    split
    · simp only [List.length_cons]; omega
    · simp
  · simp
section
attribute [local go_sem ↓] Go.wp_at_zero Go.wp_at_succ

theorem overB_store {w : World} {g n cap j : Nat} {S : List Int} (h : w.ownsRow 0 5 1 (.slice (some ⟨g, 0, none⟩) n cap) n (enc n (overB S j))) (hj : j < n) : (w.setCell ⟨g, j, none⟩ (.int .u8 99)).ownsRow 0 5 1 (.slice (some ⟨g, 0, none⟩) n cap) n (enc n (overB S (j + 1))) := by
  obtain ⟨a, ha⟩ : ∃ a, overB S j j = [a] := by
    unfold overB
    split
    · exact ⟨_, rfl⟩
    · split
      · exact ⟨_, rfl⟩
      · exact ⟨_, rfl⟩
  have := ownsRow_store h (fun _ _ => overB_len S j _) (i := j) (j := 0) (u := .int .u8 99) (f' := overB S (j + 1)) hj (by omega) (by
    rw [ha]
    unfold overB
    rw [if_pos (by omega)]
    rfl) (fun k _ hk => by
    unfold overB
    by_cases h : k < j
    · rw [if_pos h, if_pos (by omega)]
    · rw [if_neg h, if_neg (by omega)])
  simpa using this
set_option maxRecDepth 100000 in
set_option maxHeartbeats 16000000 in
theorem doSpec_any {I : EngI} (J : EngI2 I) (K3 : EngI3 I) : DoSpec I := by
  intro w O B bw ne nt nb lv tv kv bv cv bx by_ rs T K Tb Kb h m hm hnb ei a b c d f ra rn rc sa sn sc S hS hSn hSB
  obtain ⟨sa', sc', e0, _⟩ := hS.slice
  simp only [Value.slice.injEq] at e0
  obtain ⟨rfl, rfl, rfl⟩ := e0
  obtain ⟨i0, hi0, hz0, hz1, hz2⟩ := info_parts infoByteX
  have hszB := h.size
  have HL := hide h
  have HP := hide (h.pair m hm)
  have hdl := doB_len (h.pair m hm).ok S
  have HOKD := hide ((h.pair m hm).ok.doS S)
  have HOUT := hide h.outer
  have HS := hide hS
  have HSB := hide hSB
  clear h hS hSB
  generalize hpx : bx m = px at *
  generalize hpy : by_ m = py at *
  have HPX := hide hpx
  have HPY := hide hpy
  clear hpx hpy
  have HST : Hid (Still w ((w.alloc (.cells #[.pointer (some ⟨px, 0, none⟩), .pointer (some ⟨py, 0, none⟩)] 46)).alloc (.cells #[.int .i64 14, .int .i64 ei, .int .i64 a, .int .i64 b, .int .i64 c, .int .i64 d, .bool f, .slice ra rn rc, .slice sa S.length sc] 35))) := ((Kept.refl _ _).alloc _).alloc _
  obtain ⟨b1, b2⟩ := box_two (P := fun _ => False) (w := w) (.cells #[.pointer (some ⟨px, 0, none⟩), .pointer (some ⟨py, 0, none⟩)] 46) (.cells #[.int .i64 14, .int .i64 ei, .int .i64 a, .int .i64 b, .int .i64 c, .int .i64 d, .bool f, .slice ra rn rc, .slice sa S.length sc] 35) (Kept.refl _ _) (fun x => x) (fun x => x)
  have y0 : ((w.alloc (.cells #[.pointer (some ⟨px, 0, none⟩), .pointer (some ⟨py, 0, none⟩)] 46)).alloc (.cells #[.int .i64 14, .int .i64 ei, .int .i64 a, .int .i64 b, .int .i64 c, .int .i64 d, .bool f, .slice ra rn rc, .slice sa S.length sc] 35)).cell? ⟨w.heap.size, 0, none⟩ = some (.pointer (some ⟨px, 0, none⟩)) := by rw [b1, World.cell?_alloc_new]; rfl
  have y1 : ((w.alloc (.cells #[.pointer (some ⟨px, 0, none⟩), .pointer (some ⟨py, 0, none⟩)] 46)).alloc (.cells #[.int .i64 14, .int .i64 ei, .int .i64 a, .int .i64 b, .int .i64 c, .int .i64 d, .bool f, .slice ra rn rc, .slice sa S.length sc] 35)).cell? ⟨w.heap.size, 1, none⟩ = some (.pointer (some ⟨py, 0, none⟩)) := by rw [b1, World.cell?_alloc_new]; rfl
  have y8 : ((w.alloc (.cells #[.pointer (some ⟨px, 0, none⟩), .pointer (some ⟨py, 0, none⟩)] 46)).alloc (.cells #[.int .i64 14, .int .i64 ei, .int .i64 a, .int .i64 b, .int .i64 c, .int .i64 d, .bool f, .slice ra rn rc, .slice sa S.length sc] 35)).cell? ⟨w.heap.size + 1, 8, none⟩ = some (.slice sa S.length sc) := by rw [b2, ← World.size_alloc w, World.cell?_alloc_new]; rfl
  have hW0 : ((w.alloc (.cells #[.pointer (some ⟨px, 0, none⟩), .pointer (some ⟨py, 0, none⟩)] 46)).alloc (.cells #[.int .i64 14, .int .i64 ei, .int .i64 a, .int .i64 b, .int .i64 c, .int .i64 d, .bool f, .slice ra rn rc, .slice sa S.length sc] 35)).heap.size = w.heap.size + 2 := by simp
  clear b1 b2
  go_enter Tryz.func17, Tryz.ntmps17
  go_wp2_with (at_make; refine wpList_make_full _ rfl _ _ _ rfl 0 5 i0 _ 1 Tryz.underlying33 hi0 hz0 hz1 .i64 .i64 _ _ (S.length + 8) rfl rfl (by omega) (by omega) (by rw [hz2]; omega) (by unfold maxLen; omega) (Nat.zero_le _) ?_; intro w1 hown1 hgrow1; refine unhide ?_)
  refine hide ?_
  generalize (w.alloc (.cells #[.pointer (some ⟨px, 0, none⟩), .pointer (some ⟨py, 0, none⟩)] 46)).alloc (.cells #[.int .i64 14, .int .i64 ei, .int .i64 a, .int .i64 b, .int .i64 c, .int .i64 d, .bool f, .slice ra rn rc, .slice sa S.length sc] 35) = W0 at *
  generalize hs1 : w.heap.size = s1 at *
  have HS1 := hide hs1
  clear hs1
  have hS1 : Still W0 w1 := Kept.grown (Kept.refl _ _) hgrow1 (fun k hk => by simp at hk)
  have hin1 : BytesIn w1 (.slice sa S.length sc) S := ((unhide HS).still (unhide HST)).still hS1
  have z0 := (hS1.cell s1 0 (by omega)).trans y0
  have z1 := (hS1.cell s1 1 (by omega)).trans y1
  have z8 := (hS1.cell (s1 + 1) 8 (by omega)).trans y8
  have HIN1 := hide hin1
  have HY0 := hide y0
  have HY1 := hide y1
  have HY8 := hide y8
  rw [hW0] at hown1
  generalize hgA : s1 + 2 = gA at *
  have HGA : Hid (W0.heap.size = gA) := hW0
  have HGS := hide hgA
  clear hW0
  have HO1 := hide hown1
  have HSS1 := hide hS1
  clear hS1 hin1 hgrow1 hown1 y0 y1 y8 hgA
  obtain ⟨w2, hcr, hown2, hgrow2⟩ := copyB_run (P := Tryz.prog) (ty := 3) Tryz.underlying33 hi0 hz1 (unhide HO1) (unhide HIN1) (by omega)
  have HCR := hide hcr
  clear hcr
  go_wp2_with fail
  rw [unhide HCR]
  obtain ⟨ys, hys, hrow2⟩ : ∃ ys : List Value, ys.length = 8 ∧ w2.ownsRow 0 5 1 (.slice (some ⟨gA, 0, none⟩) (S.length + 8) (S.length + 8)) (S.length + 8) (S.map byteC ++ ys) := ⟨_, by rw [List.length_drop, (unhide HO1).1]; omega, hown2⟩
  rw [fullB_start S ys hys] at hrow2
  generalize (fun j => ys.getD j (.bool false)) = gf at hrow2
  have hS2 : Still W0 w2 := Kept.grown (unhide HSS1) hgrow2 (fun k hk => .inr (by have := unhide HGA; simp at hk; omega))
  have HSS2 := hide hS2
  have HRW2 := hide hrow2
  clear hS2 hrow2 hown2 hgrow2 hys z0 z1 z8 HIN1 HSS1 HO1
  go_wp2
  go_loopw [9] (fun t w' => ∃ i : Nat, S.length ≤ i ∧ i ≤ S.length + 8 ∧ t = .int .i64 i ∧ w'.ownsRow 0 5 1 (.slice (some ⟨gA, 0, none⟩) (S.length + 8) (S.length + 8)) (S.length + 8) (enc (S.length + 8) (fullB S gf i)) ∧ Still W0 w') (fun t _ => S.length + 8 - (intOf t).toNat)
  case atStart => exact ⟨S.length, Nat.le_refl _, by omega, rfl, unhide HRW2, unhide HSS2⟩
  case round =>
    obtain ⟨i, hin, hi, rfl, hrow, hst⟩ := hrel
    have HROW := hide hrow
    have HSTR := hide hst
    clear hrow hst
    by_cases hlt : i < S.length + 8
    · have hi0' : (0 : Int) ≤ (i : Int) := by omega
      have hi1' : (i : Int) < ((S.length + 8 : Nat) : Int) := by omega
      obtain ⟨ca, hmx⟩ := fullB_one S gf i i
      have q0 : wr.cell? ⟨gA, i, none⟩ = some ca := by
        have := ownsRow_cell (unhide HROW) (fun _ _ => fullB_len S gf i _) hlt (j := 0) (by omega)
        rw [hmx] at this
        simpa using this
      have ff : ∀ j, wr.frozen? ⟨gA, j, none⟩ = false := fun j => (unhide HROW).frozenAt j
      have HR5 : Hid ((wr.setCell ⟨gA, i, none⟩ (.int .u8 77)).ownsRow 0 5 1 (.slice (some ⟨gA, 0, none⟩) (S.length + 8) (S.length + 8)) (S.length + 8) (enc (S.length + 8) (fullB S gf (i + 1)))) := by
        have := ownsRow_store (unhide HROW) (fun _ _ => fullB_len S gf i _) (i := i) (j := 0) (u := .int .u8 77) (f' := fullB S gf (i + 1)) hlt (by omega) (by
          rw [hmx]
          unfold fullB
          rw [if_neg (by omega), if_pos (by omega)]
          rfl) (fun k _ hk => by
          unfold fullB
          by_cases h : k < S.length
          · rw [if_pos h, if_pos h]
          · rw [if_neg h, if_neg h]
            by_cases h2 : k < i
            · rw [if_pos h2, if_pos (by omega)]
            · rw [if_neg h2, if_neg (by omega)])
        refine hide ?_
        simpa using this
      have hge : W0.heap.size ≤ gA := by have := unhide HGA; omega
      have HK5 : Hid (Still W0 (wr.setCell ⟨gA, i, none⟩ (.int .u8 77))) := Kept.setCell (p := ⟨gA, i, none⟩) (unhide HSTR) (.inr hge) _
      clear hmx
      go_wp2
      go_roundw
      case rel => exact ⟨i + 1, by omega, by omega, by go_num, unhide HR5, unhide HK5⟩
      case measure => simp [intOf]; omega
    · obtain rfl : i = S.length + 8 := by omega
      have hro : wr.ownsRow 0 5 1 (.slice (some ⟨gA, 0, none⟩) (S.length + 8) (S.length + 8)) (S.length + 8) (enc (S.length + 8) (overB S 0)) := by rw [← fullB_over S gf]; exact unhide HROW
      have HRO0 := hide hro
      clear hro HROW HRW2 HSS2
      have z0 := ((unhide HSTR).cell s1 0 (by have := unhide HGA; have := unhide HGS; omega)).trans (unhide HY0)
      have z1 := ((unhide HSTR).cell s1 1 (by have := unhide HGA; have := unhide HGS; omega)).trans (unhide HY1)
      have z8 := ((unhide HSTR).cell (s1 + 1) 8 (by have := unhide HGA; have := unhide HGS; omega)).trans (unhide HY8)
      have hSW : Still w wr := (unhide HST).trans (unhide HSTR)
      have hp1 := (unhide HP).boxed hSW
      have hgl' : gA < wr.heap.size := ownsRow_lt (unhide HRO0) rfl
      have hsw : s1 + 1 < wr.heap.size := by have := unhide HGS; omega
      have hSw : BytesIn wr (.slice sa S.length sc) S := (unhide HS).still hSW
      have HRVs : Hid (BytesIn wr (.slice (some ⟨gA, 0, none⟩) S.length (S.length + 8)) S) := BytesIn.over (unhide HRO0) (by omega) (by omega) hSw.1 (by omega)
      have HRVn : Hid (sa.isNone = true → BytesIn wr (.slice none 0 0) S) := fun hb => ⟨hSw.1, .inl ⟨rfl, by
        rcases hSw.2 with ⟨_, e⟩ | ⟨ad, c', e, _⟩
        · exact e
        · rw [(Value.slice.inj e).1] at hb; cases hb⟩⟩
      have HP1 := hide hp1
      have HSW := hide hSW
      have HBW := hide hSw
      clear hp1 hSW hSw
      have hN := fun w => eqlNil w 33 5 sa S.length sc Tryz.underlying33
      cases hb : sa.isNone
      all_goals
        rw [hb] at hN
        go_wp2_with fail
      refine (do_any J K3 (unhide HP1).x (unhide HP1).ok (unhide HRVs)).mono ?_
      rotate_left
      refine (do_any J K3 (unhide HP1).x (unhide HP1).ok (unhide HRVn hb)).mono ?_
      all_goals
        rintro en w3 ⟨v, rfl, hrow3, O1, hO1, hX, hk3, hv1⟩
        have hnx : ∀ k, w.heap.size ≤ k → ¬ mineX (cutO O w.heap.size) (m + 1) k := fun k hk => cutO_not hk
        have hs1 := unhide HS1
        have hgs := unhide HGS
        have u1 := (hk3.cell (p := ⟨s1, 1, none⟩) (by show s1 < wr.heap.size; omega) (hnx s1 (by omega))).trans z1
        have u8 := (hk3.cell (p := ⟨s1 + 1, 8, none⟩) hsw (hnx (s1 + 1) (by omega))).trans z8
        have hz3 := hk3.size
        have hr3 := (unhide HP1).ref hk3 hO1
        have hrowA : w3.ownsRow 0 5 1 (.slice (some ⟨gA, 0, none⟩) (S.length + 8) (S.length + 8)) (S.length + 8) (enc (S.length + 8) (overB S 0)) := ownsRow_of_block (unhide HRO0) (fun g hg => hk3.block g (ownsRow_lt (unhide HRO0) hg) (by
          have : gA = g := by simpa [Value.ownBlock] using hg
          exact hnx g (by omega)))
        have hcut : ∀ ad', sa = some ad' → 0 < S.length → ad'.block < B := fun ad' he hpos => unhide HSB ad' he hpos
        have hB3 : BytesIn w3 (.slice sa S.length sc) S := (unhide HBW).kept hk3 (fun ad' he hpos hm' => by
          have hlt := hcut ad' he hpos
          have := hm'.1
          rw [cutO_lt (by omega), unhide HOUT _ hlt] at this
          simp at this)
        obtain ⟨va, vc, rfl, hvl1, hvl2⟩ := ownsRow_slice hrow3
        obtain ⟨gv, rfl, hgv⟩ := ownsRow_some hrow3 (by omega)
        have hgv0 := (hrow3.lt gv rfl).1
        have hgv1 := hv1 gv rfl
        have HRF := hide (refDo_any hr3 (unhide HP1).ok (by omega) hB3)
        have HB3 := hide hB3
        have HK3 := hide hk3
        have HO1 := hide hO1
        have HX := hide hX
        have HROWA := hide hrowA
        have HROW3 := hide hrow3
        have HCUT := hide hcut
        clear hk3 hO1 hX hr3 hrowA hB3 hcut hnx z0 z1 z8 hrow3 hv1 HRVs HRVn
        generalize doB (rs m) S = F at *
        generalize doS (rs m) S = r' at *
        go_wp2_with fail
        refine (unhide HRF).mono ?_
        rintro en w4 ⟨u, rfl, hrowu, O2, hO2, hRf, hk4⟩
        have hnr : ∀ k, w.heap.size ≤ k → k < wr.heap.size → ¬ mineR O1 (m + 1) k := fun k h1 h2 hm' => by
          unfold mineR at hm'
          rw [unhide HO1 k h2, cutO_ge h1] at hm'
          simp at hm'
        have hz4 := hk4.size
        have v8 := (hk4.cell (p := ⟨s1 + 1, 8, none⟩) (by show s1 + 1 < w3.heap.size; omega) (hnr (s1 + 1) (by omega) hsw)).trans u8
        have hrowA4 : w4.ownsRow 0 5 1 (.slice (some ⟨gA, 0, none⟩) (S.length + 8) (S.length + 8)) (S.length + 8) (enc (S.length + 8) (overB S 0)) := ownsRow_of_block (unhide HROWA) (fun g hg => hk4.block g (ownsRow_lt (unhide HROWA) hg) (by
          have : gA = g := by simpa [Value.ownBlock] using hg
          exact hnr g (by omega) (by omega)))
        have hrowv4 : w4.ownsRow wr.heap.size 5 1 (.slice (some ⟨gv, 0, none⟩) F.length vc) F.length (F.map byteC) := ownsRow_of_block (unhide HROW3) (fun g hg => hk4.block g (ownsRow_lt (unhide HROW3) hg) (by
          have e' : gv = g := by simpa [Value.ownBlock] using hg
          subst e'
          exact fun hm' => hgv1 hm'.1))
        have hB4 : BytesIn w4 (.slice sa S.length sc) S := (unhide HB3).kept hk4 (fun ad' he hpos hm' => by
          have hlt := unhide HCUT ad' he hpos
          have := hm'.1
          rw [unhide HO1 _ (by omega), cutO_lt (by omega), unhide HOUT _ hlt] at this
          simp at this)
        obtain ⟨ua, uc, rfl, hul1, hul2⟩ := ownsRow_slice hrowu
        obtain ⟨gu, rfl, hgu⟩ := ownsRow_some hrowu (by omega)
        have hcv1 : (convert 33 9 (.slice (some ⟨gv, 0, none⟩) F.length vc)).run Tryz.prog w4 = .ok (.string (strOfNums F)) w4 := run_convert_bytes_arg w4 33 5 Tryz.underlying33 Tryz.underlying5 gv 0 F.length vc F rfl (fun j hj => by
          rw [enc_bytes] at hrowv4
          have := ownsRow_cell hrowv4 (fun _ _ => rfl) hj (j := 0) (by omega)
          simpa [byteC] using this) 9 Tryz.underlying9
        have hcv2 : (convert 33 9 (.slice (some ⟨gu, 0, none⟩) F.length uc)).run Tryz.prog w4 = .ok (.string (strOfNums F)) w4 := run_convert_bytes_arg w4 33 5 Tryz.underlying33 Tryz.underlying5 gu 0 F.length uc F rfl (fun j hj => by
          rw [enc_bytes] at hrowu
          have := ownsRow_cell hrowu (fun _ _ => rfl) hj (j := 0) (by omega)
          simpa [byteC] using this) 9 Tryz.underlying9
        generalize strOfNums F = str at *
        have HPD : Hid (∀ w9, Kept (· = gA) w4 w9 → ∃ O5 : Tag, (∀ k, k < w.heap.size → O5 k = O k) ∧ PairI I w9 O5 (m + 1) px py r' ∧ Kept (mineA O (m + 1)) w w9 ∧ ∀ g, (Value.slice (some ⟨gv, 0, none⟩) F.length vc).ownBlock = some g → O5 g = (0, 9, 0)) := fun w9 hk9 =>
          pair_do (unhide HSW) (by omega) (unhide HO1) (unhide HX) (unhide HK3) (fun g hg => by
            have e' : gv = g := by simpa [Value.ownBlock] using hg
            subst e'
            exact ⟨hgv0, hgv, hgv1⟩) hO2 hRf hk4 (unhide HOKD) hk9 (by omega) (by omega)
        have HROW4 := hide hrowA4
        have HROWV := hide hrowv4
        have HB4 := hide hB4
        have HV8 := hide v8
        have hgA4 : gA < w4.heap.size := by omega
        have hs4 : s1 + 1 < w4.heap.size := by omega
        have hsg : s1 + 1 ≠ gA := by omega
        clear hnr v8 hrowA4 hrowv4 hB4 hO2 hRf hk4 u1 u8 HX HK3 HO1 HROWA HROW3 HB3 HRF hrowu hN
        go_wp2
        go_loopw [13, 14] (fun ok t w' => ∃ j : Nat, j ≤ S.length + 8 ∧ t = .int .i64 j ∧ ok = .bool true ∧ w'.ownsRow 0 5 1 (.slice (some ⟨gA, 0, none⟩) (S.length + 8) (S.length + 8)) (S.length + 8) (enc (S.length + 8) (overB S j)) ∧ Kept (· = gA) w4 w') (fun _ t _ => S.length + 8 - (intOf t).toNat)
        case atStart => exact ⟨0, by omega, rfl, by simp, unhide HROW4, Kept.refl _ _⟩
        case round =>
          obtain ⟨j, hj, rfl, rfl, hrow, hkk⟩ := hrel
          have HROW := hide hrow
          have HKK := hide hkk
          have v8 := (hkk.cell (p := ⟨s1 + 1, 8, none⟩) hs4 hsg).trans (unhide HV8)
          have hszr := hkk.size
          clear hrow hkk
          by_cases hlt : j < S.length + 8
          · have hi0' : (0 : Int) ≤ (j : Int) := by omega
            have hi1' : (j : Int) < ((S.length + 8 : Nat) : Int) := by omega
            have q0 := ownsRow_cell (unhide HROW) (fun _ _ => overB_len S j _) hlt (j := 0) (by omega)
            have ff : ∀ o, wr.frozen? ⟨gA, o, none⟩ = false := fun o => (unhide HROW).frozenAt o
            by_cases hin : j < S.length
            · have ho : overB S j j = [byteC (fB S j)] := by unfold overB; rw [if_neg (by omega), if_pos hin]
              rw [ho] at q0
              have q0' : wr.cell? ⟨gA, j, none⟩ = some (.int .u8 (fB S j)) := by simpa [byteC] using q0
              have hBr : BytesIn wr (.slice sa S.length sc) S := (unhide HB4).kept (unhide HKK) (fun ad' he hpos hm' => by
                have h1 := unhide HCUT ad' he hpos
                have h2 : ad'.block = gA := hm'
                omega)
              obtain ⟨bs, off, hsa, hbs, c0⟩ := hBr.at hin
              have hin' : (j : Int) < (S.length : Int) := by omega
              rw [hsa] at v8
              clear q0 ho hBr
              generalize fB S j = x at *
              go_wp2_with fail
              go_quiet (fail)
              have p0 : (wr.drewN nq).cell? ⟨gA, j, none⟩ = some (.int .u8 x) := q0'
              have fq : ∀ o, (wr.drewN nq).frozen? ⟨gA, o, none⟩ = false := ff
              have HR5 := hide (overB_store (ownsRow_of_block (w' := wr.drewN nq) (unhide HROW) (fun _ _ => rfl)) hlt)
              have HK5 : Hid (Kept (· = gA) w4 ((wr.drewN nq).setCell ⟨gA, j, none⟩ (.int .u8 99))) := Kept.setCell (p := ⟨gA, j, none⟩) ((unhide HKK).drewN nq) (.inl rfl) _
              clear q0' c0 v8 ff
              generalize wr.drewN nq = V at *
              go_wp2
              go_roundw
              case rel => exact ⟨j + 1, by omega, by go_num, rfl, unhide HR5, unhide HK5⟩
              case measure => simp [intOf]; omega
            · have ho : overB S j j = [.int .u8 77] := by unfold overB; rw [if_neg (by omega), if_neg hin]
              rw [ho] at q0
              have q0' : wr.cell? ⟨gA, j, none⟩ = some (.int .u8 77) := by simpa using q0
              have hin' : ¬ (j : Int) < (S.length : Int) := by omega
              have HR5 := hide (overB_store (unhide HROW) hlt)
              have HK5 : Hid (Kept (· = gA) w4 (wr.setCell ⟨gA, j, none⟩ (.int .u8 99))) := Kept.setCell (p := ⟨gA, j, none⟩) (unhide HKK) (.inl rfl) _
              clear q0 ho v8
              go_wp2
              go_roundw
              case rel => exact ⟨j + 1, by omega, by go_num, by simp, unhide HR5, unhide HK5⟩
              case measure => simp [intOf]; omega
          · obtain rfl : j = S.length + 8 := by omega
            obtain ⟨O5, hO5, hp5, hk5, h9⟩ := unhide HPD wr (unhide HKK)
            rw [← unhide HPX, ← unhide HPY] at hp5
            obtain ⟨hat, hbl⟩ := (unhide HL).afterTo hm hO5 hp5 hk5
            have hrv := ownsRow_of_block (w' := wr) (unhide HROWV) (fun g hg => (unhide HKK).block g (ownsRow_lt (unhide HROWV) hg) (by
              have e' : gv = g := by simpa [Value.ownBlock] using hg
              show ¬ g = gA
              omega))
            have HRC := hide (bytes_any hat.blk hat.wtag hat.outB.trow hat.outB.ttag hat.outB.krow hat.outB.ktag hrv h9 hdl.2 (by omega) hnb)
            have HAT := hide hat
            have HBL := hide hbl
            have H9 := hide h9
            clear hat hbl h9 hrv hO5 hp5 hk5 v8
            go_wp2_with fail
            refine (unhide HRC).mono ?_
            rintro en w6 ⟨rfl, hpost⟩
            have hfin := (unhide HAT).bytes (unhide H9) (fun k g hk hg e' => by
              have h1 := ((unhide HL).outR.fil k hk).2 g hg
              have h2 : gv = g := by simpa [Value.ownBlock] using e'
              omega) (fun k g hk hg e' => by
              have h1 := ((unhide HL).outB.fil k hk).2 g hg
              have h2 : gv = g := by simpa [Value.ownBlock] using e'
              omega) hpost
            have HF := hide hfin
            clear hfin hpost HRC
            go_wp2
            go_ret
            exact ⟨rfl, (unhide HF).1, Below.trans (unhide HBL) (unhide HF).2⟩
end

set_option maxRecDepth 100000 in
set_option maxHeartbeats 2000000 in
theorem requestsM_any {I : EngI} (J : EngI2 I) (K3 : EngI3 I) (D : DoSpec I) {w : World} (sa : Option Addr) (n cap : Nat) (S : Nat → StepD) (hs : 0 < n → ∃ bs off, sa = some ⟨bs, off, none⟩ ∧ bs < w.heap.size ∧ ScriptAt w bs off n S) (hrl : ∀ i, i < n → RulesAt w (S i)) (hbl : ∀ i, i < n → BytesAt w (S i)) (hn : n * 104 ≤ 140737488355328) :
    Calls Tryz.prog 6 #[.slice sa n cap] w fun en w' => en = .returned (.bool true) ∧ Below w.heap.size w w' := by
  have HS := hide hs
  have HRL := hide hrl
  have HSL := hide hbl
  clear hs hrl hbl
  go_enter Tryz.func6, Tryz.ntmps6
  go_wp2_with fail
  have hb : Below w.heap.size w (w.alloc (.cells #[.int .i64 1, .int .i64 14] 3)) := (Below.refl _ _).alloc (Nat.le_refl _) _
  refine (playsM_any J K3 sa n cap w.heap.size S ?_ ?_ ?_ (by simp) [1, 14] 2 rfl (by omega) (fun kind hk => by simp [inK] at hk; omega) (fun _ => D) ?_ hn).mono ?_
  · intro h0
    obtain ⟨bs, off, e1, e2, e3⟩ := unhide HS h0
    exact ⟨bs, off, e1, by simp; omega, e3.below hb e2⟩
  · intro i hi
    obtain ⟨R, q1, q2, q3⟩ := unhide HRL i hi
    exact ⟨R, q1.below hb q3, q2, fun ad h1 h2 => by have := q3 ad h1 h2; simp; omega⟩
  · intro i hi
    obtain ⟨R, q1, q2, q3⟩ := unhide HSL i hi
    exact ⟨R, q1.below hb q3, q2, fun ad h1 h2 => by have := q3 ad h1 h2; simp; omega⟩
  · intro j hj
    rw [World.cell?_alloc_new]
    rcases (by omega : j = 0 ∨ j = 1) with rfl | rfl <;> rfl
  · rintro en w1 ⟨rfl, hb1⟩
    have HB := hide (Below.trans hb (hb1.mono (by simp)))
    clear hb hb1
    go_wp2
    go_ret
    exact ⟨rfl, unhide HB⟩
set_option maxRecDepth 100000 in
set_option maxHeartbeats 2000000 in
theorem allM_any {I : EngI} (J : EngI2 I) (K3 : EngI3 I) (D : DoSpec I) {w : World} (sa : Option Addr) (n cap : Nat) (S : Nat → StepD) (hs : 0 < n → ∃ bs off, sa = some ⟨bs, off, none⟩ ∧ bs < w.heap.size ∧ ScriptAt w bs off n S) (hrl : ∀ i, i < n → RulesAt w (S i)) (hbl : ∀ i, i < n → BytesAt w (S i)) (hn : n * 104 ≤ 140737488355328) :
    Calls Tryz.prog 7 #[.slice sa n cap] w fun en w' => en = .returned (.bool true) ∧ Below w.heap.size w w' := by
  have HS := hide hs
  have HRL := hide hrl
  have HSL := hide hbl
  clear hs hrl hbl
  go_enter Tryz.func7, Tryz.ntmps7
  go_wp2_with fail
  have hb : Below w.heap.size w (w.alloc (.cells #[.int .i64 1, .int .i64 2, .int .i64 3, .int .i64 4, .int .i64 5, .int .i64 6, .int .i64 7, .int .i64 8, .int .i64 9, .int .i64 10, .int .i64 11, .int .i64 12, .int .i64 13, .int .i64 14] 3)) := (Below.refl _ _).alloc (Nat.le_refl _) _
  refine (playsM_any J K3 sa n cap w.heap.size S ?_ ?_ ?_ (by simp) [1, 2, 3, 4, 5, 6, 7, 8, 9, 10, 11, 12, 13, 14] 14 rfl (by omega) (fun kind hk => by simp [inK] at hk; omega) (fun _ => D) ?_ hn).mono ?_
  · intro h0
    obtain ⟨bs, off, e1, e2, e3⟩ := unhide HS h0
    exact ⟨bs, off, e1, by simp; omega, e3.below hb e2⟩
  · intro i hi
    obtain ⟨R, q1, q2, q3⟩ := unhide HRL i hi
    exact ⟨R, q1.below hb q3, q2, fun ad h1 h2 => by have := q3 ad h1 h2; simp; omega⟩
  · intro i hi
    obtain ⟨R, q1, q2, q3⟩ := unhide HSL i hi
    exact ⟨R, q1.below hb q3, q2, fun ad h1 h2 => by have := q3 ad h1 h2; simp; omega⟩
  · intro j hj
    rw [World.cell?_alloc_new]
    rcases (by omega : j = 0 ∨ j = 1 ∨ j = 2 ∨ j = 3 ∨ j = 4 ∨ j = 5 ∨ j = 6 ∨ j = 7 ∨ j = 8 ∨ j = 9 ∨ j = 10 ∨ j = 11 ∨ j = 12 ∨ j = 13) with rfl | rfl | rfl | rfl | rfl | rfl | rfl | rfl | rfl | rfl | rfl | rfl | rfl | rfl <;> rfl
  · rintro en w1 ⟨rfl, hb1⟩
    have HB := hide (Below.trans hb (hb1.mono (by simp)))
    clear hb hb1
    go_wp2
    go_ret
    exact ⟨rfl, unhide HB⟩
theorem doSpec : DoSpec engX := doSpec_any engX2 engX3
end Go.Proofs.YtgndledehlilkaaGreat
