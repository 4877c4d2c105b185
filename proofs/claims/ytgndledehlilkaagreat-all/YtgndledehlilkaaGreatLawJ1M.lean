import Derived.Test.YtgndledehlilkaaGreatLawI1M
namespace Go.Proofs.YtgndledehlilkaaGreat
open Go.RowKit

structure LawAtI (I : EngI) (w : World) (O : Tag) (B bw ne : Nat) (lv : Value) (bx by_ : Nat → Nat) (rs : Nat → RefS) : Prop where
  blk : w.heap[bw]? = some (.cells #[lv, .slice none 0 0, .slice none 0 0, .slice none 0 0, .slice none 0 0] 31 (0, 0))
  wtag : O bw = (0, 6, 0)
  row : w.ownsRow 0 46 2 lv ne (enc ne fun i => [.pointer (some ⟨bx i, 0, none⟩), .pointer (some ⟨by_ i, 0, none⟩)])
  ltag : ∀ g, lv.ownBlock = some g → O g = (0, 7, 0)
  outer : ∀ k, k < B → O k = (0, 8, 0)
  size : B ≤ w.heap.size
  pair : ∀ i, i < ne → PairI I w O (i + 1) (bx i) (by_ i) (rs i)
def LawRepI (I : EngI) (w : World) (B bw ne : Nat) : Prop := ∃ O lv bx by_ rs, LawAtI I w O B bw ne lv bx by_ rs

section
variable {I : EngI} {w w' : World} {O O' : Tag} {B bw ne : Nat} {lv : Value} {bx by_ : Nat → Nat} {rs : Nat → RefS}
theorem LawAtI.lt (h : LawAtI I w O B bw ne lv bx by_ rs) : bw < w.heap.size := (Array.getElem?_eq_some_iff.1 h.blk).1
theorem LawAtI.frame (h : LawAtI I w O B bw ne lv bx by_ rs) (hs : w.heap.size ≤ w'.heap.size) (hk : ∀ k, k < w.heap.size → O k ≠ (0, 8, 0) → w'.heap[k]? = w.heap[k]?) (hO : ∀ k, k < w.heap.size → O' k = O k) : LawAtI I w' O' B bw ne lv bx by_ rs := by
  have hb := h.lt
  have hz := h.size
  refine ⟨?_, ?_, ?_, ?_, ?_, by omega, ?_⟩
  · rw [hk bw hb (by rw [h.wtag]; simp)]; exact h.blk
  · rw [hO bw hb]; exact h.wtag
  · exact ownsRow_of_block h.row fun g hg => hk g (ownsRow_lt h.row hg) (by rw [h.ltag g hg]; simp)
  · intro g hg; rw [hO g (ownsRow_lt h.row hg)]; exact h.ltag g hg
  · intro k hk'; rw [hO k (by omega)]; exact h.outer k hk'
  · intro i hi
    exact (h.pair i hi).frame (fun k a c => hk k a (by intro e; rw [e] at c; simp at c)) (fun k a _ => hO k a)
theorem LawAtI.still (h : LawAtI I w O B bw ne lv bx by_ rs) (hs : Still w w') : LawAtI I w' O B bw ne lv bx by_ rs := h.frame hs.size (fun _ hk _ => hs.heap hk) (fun _ _ => rfl)
theorem LawRepI.still (h : LawRepI I w B bw ne) (hs : Still w w') : LawRepI I w' B bw ne := by
  obtain ⟨O, lv, bx, by_, rs, h⟩ := h
  exact ⟨O, lv, bx, by_, rs, h.still hs⟩
/-- Behind a call on engine i. -/
theorem LawAtI.after (h : LawAtI I w O B bw ne lv bx by_ rs) {i : Nat} (hi : i < ne) (ha : AfterI I w O (i + 1) (bx i) (by_ i) w') : LawRepI I w' B bw ne ∧ Below B w w' := by
  obtain ⟨O', hO, ⟨r', hp⟩, hk⟩ := ha
  have hb := h.lt
  have hz := h.size
  have hs := hk.size
  have hne : ∀ k, k < w.heap.size → (O k).1 ≠ i + 1 → w'.heap[k]? = w.heap[k]? := fun k a c => hk.block k a c
  refine ⟨⟨O', lv, bx, by_, upd rs i r', ?_, ?_, ?_, ?_, ?_, by omega, ?_⟩, hk.below hz (fun k hk' => by unfold mineA; rw [h.outer k hk']; simp)⟩
  · rw [hne bw hb (by rw [h.wtag]; simp)]; exact h.blk
  · rw [hO bw hb]; exact h.wtag
  · exact ownsRow_of_block h.row fun g hg => hne g (ownsRow_lt h.row hg) (by rw [h.ltag g hg]; simp)
  · intro g hg; rw [hO g (ownsRow_lt h.row hg)]; exact h.ltag g hg
  · intro k hk'; rw [hO k (by omega)]; exact h.outer k hk'
  · intro j hj
    by_cases e : j = i
    · subst e; rw [upd_same]; exact hp
    · rw [upd_other _ _ e]
      exact (h.pair j hj).frame (fun k a c => hne k a (by omega)) (fun k a _ => hO k a)
theorem LawAtI.cells (h : LawAtI I w O B bw ne lv bx by_ rs) : w.cell? ⟨bw, 0, none⟩ = some lv ∧ (∀ j, 1 ≤ j → j < 5 → w.cell? ⟨bw, j, none⟩ = some (.slice none 0 0)) ∧ ∀ j, w.frozen? ⟨bw, j, none⟩ = false := by
  refine ⟨by simp [World.cell?, h.blk], fun j h1 h5 => ?_, fun j => by simp [World.frozen?, h.blk]⟩
  rcases (by omega : j = 1 ∨ j = 2 ∨ j = 3 ∨ j = 4) with rfl | rfl | rfl | rfl <;> simp [World.cell?, h.blk]
/-- One engine more. -/
theorem LawAtI.push {lv' : Value} {nx ny : Nat} {r : RefS} {w0 : World} (h : LawAtI I w O B bw ne lv bx by_ rs) (hw : Still w w0) (hg : w0.grownBy w' lv.ownBlock)
    (hl : w'.ownsRow 0 46 2 lv' (ne + 1) ((enc ne fun i => [.pointer (some ⟨bx i, 0, none⟩), .pointer (some ⟨by_ i, 0, none⟩)]) ++ [.pointer (some ⟨nx, 0, none⟩), .pointer (some ⟨ny, 0, none⟩)]))
    (hO : ∀ k, k < w.heap.size → O' k = O k) (ht : ∀ g, lv'.ownBlock = some g → O' g = (0, 7, 0)) (hp : PairI I w0 O' (ne + 1) nx ny r) (hrow : ∀ g, lv.ownBlock = some g → O' g = (0, 7, 0)) :
    LawRepI I (w'.setCell ⟨bw, 0, none⟩ lv') B bw (ne + 1) ∧ Below B w (w'.setCell ⟨bw, 0, none⟩ lv') := by
  have hb := h.lt
  have hz := h.size
  have hs0 := hw.size
  have hs1 := hg.size
  have hbB : B ≤ bw := by
    rcases Nat.lt_or_ge bw B with hl | hg
    · have := h.outer bw hl; rw [h.wtag] at this; simp at this
    · exact hg
  have hblk : w'.heap[bw]? = w.heap[bw]? := by
    rw [hg.block bw (by omega) (fun hh => by have := h.ltag bw hh.symm; rw [h.wtag] at this; simp at this), hw.heap hb]
  have hOb : O' bw = (0, 6, 0) := by rw [hO bw hb]; exact h.wtag
  have hne : ∀ k, k < w0.heap.size → O' k ≠ (0, 7, 0) → O' k ≠ (0, 6, 0) → (w'.setCell ⟨bw, 0, none⟩ lv').heap[k]? = w0.heap[k]? := fun k hk h7 h6 => by
    rw [Below.heap_setCell _ _ _ _ (by rintro rfl; exact h6 hOb)]
    exact hg.block k hk (fun hh => h7 (hrow k hh.symm))
  refine ⟨⟨O', lv', upd bx ne nx, upd by_ ne ny, upd rs ne r, ?_, hOb, ?_, ht, ?_, by simp; omega, ?_⟩, ?_⟩
  · simp [World.setCell, Array.getElem?_modify, hblk, h.blk]
  · have e1 : enc (ne + 1) (fun i => [Value.pointer (some ⟨upd bx ne nx i, 0, none⟩), Value.pointer (some ⟨upd by_ ne ny i, 0, none⟩)]) = (enc ne fun i => [.pointer (some ⟨bx i, 0, none⟩), .pointer (some ⟨by_ i, 0, none⟩)]) ++ [.pointer (some ⟨nx, 0, none⟩), .pointer (some ⟨ny, 0, none⟩)] := by
      rw [enc_succ]
      congr 1
      · exact enc_congr fun i hi => by rw [upd_other _ _ (by omega), upd_other _ _ (by omega)]
      · simp only [upd_same]
    rw [e1]
    exact ownsRow_of_block hl fun g hg' => Below.heap_setCell _ _ _ _ (by
      rintro rfl
      have := ht _ hg'
      rw [hOb] at this; simp at this)
  · intro k hk'; rw [hO k (by omega)]; exact h.outer k hk'
  · intro i hi
    by_cases e : i = ne
    · subst e
      rw [upd_same, upd_same, upd_same]
      exact hp.frame (fun k a c => hne k a (by intro e; rw [e] at c; simp at c) (by intro e; rw [e] at c; simp at c)) (fun _ _ _ => rfl)
    · rw [upd_other _ _ e, upd_other _ _ e, upd_other _ _ e]
      refine (h.pair i (by omega)).frame (fun k a c => ?_) (fun k a _ => hO k a)
      rw [hne k (by omega) (by rw [hO k a]; intro e; rw [e] at c; simp at c) (by rw [hO k a]; intro e; rw [e] at c; simp at c)]
      exact hw.heap a
  · refine ⟨?_, ?_, ?_, ?_, ?_⟩
    · exact hg.os.trans hw.os
    · exact hg.tape.trans hw.tape
    · exact hg.output.trans hw.output
    · simp; omega
    · intro k hk'
      rw [Below.heap_setCell _ _ _ _ (by show k ≠ bw; omega), hg.block k (by omega) (fun hh => by have := h.ltag k hh.symm; rw [h.outer k hk'] at this; simp at this)]
      exact hw.heap (by omega)
end
set_option maxHeartbeats 400000 in
theorem refNew_yes (n : Int) (w : World) (h1 : 1 ≤ n) (h2 : n ≤ 64) :
    Calls Tryz.prog 12 #[.int .i64 n] w fun en w' => en = .returned (.tuple #[.pointer (some ⟨w.heap.size, 0, none⟩), .int .i64 0]) ∧ Still w w' ∧ w'.heap.size = w.heap.size + 1 ∧
      (∀ (O : Nat → Nat × Nat × Nat) (e : Nat) (lf : Nat → Life) (tk : Nat → Tok), O w.heap.size = (e, 0, 0) → RefRep w' O e w.heap.size ⟨n, 0, lf, 0, tk⟩) := by
  go_enter Tryz.func12, Tryz.ntmps12
  go_wp2_with (go_at_call 20; refine (between_yes _ _ _ _ (by omega) (by omega)).mono ?_; rintro e w' ⟨rfl, hw⟩; replace hw := hw.symm; subst hw)
  go_ret2
  refine ⟨rfl, (Kept.refl _ _).alloc _, by simp, fun O e lf tk hO => ⟨.slice none 0 0, .slice none 0 0, fun _ => .slice none 0 0, fun _ => .slice none 0 0, fun _ => .slice none 0 0, heap_alloc_new w _, hO, World.ownsRow_nil _ _ _ _, ?_, World.ownsRow_nil _ _ _ _, ?_, ?_, ?_, ?_, ?_, ?_, ?_⟩⟩
  · intro g hg; simp [Value.ownBlock] at hg
  · intro g hg; simp [Value.ownBlock] at hg
  · intro i hi; exact absurd hi (Nat.not_lt_zero _)
  · intro i g hi; exact absurd hi (Nat.not_lt_zero _)
  · intro i hi; exact absurd hi (Nat.not_lt_zero _)
  · intro i g hi; exact absurd hi (Nat.not_lt_zero _)
  · intro i hi; exact absurd hi (Nat.not_lt_zero _)
  · intro i g hi; exact absurd hi (Nat.not_lt_zero _)
set_option maxHeartbeats 400000 in
theorem refNew_no (n : Int) (w : World) (h : n < 1 ∨ 64 < n) :
    Calls Tryz.prog 12 #[.int .i64 n] w fun en w' => en = .returned (.tuple #[.pointer none, .int .i64 2]) ∧ w' = w := by
  have H := hide h
  clear h
  go_enter Tryz.func12, Tryz.ntmps12
  go_wp2_with (go_at_call 20; refine (between_no _ _ _ _ (unhide H)).mono ?_; rintro e w' ⟨rfl, hw⟩; replace hw := hw.symm; subst hw)
  go_ret2
  exact ⟨rfl, rfl⟩

set_option maxHeartbeats 400000 in
theorem pick_any (c n : Int) (w : World) (hn : 1 ≤ n) (h1 : -9223372036854775808 ≤ c) (h2 : c ≤ 9223372036854775807) :
    Calls Tryz.prog 13 #[.int .i64 c, .int .i64 n] w fun e w' => ∃ q : Int, 0 ≤ q ∧ q < n ∧ e = .returned (.int .i64 q) ∧ w' = w := by
  by_cases hc : c < 0
  · go_enter Tryz.func13, Tryz.ntmps13
    go_wp2
    go_ret
    have e1 : -((c + 1).tmod n) = (-(c + 1)) % n := by rw [← Int.neg_tmod, Int.tmod_eq_emod_of_nonneg (by omega)]
    have e2 := Int.emod_nonneg (-(c + 1)) (b := n) (by omega)
    have e3 := Int.emod_lt_of_pos (-(c + 1)) (b := n) (by omega)
    exact ⟨-((c + 1).tmod n), by omega, by omega, rfl, rfl⟩
  · go_enter Tryz.func13, Tryz.ntmps13
    go_wp2
    go_ret
    exact ⟨_, Int.emod_nonneg _ (by omega), Int.emod_lt_of_pos _ (by omega), rfl, rfl⟩

theorem infoEngine : (Tryz.prog.info? 46).map (fun i => (i.zero, i.size, i.bytes)) = some (some (.agg #[.pointer none, .pointer none]), 2, 16) := by kernel_rfl

set_option maxHeartbeats 2000000 in
theorem stepJ_new_no {I : EngI} {w : World} {B bw ne : Nat} (h : LawRepI I w B bw ne) (ei a b c d : Int) (f : Bool) (ra : Option Addr) (rn rc : Nat) (sa : Option Addr) (sn sc : Nat) (ha : a < 1 ∨ 64 < a) :
    Calls Tryz.prog 9 #[.pointer (some ⟨bw, 0, none⟩), stepW 1 ei a b c d f (.slice ra rn rc) (.slice sa sn sc)] w fun en w' => en = .returned (.bool true) ∧ LawRepI I w' B bw ne ∧ Below w.heap.size w w' := by
  unfold stepW
  have HL := hide h
  have HA := hide ha
  clear h ha
  go_enter Tryz.func9, Tryz.ntmps9
  go_wp2_with fail
  have hS1 : Still w (w.alloc (.cells #[.int .i64 1, .int .i64 ei, .int .i64 a, .int .i64 b, .int .i64 c, .int .i64 d, .bool f, .slice ra rn rc, .slice sa sn sc] 35)) := (Kept.refl _ _).alloc _
  have y2 : (w.alloc (.cells #[.int .i64 1, .int .i64 ei, .int .i64 a, .int .i64 b, .int .i64 c, .int .i64 d, .bool f, .slice ra rn rc, .slice sa sn sc] 35)).cell? ⟨w.heap.size, 2, none⟩ = some (.int .i64 a) := by rw [World.cell?_alloc_new]; rfl
  have hz1 : w.heap.size < (w.alloc (.cells #[.int .i64 1, .int .i64 ei, .int .i64 a, .int .i64 b, .int .i64 c, .int .i64 d, .bool f, .slice ra rn rc, .slice sa sn sc] 35)).heap.size := by simp
  refine (I.new_no _ _ (unhide HA)).mono ?_
  rintro en w2 ⟨rfl, hs2⟩
  have y2' := (hs2.cell _ _ hz1).trans y2
  have HST := hide (hS1.trans hs2)
  have hz2 : w.heap.size < w2.heap.size := Nat.lt_of_lt_of_le hz1 hs2.size
  clear hS1 y2 hs2 hz1
  go_wp2_with (go_at_call 12; refine (refNew_no _ _ (unhide HA)).mono ?_; rintro e w' ⟨rfl, hw⟩; replace hw := hw.symm; subst hw)
  go_ret
  exact ⟨rfl, (unhide HL).still (unhide HST), Kept.below (unhide HST) (Nat.le_refl _) (fun _ _ q => q)⟩
set_option maxRecDepth 100000 in
set_option maxHeartbeats 4000000 in
theorem stepJ_new_yes {I : EngI} {w : World} {B bw ne : Nat} (h : LawRepI I w B bw ne) (ei a b c d : Int) (f : Bool) (ra : Option Addr) (rn rc : Nat) (sa : Option Addr) (sn sc : Nat) (h1 : 1 ≤ a) (h2 : a ≤ 64) (hb : (ne + 1) * 16 ≤ 140737488355328) :
    Calls Tryz.prog 9 #[.pointer (some ⟨bw, 0, none⟩), stepW 1 ei a b c d f (.slice ra rn rc) (.slice sa sn sc)] w fun en w' => en = .returned (.bool true) ∧ LawRepI I w' B bw (ne + 1) ∧ Below B w w' := by
  unfold stepW
  obtain ⟨O, lv, bx, by_, rs, h⟩ := h
  obtain ⟨al, capl, rfl, hl1, hl2⟩ := ownsRow_slice h.row
  have bl := h.lt
  have hz := h.size
  have HL := hide h
  clear h
  obtain ⟨i0, hi0, hz0, hz1, hz2⟩ := info_parts infoEngine
  go_enter Tryz.func9, Tryz.ntmps9
  go_wp2_with fail
  have hS1 : Still w (w.alloc (.cells #[.int .i64 1, .int .i64 ei, .int .i64 a, .int .i64 b, .int .i64 c, .int .i64 d, .bool f, .slice ra rn rc, .slice sa sn sc] 35)) := (Kept.refl _ _).alloc _
  have y2 : (w.alloc (.cells #[.int .i64 1, .int .i64 ei, .int .i64 a, .int .i64 b, .int .i64 c, .int .i64 d, .bool f, .slice ra rn rc, .slice sa sn sc] 35)).cell? ⟨w.heap.size, 2, none⟩ = some (.int .i64 a) := by rw [World.cell?_alloc_new]; rfl
  have hz1' : (w.alloc (.cells #[.int .i64 1, .int .i64 ei, .int .i64 a, .int .i64 b, .int .i64 c, .int .i64 d, .bool f, .slice ra rn rc, .slice sa sn sc] 35)).heap.size = w.heap.size + 1 := by simp
  refine (I.new_yes _ _ h1 h2).mono ?_
  rintro en w2 ⟨nx, rfl, hs2, hx⟩
  have hst2 : Still w w2 := hS1.trans hs2
  have y2' : w2.cell? ⟨w.heap.size, 2, none⟩ = some (.int .i64 a) := (hs2.cell _ _ (by omega)).trans y2
  have hzz : w.heap.size + 1 ≤ w2.heap.size := by have := hs2.size; omega
  rw [hz1'] at hx
  have HX := hide hx
  have HS2 := hide hst2
  clear hx hst2 hs2 hS1 y2 hz1'
  go_wp2_with fail
  refine (refNew_yes _ _ h1 h2).mono ?_
  rintro en w3 ⟨rfl, hs3, hz3, hr3⟩
  generalize hny : w2.heap.size = ny at *
  have hst3 : Still w w3 := Kept.trans (unhide HS2) hs3
  have hl3 := (unhide HL).still hst3
  obtain ⟨c0, _, fz⟩ := hl3.cells
  have fz0 := fz 0
  have HR3 := hide hr3
  have HS3 := hide hst3
  have HS23 := hide hs3
  have HL3 : Hid (w3.ownsRow 0 46 2 (.slice al ne capl) ne (enc ne fun i => [.pointer (some ⟨bx i, 0, none⟩), .pointer (some ⟨by_ i, 0, none⟩)])) := hl3.row
  have hnb : (Value.slice al ne capl).ownBlock ≠ some bw := fun hh => by have := (unhide HL).ltag bw hh; rw [(unhide HL).wtag] at this; simp at this
  have bl3 : bw < w3.heap.size := by omega
  have HZ3 := hide hz3
  have HNY := hide hny
  clear hr3 hst3 hs3 hz3 hl3 fz y2' HS2 hny
  go_wp2_with (at_builtin; refine wpList_append_lies _ rfl _ _ _ rfl 0 46 i0 _ 2 16 Tryz.underlying27 hi0 hz0 hz1 hz2 rfl (by omega) (.slice al ne capl) ne _ rfl ((unhide HL3).alloc _) ⟨w3.heap.size, 0, none⟩ 1 1 [.pointer (some ⟨nx, 0, none⟩), .pointer (some ⟨ny, 0, none⟩)] rfl rfl (World.news_of_block (cs := #[.pointer (some ⟨nx, 0, none⟩), .pointer (some ⟨ny, 0, none⟩)]) (t := 46) (fr := (0, 0)) (heap_alloc_new w3 _)) (by simp [Value.oneCell']) (by omega) (by unfold maxLen; omega) hb (by omega) (w3.heap.size + 1) (by simp) ?_; intro g1 cap1 w4 hown4 hgrow hat hlt1; have d1 : w4.cell? ⟨bw, 0, none⟩ = some (.slice al ne capl) := (hgrow.cell_far ⟨bw, 0, none⟩ (by simp; omega) (Ne.symm hnb)).trans (by rw [World.cell?_alloc_lt _ _ _ bl3]; exact c0); have d2 : w4.frozen? ⟨bw, 0, none⟩ = false := (hgrow.frozen_far ⟨bw, 0, none⟩ (by simp; omega) (Ne.symm hnb)).trans (by rw [World.frozen?_alloc_old _ _ _ (Nat.ne_of_lt bl3)]; exact fz0))
  go_ret
  refine ⟨rfl, ?_⟩
  have hz3 := unhide HZ3
  have hny := unhide HNY
  obtain ⟨O1, hO1, hX1⟩ := unhide HX O (ne + 1) (fun _ => ⟨0, 0, 0, 0, [], [], false⟩) (fun _ => ⟨0, 0, [], false⟩)
  obtain ⟨O2, hO2, hOg⟩ := tag_new (O := upd O1 ny (ne + 1, 0, 0)) (t := (0, 7, 0)) hat (fun g hg => by
    have hgl := ownsRow_lt (unhide HL).row hg
    rw [upd_other _ _ (by omega), hO1 g (by omega)]
    exact (unhide HL).ltag g hg) (Nat.le_refl (w3.heap.size + 1))
  have hOo : ∀ k, k < w.heap.size → O2 k = O k := fun k hk => by rw [hO2 k (by omega), upd_other _ _ (by omega), hO1 k (by omega)]
  have hO0 : O2 ny = (ne + 1, 0, 0) := by rw [hO2 _ (by omega), upd_same]
  have hpair : PairI I (w3.alloc (.cells #[.pointer (some ⟨nx, 0, none⟩), .pointer (some ⟨ny, 0, none⟩)] 46)) O2 (ne + 1) nx ny ⟨a, 0, (fun _ => ⟨0, 0, 0, 0, [], [], false⟩), 0, (fun _ => ⟨0, 0, [], false⟩)⟩ := by
    refine ⟨I.frame hX1 (fun k hk _ => (Kept.alloc (unhide HS23) _).block k hk (fun q => q)) (fun k hk _ => by rw [hO2 k (by omega), upd_other _ _ (by omega)]), ?_, RefOk.new h1 h2 _ _⟩
    exact (unhide HR3 O2 (ne + 1) (fun _ => ⟨0, 0, 0, 0, [], [], false⟩) (fun _ => ⟨0, 0, [], false⟩) hO0).still ((Kept.refl _ _).alloc _)
  exact (unhide HL).push (O' := O2) (lv' := .slice (some ⟨g1, 0, none⟩) (ne + 1) cap1) (Kept.alloc (unhide HS3) _) hgrow hown4 hOo (fun g hg => by
    have : g1 = g := by simpa [Value.ownBlock] using hg
    rw [← this]; exact hOg) hpair (fun g hg => by rw [hOo g (ownsRow_lt (unhide HL).row hg)]; exact (unhide HL).ltag g hg)

set_option maxHeartbeats 2000000 in
theorem stepJ_none {I : EngI} {w : World} {B bw : Nat} (h : LawRepI I w B bw 0) (kind ei a b c d : Int) (f : Bool) (ra : Option Addr) (rn rc : Nat) (sa : Option Addr) (sn sc : Nat) (hk : (kind == 1) = false) :
    Calls Tryz.prog 9 #[.pointer (some ⟨bw, 0, none⟩), stepW kind ei a b c d f (.slice ra rn rc) (.slice sa sn sc)] w fun en w' => en = .returned (.bool true) ∧ LawRepI I w' B bw 0 ∧ Below w.heap.size w w' := by
  unfold stepW
  have HR := hide h
  obtain ⟨O, lv, bx, by_, rs, h⟩ := h
  obtain ⟨al, capl, rfl, hl1, hl2⟩ := ownsRow_slice h.row
  have bl := h.lt
  obtain ⟨c0, _, _⟩ := h.cells
  clear h
  go_enter Tryz.func9, Tryz.ntmps9
  go_wp2
  go_ret
  exact ⟨rfl, (unhide HR).still ((Kept.refl _ _).alloc _), (Below.refl _ _).alloc (Nat.le_refl _) _⟩
end Go.Proofs.YtgndledehlilkaaGreat
