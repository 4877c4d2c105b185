/-
  Walks: districtlaw: step, for New and where there is no engine, with the lists that came out.
-/
import Derived.Test.YtgndledehlilkaaGreatLawM1M
namespace Go.Proofs.YtgndledehlilkaaGreat
open Go.RowKit

set_option maxHeartbeats 2000000 in
theorem stepM_new_no {I : EngI} {w : World} {B bw ne nt nb : Nat} (h : LawRepM I w B bw ne nt nb) (ei a b c d : Int) (f : Bool) (ra : Option Addr) (rn rc : Nat) (sa : Option Addr) (sn sc : Nat) (ha : a < 1 ∨ 64 < a) :
    Calls Tryz.prog 9 #[.pointer (some ⟨bw, 0, none⟩), stepW 1 ei a b c d f (.slice ra rn rc) (.slice sa sn sc)] w fun en w' => en = .returned (.bool true) ∧ LawRepM I w' B bw ne nt nb ∧ Below w.heap.size w w' := by
  unfold stepW
  have HL := hide h
  have HA := hide ha
  clear h ha
  go_enter Tryz.func9, Tryz.ntmps9
  go_wp2_with fail
  have hS1 : Still w (w.alloc (.cells #[.int .i64 1, .int .i64 ei, .int .i64 a, .int .i64 b, .int .i64 c, .int .i64 d, .bool f, .slice ra rn rc, .slice sa sn sc] 35)) := (Kept.refl _ _).alloc _
  have y2 : (w.alloc (.cells #[.int .i64 1, .int .i64 ei, .int .i64 a, .int .i64 b, .int .i64 c, .int .i64 d, .bool f, .slice ra rn rc, .slice sa sn sc] 35)).cell? ⟨w.heap.size, 2, none⟩ = some (.int .i64 a) := by rw [World.cell?_alloc_new]; rfl
  have hz1 : w.heap.size < (w.alloc (.cells #[.int .i64 1, .int .i64 ei, .int .i64 a, .int .i64 b, .int .i64 c, .int .i64 d, .bool f, .slice ra rn rc, .slice sa sn sc] 35)).heap.size := by simp
  refine (I.new_no _ _ (unhide HA)).mono ?_
  rintro en w2 ⟨rfl, hs2⟩
  have y2' := (hs2.cell _ _ hz1).trans y2
  have HST := hide (hS1.trans hs2)
  have hz2 : w.heap.size < w2.heap.size := Nat.lt_of_lt_of_le hz1 hs2.size
  clear hS1 y2 hs2 hz1
  go_wp2_with (go_at_call 12; refine (refNew_no _ _ (unhide HA)).mono ?_; rintro e w' ⟨rfl, hw⟩; replace hw := hw.symm; subst hw)
  go_ret
  exact ⟨rfl, (unhide HL).still (unhide HST), Kept.below (unhide HST) (Nat.le_refl _) (fun _ _ q => q)⟩
set_option maxRecDepth 100000 in
set_option maxHeartbeats 4000000 in
theorem stepM_new_yes {I : EngI} {w : World} {B bw ne nt nb : Nat} (h : LawRepM I w B bw ne nt nb) (ei a b c d : Int) (f : Bool) (ra : Option Addr) (rn rc : Nat) (sa : Option Addr) (sn sc : Nat) (h1 : 1 ≤ a) (h2 : a ≤ 64) (hb : (ne + 1) * 16 ≤ 140737488355328) :
    Calls Tryz.prog 9 #[.pointer (some ⟨bw, 0, none⟩), stepW 1 ei a b c d f (.slice ra rn rc) (.slice sa sn sc)] w fun en w' => en = .returned (.bool true) ∧ LawRepM I w' B bw (ne + 1) nt nb ∧ Below B w w' := by
  unfold stepW
  obtain ⟨O, lv, tv, kv, bv, cv, bx, by_, rs, T, K, Tb, Kb, h⟩ := h
  obtain ⟨al, capl, rfl, hl1, hl2⟩ := ownsRow_slice h.row
  have bl := h.lt
  have hz := h.size
  have HL := hide h
  clear h
  obtain ⟨i0, hi0, hz0, hz1, hz2⟩ := info_parts infoEngine
  go_enter Tryz.func9, Tryz.ntmps9
  go_wp2_with fail
  have hS1 : Still w (w.alloc (.cells #[.int .i64 1, .int .i64 ei, .int .i64 a, .int .i64 b, .int .i64 c, .int .i64 d, .bool f, .slice ra rn rc, .slice sa sn sc] 35)) := (Kept.refl _ _).alloc _
  have y2 : (w.alloc (.cells #[.int .i64 1, .int .i64 ei, .int .i64 a, .int .i64 b, .int .i64 c, .int .i64 d, .bool f, .slice ra rn rc, .slice sa sn sc] 35)).cell? ⟨w.heap.size, 2, none⟩ = some (.int .i64 a) := by rw [World.cell?_alloc_new]; rfl
  have hz1' : (w.alloc (.cells #[.int .i64 1, .int .i64 ei, .int .i64 a, .int .i64 b, .int .i64 c, .int .i64 d, .bool f, .slice ra rn rc, .slice sa sn sc] 35)).heap.size = w.heap.size + 1 := by simp
  refine (I.new_yes _ _ h1 h2).mono ?_
  rintro en w2 ⟨nx, rfl, hs2, hx⟩
  have hst2 : Still w w2 := hS1.trans hs2
  have y2' : w2.cell? ⟨w.heap.size, 2, none⟩ = some (.int .i64 a) := (hs2.cell _ _ (by omega)).trans y2
  have hzz : w.heap.size + 1 ≤ w2.heap.size := by have := hs2.size; omega
  rw [hz1'] at hx
  have HX := hide hx
  have HS2 := hide hst2
  clear hx hst2 hs2 hS1 y2 hz1'
  go_wp2_with fail
  refine (refNew_yes _ _ h1 h2).mono ?_
  rintro en w3 ⟨rfl, hs3, hz3, hr3⟩
  generalize hny : w2.heap.size = ny at *
  have hst3 : Still w w3 := Kept.trans (unhide HS2) hs3
  have hl3 := (unhide HL).still hst3
  obtain ⟨c0, _, _, _, _, fz⟩ := hl3.cells
  have fz0 := fz 0
  have HR3 := hide hr3
  have HS3 := hide hst3
  have HS23 := hide hs3
  have HL3 : Hid (w3.ownsRow 0 46 2 (.slice al ne capl) ne (enc ne fun i => [.pointer (some ⟨bx i, 0, none⟩), .pointer (some ⟨by_ i, 0, none⟩)])) := hl3.row
  have hnb : (Value.slice al ne capl).ownBlock ≠ some bw := fun hh => by have := (unhide HL).ltag bw hh; rw [(unhide HL).wtag] at this; simp at this
  have bl3 : bw < w3.heap.size := by omega
  have HZ3 := hide hz3
  have HNY := hide hny
  clear hr3 hst3 hs3 hz3 hl3 fz y2' HS2 hny
  go_wp2_with (at_builtin; refine wpList_append_lies _ rfl _ _ _ rfl 0 46 i0 _ 2 16 Tryz.underlying27 hi0 hz0 hz1 hz2 rfl (by omega) (.slice al ne capl) ne _ rfl ((unhide HL3).alloc _) ⟨w3.heap.size, 0, none⟩ 1 1 [.pointer (some ⟨nx, 0, none⟩), .pointer (some ⟨ny, 0, none⟩)] rfl rfl (World.news_of_block (cs := #[.pointer (some ⟨nx, 0, none⟩), .pointer (some ⟨ny, 0, none⟩)]) (t := 46) (fr := (0, 0)) (heap_alloc_new w3 _)) (by simp [Value.oneCell']) (by omega) (by unfold maxLen; omega) hb (by omega) (w3.heap.size + 1) (by simp) ?_; intro g1 cap1 w4 hown4 hgrow hat hlt1; have d1 : w4.cell? ⟨bw, 0, none⟩ = some (.slice al ne capl) := (hgrow.cell_far ⟨bw, 0, none⟩ (by simp; omega) (Ne.symm hnb)).trans (by rw [World.cell?_alloc_lt _ _ _ bl3]; exact c0); have d2 : w4.frozen? ⟨bw, 0, none⟩ = false := (hgrow.frozen_far ⟨bw, 0, none⟩ (by simp; omega) (Ne.symm hnb)).trans (by rw [World.frozen?_alloc_old _ _ _ (Nat.ne_of_lt bl3)]; exact fz0))
  go_ret
  refine ⟨rfl, ?_⟩
  have hz3 := unhide HZ3
  have hny := unhide HNY
  obtain ⟨O1, hO1, hX1⟩ := unhide HX O (ne + 1) (fun _ => ⟨0, 0, 0, 0, [], [], false⟩) (fun _ => ⟨0, 0, [], false⟩)
  obtain ⟨O2, hO2, hOg⟩ := tag_new (O := upd O1 ny (ne + 1, 0, 0)) (t := (0, 7, 0)) hat (fun g hg => by
    have hgl := ownsRow_lt (unhide HL).row hg
    rw [upd_other _ _ (by omega), hO1 g (by omega)]
    exact (unhide HL).ltag g hg) (Nat.le_refl (w3.heap.size + 1))
  have hOo : ∀ k, k < w.heap.size → O2 k = O k := fun k hk => by rw [hO2 k (by omega), upd_other _ _ (by omega), hO1 k (by omega)]
  have hO0 : O2 ny = (ne + 1, 0, 0) := by rw [hO2 _ (by omega), upd_same]
  have hpair : PairI I (w3.alloc (.cells #[.pointer (some ⟨nx, 0, none⟩), .pointer (some ⟨ny, 0, none⟩)] 46)) O2 (ne + 1) nx ny ⟨a, 0, (fun _ => ⟨0, 0, 0, 0, [], [], false⟩), 0, (fun _ => ⟨0, 0, [], false⟩)⟩ := by
    refine ⟨I.frame hX1 (fun k hk _ => (Kept.alloc (unhide HS23) _).block k hk (fun q => q)) (fun k hk _ => by rw [hO2 k (by omega), upd_other _ _ (by omega)]), ?_, RefOk.new h1 h2 _ _⟩
    exact (unhide HR3 O2 (ne + 1) (fun _ => ⟨0, 0, 0, 0, [], [], false⟩) (fun _ => ⟨0, 0, [], false⟩) hO0).still ((Kept.refl _ _).alloc _)
  exact (unhide HL).push (O' := O2) (lv' := .slice (some ⟨g1, 0, none⟩) (ne + 1) cap1) (Kept.alloc (unhide HS3) _) hgrow hown4 hOo (fun g hg => by
    have : g1 = g := by simpa [Value.ownBlock] using hg
    rw [← this]; exact hOg) hpair (fun g hg => by rw [hOo g (ownsRow_lt (unhide HL).row hg)]; exact (unhide HL).ltag g hg)

set_option maxHeartbeats 2000000 in
theorem stepM_none {I : EngI} {w : World} {B bw nt nb : Nat} (h : LawRepM I w B bw 0 nt nb) (kind ei a b c d : Int) (f : Bool) (ra : Option Addr) (rn rc : Nat) (sa : Option Addr) (sn sc : Nat) (hk : (kind == 1) = false) :
    Calls Tryz.prog 9 #[.pointer (some ⟨bw, 0, none⟩), stepW kind ei a b c d f (.slice ra rn rc) (.slice sa sn sc)] w fun en w' => en = .returned (.bool true) ∧ LawRepM I w' B bw 0 nt nb ∧ Below w.heap.size w w' := by
  unfold stepW
  have HR := hide h
  obtain ⟨O, lv, tv, kv, bv, cv, bx, by_, rs, T, K, Tb, Kb, h⟩ := h
  obtain ⟨al, capl, rfl, hl1, hl2⟩ := ownsRow_slice h.row
  have bl := h.lt
  obtain ⟨c0, _, _, _, _, _⟩ := h.cells
  clear h
  go_enter Tryz.func9, Tryz.ntmps9
  go_wp2
  go_ret
  exact ⟨rfl, (unhide HR).still ((Kept.refl _ _).alloc _), (Below.refl _ _).alloc (Nat.le_refl _) _⟩
end Go.Proofs.YtgndledehlilkaaGreat
