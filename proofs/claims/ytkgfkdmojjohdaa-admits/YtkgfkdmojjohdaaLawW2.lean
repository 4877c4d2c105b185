/-
  Walks: districtlaw: step, for New and for Create, Drop, Derive, Revoke.
-/
import Derived.Test.YtkgfkdmojjohdaaLawRep
namespace Go.Proofs.Ytkgfkdmojjohdaa
open Go.RowKit

theorem infoEngine : (Try.prog.info? 46).map (fun i => (i.zero, i.size, i.bytes)) = some (some (.agg #[.pointer none, .pointer none]), 2, 16) := by kernel_rfl

set_option maxHeartbeats 2000000 in
theorem step_new_no {w : World} {B bw ne : Nat} (h : LawRep w B bw ne) (ei a b c d : Int) (f : Bool) (ra : Option Addr) (rn rc : Nat) (sa : Option Addr) (sn sc : Nat) (ha : a < 1 ∨ 64 < a) :
    Calls Try.prog 5 #[.pointer (some ⟨bw, 0, none⟩), stepV 1 ei a b c d f (.slice ra rn rc) (.slice sa sn sc)] w fun en w' => en = .returned (.bool true) ∧ LawRep w' B bw ne ∧ Below w.heap.size w w' := by
  unfold stepV
  have HL := hide h
  have HA := hide ha
  clear h ha
  go_enter Try.func5, Try.ntmps5
  go_wp2_with (first | (go_at_call 7; refine (engNew_no _ _ (unhide HA)).mono ?_; rintro e w' ⟨rfl, hw⟩; replace hw := hw.symm; subst hw) | (go_at_call 8; refine (refNew_no _ _ (unhide HA)).mono ?_; rintro e w' ⟨rfl, hw⟩; replace hw := hw.symm; subst hw))
  go_ret
  exact ⟨rfl, (unhide HL).still ((Kept.refl _ _).alloc _), (Below.refl _ _).alloc (Nat.le_refl _) _⟩

set_option maxRecDepth 100000 in
set_option maxHeartbeats 4000000 in
theorem step_new_yes {w : World} {B bw ne : Nat} (h : LawRep w B bw ne) (ei a b c d : Int) (f : Bool) (ra : Option Addr) (rn rc : Nat) (sa : Option Addr) (sn sc : Nat) (h1 : 1 ≤ a) (h2 : a ≤ 64) (hb : (ne + 1) * 16 ≤ 140737488355328) :
    Calls Try.prog 5 #[.pointer (some ⟨bw, 0, none⟩), stepV 1 ei a b c d f (.slice ra rn rc) (.slice sa sn sc)] w fun en w' => en = .returned (.bool true) ∧ LawRep w' B bw (ne + 1) ∧ Below B w w' := by
  unfold stepV
  obtain ⟨O, lv, bx, by_, ps, rs, h⟩ := h
  obtain ⟨al, capl, rfl, hl1, hl2⟩ := ownsRow_slice h.row
  have bl := h.lt
  have hz := h.size
  have HL := hide h
  clear h
  obtain ⟨i0, hi0, hz0, hz1, hz2⟩ := info_parts infoEngine
  go_enter Try.func5, Try.ntmps5
  go_wp2_with fail
  refine (engNew_yes _ _ h1 h2).mono ?_
  rintro en w2 ⟨rfl, hx, hs2, hz2'⟩
  have hst2 : Still w w2 := Kept.trans ((Kept.refl _ _).alloc _) hs2
  have y2 : w2.cell? ⟨w.heap.size, 2, none⟩ = some (.int .i64 a) := (hs2.cell _ _ (by simp)).trans (by rw [World.cell?_alloc_new]; rfl)
  have hzz : w2.heap.size = w.heap.size + 2 := by rw [hz2']; simp
  simp only [World.size_alloc] at hx
  have HX := hide hx
  have HS2 := hide hst2
  clear hx hst2 hs2 hz2'
  go_wp2_with fail
  refine (refNew_yes _ _ h1 h2).mono ?_
  rintro en w3 ⟨rfl, hs3, hz3, hr3⟩
  have hzw : w3.heap.size = w.heap.size + 3 := by omega
  rw [hzz]
  have hst3 : Still w w3 := Kept.trans (unhide HS2) hs3
  have hl3 := (unhide HL).still hst3
  obtain ⟨c0, _, fz⟩ := hl3.cells
  have fz0 := fz 0
  have hx3 : XAt w3 (w.heap.size + 1) (newP a) := (unhide HX).still hs3
  have HX3 := hide hx3
  have HR3 := hide hr3
  have HS3 := hide hst3
  have HL3 : Hid (w3.ownsRow 0 46 2 (.slice al ne capl) ne (enc ne fun i => [.pointer (some ⟨bx i, 0, none⟩), .pointer (some ⟨by_ i, 0, none⟩)])) := hl3.row
  have hnb : (Value.slice al ne capl).ownBlock ≠ some bw := fun hh => by have := (unhide HL).ltag bw hh; rw [(unhide HL).wtag] at this; simp at this
  have bl3 : bw < w3.heap.size := by omega
  have HZW := hide hzw
  have HZZ := hide hzz
  clear hx3 hr3 hst3 hs3 hz3 hl3 fz y2 HX HS2 hzw hzz
  go_wp2_with (at_builtin; refine wpList_append_lies _ rfl _ _ _ rfl 0 46 i0 _ 2 16 Try.underlying27 hi0 hz0 hz1 hz2 rfl (by omega) (.slice al ne capl) ne _ rfl ((unhide HL3).alloc _) ⟨w3.heap.size, 0, none⟩ 1 1 [.pointer (some ⟨w.heap.size + 1, 0, none⟩), .pointer (some ⟨w.heap.size + 2, 0, none⟩)] rfl rfl (World.news_of_block (cs := #[.pointer (some ⟨w.heap.size + 1, 0, none⟩), .pointer (some ⟨w.heap.size + 2, 0, none⟩)]) (t := 46) (fr := (0, 0)) (heap_alloc_new w3 _)) (by simp [Value.oneCell']) (by omega) (by unfold maxLen; omega) hb (by omega) (w3.heap.size + 1) (by simp) ?_; intro g1 cap1 w4 hown4 hgrow hat hlt1; have d1 : w4.cell? ⟨bw, 0, none⟩ = some (.slice al ne capl) := (hgrow.cell_far ⟨bw, 0, none⟩ (by simp; omega) (Ne.symm hnb)).trans (by rw [World.cell?_alloc_lt _ _ _ bl3]; exact c0); have d2 : w4.frozen? ⟨bw, 0, none⟩ = false := (hgrow.frozen_far ⟨bw, 0, none⟩ (by simp; omega) (Ne.symm hnb)).trans (by rw [World.frozen?_alloc_old _ _ _ (Nat.ne_of_lt bl3)]; exact fz0))
  go_ret
  refine ⟨rfl, ?_⟩
  have hzw := unhide HZW
  have hzz := unhide HZZ
  obtain ⟨O2, hO2, hOg⟩ := tag_new (O := upd (upd O (w.heap.size + 1) (ne + 1, 10, 0)) (w.heap.size + 2) (ne + 1, 0, 0)) (t := (0, 7, 0)) hat (fun g hg => by
    have hgl := ownsRow_lt (unhide HL).row hg
    rw [upd_other _ _ (by omega), upd_other _ _ (by omega)]
    exact (unhide HL).ltag g hg) (Nat.le_refl (w3.heap.size + 1))
  have hOo : ∀ k, k < w.heap.size → O2 k = O k := fun k hk => by rw [hO2 k (by omega), upd_other _ _ (by omega), upd_other _ _ (by omega)]
  have hO1 : O2 (w.heap.size + 1) = (ne + 1, 10, 0) := by rw [hO2 _ (by omega), upd_other _ _ (by omega), upd_same]
  have hO0 : O2 (w.heap.size + 2) = (ne + 1, 0, 0) := by rw [hO2 _ (by omega), upd_same]
  have hpair : Pair (w3.alloc (.cells #[.pointer (some ⟨w.heap.size + 1, 0, none⟩), .pointer (some ⟨w.heap.size + 2, 0, none⟩)] 46)) O2 (ne + 1) (w.heap.size + 1) (w.heap.size + 2) (newP a) ⟨a, 0, (fun _ => ⟨0, 0, 0, 0, [], [], false⟩), 0, (fun _ => ⟨0, 0, [], false⟩)⟩ := by
    refine ⟨(unhide HX3).still ((Kept.refl _ _).alloc _), hO1, ?_, newSim h1 h2 _ _⟩
    have := unhide HR3 O2 (ne + 1) (fun _ => ⟨0, 0, 0, 0, [], [], false⟩) (fun _ => ⟨0, 0, [], false⟩) (by rw [hzz]; exact hO0)
    rw [hzz] at this
    exact this.still ((Kept.refl _ _).alloc _)
  exact (unhide HL).push (O' := O2) (lv' := .slice (some ⟨g1, 0, none⟩) (ne + 1) cap1) (Kept.alloc (unhide HS3) _) hgrow hown4 hOo (fun g hg => by
    have : g1 = g := by simpa [Value.ownBlock] using hg
    rw [← this]; exact hOg) hpair (fun g hg => by rw [hOo g (ownsRow_lt (unhide HL).row hg)]; exact (unhide HL).ltag g hg)

set_option maxHeartbeats 2000000 in
theorem step_none {w : World} {B bw : Nat} (h : LawRep w B bw 0) (kind ei a b c d : Int) (f : Bool) (ra : Option Addr) (rn rc : Nat) (sa : Option Addr) (sn sc : Nat) (hk : (kind == 1) = false) :
    Calls Try.prog 5 #[.pointer (some ⟨bw, 0, none⟩), stepV kind ei a b c d f (.slice ra rn rc) (.slice sa sn sc)] w fun en w' => en = .returned (.bool true) ∧ LawRep w' B bw 0 ∧ Below w.heap.size w w' := by
  unfold stepV
  have HR := hide h
  obtain ⟨O, lv, bx, by_, ps, rs, h⟩ := h
  obtain ⟨al, capl, rfl, hl1, hl2⟩ := ownsRow_slice h.row
  have bl := h.lt
  obtain ⟨c0, _, _⟩ := h.cells
  clear h
  go_enter Try.func5, Try.ntmps5
  go_wp2
  go_ret
  exact ⟨rfl, (unhide HR).still ((Kept.refl _ _).alloc _), (Below.refl _ _).alloc (Nat.le_refl _) _⟩
end Go.Proofs.Ytkgfkdmojjohdaa
