/-
  Walks: districtlaw: step for Create, Drop, Derive, Revoke, Insert, Remove, Share.
-/
import Derived.Test.YtgndledehlilkaaGreatLawJ1M
import Derived.Deep.RegionWith
import Derived.Deep.RegionHeld3
namespace Go.Proofs.YtgndledehlilkaaGreat
open Go.RowKit
attribute [local go_sem ↓] Go.wp_at_zero Go.wp_at_succ
theorem engRow_len (bx by_ : Nat → Nat) (ne : Nat) : ∀ i, i < ne → ([Value.pointer (some ⟨bx i, 0, none⟩), Value.pointer (some ⟨by_ i, 0, none⟩)]).length = 2 := fun _ _ => rfl
theorem tenantsJ_any {I : EngI} {w : World} {O : Tag} {e bx by_ : Nat} {r : RefS} (h : PairI I w O e bx by_ r) (kind ei a b c d : Int) (f : Bool) (ra : Option Addr) (rn rc : Nat) (sa : Option Addr) (sn sc : Nat) (hk : 2 ≤ kind ∧ kind ≤ 5) :
    Calls Tryz.prog 14 #[.agg #[.pointer (some ⟨bx, 0, none⟩), .pointer (some ⟨by_, 0, none⟩)], .agg #[.int .i64 kind, .int .i64 ei, .int .i64 a, .int .i64 b, .int .i64 c, .int .i64 d, .bool f, .slice ra rn rc, .slice sa sn sc]] w fun en w' => en = .returned (.bool true) ∧ AfterI I w O e bx by_ w' := by
  rcases (by omega : kind = 2 ∨ kind = 3 ∨ kind = 4 ∨ kind = 5) with rfl | rfl | rfl | rfl
  · exact lawI_create I h ei a b c d f ra rn rc sa sn sc
  · exact lawI_drop I h ei a b c d f ra rn rc sa sn sc
  · exact lawI_derive I h ei a b c d f ra rn rc sa sn sc
  · exact lawI_revoke I h ei a b c d f ra rn rc sa sn sc
theorem setsJ_any {I : EngI} (J : EngI2 I) {w : World} {O : Tag} {e bx by_ : Nat} {r : RefS} (h : PairI I w O e bx by_ r) (kind ei a b c d : Int) (f : Bool) (ra : Option Addr) (rn rc : Nat) (sa : Option Addr) (sn sc : Nat) (hk : 6 ≤ kind ∧ kind ≤ 8) :
    Calls Tryz.prog 15 #[.agg #[.pointer (some ⟨bx, 0, none⟩), .pointer (some ⟨by_, 0, none⟩)], .agg #[.int .i64 kind, .int .i64 ei, .int .i64 a, .int .i64 b, .int .i64 c, .int .i64 d, .bool f, .slice ra rn rc, .slice sa sn sc]] w fun en w' => en = .returned (.bool true) ∧ AfterI I w O e bx by_ w' := by
  rcases (by omega : kind = 6 ∨ kind = 7 ∨ kind = 8) with rfl | rfl | rfl
  · exact lawI_insert I J h ei a b c d f ra rn rc sa sn sc
  · exact lawI_remove I J h ei a b c d f ra rn rc sa sn sc
  · exact lawI_share I J h ei a b c d f ra rn rc sa sn sc
set_option maxRecDepth 100000 in
set_option maxHeartbeats 4000000 in
theorem stepJ_eng {I : EngI} (J : EngI2 I) {w : World} {B bw ne : Nat} (h : LawRepI I w B bw ne) (kind ei a b c d : Int) (f : Bool) (ra : Option Addr) (rn rc : Nat) (sa : Option Addr) (sn sc : Nat) (hk : 2 ≤ kind ∧ kind ≤ 8) (hn : 1 ≤ ne) (hne : (ne : Int) ≤ 4611686018427387904) (h1 : -9223372036854775808 ≤ ei) (h2 : ei ≤ 9223372036854775807) :
    Calls Tryz.prog 9 #[.pointer (some ⟨bw, 0, none⟩), stepW kind ei a b c d f (.slice ra rn rc) (.slice sa sn sc)] w fun en w' => en = .returned (.bool true) ∧ LawRepI I w' B bw ne ∧ Below B w w' := by
  unfold stepW
  obtain ⟨O, lv, bx, by_, rs, h⟩ := h
  obtain ⟨al, capl, rfl, hl1, hl2⟩ := ownsRow_slice h.row
  obtain ⟨gl, rfl, hgl⟩ := ownsRow_some h.row (by omega)
  have bl := h.lt
  obtain ⟨c0, _, _⟩ := h.cells
  have hr0 : ∀ i, i < ne → w.cell? ⟨gl, i * 2, none⟩ = some (.pointer (some ⟨bx i, 0, none⟩)) := fun i hi => ownsRow_cell h.row (engRow_len bx by_ ne) hi (j := 0) (by omega)
  have hr1 : ∀ i, i < ne → w.cell? ⟨gl, i * 2 + 1, none⟩ = some (.pointer (some ⟨by_ i, 0, none⟩)) := fun i hi => ownsRow_cell h.row (engRow_len bx by_ ne) hi (j := 1) (by omega)
  have HR0 := hide hr0
  have HR1 := hide hr1
  have HL := hide h
  have k1 : (kind == 1) = false := by rw [beq_eq_false_iff_ne]; omega
  have hn1 : ((ne : Int) == 0) = false := by rw [beq_eq_false_iff_ne]; omega
  unfold maxLen at hl2
  clear h hr0 hr1
  go_enter Tryz.func9, Tryz.ntmps9
  go_wp2
  have e0 : (w.alloc (.cells #[.int .i64 kind, .int .i64 ei, .int .i64 a, .int .i64 b, .int .i64 c, .int .i64 d, .bool f, .slice ra rn rc, .slice sa sn sc] 35)).cell? ⟨w.heap.size, 0, none⟩ = some (.int .i64 kind) := by rw [World.cell?_alloc_new]; rfl
  have e1 : (w.alloc (.cells #[.int .i64 kind, .int .i64 ei, .int .i64 a, .int .i64 b, .int .i64 c, .int .i64 d, .bool f, .slice ra rn rc, .slice sa sn sc] 35)).cell? ⟨w.heap.size, 1, none⟩ = some (.int .i64 ei) := by rw [World.cell?_alloc_new]; rfl
  have e2 : (w.alloc (.cells #[.int .i64 kind, .int .i64 ei, .int .i64 a, .int .i64 b, .int .i64 c, .int .i64 d, .bool f, .slice ra rn rc, .slice sa sn sc] 35)).cell? ⟨w.heap.size, 2, none⟩ = some (.int .i64 a) := by rw [World.cell?_alloc_new]; rfl
  have e3 : (w.alloc (.cells #[.int .i64 kind, .int .i64 ei, .int .i64 a, .int .i64 b, .int .i64 c, .int .i64 d, .bool f, .slice ra rn rc, .slice sa sn sc] 35)).cell? ⟨w.heap.size, 3, none⟩ = some (.int .i64 b) := by rw [World.cell?_alloc_new]; rfl
  have e4 : (w.alloc (.cells #[.int .i64 kind, .int .i64 ei, .int .i64 a, .int .i64 b, .int .i64 c, .int .i64 d, .bool f, .slice ra rn rc, .slice sa sn sc] 35)).cell? ⟨w.heap.size, 4, none⟩ = some (.int .i64 c) := by rw [World.cell?_alloc_new]; rfl
  have e5 : (w.alloc (.cells #[.int .i64 kind, .int .i64 ei, .int .i64 a, .int .i64 b, .int .i64 c, .int .i64 d, .bool f, .slice ra rn rc, .slice sa sn sc] 35)).cell? ⟨w.heap.size, 5, none⟩ = some (.int .i64 d) := by rw [World.cell?_alloc_new]; rfl
  have e6 : (w.alloc (.cells #[.int .i64 kind, .int .i64 ei, .int .i64 a, .int .i64 b, .int .i64 c, .int .i64 d, .bool f, .slice ra rn rc, .slice sa sn sc] 35)).cell? ⟨w.heap.size, 6, none⟩ = some (.bool f) := by rw [World.cell?_alloc_new]; rfl
  have e7 : (w.alloc (.cells #[.int .i64 kind, .int .i64 ei, .int .i64 a, .int .i64 b, .int .i64 c, .int .i64 d, .bool f, .slice ra rn rc, .slice sa sn sc] 35)).cell? ⟨w.heap.size, 7, none⟩ = some (.slice ra rn rc) := by rw [World.cell?_alloc_new]; rfl
  have e8 : (w.alloc (.cells #[.int .i64 kind, .int .i64 ei, .int .i64 a, .int .i64 b, .int .i64 c, .int .i64 d, .bool f, .slice ra rn rc, .slice sa sn sc] 35)).cell? ⟨w.heap.size, 8, none⟩ = some (.slice sa sn sc) := by rw [World.cell?_alloc_new]; rfl
  have hW : Still w (w.alloc (.cells #[.int .i64 kind, .int .i64 ei, .int .i64 a, .int .i64 b, .int .i64 c, .int .i64 d, .bool f, .slice ra rn rc, .slice sa sn sc] 35)) := (Kept.refl _ _).alloc _
  have d0 := (hW.cell _ 0 bl).trans c0
  have hr0 : ∀ i, i < ne → (w.alloc (.cells #[.int .i64 kind, .int .i64 ei, .int .i64 a, .int .i64 b, .int .i64 c, .int .i64 d, .bool f, .slice ra rn rc, .slice sa sn sc] 35)).cell? ⟨gl, i * 2, none⟩ = some (.pointer (some ⟨bx i, 0, none⟩)) := fun i hi => (hW.cell _ _ hgl).trans (unhide HR0 i hi)
  have hr1 : ∀ i, i < ne → (w.alloc (.cells #[.int .i64 kind, .int .i64 ei, .int .i64 a, .int .i64 b, .int .i64 c, .int .i64 d, .bool f, .slice ra rn rc, .slice sa sn sc] 35)).cell? ⟨gl, i * 2 + 1, none⟩ = some (.pointer (some ⟨by_ i, 0, none⟩)) := fun i hi => (hW.cell _ _ hgl).trans (unhide HR1 i hi)
  have hsz : w.heap.size < (w.alloc (.cells #[.int .i64 kind, .int .i64 ei, .int .i64 a, .int .i64 b, .int .i64 c, .int .i64 d, .bool f, .slice ra rn rc, .slice sa sn sc] 35)).heap.size := by simp
  have HW := hide hW
  clear hW c0
  generalize w.alloc (.cells #[.int .i64 kind, .int .i64 ei, .int .i64 a, .int .i64 b, .int .i64 c, .int .i64 d, .bool f, .slice ra rn rc, .slice sa sn sc] 35) = W at *
  generalize hs0 : w.heap.size = s0 at *
  have Hs0 := hide hs0
  clear hs0
  have blW : bw < W.heap.size := by omega
  have glW : gl < W.heap.size := by omega
  have ka : ∀ o i, i < ne → (W.alloc o).cell? ⟨gl, i * 2, none⟩ = some (.pointer (some ⟨bx i, 0, none⟩)) := fun o i hi => (World.cell?_alloc_lt _ _ _ glW).trans (hr0 i hi)
  have kb : ∀ o i, i < ne → (W.alloc o).cell? ⟨gl, i * 2 + 1, none⟩ = some (.pointer (some ⟨by_ i, 0, none⟩)) := fun o i hi => (World.cell?_alloc_lt _ _ _ glW).trans (hr1 i hi)
  have bn : bw ≠ W.heap.size := Nat.ne_of_lt blW
  have gn : gl ≠ W.heap.size := Nat.ne_of_lt glW
  have sn0 : s0 ≠ W.heap.size := Nat.ne_of_lt hsz
  go_region_held3 (fun w' => w'.cell? ⟨bw, 0, none⟩ = some (.slice (some ⟨gl, 0, none⟩) ne capl) ∧ w'.cell? ⟨s0, 1, none⟩ = some (.int .i64 ei) ∧ (∀ i, i < ne → w'.cell? ⟨gl, i * 2, none⟩ = some (.pointer (some ⟨bx i, 0, none⟩))) ∧ (∀ i, i < ne → w'.cell? ⟨gl, i * 2 + 1, none⟩ = some (.pointer (some ⟨by_ i, 0, none⟩)))) (first | (go_split_ands; exact ⟨by go_keep, by go_keep, fun i hi => hr0 i hi, fun i hi => hr1 i hi⟩) | (go_split_ands; refine ⟨by go_keep, by go_keep, fun i hi => ?_, fun i hi => ?_⟩; (rw [World.cell?_drew]; exact ka _ i hi); (rw [World.cell?_drew]; exact kb _ i hi))) ((go_at_call 13; refine (pick_any _ _ _ (by omega) (by omega) (by omega)).mono ?_; rintro e w' ⟨q, hq0, hq1, rfl, hw⟩; replace hw := hw.symm; subst hw; obtain ⟨m, rfl⟩ : ∃ m : Nat, q = (m : Int) := ⟨q.toNat, by omega⟩; have hm : m < ne := (by omega); have hm0 : (0 : Int) ≤ (m : Int) := (by omega)))
  all_goals
    have HB : Hid (Still w (W.alloc (.cells #[.pointer (some ⟨bx m, 0, none⟩), .pointer (some ⟨by_ m, 0, none⟩)] 46)).drew) := Kept.drew (Kept.alloc (unhide HW) _)
    have f0 : (W.alloc (.cells #[.pointer (some ⟨bx m, 0, none⟩), .pointer (some ⟨by_ m, 0, none⟩)] 46)).drew.cell? ⟨W.heap.size, 0, none⟩ = some (.pointer (some ⟨bx m, 0, none⟩)) := by rw [World.cell?_drew, World.cell?_alloc_new]; rfl
    have f1 : (W.alloc (.cells #[.pointer (some ⟨bx m, 0, none⟩), .pointer (some ⟨by_ m, 0, none⟩)] 46)).drew.cell? ⟨W.heap.size, 1, none⟩ = some (.pointer (some ⟨by_ m, 0, none⟩)) := by rw [World.cell?_drew, World.cell?_alloc_new]; rfl
    have e0' : (W.alloc (.cells #[.pointer (some ⟨bx m, 0, none⟩), .pointer (some ⟨by_ m, 0, none⟩)] 46)).drew.cell? ⟨s0, 0, none⟩ = some (.int .i64 kind) := by rw [World.cell?_drew, World.cell?_alloc_lt _ _ _ hsz]; exact e0
    have e1' : (W.alloc (.cells #[.pointer (some ⟨bx m, 0, none⟩), .pointer (some ⟨by_ m, 0, none⟩)] 46)).drew.cell? ⟨s0, 1, none⟩ = some (.int .i64 ei) := by rw [World.cell?_drew, World.cell?_alloc_lt _ _ _ hsz]; exact e1
    have e2' : (W.alloc (.cells #[.pointer (some ⟨bx m, 0, none⟩), .pointer (some ⟨by_ m, 0, none⟩)] 46)).drew.cell? ⟨s0, 2, none⟩ = some (.int .i64 a) := by rw [World.cell?_drew, World.cell?_alloc_lt _ _ _ hsz]; exact e2
    have e3' : (W.alloc (.cells #[.pointer (some ⟨bx m, 0, none⟩), .pointer (some ⟨by_ m, 0, none⟩)] 46)).drew.cell? ⟨s0, 3, none⟩ = some (.int .i64 b) := by rw [World.cell?_drew, World.cell?_alloc_lt _ _ _ hsz]; exact e3
    have e4' : (W.alloc (.cells #[.pointer (some ⟨bx m, 0, none⟩), .pointer (some ⟨by_ m, 0, none⟩)] 46)).drew.cell? ⟨s0, 4, none⟩ = some (.int .i64 c) := by rw [World.cell?_drew, World.cell?_alloc_lt _ _ _ hsz]; exact e4
    have e5' : (W.alloc (.cells #[.pointer (some ⟨bx m, 0, none⟩), .pointer (some ⟨by_ m, 0, none⟩)] 46)).drew.cell? ⟨s0, 5, none⟩ = some (.int .i64 d) := by rw [World.cell?_drew, World.cell?_alloc_lt _ _ _ hsz]; exact e5
    have e6' : (W.alloc (.cells #[.pointer (some ⟨bx m, 0, none⟩), .pointer (some ⟨by_ m, 0, none⟩)] 46)).drew.cell? ⟨s0, 6, none⟩ = some (.bool f) := by rw [World.cell?_drew, World.cell?_alloc_lt _ _ _ hsz]; exact e6
    have e7' : (W.alloc (.cells #[.pointer (some ⟨bx m, 0, none⟩), .pointer (some ⟨by_ m, 0, none⟩)] 46)).drew.cell? ⟨s0, 7, none⟩ = some (.slice ra rn rc) := by rw [World.cell?_drew, World.cell?_alloc_lt _ _ _ hsz]; exact e7
    have e8' : (W.alloc (.cells #[.pointer (some ⟨bx m, 0, none⟩), .pointer (some ⟨by_ m, 0, none⟩)] 46)).drew.cell? ⟨s0, 8, none⟩ = some (.slice sa sn sc) := by rw [World.cell?_drew, World.cell?_alloc_lt _ _ _ hsz]; exact e8
    clear e0 e1 e2 e3 e4 e5 e6 e7 e8 ka kb hr0 hr1
    generalize (W.alloc (.cells #[.pointer (some ⟨bx m, 0, none⟩), .pointer (some ⟨by_ m, 0, none⟩)] 46)).drew = V at *
    have hLV := (unhide HL).still (unhide HB)
    have HLV := hide hLV
    clear hLV
    rcases (by omega : kind = 2 ∨ kind = 3 ∨ kind = 4 ∨ kind = 5 ∨ kind = 6 ∨ kind = 7 ∨ kind = 8) with rfl | rfl | rfl | rfl | rfl | rfl | rfl
  all_goals
    go_wp2_with fail
    first | refine (tenantsJ_any ((unhide HLV).pair m hm) _ _ _ _ _ _ _ _ _ _ _ _ _ (by omega)).mono ?_ | refine (setsJ_any J ((unhide HLV).pair m hm) _ _ _ _ _ _ _ _ _ _ _ _ _ (by omega)).mono ?_
    rintro en w5 ⟨rfl, haf⟩
    have hfin := (unhide HLV).after hm haf
    have HF := hide hfin
    clear hfin haf
    go_wp2
    go_ret
    refine ⟨rfl, (unhide HF).1, Below.trans ?_ (unhide HF).2⟩
    exact Kept.below (unhide HB) (unhide HL).size (fun _ _ x => x)
end Go.Proofs.YtgndledehlilkaaGreat
