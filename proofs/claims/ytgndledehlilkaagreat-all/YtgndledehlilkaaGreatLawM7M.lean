import Derived.Test.YtgndledehlilkaaGreatLawM4M
import Derived.Test.YtgndledehlilkaaGreatLawM6
import Derived.Test.YtgndledehlilkaaGreatLawL1
import Derived.Test.YtgndledehlilkaaGreatDoP
import Derived.Test.YtgndledehlilkaaGreatLawL2
namespace Go.Proofs.YtgndledehlilkaaGreat
open Go.RowKit
section

/-- What 'do' must answer. -/
def DoSpec (I : EngI) : Prop :=
  ∀ {w : World} {O : Tag} {B bw ne nt nb : Nat} {lv tv kv bv cv : Value} {bx by_ : Nat → Nat} {rs : Nat → RefS} {T : Nat → Value} {K : Nat → Nat} {Tb : Nat → Value} {Kb : Nat → Nat}, LawAtM I w O B bw ne nt nb lv tv kv bv cv bx by_ rs T K Tb Kb → ∀ {i : Nat}, i < ne → nb ≤ 5864062014800 →
    ∀ (ei a b c d : Int) (f : Bool) (ra : Option Addr) (rn rc : Nat) (sa : Option Addr) (sn sc : Nat) (S : List Int), BytesIn w (.slice sa sn sc) S → S.length ≤ 140737488351232 → (∀ ad, sa = some ad → 0 < S.length → ad.block < B) →
    Calls Tryz.prog 17 #[.pointer (some ⟨bw, 0, none⟩), .agg #[.pointer (some ⟨bx i, 0, none⟩), .pointer (some ⟨by_ i, 0, none⟩)], .agg #[.int .i64 14, .int .i64 ei, .int .i64 a, .int .i64 b, .int .i64 c, .int .i64 d, .bool f, .slice ra rn rc, .slice sa sn sc]] w fun en w' => en = .returned (.bool true) ∧ LawRepM I w' B bw ne nt (nb + 4) ∧ Below B w w'
theorem tellsM_any {I : EngI} (J : EngI2 I) (K : EngI3 I) {w : World} {O : Tag} {e bx by_ : Nat} {r : RefS} (h : PairI I w O e bx by_ r) (bw : Nat) (kind ei a b c d : Int) (f : Bool) (ra : Option Addr) (rn rc : Nat) (sa : Option Addr) (sn sc : Nat) (hk : 11 ≤ kind ∧ kind ≤ 13) :
    Calls Tryz.prog 16 #[.pointer (some ⟨bw, 0, none⟩), .agg #[.pointer (some ⟨bx, 0, none⟩), .pointer (some ⟨by_, 0, none⟩)], .agg #[.int .i64 kind, .int .i64 ei, .int .i64 a, .int .i64 b, .int .i64 c, .int .i64 d, .bool f, .slice ra rn rc, .slice sa sn sc]] w fun en w' => en = .returned (.bool true) ∧ AfterI I w O e bx by_ w' := by
  rcases (by omega : kind = 11 ∨ kind = 12 ∨ kind = 13) with rfl | rfl | rfl
  · exact lawM_count I J h bw ei a b c d f ra rn rc sa sn sc
  · exact lawI_look I K h bw ei a b c d f ra rn rc sa sn sc
  · exact lawI_pass I K h bw ei a b c d f ra rn rc sa sn sc
attribute [local go_sem ↓] Go.wp_at_zero Go.wp_at_succ
set_option maxRecDepth 100000 in
set_option maxHeartbeats 4000000 in
theorem stepM_eng {I : EngI} (J : EngI2 I) (K3 : EngI3 I) {w : World} {B bw ne nt nb : Nat} (h : LawRepM I w B bw ne nt nb) (kind ei a b c d : Int) (f : Bool) (ra : Option Addr) (rn rc : Nat) (sa : Option Addr) (sn sc : Nat) (hk : 2 ≤ kind ∧ kind ≤ 14) (hdo : kind = 14 → DoSpec I) {R : List RuleD} (hR : RulesIn w (.slice ra rn rc) R) (hRn : R.length * 40 ≤ 140737488351232) (hRB : ∀ ad, ra = some ad → 0 < R.length → ad.block < B)
    {S : List Int} (hS : BytesIn w (.slice sa sn sc) S) (hSn : S.length ≤ 140737488351232) (hSB : ∀ ad, sa = some ad → 0 < S.length → ad.block < B) (hn : 1 ≤ ne) (hne : (ne : Int) ≤ 4611686018427387904) (hnt : nt ≤ 5864062014800) (hnb : nb ≤ 5864062014800) (h1 : -9223372036854775808 ≤ ei) (h2 : ei ≤ 9223372036854775807) :
    Calls Tryz.prog 9 #[.pointer (some ⟨bw, 0, none⟩), stepW kind ei a b c d f (.slice ra rn rc) (.slice sa sn sc)] w fun en w' => en = .returned (.bool true) ∧ (∃ nt' nb', nt' ≤ nt + 4 ∧ nb' ≤ nb + 4 ∧ LawRepM I w' B bw ne nt' nb') ∧ Below B w w' := by
  unfold stepW
  have HRI := hide hR
  have HRB := hide hRB
  have HSI := hide hS
  have HSB := hide hSB
  have HDO := hide hdo
  clear hR hRB hS hSB hdo
  obtain ⟨O, lv, tv, kv, bv, cv, bx, by_, rs, T, K, Tb, Kb, h⟩ := h
  obtain ⟨al, capl, rfl, hl1, hl2⟩ := ownsRow_slice h.row
  obtain ⟨gl, rfl, hgl⟩ := ownsRow_some h.row (by omega)
  have bl := h.lt
  obtain ⟨c0, _, _, _, _, _⟩ := h.cells
  have hr0 : ∀ i, i < ne → w.cell? ⟨gl, i * 2, none⟩ = some (.pointer (some ⟨bx i, 0, none⟩)) := fun i hi => ownsRow_cell h.row (engRow_len bx by_ ne) hi (j := 0) (by omega)
  have hr1 : ∀ i, i < ne → w.cell? ⟨gl, i * 2 + 1, none⟩ = some (.pointer (some ⟨by_ i, 0, none⟩)) := fun i hi => ownsRow_cell h.row (engRow_len bx by_ ne) hi (j := 1) (by omega)
  have HR0 := hide hr0
  have HR1 := hide hr1
  have HL := hide h
  have k1 : (kind == 1) = false := by rw [beq_eq_false_iff_ne]; omega
  have hn1 : ((ne : Int) == 0) = false := by rw [beq_eq_false_iff_ne]; omega
  unfold maxLen at hl2
  clear h hr0 hr1
  go_enter Tryz.func9, Tryz.ntmps9
  go_wp2
  have e0 : (w.alloc (.cells #[.int .i64 kind, .int .i64 ei, .int .i64 a, .int .i64 b, .int .i64 c, .int .i64 d, .bool f, .slice ra rn rc, .slice sa sn sc] 35)).cell? ⟨w.heap.size, 0, none⟩ = some (.int .i64 kind) := by rw [World.cell?_alloc_new]; rfl
  have e1 : (w.alloc (.cells #[.int .i64 kind, .int .i64 ei, .int .i64 a, .int .i64 b, .int .i64 c, .int .i64 d, .bool f, .slice ra rn rc, .slice sa sn sc] 35)).cell? ⟨w.heap.size, 1, none⟩ = some (.int .i64 ei) := by rw [World.cell?_alloc_new]; rfl
  have e2 : (w.alloc (.cells #[.int .i64 kind, .int .i64 ei, .int .i64 a, .int .i64 b, .int .i64 c, .int .i64 d, .bool f, .slice ra rn rc, .slice sa sn sc] 35)).cell? ⟨w.heap.size, 2, none⟩ = some (.int .i64 a) := by rw [World.cell?_alloc_new]; rfl
  have e3 : (w.alloc (.cells #[.int .i64 kind, .int .i64 ei, .int .i64 a, .int .i64 b, .int .i64 c, .int .i64 d, .bool f, .slice ra rn rc, .slice sa sn sc] 35)).cell? ⟨w.heap.size, 3, none⟩ = some (.int .i64 b) := by rw [World.cell?_alloc_new]; rfl
  have e4 : (w.alloc (.cells #[.int .i64 kind, .int .i64 ei, .int .i64 a, .int .i64 b, .int .i64 c, .int .i64 d, .bool f, .slice ra rn rc, .slice sa sn sc] 35)).cell? ⟨w.heap.size, 4, none⟩ = some (.int .i64 c) := by rw [World.cell?_alloc_new]; rfl
  have e5 : (w.alloc (.cells #[.int .i64 kind, .int .i64 ei, .int .i64 a, .int .i64 b, .int .i64 c, .int .i64 d, .bool f, .slice ra rn rc, .slice sa sn sc] 35)).cell? ⟨w.heap.size, 5, none⟩ = some (.int .i64 d) := by rw [World.cell?_alloc_new]; rfl
  have e6 : (w.alloc (.cells #[.int .i64 kind, .int .i64 ei, .int .i64 a, .int .i64 b, .int .i64 c, .int .i64 d, .bool f, .slice ra rn rc, .slice sa sn sc] 35)).cell? ⟨w.heap.size, 6, none⟩ = some (.bool f) := by rw [World.cell?_alloc_new]; rfl
  have e7 : (w.alloc (.cells #[.int .i64 kind, .int .i64 ei, .int .i64 a, .int .i64 b, .int .i64 c, .int .i64 d, .bool f, .slice ra rn rc, .slice sa sn sc] 35)).cell? ⟨w.heap.size, 7, none⟩ = some (.slice ra rn rc) := by rw [World.cell?_alloc_new]; rfl
  have e8 : (w.alloc (.cells #[.int .i64 kind, .int .i64 ei, .int .i64 a, .int .i64 b, .int .i64 c, .int .i64 d, .bool f, .slice ra rn rc, .slice sa sn sc] 35)).cell? ⟨w.heap.size, 8, none⟩ = some (.slice sa sn sc) := by rw [World.cell?_alloc_new]; rfl
  have hW : Still w (w.alloc (.cells #[.int .i64 kind, .int .i64 ei, .int .i64 a, .int .i64 b, .int .i64 c, .int .i64 d, .bool f, .slice ra rn rc, .slice sa sn sc] 35)) := (Kept.refl _ _).alloc _
  have d0 := (hW.cell _ 0 bl).trans c0
  have hr0 : ∀ i, i < ne → (w.alloc (.cells #[.int .i64 kind, .int .i64 ei, .int .i64 a, .int .i64 b, .int .i64 c, .int .i64 d, .bool f, .slice ra rn rc, .slice sa sn sc] 35)).cell? ⟨gl, i * 2, none⟩ = some (.pointer (some ⟨bx i, 0, none⟩)) := fun i hi => (hW.cell _ _ hgl).trans (unhide HR0 i hi)
  have hr1 : ∀ i, i < ne → (w.alloc (.cells #[.int .i64 kind, .int .i64 ei, .int .i64 a, .int .i64 b, .int .i64 c, .int .i64 d, .bool f, .slice ra rn rc, .slice sa sn sc] 35)).cell? ⟨gl, i * 2 + 1, none⟩ = some (.pointer (some ⟨by_ i, 0, none⟩)) := fun i hi => (hW.cell _ _ hgl).trans (unhide HR1 i hi)
  have hsz : w.heap.size < (w.alloc (.cells #[.int .i64 kind, .int .i64 ei, .int .i64 a, .int .i64 b, .int .i64 c, .int .i64 d, .bool f, .slice ra rn rc, .slice sa sn sc] 35)).heap.size := by simp
  have HW := hide hW
  clear hW c0
  generalize w.alloc (.cells #[.int .i64 kind, .int .i64 ei, .int .i64 a, .int .i64 b, .int .i64 c, .int .i64 d, .bool f, .slice ra rn rc, .slice sa sn sc] 35) = W at *
  generalize hs0 : w.heap.size = s0 at *
  have Hs0 := hide hs0
  clear hs0
  have blW : bw < W.heap.size := by omega
  have glW : gl < W.heap.size := by omega
  have ka : ∀ o i, i < ne → (W.alloc o).cell? ⟨gl, i * 2, none⟩ = some (.pointer (some ⟨bx i, 0, none⟩)) := fun o i hi => (World.cell?_alloc_lt _ _ _ glW).trans (hr0 i hi)
  have kb : ∀ o i, i < ne → (W.alloc o).cell? ⟨gl, i * 2 + 1, none⟩ = some (.pointer (some ⟨by_ i, 0, none⟩)) := fun o i hi => (World.cell?_alloc_lt _ _ _ glW).trans (hr1 i hi)
  have bn : bw ≠ W.heap.size := Nat.ne_of_lt blW
  have gn : gl ≠ W.heap.size := Nat.ne_of_lt glW
  have sn0 : s0 ≠ W.heap.size := Nat.ne_of_lt hsz
  go_region_held3 (fun w' => w'.cell? ⟨bw, 0, none⟩ = some (.slice (some ⟨gl, 0, none⟩) ne capl) ∧ w'.cell? ⟨s0, 1, none⟩ = some (.int .i64 ei) ∧ (∀ i, i < ne → w'.cell? ⟨gl, i * 2, none⟩ = some (.pointer (some ⟨bx i, 0, none⟩))) ∧ (∀ i, i < ne → w'.cell? ⟨gl, i * 2 + 1, none⟩ = some (.pointer (some ⟨by_ i, 0, none⟩)))) (first | (go_split_ands; exact ⟨by go_keep, by go_keep, fun i hi => hr0 i hi, fun i hi => hr1 i hi⟩) | (go_split_ands; refine ⟨by go_keep, by go_keep, fun i hi => ?_, fun i hi => ?_⟩; (rw [World.cell?_drew]; exact ka _ i hi); (rw [World.cell?_drew]; exact kb _ i hi))) ((go_at_call 13; refine (pick_any _ _ _ (by omega) (by omega) (by omega)).mono ?_; rintro e w' ⟨q, hq0, hq1, rfl, hw⟩; replace hw := hw.symm; subst hw; obtain ⟨m, rfl⟩ : ∃ m : Nat, q = (m : Int) := ⟨q.toNat, by omega⟩; have hm : m < ne := (by omega); have hm0 : (0 : Int) ≤ (m : Int) := (by omega)))
  all_goals
    have HB : Hid (Still w (W.alloc (.cells #[.pointer (some ⟨bx m, 0, none⟩), .pointer (some ⟨by_ m, 0, none⟩)] 46)).drew) := Kept.drew (Kept.alloc (unhide HW) _)
    have f0 : (W.alloc (.cells #[.pointer (some ⟨bx m, 0, none⟩), .pointer (some ⟨by_ m, 0, none⟩)] 46)).drew.cell? ⟨W.heap.size, 0, none⟩ = some (.pointer (some ⟨bx m, 0, none⟩)) := by rw [World.cell?_drew, World.cell?_alloc_new]; rfl
    have f1 : (W.alloc (.cells #[.pointer (some ⟨bx m, 0, none⟩), .pointer (some ⟨by_ m, 0, none⟩)] 46)).drew.cell? ⟨W.heap.size, 1, none⟩ = some (.pointer (some ⟨by_ m, 0, none⟩)) := by rw [World.cell?_drew, World.cell?_alloc_new]; rfl
    have e0' : (W.alloc (.cells #[.pointer (some ⟨bx m, 0, none⟩), .pointer (some ⟨by_ m, 0, none⟩)] 46)).drew.cell? ⟨s0, 0, none⟩ = some (.int .i64 kind) := by rw [World.cell?_drew, World.cell?_alloc_lt _ _ _ hsz]; exact e0
    have e1' : (W.alloc (.cells #[.pointer (some ⟨bx m, 0, none⟩), .pointer (some ⟨by_ m, 0, none⟩)] 46)).drew.cell? ⟨s0, 1, none⟩ = some (.int .i64 ei) := by rw [World.cell?_drew, World.cell?_alloc_lt _ _ _ hsz]; exact e1
    have e2' : (W.alloc (.cells #[.pointer (some ⟨bx m, 0, none⟩), .pointer (some ⟨by_ m, 0, none⟩)] 46)).drew.cell? ⟨s0, 2, none⟩ = some (.int .i64 a) := by rw [World.cell?_drew, World.cell?_alloc_lt _ _ _ hsz]; exact e2
    have e3' : (W.alloc (.cells #[.pointer (some ⟨bx m, 0, none⟩), .pointer (some ⟨by_ m, 0, none⟩)] 46)).drew.cell? ⟨s0, 3, none⟩ = some (.int .i64 b) := by rw [World.cell?_drew, World.cell?_alloc_lt _ _ _ hsz]; exact e3
    have e4' : (W.alloc (.cells #[.pointer (some ⟨bx m, 0, none⟩), .pointer (some ⟨by_ m, 0, none⟩)] 46)).drew.cell? ⟨s0, 4, none⟩ = some (.int .i64 c) := by rw [World.cell?_drew, World.cell?_alloc_lt _ _ _ hsz]; exact e4
    have e5' : (W.alloc (.cells #[.pointer (some ⟨bx m, 0, none⟩), .pointer (some ⟨by_ m, 0, none⟩)] 46)).drew.cell? ⟨s0, 5, none⟩ = some (.int .i64 d) := by rw [World.cell?_drew, World.cell?_alloc_lt _ _ _ hsz]; exact e5
    have e6' : (W.alloc (.cells #[.pointer (some ⟨bx m, 0, none⟩), .pointer (some ⟨by_ m, 0, none⟩)] 46)).drew.cell? ⟨s0, 6, none⟩ = some (.bool f) := by rw [World.cell?_drew, World.cell?_alloc_lt _ _ _ hsz]; exact e6
    have e7' : (W.alloc (.cells #[.pointer (some ⟨bx m, 0, none⟩), .pointer (some ⟨by_ m, 0, none⟩)] 46)).drew.cell? ⟨s0, 7, none⟩ = some (.slice ra rn rc) := by rw [World.cell?_drew, World.cell?_alloc_lt _ _ _ hsz]; exact e7
    have e8' : (W.alloc (.cells #[.pointer (some ⟨bx m, 0, none⟩), .pointer (some ⟨by_ m, 0, none⟩)] 46)).drew.cell? ⟨s0, 8, none⟩ = some (.slice sa sn sc) := by rw [World.cell?_drew, World.cell?_alloc_lt _ _ _ hsz]; exact e8
    clear e0 e1 e2 e3 e4 e5 e6 e7 e8 ka kb hr0 hr1
    generalize (W.alloc (.cells #[.pointer (some ⟨bx m, 0, none⟩), .pointer (some ⟨by_ m, 0, none⟩)] 46)).drew = V at *
    have hLV := (unhide HL).still (unhide HB)
    have HLV := hide hLV
    clear hLV
    rcases (by omega : kind = 2 ∨ kind = 3 ∨ kind = 4 ∨ kind = 5 ∨ kind = 6 ∨ kind = 7 ∨ kind = 8 ∨ kind = 9 ∨ kind = 10 ∨ kind = 11 ∨ kind = 12 ∨ kind = 13 ∨ kind = 14) with rfl | rfl | rfl | rfl | rfl | rfl | rfl | rfl | rfl | rfl | rfl | rfl | rfl
    · go_wp2_with fail
      refine (tenantsJ_any ((unhide HLV).pair m hm) _ _ _ _ _ _ _ _ _ _ _ _ _ (by omega)).mono ?_
      rintro en w5 ⟨rfl, haf⟩
      have hfin := (unhide HLV).after hm haf
      have HF := hide (show (∃ nt' nb', nt' ≤ nt + 4 ∧ nb' ≤ nb + 4 ∧ LawRepM I w5 B bw ne nt' nb') ∧ Below B _ w5 from ⟨⟨nt, nb, by omega, by omega, hfin.1⟩, hfin.2⟩)
      clear hfin haf
      go_wp2
      go_ret
      refine ⟨rfl, (unhide HF).1, Below.trans ?_ (unhide HF).2⟩
      exact Kept.below (unhide HB) (unhide HL).size (fun _ _ x => x)
    · go_wp2_with fail
      refine (tenantsJ_any ((unhide HLV).pair m hm) _ _ _ _ _ _ _ _ _ _ _ _ _ (by omega)).mono ?_
      rintro en w5 ⟨rfl, haf⟩
      have hfin := (unhide HLV).after hm haf
      have HF := hide (show (∃ nt' nb', nt' ≤ nt + 4 ∧ nb' ≤ nb + 4 ∧ LawRepM I w5 B bw ne nt' nb') ∧ Below B _ w5 from ⟨⟨nt, nb, by omega, by omega, hfin.1⟩, hfin.2⟩)
      clear hfin haf
      go_wp2
      go_ret
      refine ⟨rfl, (unhide HF).1, Below.trans ?_ (unhide HF).2⟩
      exact Kept.below (unhide HB) (unhide HL).size (fun _ _ x => x)
    · go_wp2_with fail
      refine (tenantsJ_any ((unhide HLV).pair m hm) _ _ _ _ _ _ _ _ _ _ _ _ _ (by omega)).mono ?_
      rintro en w5 ⟨rfl, haf⟩
      have hfin := (unhide HLV).after hm haf
      have HF := hide (show (∃ nt' nb', nt' ≤ nt + 4 ∧ nb' ≤ nb + 4 ∧ LawRepM I w5 B bw ne nt' nb') ∧ Below B _ w5 from ⟨⟨nt, nb, by omega, by omega, hfin.1⟩, hfin.2⟩)
      clear hfin haf
      go_wp2
      go_ret
      refine ⟨rfl, (unhide HF).1, Below.trans ?_ (unhide HF).2⟩
      exact Kept.below (unhide HB) (unhide HL).size (fun _ _ x => x)
    · go_wp2_with fail
      refine (tenantsJ_any ((unhide HLV).pair m hm) _ _ _ _ _ _ _ _ _ _ _ _ _ (by omega)).mono ?_
      rintro en w5 ⟨rfl, haf⟩
      have hfin := (unhide HLV).after hm haf
      have HF := hide (show (∃ nt' nb', nt' ≤ nt + 4 ∧ nb' ≤ nb + 4 ∧ LawRepM I w5 B bw ne nt' nb') ∧ Below B _ w5 from ⟨⟨nt, nb, by omega, by omega, hfin.1⟩, hfin.2⟩)
      clear hfin haf
      go_wp2
      go_ret
      refine ⟨rfl, (unhide HF).1, Below.trans ?_ (unhide HF).2⟩
      exact Kept.below (unhide HB) (unhide HL).size (fun _ _ x => x)
    · go_wp2_with fail
      refine (setsL_any J ((unhide HLV).pair m hm) _ _ _ _ _ _ _ _ _ _ _ _ _ ((unhide HRI).still (unhide HB)) hRn (fun ad h1 h2 => ⟨Nat.lt_of_lt_of_le (unhide HRB ad h1 h2) (unhide HLV).size, by rw [(unhide HLV).outer _ (unhide HRB ad h1 h2)]; simp⟩) (by omega) (by omega)).mono ?_
      rintro en w5 ⟨rfl, haf⟩
      have hfin := (unhide HLV).after hm haf
      have HF := hide (show (∃ nt' nb', nt' ≤ nt + 4 ∧ nb' ≤ nb + 4 ∧ LawRepM I w5 B bw ne nt' nb') ∧ Below B _ w5 from ⟨⟨nt, nb, by omega, by omega, hfin.1⟩, hfin.2⟩)
      clear hfin haf
      go_wp2
      go_ret
      refine ⟨rfl, (unhide HF).1, Below.trans ?_ (unhide HF).2⟩
      exact Kept.below (unhide HB) (unhide HL).size (fun _ _ x => x)
    · go_wp2_with fail
      refine (setsL_any J ((unhide HLV).pair m hm) _ _ _ _ _ _ _ _ _ _ _ _ _ ((unhide HRI).still (unhide HB)) hRn (fun ad h1 h2 => ⟨Nat.lt_of_lt_of_le (unhide HRB ad h1 h2) (unhide HLV).size, by rw [(unhide HLV).outer _ (unhide HRB ad h1 h2)]; simp⟩) (by omega) (by omega)).mono ?_
      rintro en w5 ⟨rfl, haf⟩
      have hfin := (unhide HLV).after hm haf
      have HF := hide (show (∃ nt' nb', nt' ≤ nt + 4 ∧ nb' ≤ nb + 4 ∧ LawRepM I w5 B bw ne nt' nb') ∧ Below B _ w5 from ⟨⟨nt, nb, by omega, by omega, hfin.1⟩, hfin.2⟩)
      clear hfin haf
      go_wp2
      go_ret
      refine ⟨rfl, (unhide HF).1, Below.trans ?_ (unhide HF).2⟩
      exact Kept.below (unhide HB) (unhide HL).size (fun _ _ x => x)
    · go_wp2_with fail
      refine (setsL_any J ((unhide HLV).pair m hm) _ _ _ _ _ _ _ _ _ _ _ _ _ ((unhide HRI).still (unhide HB)) hRn (fun ad h1 h2 => ⟨Nat.lt_of_lt_of_le (unhide HRB ad h1 h2) (unhide HLV).size, by rw [(unhide HLV).outer _ (unhide HRB ad h1 h2)]; simp⟩) (by omega) (by omega)).mono ?_
      rintro en w5 ⟨rfl, haf⟩
      have hfin := (unhide HLV).after hm haf
      have HF := hide (show (∃ nt' nb', nt' ≤ nt + 4 ∧ nb' ≤ nb + 4 ∧ LawRepM I w5 B bw ne nt' nb') ∧ Below B _ w5 from ⟨⟨nt, nb, by omega, by omega, hfin.1⟩, hfin.2⟩)
      clear hfin haf
      go_wp2
      go_ret
      refine ⟨rfl, (unhide HF).1, Below.trans ?_ (unhide HF).2⟩
      exact Kept.below (unhide HB) (unhide HL).size (fun _ _ x => x)
    · go_wp2_with fail
      refine (setsL_any J ((unhide HLV).pair m hm) _ _ _ _ _ _ _ _ _ _ _ _ _ ((unhide HRI).still (unhide HB)) hRn (fun ad h1 h2 => ⟨Nat.lt_of_lt_of_le (unhide HRB ad h1 h2) (unhide HLV).size, by rw [(unhide HLV).outer _ (unhide HRB ad h1 h2)]; simp⟩) (by omega) (by omega)).mono ?_
      rintro en w5 ⟨rfl, haf⟩
      have hfin := (unhide HLV).after hm haf
      have HF := hide (show (∃ nt' nb', nt' ≤ nt + 4 ∧ nb' ≤ nb + 4 ∧ LawRepM I w5 B bw ne nt' nb') ∧ Below B _ w5 from ⟨⟨nt, nb, by omega, by omega, hfin.1⟩, hfin.2⟩)
      clear hfin haf
      go_wp2
      go_ret
      refine ⟨rfl, (unhide HF).1, Below.trans ?_ (unhide HF).2⟩
      exact Kept.below (unhide HB) (unhide HL).size (fun _ _ x => x)
    · go_wp2_with fail
      refine (lawM_table J (unhide HLV) hm hnt _ _ _ _ _ _ _ _ _ _ _ _).mono ?_
      rintro en w5 ⟨rfl, hfin⟩
      have HF := hide (show (∃ nt' nb', nt' ≤ nt + 4 ∧ nb' ≤ nb + 4 ∧ LawRepM I w5 B bw ne nt' nb') ∧ Below B _ w5 from ⟨⟨nt + 4, nb, by omega, by omega, hfin.1⟩, hfin.2⟩)
      clear hfin
      go_wp2
      go_ret
      refine ⟨rfl, (unhide HF).1, Below.trans ?_ (unhide HF).2⟩
      exact Kept.below (unhide HB) (unhide HL).size (fun _ _ x => x)
    · go_wp2_with fail
      refine (tellsM_any J K3 ((unhide HLV).pair m hm) _ _ _ _ _ _ _ _ _ _ _ _ _ _ (by omega)).mono ?_
      rintro en w5 ⟨rfl, haf⟩
      have hfin := (unhide HLV).after hm haf
      have HF := hide (show (∃ nt' nb', nt' ≤ nt + 4 ∧ nb' ≤ nb + 4 ∧ LawRepM I w5 B bw ne nt' nb') ∧ Below B _ w5 from ⟨⟨nt, nb, by omega, by omega, hfin.1⟩, hfin.2⟩)
      clear hfin haf
      go_wp2
      go_ret
      refine ⟨rfl, (unhide HF).1, Below.trans ?_ (unhide HF).2⟩
      exact Kept.below (unhide HB) (unhide HL).size (fun _ _ x => x)
    · go_wp2_with fail
      refine (tellsM_any J K3 ((unhide HLV).pair m hm) _ _ _ _ _ _ _ _ _ _ _ _ _ _ (by omega)).mono ?_
      rintro en w5 ⟨rfl, haf⟩
      have hfin := (unhide HLV).after hm haf
      have HF := hide (show (∃ nt' nb', nt' ≤ nt + 4 ∧ nb' ≤ nb + 4 ∧ LawRepM I w5 B bw ne nt' nb') ∧ Below B _ w5 from ⟨⟨nt, nb, by omega, by omega, hfin.1⟩, hfin.2⟩)
      clear hfin haf
      go_wp2
      go_ret
      refine ⟨rfl, (unhide HF).1, Below.trans ?_ (unhide HF).2⟩
      exact Kept.below (unhide HB) (unhide HL).size (fun _ _ x => x)
    · go_wp2_with fail
      refine (tellsM_any J K3 ((unhide HLV).pair m hm) _ _ _ _ _ _ _ _ _ _ _ _ _ _ (by omega)).mono ?_
      rintro en w5 ⟨rfl, haf⟩
      have hfin := (unhide HLV).after hm haf
      have HF := hide (show (∃ nt' nb', nt' ≤ nt + 4 ∧ nb' ≤ nb + 4 ∧ LawRepM I w5 B bw ne nt' nb') ∧ Below B _ w5 from ⟨⟨nt, nb, by omega, by omega, hfin.1⟩, hfin.2⟩)
      clear hfin haf
      go_wp2
      go_ret
      refine ⟨rfl, (unhide HF).1, Below.trans ?_ (unhide HF).2⟩
      exact Kept.below (unhide HB) (unhide HL).size (fun _ _ x => x)
    · go_wp2_with fail
      refine (unhide HDO trivial (unhide HLV) hm hnb _ _ _ _ _ _ _ _ _ _ _ _ S ((unhide HSI).still (unhide HB)) hSn (unhide HSB)).mono ?_
      rintro en w5 ⟨rfl, hfin⟩
      have HF := hide (show (∃ nt' nb', nt' ≤ nt + 4 ∧ nb' ≤ nb + 4 ∧ LawRepM I w5 B bw ne nt' nb') ∧ Below B _ w5 from ⟨⟨nt, nb + 4, by omega, by omega, hfin.1⟩, hfin.2⟩)
      clear hfin
      go_wp2
      go_ret
      refine ⟨rfl, (unhide HF).1, Below.trans ?_ (unhide HF).2⟩
      exact Kept.below (unhide HB) (unhide HL).size (fun _ _ x => x)
end

theorem BytesIn.below {w w' : World} {B : Nat} {a : Option Addr} {n c : Nat} {S : List Int} (h : BytesIn w (.slice a n c) S) (hb : Below B w w') (hB : ∀ ad, a = some ad → 0 < S.length → ad.block < B) : BytesIn w' (.slice a n c) S := by
  obtain ⟨h0, h⟩ := h
  refine ⟨h0, ?_⟩
  rcases h with h | ⟨ad, c', e, h1, h2, h4⟩
  · exact .inl h
  · refine .inr ⟨ad, c', e, h1, h2, fun j hj => ?_⟩
    obtain ⟨bs, off, rfl, q1, q2⟩ := h4 j hj
    have ea : a = some ⟨bs, off, none⟩ := (Value.slice.inj e).1
    refine ⟨bs, off, rfl, Nat.lt_of_lt_of_le q1 hb.size, ?_⟩
    rw [← q2]
    exact hb.cell (p := ⟨bs, off + j, none⟩) (hB ⟨bs, off, none⟩ ea (by omega))
/-- A step's bytes can be read. -/
def BytesAt (w : World) (s : StepD) : Prop := ∃ S : List Int, BytesIn w (.slice s.sa s.sn s.sc) S ∧ S.length ≤ 140737488351232 ∧ ∀ ad, s.sa = some ad → 0 < S.length → ad.block < w.heap.size
theorem lawRepM_new (I : EngI) (w : World) : LawRepM I (w.alloc (.cells #[.slice none 0 0, .slice none 0 0, .slice none 0 0, .slice none 0 0, .slice none 0 0] 31)) w.heap.size w.heap.size 0 0 0 := by
  have nob : ∀ (g : Nat), ¬ (Value.slice none 0 0).ownBlock = some g := fun g hg => by simp [Value.ownBlock] at hg
  refine ⟨fun k => if k = w.heap.size then (0, 6, 0) else (0, 8, 0), .slice none 0 0, .slice none 0 0, .slice none 0 0, .slice none 0 0, .slice none 0 0, fun _ => 0, fun _ => 0, fun _ => ⟨0, 0, (fun _ => ⟨0, 0, 0, 0, [], [], false⟩), 0, (fun _ => ⟨0, 0, [], false⟩)⟩, fun _ => .slice none 0 0, fun _ => 0, fun _ => .slice none 0 0, fun _ => 0, heap_alloc_new w _, by simp, World.ownsRow_nil _ _ _ _, ?_, ?_, by simp, ?_, ?_, ?_⟩
  · intro g hg; exact absurd hg (nob g)
  · intro k hk; rw [if_neg (by omega)]
  · intro i hi; omega
  · exact ⟨World.ownsRow_nil _ _ _ _, fun g hg => absurd hg (nob g), World.ownsRow_nil _ _ _ _, fun g hg => absurd hg (nob g), fun i hi => absurd hi (Nat.not_lt_zero _), fun i hi => absurd hi (Nat.not_lt_zero _)⟩
  · exact ⟨World.ownsRow_nil _ _ _ _, fun g hg => absurd hg (nob g), World.ownsRow_nil _ _ _ _, fun g hg => absurd hg (nob g), fun i hi => absurd hi (Nat.not_lt_zero _), fun i hi => absurd hi (Nat.not_lt_zero _)⟩
/-- A step. -/
theorem stepM_any {I : EngI} (J : EngI2 I) (K3 : EngI3 I) {w : World} {B bw ne nt nb : Nat} (h : LawRepM I w B bw ne nt nb) (hB : B ≤ w.heap.size) (kind ei a b c d : Int) (f : Bool) (ra : Option Addr) (rn rc : Nat) (sa : Option Addr) (sn sc : Nat) (hk : 1 ≤ kind ∧ kind ≤ 14) (hdo : kind = 14 → DoSpec I) {R : List RuleD} (hR : RulesIn w (.slice ra rn rc) R) (hRn : R.length * 40 ≤ 140737488351232) (hRB : ∀ ad, ra = some ad → 0 < R.length → ad.block < B)
    {S : List Int} (hS : BytesIn w (.slice sa sn sc) S) (hSn : S.length ≤ 140737488351232) (hSB : ∀ ad, sa = some ad → 0 < S.length → ad.block < B) (hne : (ne + 1) * 16 ≤ 140737488355328) (hnt : nt ≤ 5864062014800) (hnb : nb ≤ 5864062014800) (h1 : -9223372036854775808 ≤ ei) (h2 : ei ≤ 9223372036854775807) :
    Calls Tryz.prog 9 #[.pointer (some ⟨bw, 0, none⟩), .agg #[.int .i64 kind, .int .i64 ei, .int .i64 a, .int .i64 b, .int .i64 c, .int .i64 d, .bool f, .slice ra rn rc, .slice sa sn sc]] w fun en w' => en = .returned (.bool true) ∧ (∃ ne' nt' nb', ne' ≤ ne + 1 ∧ nt' ≤ nt + 4 ∧ nb' ≤ nb + 4 ∧ LawRepM I w' B bw ne' nt' nb') ∧ Below B w w' := by
  by_cases hk1 : kind = 1
  · subst hk1
    by_cases ha : a < 1 ∨ 64 < a
    · refine (stepM_new_no h ei a b c d f ra rn rc sa sn sc ha).mono ?_
      rintro en w' ⟨h1, h2, h3⟩
      exact ⟨h1, ⟨ne, nt, nb, by omega, by omega, by omega, h2⟩, h3.mono hB⟩
    · refine (stepM_new_yes h ei a b c d f ra rn rc sa sn sc (by omega) (by omega) hne).mono ?_
      rintro en w' ⟨h1, h2, h3⟩
      exact ⟨h1, ⟨ne + 1, nt, nb, by omega, by omega, by omega, h2⟩, h3⟩
  · by_cases h0 : ne = 0
    · subst h0
      refine (stepM_none h kind ei a b c d f ra rn rc sa sn sc (by rw [beq_eq_false_iff_ne]; exact hk1)).mono ?_
      rintro en w' ⟨h1, h2, h3⟩
      exact ⟨h1, ⟨0, nt, nb, by omega, by omega, by omega, h2⟩, h3.mono hB⟩
    · refine (stepM_eng J K3 h kind ei a b c d f ra rn rc sa sn sc (by omega) hdo hR hRn hRB hS hSn hSB (by omega) (by omega) hnt hnb h1 h2).mono ?_
      rintro en w' ⟨h1, ⟨nt', nb', q1, q2, q3⟩, h3⟩
      exact ⟨h1, ⟨ne, nt', nb', by omega, q1, q2, q3⟩, h3⟩
set_option maxRecDepth 100000 in
set_option maxHeartbeats 4000000 in
theorem playsM_any {I : EngI} (J : EngI2 I) (K3 : EngI3 I) {w : World} (sa : Option Addr) (n cap gk : Nat) (S : Nat → StepD) (hs : 0 < n → ∃ bs off, sa = some ⟨bs, off, none⟩ ∧ bs < w.heap.size ∧ ScriptAt w bs off n S) (hrl : ∀ i, i < n → RulesAt w (S i)) (hbl : ∀ i, i < n → BytesAt w (S i))
    (hgk : gk < w.heap.size) (ks : List Int) (M : Nat) (hM : ks.length = M) (hM1 : M ≤ 1000) (hkr : ∀ kind, inK ks kind M = true → 1 ≤ kind ∧ kind ≤ 14) (hdo : inK ks 14 M = true → DoSpec I) (hks : ∀ j, j < M → w.cell? ⟨gk, j, none⟩ = some (.int .i64 (ks.getD j 0))) (hn : n * 104 ≤ 140737488355328) :
    Calls Tryz.prog 8 #[.slice sa n cap, .slice (some ⟨gk, 0, none⟩) M M] w fun en w' => en = .returned (.bool true) ∧ Below w.heap.size w w' := by
  have HS := hide hs
  have HRL := hide hrl
  have HSL := hide hbl
  have HDO := hide hdo
  have HKR := hide hkr
  clear hrl hbl hdo hkr
  have HK := hide hks
  have HL0 := hide (lawRepM_new I w)
  clear hs hks
  go_enter Tryz.func8, Tryz.ntmps8
  go_wp2
  go_loopw [6] (fun t w' => ∃ i : Nat, i ≤ n ∧ t = .int .i64 i ∧ (∃ ne nt nb, ne ≤ i ∧ nt ≤ 4 * i ∧ nb ≤ 4 * i ∧ LawRepM I w' w.heap.size w.heap.size ne nt nb) ∧ Below w.heap.size w w') (fun t _ => n - (intOf t).toNat)
  case atStart => exact ⟨0, Nat.zero_le _, rfl, ⟨0, 0, 0, Nat.le_refl _, Nat.zero_le _, Nat.zero_le _, unhide HL0⟩, (Below.refl _ _).alloc (Nat.le_refl _) _⟩
  case round =>
    obtain ⟨i, hi, rfl, ⟨ne, nt, nb, hne, hnt, hnb, hlaw⟩, hb⟩ := hrel
    have HLW := hide hlaw
    have HBL := hide hb
    clear hlaw hb
    by_cases hlt : i < n
    · obtain ⟨bs, off, rfl, hbs, hscr⟩ := unhide HS (by omega)
      have hsr := hscr.below (unhide HBL) hbs
      have s0 := hsr.c0 i hlt
      have s1 := hsr.c1 i hlt
      have s2 := hsr.c2 i hlt
      have s3 := hsr.c3 i hlt
      have s4 := hsr.c4 i hlt
      have s5 := hsr.c5 i hlt
      have s6 := hsr.c6 i hlt
      have s7 := hsr.c7 i hlt
      have s8 := hsr.c8 i hlt
      have lo := hsr.lo i hlt
      have hi' := hsr.hi i hlt
      clear hscr hsr
      obtain ⟨R, hR0, hRn, hRB⟩ := unhide HRL i hlt
      have hRw := hR0.below (unhide HBL) hRB
      have HRI0 := hide hRw
      have HRB := hide hRB
      obtain ⟨Sb, hS0, hSn, hSB⟩ := unhide HSL i hlt
      have hSw := hS0.below (unhide HBL) hSB
      have HSI0 := hide hSw
      have HSB := hide hSB
      clear hR0 hRw hRB hS0 hSw hSB
      generalize S i = s at *
      have hkr : Hid (∀ j, j < M → wr.cell? ⟨gk, j, none⟩ = some (.int .i64 (ks.getD j 0))) := fun j hj => ((unhide HBL).cell (p := ⟨gk, j, none⟩) hgk).trans (unhide HK j hj)
      go_wp2
      go_loopw [7, 8] (fun t k w' => ∃ j : Nat, j ≤ M ∧ k = .int .i64 j ∧ t = .bool (inK ks s.kind j) ∧ ∃ m, w' = wr.drewN m) (fun _ k _ => M - (intOf k).toNat)
      case atStart => exact ⟨0, Nat.zero_le _, rfl, by rw [inK_zero], 0, rfl⟩
      case round =>
        obtain ⟨j, hj, rfl, rfl, m, rfl⟩ := hrel
        by_cases hj5 : j < M
        · have ck := unhide hkr j hj5
          have hsu := hide (inK_succ ks s.kind (j := j) (by omega))
          generalize ks.getD j 0 = kj at *
          cases hin : inK ks s.kind j
          all_goals
            have HIN := hide hin
            clear hin
            go_wp2_with fail
            go_quiet (fail)
            go_wp2
            go_roundw
            case rel => exact ⟨j + 1, by omega, by go_num, by rw [unhide hsu, unhide HIN]; simp, m + nq, rfl⟩
            case measure => simp [intOf]; omega
        · obtain rfl : j = M := by omega
          have hlw : LawRepM I (wr.drewN m) w.heap.size w.heap.size ne nt nb := (unhide HLW).still (drewN_heap _ _)
          have hbd : Below w.heap.size w (wr.drewN m) := ⟨(unhide HBL).os, (unhide HBL).tape, (unhide HBL).output, (unhide HBL).size, (unhide HBL).block⟩
          have s0' : (wr.drewN m).cell? ⟨bs, off + i * 9, none⟩ = some (.int .i64 s.kind) := s0
          have s1' : (wr.drewN m).cell? ⟨bs, off + i * 9 + 1, none⟩ = some (.int .i64 s.e) := s1
          have s2' : (wr.drewN m).cell? ⟨bs, off + i * 9 + 2, none⟩ = some (.int .i64 s.a) := s2
          have s3' : (wr.drewN m).cell? ⟨bs, off + i * 9 + 3, none⟩ = some (.int .i64 s.b) := s3
          have s4' : (wr.drewN m).cell? ⟨bs, off + i * 9 + 4, none⟩ = some (.int .i64 s.c) := s4
          have s5' : (wr.drewN m).cell? ⟨bs, off + i * 9 + 5, none⟩ = some (.int .i64 s.d) := s5
          have s6' : (wr.drewN m).cell? ⟨bs, off + i * 9 + 6, none⟩ = some (.bool s.f) := s6
          have s7' : (wr.drewN m).cell? ⟨bs, off + i * 9 + 7, none⟩ = some (.slice s.ra s.rn s.rc) := s7
          have s8' : (wr.drewN m).cell? ⟨bs, off + i * 9 + 8, none⟩ = some (.slice s.sa s.sn s.sc) := s8
          clear s0 s1 s2 s3 s4 s5 s6 s7 s8 HLW HBL hkr
          have HRI : Hid (RulesIn (wr.drewN m) (.slice s.ra s.rn s.rc) R) := (unhide HRI0).still (drewN_heap _ _)
          have HSI : Hid (BytesIn (wr.drewN m) (.slice s.sa s.sn s.sc) Sb) := (unhide HSI0).still (drewN_heap _ _)
          clear HRI0 HSI0
          generalize wr.drewN m = V at *
          have HLW := hide hlw
          have HBL := hide hbd
          clear hlw hbd
          cases hin : inK ks s.kind j with
          | false =>
            clear hin
            go_wp2
            go_roundw
            case rel => exact ⟨i + 1, by omega, by go_num, ⟨ne, nt, nb, by omega, by omega, by omega, unhide HLW⟩, unhide HBL⟩
            case measure => simp [intOf]; omega
          | true =>
            have hkk := unhide HKR _ hin
            have HD1 : Hid (s.kind = 14 → DoSpec I) := fun e => unhide HDO (by rw [← e]; exact hin)
            clear hin
            go_wp2_with fail
            refine (stepM_any J K3 (unhide HLW) (unhide HBL).size _ _ _ _ _ _ _ _ _ _ _ _ _ hkk (unhide HD1) (unhide HRI) hRn (unhide HRB) (unhide HSI) hSn (unhide HSB) (by omega) (by omega) (by omega) (by omega) (by omega)).mono ?_
            rintro en w5 ⟨rfl, ⟨ne', nt', nb', hne', hnt', hnb', hlw5⟩, hbl5⟩
            have hb5 := Below.trans (unhide HBL) hbl5
            have HL5 := hide hlw5
            have HB5 := hide hb5
            clear hlw5 hbl5 hb5
            go_wp2_with (go_at_call 10; refine (looksM_any (unhide HL5) (by omega) (by omega)).mono ?_; rintro en w6 ⟨rfl, hs6⟩; have HL6 := hide ((unhide HL5).still hs6); have HB6 := hide (Below.trans (unhide HB5) (Kept.below hs6 (unhide HB5).size (fun _ _ x => x))); clear hs6)
            go_roundw
            case rel => exact ⟨i + 1, by omega, by go_num, ⟨ne', nt', nb', by omega, by omega, by omega, unhide HL6⟩, unhide HB6⟩
            case measure => simp [intOf]; omega
    · go_wp2
      go_ret
      exact ⟨rfl, unhide HBL⟩
set_option maxRecDepth 100000 in
set_option maxHeartbeats 2000000 in
theorem routesM_any {I : EngI} (J : EngI2 I) (K3 : EngI3 I) {w : World} (sa : Option Addr) (n cap : Nat) (S : Nat → StepD) (hs : 0 < n → ∃ bs off, sa = some ⟨bs, off, none⟩ ∧ bs < w.heap.size ∧ ScriptAt w bs off n S) (hrl : ∀ i, i < n → RulesAt w (S i)) (hbl : ∀ i, i < n → BytesAt w (S i)) (hn : n * 104 ≤ 140737488355328) :
    Calls Tryz.prog 4 #[.slice sa n cap] w fun en w' => en = .returned (.bool true) ∧ Below w.heap.size w w' := by
  have HS := hide hs
  have HRL := hide hrl
  have HSL := hide hbl
  clear hs hrl hbl
  go_enter Tryz.func4, Tryz.ntmps4
  go_wp2_with fail
  have hb : Below w.heap.size w (w.alloc (.cells #[.int .i64 1, .int .i64 2, .int .i64 3, .int .i64 4, .int .i64 5, .int .i64 6, .int .i64 7, .int .i64 8, .int .i64 9, .int .i64 10, .int .i64 11] 3)) := (Below.refl _ _).alloc (Nat.le_refl _) _
  refine (playsM_any J K3 sa n cap w.heap.size S ?_ ?_ ?_ (by simp) [1, 2, 3, 4, 5, 6, 7, 8, 9, 10, 11] 11 rfl (by omega) (fun kind hk => by simp [inK] at hk; omega) (fun hk => by simp [inK] at hk) ?_ hn).mono ?_
  · intro h0
    obtain ⟨bs, off, e1, e2, e3⟩ := unhide HS h0
    exact ⟨bs, off, e1, by simp; omega, e3.below hb e2⟩
  · intro i hi
    obtain ⟨R, q1, q2, q3⟩ := unhide HRL i hi
    exact ⟨R, q1.below hb q3, q2, fun ad h1 h2 => by have := q3 ad h1 h2; simp; omega⟩
  · intro i hi
    obtain ⟨R, q1, q2, q3⟩ := unhide HSL i hi
    exact ⟨R, q1.below hb q3, q2, fun ad h1 h2 => by have := q3 ad h1 h2; simp; omega⟩
  · intro j hj
    rw [World.cell?_alloc_new]
    rcases (by omega : j = 0 ∨ j = 1 ∨ j = 2 ∨ j = 3 ∨ j = 4 ∨ j = 5 ∨ j = 6 ∨ j = 7 ∨ j = 8 ∨ j = 9 ∨ j = 10) with rfl | rfl | rfl | rfl | rfl | rfl | rfl | rfl | rfl | rfl | rfl <;> rfl
  · rintro en w1 ⟨rfl, hb1⟩
    have HB := hide (Below.trans hb (hb1.mono (by simp)))
    clear hb hb1
    go_wp2
    go_ret
    exact ⟨rfl, unhide HB⟩
end Go.Proofs.YtgndledehlilkaaGreat
