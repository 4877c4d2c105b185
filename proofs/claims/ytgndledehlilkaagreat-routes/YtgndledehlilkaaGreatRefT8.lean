/-
  Walks: districtref: sorted.
-/
import Derived.Test.YtgndledehlilkaaGreatPure
import Derived.Test.YtgndledehlilkaaGreatRefT7
import Derived.Deep.Onto
namespace Go.Proofs.YtgndledehlilkaaGreat
open Go.RowKit
attribute [local go_sem ↓] Go.wp_at_zero Go.wp_at_succ
set_option maxRecDepth 100000 in
set_option maxHeartbeats 8000000 in
theorem sorted_any {w : World} {l : List RouteD} {v : Value} (h : w.ownsRow 0 50 4 v l.length (l.flatMap routeCells)) (hll : l.length ≤ 2000000) :
    Calls Tryz.prog 106 #[v] w fun en w' => ∃ v', en = .returned v' ∧ w'.ownsRow w.heap.size 50 4 v' l.length ((sortR l).flatMap routeCells) ∧ Still w w' := by
  obtain ⟨la, lc, rfl, h1, h2⟩ := ownsRow_slice h
  unfold maxLen at h2
  have HO := hide h
  clear h
  obtain ⟨i0, hi0, hz0, hz1, hz2⟩ := info_parts infoRoute
  go_enter Tryz.func106, Tryz.ntmps106
  go_wp2
  go_loopw [3, 4] (fun o i w' => ∃ k : Nat, k ≤ l.length ∧ i = .int .i64 k ∧ w'.ownsRow w.heap.size 50 4 o k ((sortTo l k).flatMap routeCells) ∧ Still w w') (fun _ i _ => l.length - (intOf i).toNat)
  case atStart => exact ⟨0, Nat.zero_le _, rfl, by rw [sortTo_zero]; exact World.ownsRow_nil _ _ _ _, Kept.refl _ _⟩
  case round =>
    rename World => W1
    obtain ⟨i, hi, rfl, hown, hst⟩ := hrel
    obtain ⟨oa, oc, rfl, ho1, ho2⟩ := ownsRow_slice hown
    unfold maxLen at ho2
    have HOW := hide hown
    have HST := hide hst
    have hzz := hst.size
    clear hown hst
    by_cases hlt : i < l.length
    · obtain ⟨gl, rfl, hgl⟩ := ownsRow_some (unhide HO) (by omega)
      have hlw : W1.ownsRow 0 50 4 (.slice (some ⟨gl, 0, none⟩) l.length lc) l.length (l.flatMap routeCells) := ownsRow_of_block (unhide HO) (fun y hy => (unhide HST).heap (by
        have : gl = y := by simpa [Value.ownBlock] using hy
        omega))
      obtain ⟨x0, x1, x2, x3⟩ := routeCell hlw rfl hlt
      have hsu := hide (sortTo_succ l hlt)
      have hsl := sortTo_len l i (by omega)
      have hglr : gl < W1.heap.size := by omega
      have hi0' : (0 : Int) ≤ (i : Int) := by omega
      have hi1' : (i : Int) < (l.length : Int) := by omega
      clear hlw
      generalize l.getD i rt0 = x at *
      generalize sortTo l i = out at *
      have hin := fun k hk => insTo_len x out k hk
      have HIN := hide hin
      clear hin
      go_wp2
      go_loopw [5, 6, 7] (fun m f k w' => ∃ j : Nat, j ≤ i ∧ k = .int .i64 j ∧ f = .bool (insTo x out j).2 ∧ w'.ownsRow W1.heap.size 50 4 m (insTo x out j).1.length ((insTo x out j).1.flatMap routeCells) ∧ Still W1 w') (fun _ _ k _ => i - (intOf k).toNat)
      case atStart => exact ⟨0, Nat.zero_le _, rfl, by rw [insTo_zero], by rw [insTo_zero]; exact World.ownsRow_nil _ _ _ _, Kept.refl _ _⟩
      case round =>
        obtain ⟨j, hj, rfl, rfl, hmo, hms⟩ := hrel
        obtain ⟨ma, mc, rfl, hm1, hm2⟩ := ownsRow_slice hmo
        unfold maxLen at hm2
        have HMO := hide hmo
        have HMS := hide hms
        have hzm := hms.size
        have hlen := unhide HIN j (by omega)
        clear hmo hms
        have x0' := (unhide HMS).cell _ (i * 4) hglr
        have x1' := (unhide HMS).cell _ (i * 4 + 1) hglr
        have x2' := (unhide HMS).cell _ (i * 4 + 2) hglr
        have x3' := (unhide HMS).cell _ (i * 4 + 3) hglr
        rw [x0] at x0'
        rw [x1] at x1'
        rw [x2] at x2'
        rw [x3] at x3'
        by_cases hjl : j < i
        · obtain ⟨go, rfl, hgo⟩ := ownsRow_some (unhide HOW) (by omega)
          have how : wr.ownsRow 0 50 4 (.slice (some ⟨go, 0, none⟩) i oc) i (out.flatMap routeCells) := ownsRow_of_block ((unhide HOW).mono (Nat.zero_le _)) (fun z hz => (unhide HMS).heap (ownsRow_lt (unhide HOW) hz))
          obtain ⟨y0, y1, y2, y3⟩ := routeCell how (by omega) hjl
          have his := hide (insTo_succ x out (k := j) (by omega))
          have hj0' : (0 : Int) ≤ (j : Int) := by omega
          have hj1' : (j : Int) < (i : Int) := by omega
          have hglw : gl < wr.heap.size := by omega
          have hgow : go < wr.heap.size := by omega
          have hln : (insTo x out j).1.length ≤ 2000002 := by
            rw [hlen]
            split <;> omega
          clear how hlen
          generalize out.getD j rt0 = y at *
          generalize insTo x out j = st at *
          generalize hfi : st.2 = fi at *
          have HFI := hide hfi
          clear hfi
          by_cases hyes : lessB x y = true ∧ fi = false
          · obtain ⟨hle, rfl⟩ := hyes
            have HLE := hide hle
            clear hle
            have HI2 := hide (ins_yes (unhide HLE) (unhide HFI))
            go_wp2_with fail
            go_region_held3 (fun w' => w'.cell? ⟨gl, i * 4, none⟩ = some (.int .i64 x.addr) ∧ w'.cell? ⟨gl, i * 4 + 1, none⟩ = some (.int .i64 x.len) ∧ w'.cell? ⟨gl, i * 4 + 2, none⟩ = some (.int .i64 x.hop) ∧ w'.cell? ⟨gl, i * 4 + 3, none⟩ = some (.int .i64 x.from_) ∧ w'.cell? ⟨go, j * 4, none⟩ = some (.int .i64 y.addr) ∧ w'.cell? ⟨go, j * 4 + 1, none⟩ = some (.int .i64 y.len) ∧ w'.cell? ⟨go, j * 4 + 2, none⟩ = some (.int .i64 y.hop) ∧ w'.cell? ⟨go, j * 4 + 3, none⟩ = some (.int .i64 y.from_)) (first | go_keep | (go_split_ands; exact ⟨(hw3.cell _ _ hglw).trans x0', (hw3.cell _ _ hglw).trans x1', (hw3.cell _ _ hglw).trans x2', (hw3.cell _ _ hglw).trans x3', (hw3.cell _ _ hgow).trans y0, (hw3.cell _ _ hgow).trans y1, (hw3.cell _ _ hgow).trans y2, (hw3.cell _ _ hgow).trans y3⟩)) ((go_at_call 127; refine (less_any x y _).mono ?_; rintro e w3 ⟨rfl, hw3⟩; rw [unhide HLE]))
            have hs3 : Still W1 w3 := Kept.trans (Kept.drew (unhide HMS)) hw3
            have hw3' : Still wr w3 := Kept.trans ((Kept.refl _ _).drew) hw3
            have hmo3 : w3.ownsRow W1.heap.size 50 4 (.slice ma st.1.length mc) st.1.length (st.1.flatMap routeCells) := ownsRow_of_block (unhide HMO) (fun z hz => hw3'.heap (ownsRow_lt (unhide HMO) hz))
            have a0 := (hw3'.cell _ _ hglw).trans x0'
            have a1 := (hw3'.cell _ _ hglw).trans x1'
            have a2 := (hw3'.cell _ _ hglw).trans x2'
            have a3 := (hw3'.cell _ _ hglw).trans x3'
            have o0 := (hw3'.cell _ _ hgow).trans y0
            have o1 := (hw3'.cell _ _ hgow).trans y1
            have o2 := (hw3'.cell _ _ hgow).trans y2
            have o3 := (hw3'.cell _ _ hgow).trans y3
            have HS3 := hide hs3
            have HM3 := hide hmo3
            have hz3 := hs3.size
            clear hw3 hw3' hs3 hmo3 x0' x1' x2' x3' y0 y1 y2 y3 HMO HMS
            have hgm : (Value.slice ma st.1.length mc).ownBlock ≠ some go := fun hh => by have := ((unhide HM3).lt go hh).1; omega
            have hgo3 : go < w3.heap.size := by omega
            go_wp2_with (first | (at_builtin; refine wpList_append_lies _ rfl _ _ _ rfl W1.heap.size 50 i0 _ 4 32 Tryz.underlying52 hi0 hz0 hz1 hz2 rfl (by omega) (.slice ma st.1.length mc) st.1.length _ rfl ((unhide HM3).alloc _) ⟨w3.heap.size, 0, none⟩ 1 1 [.int .i64 x.addr, .int .i64 x.len, .int .i64 x.hop, .int .i64 x.from_] rfl rfl (World.news_of_block (cs := #[.int .i64 x.addr, .int .i64 x.len, .int .i64 x.hop, .int .i64 x.from_]) (t := 50) (fr := (0, 0)) (heap_alloc_new w3 _)) (by simp [Value.oneCell']) (by omega) (by unfold maxLen; omega) (by omega) (by simp; omega) (w3.heap.size + 1) (by simp) ?_; intro g4 cap4 w4 hown4 hgrow4 hat4 hlt4; have p0 := (hgrow4.cell_far ⟨go, j * 4, none⟩ (by simp; omega) (Ne.symm hgm)).trans ((World.cell?_alloc_lt _ _ _ hgo3).trans o0); have p1 := (hgrow4.cell_far ⟨go, j * 4 + 1, none⟩ (by simp; omega) (Ne.symm hgm)).trans ((World.cell?_alloc_lt _ _ _ hgo3).trans o1); have p2 := (hgrow4.cell_far ⟨go, j * 4 + 2, none⟩ (by simp; omega) (Ne.symm hgm)).trans ((World.cell?_alloc_lt _ _ _ hgo3).trans o2); have p3 := (hgrow4.cell_far ⟨go, j * 4 + 3, none⟩ (by simp; omega) (Ne.symm hgm)).trans ((World.cell?_alloc_lt _ _ _ hgo3).trans o3); have hz4 := hgrow4.size; simp only [World.size_alloc] at hz4) | (at_builtin; refine wpList_append_lies _ rfl _ _ _ rfl W1.heap.size 50 i0 _ 4 32 Tryz.underlying52 hi0 hz0 hz1 hz2 rfl (by omega) (.slice (some ⟨g4, 0, none⟩) (st.1.length + 1) cap4) (st.1.length + 1) _ rfl (hown4.alloc _) ⟨w4.heap.size, 0, none⟩ 1 1 [.int .i64 y.addr, .int .i64 y.len, .int .i64 y.hop, .int .i64 y.from_] rfl rfl (World.news_of_block (cs := #[.int .i64 y.addr, .int .i64 y.len, .int .i64 y.hop, .int .i64 y.from_]) (t := 50) (fr := (0, 0)) (heap_alloc_new w4 _)) (by simp [Value.oneCell']) (by omega) (by unfold maxLen; omega) (by omega) (by simp; omega) (w4.heap.size + 1) (by simp) ?_; intro g5 cap5 w5 hown5 hgrow5 hat5 hlt5))
            have hks4 : Still W1 w4 := Kept.grown (Kept.alloc (unhide HS3) _) hgrow4 (fun z hz => .inr ((unhide HM3).lt z hz).1)
            have hks5 : Still W1 w5 := Kept.grown (Kept.alloc hks4 _) hgrow5 (fun z hz => .inr (hown4.lt z hz).1)
            go_roundw
            case rel =>
              refine ⟨j + 1, by omega, by go_num, by rw [unhide his, unhide HI2], ?_, hks5⟩
              rw [unhide his, unhide HI2]
              show w5.ownsRow _ _ _ _ (st.1 ++ [x] ++ [y]).length ((st.1 ++ [x] ++ [y]).flatMap routeCells)
              rw [flat_snoc2, List.length_append, List.length_append]
              exact hown5
            case measure => simp [intOf]; omega
          · have hno : lessB x y = false ∨ st.2 = true := by
              cases hh : lessB x y
              · exact .inl rfl
              · right
                rw [unhide HFI]
                cases fi
                · exact absurd ⟨hh, rfl⟩ hyes
                · rfl
            have HI2 := hide (ins_no (x := x) (y := y) (st := st) hno)
            clear hno
            cases hle : lessB x y
            all_goals cases fi
            case true.false => exact absurd ⟨hle, rfl⟩ hyes
            all_goals
              have HLE := hide hle
              clear hle hyes
              go_wp2_with fail
              go_region_held3 (fun w' => w'.cell? ⟨gl, i * 4, none⟩ = some (.int .i64 x.addr) ∧ w'.cell? ⟨gl, i * 4 + 1, none⟩ = some (.int .i64 x.len) ∧ w'.cell? ⟨gl, i * 4 + 2, none⟩ = some (.int .i64 x.hop) ∧ w'.cell? ⟨gl, i * 4 + 3, none⟩ = some (.int .i64 x.from_) ∧ w'.cell? ⟨go, j * 4, none⟩ = some (.int .i64 y.addr) ∧ w'.cell? ⟨go, j * 4 + 1, none⟩ = some (.int .i64 y.len) ∧ w'.cell? ⟨go, j * 4 + 2, none⟩ = some (.int .i64 y.hop) ∧ w'.cell? ⟨go, j * 4 + 3, none⟩ = some (.int .i64 y.from_)) (first | go_keep | (go_split_ands; exact ⟨(hw3.cell _ _ hglw).trans x0', (hw3.cell _ _ hglw).trans x1', (hw3.cell _ _ hglw).trans x2', (hw3.cell _ _ hglw).trans x3', (hw3.cell _ _ hgow).trans y0, (hw3.cell _ _ hgow).trans y1, (hw3.cell _ _ hgow).trans y2, (hw3.cell _ _ hgow).trans y3⟩)) ((go_at_call 127; refine (less_any x y _).mono ?_; rintro e w3 ⟨rfl, hw3⟩; rw [unhide HLE]))
              have hs3 : Still W1 w3 := Kept.trans (Kept.drew (unhide HMS)) hw3
              have hw3' : Still wr w3 := Kept.trans ((Kept.refl _ _).drew) hw3
              have hmo3 : w3.ownsRow W1.heap.size 50 4 (.slice ma st.1.length mc) st.1.length (st.1.flatMap routeCells) := ownsRow_of_block (unhide HMO) (fun z hz => hw3'.heap (ownsRow_lt (unhide HMO) hz))
              have a0 := (hw3'.cell _ _ hglw).trans x0'
              have a1 := (hw3'.cell _ _ hglw).trans x1'
              have a2 := (hw3'.cell _ _ hglw).trans x2'
              have a3 := (hw3'.cell _ _ hglw).trans x3'
              have o0 := (hw3'.cell _ _ hgow).trans y0
              have o1 := (hw3'.cell _ _ hgow).trans y1
              have o2 := (hw3'.cell _ _ hgow).trans y2
              have o3 := (hw3'.cell _ _ hgow).trans y3
              have HS3 := hide hs3
              have HM3 := hide hmo3
              have hz3 := hs3.size
              clear hw3 hw3' hs3 hmo3 x0' x1' x2' x3' y0 y1 y2 y3 HMO HMS
              have hgm : (Value.slice ma st.1.length mc).ownBlock ≠ some go := fun hh => by have := ((unhide HM3).lt go hh).1; omega
              have hgo3 : go < w3.heap.size := by omega
              go_wp2_with (at_builtin; refine wpList_append_lies _ rfl _ _ _ rfl W1.heap.size 50 i0 _ 4 32 Tryz.underlying52 hi0 hz0 hz1 hz2 rfl (by omega) (.slice ma st.1.length mc) st.1.length _ rfl ((unhide HM3).alloc _) ⟨w3.heap.size, 0, none⟩ 1 1 [.int .i64 y.addr, .int .i64 y.len, .int .i64 y.hop, .int .i64 y.from_] rfl rfl (World.news_of_block (cs := #[.int .i64 y.addr, .int .i64 y.len, .int .i64 y.hop, .int .i64 y.from_]) (t := 50) (fr := (0, 0)) (heap_alloc_new w3 _)) (by simp [Value.oneCell']) (by omega) (by unfold maxLen; omega) (by omega) (by simp; omega) (w3.heap.size + 1) (by simp) ?_; intro g4 cap4 w4 hown4 hgrow4 hat4 hlt4)
              have hks4 : Still W1 w4 := Kept.grown (Kept.alloc (unhide HS3) _) hgrow4 (fun z hz => .inr ((unhide HM3).lt z hz).1)
              go_roundw
              case rel =>
                refine ⟨j + 1, by omega, by go_num, by rw [unhide his, unhide HI2]; exact congrArg Value.bool (unhide HFI).symm, ?_, hks4⟩
                rw [unhide his, unhide HI2]
                show w4.ownsRow _ _ _ _ (st.1 ++ [y]).length ((st.1 ++ [y]).flatMap routeCells)
                rw [flat_snoc, List.length_append]
                exact hown4
              case measure => simp [intOf]; omega
        · obtain rfl : j = i := by omega
          have hef : Hid (insF x out = if (insTo x out j).2 = true then (insTo x out j).1 else (insTo x out j).1 ++ [x]) := by
            show insF x out = _
            unfold insF
            rw [hsl]
          have hln : (insTo x out j).1.length ≤ 2000002 := by
            rw [hlen]
            split <;> omega
          have HLN := hide hlen
          clear hlen
          generalize insTo x out j = st at *
          generalize hfi : st.2 = fi at *
          have HFI := hide hfi
          clear hfi
          cases fi with
          | true =>
            have e1 : st.1.length = j + 1 := unhide HLN
            have E1 := hide e1
            clear e1
            go_wp2
            go_roundw
            case rel =>
              refine ⟨j + 1, by omega, by go_num, ?_, Kept.trans (unhide HST) (unhide HMS)⟩
              rw [unhide hsu, unhide hef, if_pos rfl]
              have hq := (unhide HMO).mono hzz
              rw [unhide E1] at hq
              rw [unhide E1]
              exact hq
            case measure => simp [intOf]; omega
          | false =>
            have e1 : st.1.length = j := unhide HLN
            have E1 := hide e1
            clear e1
            have hglw : gl < wr.heap.size := by omega
            go_wp2_with (at_builtin; refine wpList_append_lies _ rfl _ _ _ rfl W1.heap.size 50 i0 _ 4 32 Tryz.underlying52 hi0 hz0 hz1 hz2 rfl (by omega) (.slice ma st.1.length mc) st.1.length _ rfl ((unhide HMO).alloc _) ⟨wr.heap.size, 0, none⟩ 1 1 [.int .i64 x.addr, .int .i64 x.len, .int .i64 x.hop, .int .i64 x.from_] rfl rfl (World.news_of_block (cs := #[.int .i64 x.addr, .int .i64 x.len, .int .i64 x.hop, .int .i64 x.from_]) (t := 50) (fr := (0, 0)) (heap_alloc_new wr _)) (by simp [Value.oneCell']) (by omega) (by unfold maxLen; omega) (by omega) (by simp; omega) (wr.heap.size + 1) (by simp) ?_; intro g4 cap4 w4 hown4 hgrow4 hat4 hlt4)
            have hks4 : Still W1 w4 := Kept.grown (Kept.alloc (unhide HMS) _) hgrow4 (fun z hz => .inr ((unhide HMO).lt z hz).1)
            go_roundw
            case rel =>
              refine ⟨j + 1, by omega, by go_num, ?_, Kept.trans (unhide HST) hks4⟩
              rw [unhide hsu, unhide hef, if_neg (by simp), flat_snoc]
              have hq := hown4.mono hzz
              rw [unhide E1] at hq
              rw [unhide E1]
              exact hq
            case measure => simp [intOf]; omega
    · obtain rfl : i = l.length := by omega
      go_wp2
      go_ret
      exact ⟨_, rfl, unhide HOW, unhide HST⟩
end Go.Proofs.YtgndledehlilkaaGreat
