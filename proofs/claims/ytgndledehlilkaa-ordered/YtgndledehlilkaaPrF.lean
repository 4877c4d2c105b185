/-
  Walks: package routes: All.
-/
import Derived.Test.YtgndledehlilkaaPrE
import Derived.Test.YtgndledehlilkaaAppend
namespace Go.Proofs.Ytgndledehlilkaa
open Go.RowKit

theorem infoRouteX : (Try.prog.info? 34).map (fun i => (i.zero, i.size, i.bytes)) = some (some (.agg #[.int .i64 0, .int .i64 0, .int .i64 0, .int .i64 0]), 4, 32) := by kernel_rfl
def listOf (f : Nat → RouteD) (n : Nat) : List RouteD := (List.range n).map f
theorem listOf_succ (f : Nat → RouteD) (n : Nat) : listOf f (n + 1) = listOf f n ++ [f n] := by simp [listOf, List.range_succ]
theorem listOf_len (f : Nat → RouteD) (n : Nat) : (listOf f n).length = n := by simp [listOf]
theorem listOf_pad (l : List RouteD) : listOf (pad l) l.length = l := by
  apply List.ext_getElem
  · simp [listOf]
  · intro i h1 h2
    simp [listOf, pad, List.getD_eq_getElem?_getD, h2]
set_option maxHeartbeats 2000000 in
theorem all_any {w : World} {b o n : Nat} {f : Nat → RouteD} (h : LAt w b o n f) :
    Calls Try.prog 39 #[.pointer (some ⟨b, o, none⟩)] w fun en w' => ∃ v, en = .returned v ∧ w'.ownsRow w.heap.size 34 4 v n ((listOf f n).flatMap routeCells) ∧ Still w w' := by
  have hm := h.most
  have hb := h.lt
  have HX := hide h
  clear h
  obtain ⟨i0, hi0, hz0, hz1, hz2⟩ := info_parts infoRouteX
  go_enter Try.func39, Try.ntmps39
  go_wp2
  go_loopw [3, 4] (fun s i w' => ∃ k : Nat, k ≤ n ∧ i = .int .i64 k ∧ w'.ownsRow w.heap.size 34 4 s k ((listOf f k).flatMap routeCells) ∧ Still w w') (fun _ i _ => n - (intOf i).toNat)
  case atStart => exact ⟨0, Nat.zero_le _, rfl, World.ownsRow_nil _ _ _ _, Kept.refl _ _⟩
  case round =>
    obtain ⟨k, hk, rfl, hko, hks⟩ := hrel
    obtain ⟨ka, kc, rfl, hk1, hk2⟩ := ownsRow_slice hko
    unfold maxLen at hk2
    have hx := (unhide HX).still hks
    have cn := hx.cnt
    have hbr := hx.lt
    have hzk := hks.size
    have HKO := hide hko
    have HKS := hide hks
    clear hko hks
    by_cases hlt : k < n
    · have x0 := hx.addr k (by omega)
      have x1 := hx.len k (by omega)
      have x2 := hx.hop k (by omega)
      have x3 := hx.frm k (by omega)
      have E := hide (listOf_succ f k)
      clear hx
      generalize f k = x at *
      go_wp2_with (at_builtin; refine wpList_append_lies _ rfl _ _ _ rfl w.heap.size 34 i0 _ 4 32 Try.underlying30 hi0 hz0 hz1 hz2 rfl (by omega) (.slice ka k kc) k _ rfl ((unhide HKO).alloc _) ⟨wr.heap.size, 0, none⟩ 1 1 [.int .i64 x.addr, .int .i64 x.len, .int .i64 x.hop, .int .i64 x.from_] rfl rfl (World.news_of_block (cs := #[.int .i64 x.addr, .int .i64 x.len, .int .i64 x.hop, .int .i64 x.from_]) (t := 34) (fr := (0, 0)) (heap_alloc_new wr _)) (by simp [Value.oneCell']) (by omega) (by unfold maxLen; omega) (by omega) (by simp; omega) (wr.heap.size + 1) (by simp) ?_; intro g4 cap4 w4 hown4 hgrow4 hat4 hlt4)
      have hks4 : Still w w4 := Kept.grown (Kept.alloc (unhide HKS) _) hgrow4 (fun z hz => .inr ((unhide HKO).lt z hz).1)
      go_roundw
      case rel =>
        refine ⟨k + 1, by omega, by go_num, ?_, hks4⟩
        rw [unhide E, flat_snoc]
        exact hown4
      case measure => simp [intOf]; omega
    · obtain rfl : k = n := by omega
      clear hx
      go_wp2
      go_ret
      exact ⟨_, rfl, unhide HKO, unhide HKS⟩
end Go.Proofs.Ytgndledehlilkaa
