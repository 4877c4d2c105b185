/-
  Walks: districtkeep: word, request, routeBytes.
-/
import Derived.Test.YtgndledehlilkabPrX2
import Derived.Deep.RegionHeld3
namespace Go.Proofs.Ytgndledehlilkab
open Go.RowKit

/-- A list grew: what it may have changed, and where it lies. -/
structure Grew (w w' : World) (v u : Value) : Prop where
  kept : Kept (fun k => v.ownBlock = some k) w w'
  at_ : ∀ g, u.ownBlock = some g → v.ownBlock = some g ∨ w.heap.size ≤ g
theorem Grew.trans {w w1 w2 : World} {v u x : Value} (h : Grew w w1 v u) (k : Grew w1 w2 u x) : Grew w w2 v x := by
  have z := h.kept.size
  refine ⟨Kept.trans' h.kept k.kept fun i hi q => ?_, fun g hg => ?_⟩
  · rcases h.at_ i q with q | q
    · exact q
    · omega
  · rcases k.at_ g hg with q | q
    · exact h.at_ g q
    · exact .inr (by omega)
theorem Grew.still {w w1 w2 : World} {v u : Value} (h : Grew w w1 v u) (hs : Still w1 w2) : Grew w w2 v u := ⟨Kept.trans h.kept (Still.kept hs _), h.at_⟩
theorem Grew.before {w w1 w2 : World} {v u : Value} (hs : Still w w1) (h : Grew w1 w2 v u) : Grew w w2 v u := ⟨Kept.trans (Still.kept hs _) h.kept, fun g hg => by
  have z := hs.size
  rcases h.at_ g hg with q | q
  · exact .inl q
  · exact .inr (by omega)⟩
theorem grew_of {w w2 : World} {o : Obj} {v : Value} {g n cap H : Nat} (hg : (w.alloc o).grownBy w2 v.ownBlock) (hat : v.ownBlock = some g ∨ g = H) (hH : w.heap.size ≤ H) : Grew w w2 v (.slice (some ⟨g, 0, none⟩) n cap) :=
  ⟨Kept.grown ((Kept.refl _ _).alloc _) hg (fun y hy => .inl hy), fun y hy => by
    have e : g = y := by simpa [Value.ownBlock] using hy
    subst e
    rcases hat with q | q
    · exact .inl q
    · exact .inr (by omega)⟩
theorem hi_wrap (n : Int) : IntKind.u8.wrap (n / 256) = hiB n := by rw [IntKind.wrap_u8]; rfl
set_option maxHeartbeats 1000000 in
theorem word_W {w : World} {base n : Nat} {v : Value} {F : List Int} (h : w.ownsRow base 5 1 v n (F.map byteC)) (hn : n ≤ 2000) (hb : base ≤ w.heap.size) (x : Int) :
    Calls Try.prog 30 #[v, .int .i64 x] w fun en w' => ∃ u, en = .returned u ∧ w'.ownsRow base 5 1 u (n + 2) ((F ++ [hiB x, loB x]).map byteC) ∧ Grew w w' v u := by
  obtain ⟨i0, hi0, hz0, hz1, hz2⟩ := info_parts infoByteX
  obtain ⟨la, lc, rfl, l1, l2⟩ := ownsRow_slice h
  have hh := hi_wrap x
  have hlo := wrap_lo x
  have HR := hide h
  clear h
  go_enter Try.func30, Try.ntmps30
  go_wp2_with (at_builtin; refine wpList_append_lies _ rfl _ _ _ rfl base 5 i0 _ 1 1 Try.underlying29 hi0 hz0 hz1 hz2 rfl (by omega) (.slice la n lc) (n) _ rfl ((unhide HR).alloc _) ⟨w.heap.size, 0, none⟩ 1 1 [.int .u8 (hiB x)] rfl rfl (World.news_of_block (cs := #[.int .u8 (hiB x)]) (t := 5) (fr := (0, 0)) (heap_alloc_new w _)) (by simp [Value.oneCell']) (by omega) (by unfold maxLen; omega) (by omega) (by simp; omega) (w.heap.size + 1) (by simp) ?_; intro g0 cap0 w1 hown4 hgrow4 hat4 hlt4; refine unhide ?_)
  refine hide ?_
  have hk1 := grew_of (n := n + 1) (cap := cap0) hgrow4 hat4 (by omega)
  have hz := hk1.kept.size
  have HO1 := hide hown4
  have HK1 := hide hk1
  clear hown4 hgrow4 hat4 hlt4 hk1
  go_wp2_with (at_builtin; refine wpList_append_lies _ rfl _ _ _ rfl base 5 i0 _ 1 1 Try.underlying29 hi0 hz0 hz1 hz2 rfl (by omega) (.slice (some ⟨g0, 0, none⟩) (n + 1) cap0) (n + 1) _ rfl ((unhide HO1).alloc _) ⟨w1.heap.size, 0, none⟩ 1 1 [.int .u8 (loB x)] rfl rfl (World.news_of_block (cs := #[.int .u8 (loB x)]) (t := 5) (fr := (0, 0)) (heap_alloc_new w1 _)) (by simp [Value.oneCell']) (by omega) (by unfold maxLen; omega) (by omega) (by simp; omega) (w1.heap.size + 1) (by simp) ?_; intro g1 cap1 w2 hown4 hgrow4 hat4 hlt4; refine unhide ?_)
  refine hide ?_
  have hk2 := grew_of (n := n + 1 + 1) (cap := cap1) hgrow4 hat4 (by omega)
  have HO2 := hide hown4
  have HK2 := hide ((unhide HK1).trans hk2)
  clear hown4 hgrow4 hat4 hlt4 hk2
  go_wp2
  go_ret
  refine ⟨_, rfl, ?_, unhide HK2⟩
  rw [List.map_append]
  have := unhide HO2
  rw [List.append_assoc] at this
  exact this
/-- The number of the request of a kind. -/
def reqF (k : Int) : Int := if k = 0 then 5 else if k = 1 then 6 else if k = 2 then 7 else if k = 3 then 8 else if k = 4 then 11 else if k = 5 then 12 else if k = 6 then 9 else 10
set_option maxHeartbeats 1000000 in
theorem request_W (k : Int) (w : World) (h0 : 0 ≤ k) (h1 : k < 8) : Calls Try.prog 29 #[.int .i64 k] w fun en w' => en = .returned (.int .i64 (reqF k)) ∧ w' = w := by
  unfold reqF
  rcases (by omega : k = 0 ∨ k = 1 ∨ k = 2 ∨ k = 3 ∨ k = 4 ∨ k = 5 ∨ k = 6 ∨ k = 7) with rfl | rfl | rfl | rfl | rfl | rfl | rfl | rfl
  all_goals
    simp only [Int.reduceEq, if_true, if_false]
    go_enter Try.func29, Try.ntmps29
    go_wp2
    go_ret
    exact ⟨rfl, rfl⟩
set_option maxHeartbeats 1000000 in
theorem routeBytes_W {w : World} {base n : Nat} {v : Value} {F : List Int} (h : w.ownsRow base 5 1 v n (F.map byteC)) (hn : n ≤ 2000) (hb : base ≤ w.heap.size) (x : RouteD) :
    Calls Try.prog 39 #[v, .agg #[.int .i64 x.addr, .int .i64 x.len, .int .i64 x.hop, .int .i64 x.from_]] w fun en w' => ∃ u, en = .returned u ∧ w'.ownsRow base 5 1 u (n + 2 + 3) ((F ++ routeB x).map byteC) ∧ Grew w w' v u := by
  obtain ⟨i0, hi0, hz0, hz1, hz2⟩ := info_parts infoByteX
  have h1 := wrap_lo x.len
  have h2 := wrap_lo x.hop
  have h3 := wrap_lo x.from_
  have hS : Still w (w.alloc (.cells #[.int .i64 x.addr, .int .i64 x.len, .int .i64 x.hop, .int .i64 x.from_] 42)) := (Kept.refl _ _).alloc _
  have c0 : (w.alloc (.cells #[.int .i64 x.addr, .int .i64 x.len, .int .i64 x.hop, .int .i64 x.from_] 42)).cell? ⟨w.heap.size, 0, none⟩ = some (.int .i64 x.addr) := by rw [World.cell?_alloc_new]; rfl
  have c1 : (w.alloc (.cells #[.int .i64 x.addr, .int .i64 x.len, .int .i64 x.hop, .int .i64 x.from_] 42)).cell? ⟨w.heap.size, 1, none⟩ = some (.int .i64 x.len) := by rw [World.cell?_alloc_new]; rfl
  have c2 : (w.alloc (.cells #[.int .i64 x.addr, .int .i64 x.len, .int .i64 x.hop, .int .i64 x.from_] 42)).cell? ⟨w.heap.size, 2, none⟩ = some (.int .i64 x.hop) := by rw [World.cell?_alloc_new]; rfl
  have c3 : (w.alloc (.cells #[.int .i64 x.addr, .int .i64 x.len, .int .i64 x.hop, .int .i64 x.from_] 42)).cell? ⟨w.heap.size, 3, none⟩ = some (.int .i64 x.from_) := by rw [World.cell?_alloc_new]; rfl
  have HW := hide (keptRowX h hS)
  have HS := hide hS
  have hsz : w.heap.size < (w.alloc (.cells #[.int .i64 x.addr, .int .i64 x.len, .int .i64 x.hop, .int .i64 x.from_] 42)).heap.size := by simp
  have HH := hide h
  clear h hS
  obtain ⟨la, lc, rfl, _, _⟩ := ownsRow_slice (unhide HH)
  have hns : ∀ g, (Value.slice la n lc).ownBlock = some g → g ≠ w.heap.size := fun g hg => Nat.ne_of_lt (ownsRow_lt (unhide HH) hg)
  have HNS := hide hns
  clear hns
  go_enter Try.func39, Try.ntmps39
  go_wp2_with fail
  generalize hs0 : w.heap.size = s0 at *
  generalize w.alloc (.cells #[.int .i64 x.addr, .int .i64 x.len, .int .i64 x.hop, .int .i64 x.from_] 42) = W at *
  have Hs0 := hide hs0
  clear hs0
  refine (word_W (unhide HW) hn (by omega) _).mono ?_
  rintro en w1 ⟨u, rfl, hru, hgu⟩
  obtain ⟨ua, uc, rfl, _, _⟩ := ownsRow_slice hru
  have hzw := hgu.kept.size
  have hp : ¬ (Value.slice la n lc).ownBlock = some s0 := fun e => unhide HNS s0 e rfl
  have d1 := (hgu.kept.cell (p := ⟨s0, 1, none⟩) hsz hp).trans c1
  have d2 := (hgu.kept.cell (p := ⟨s0, 2, none⟩) hsz hp).trans c2
  have d3 := (hgu.kept.cell (p := ⟨s0, 3, none⟩) hsz hp).trans c3
  have HRU := hide hru
  have HGU := hide (Grew.before (unhide HS) hgu)
  clear hru hgu c0 c1 c2 c3
  go_wp2_with (at_builtin; refine wpList_append_lies _ rfl _ _ _ rfl base 5 i0 _ 1 1 Try.underlying29 hi0 hz0 hz1 hz2 rfl (by omega) (.slice ua (n + 2) uc) (n + 2) _ rfl ((unhide HRU).alloc _) ⟨w1.heap.size, 0, none⟩ 3 3 [.int .u8 (loB x.len), .int .u8 (loB x.hop), .int .u8 (loB x.from_)] rfl rfl (World.news_of_block (cs := #[.int .u8 (loB x.len), .int .u8 (loB x.hop), .int .u8 (loB x.from_)]) (t := 5) (fr := (0, 0)) (heap_alloc_new w1 _)) (by simp [Value.oneCell']) (by omega) (by unfold maxLen; omega) (by omega) (by simp; omega) (w1.heap.size + 1) (by simp) ?_; intro g1 cap1 w2 hown4 hgrow4 hat4 hlt4; refine unhide ?_)
  refine hide ?_
  have hk2 := grew_of (n := n + 2 + 3) (cap := cap1) hgrow4 hat4 (by omega)
  have HO2 := hide hown4
  have HK2 := hide ((unhide HGU).trans hk2)
  clear hown4 hgrow4 hat4 hlt4 hk2
  go_wp2
  go_ret
  refine ⟨_, rfl, ?_, unhide HK2⟩
  unfold routeB
  rw [show F ++ [hiB x.addr, loB x.addr, loB x.len, loB x.hop, loB x.from_] = F ++ [hiB x.addr, loB x.addr] ++ [loB x.len, loB x.hop, loB x.from_] by simp, List.map_append]
  exact unhide HO2
end Go.Proofs.Ytgndledehlilkab
