/-
  Walks: districtkeep: answered: what a step answered, as bytes.
-/
import Derived.Test.YtgndledehlilkabWirB3
namespace Go.Proofs.Ytgndledehlilkab
open Go.RowKit

theorem ToldAt.make2 (w : World) (td : ToldD) (a : Option Addr) (n c : Nat) (ty : TypeId) : ToldAt (w.alloc (.cells #[.int .i64 td.e, .slice a n c, .int .i64 td.s.own, .int .i64 td.s.taken, .int .i64 td.s.dropped, .int .i64 td.s.quota, .int .i64 td.r.addr, .int .i64 td.r.len, .int .i64 td.r.hop, .int .i64 td.r.from_, .bool td.b] ty)) w.heap.size td (.slice a n c) := by
  refine ⟨by simp, fun j => World.frozen?_alloc_new _ _ _ _, ?_, ?_, ?_, ?_, ?_, ?_, ?_, ?_, ?_, ?_, ?_⟩ <;> rw [World.cell?_alloc_new] <;> rfl
theorem ToldAt.grew {w w' : World} {s base n sz : Nat} {t : TypeId} {v u lv : Value} {xs : List Value} {td : ToldD} (h : ToldAt w s td lv) (hr : w.ownsRow base t sz v n xs) (hb : s < base) (hg : Grew w w' v u) : ToldAt w' s td lv :=
  h.kept hg.kept fun q => by have := (hr.lt s q).1; omega
/-- What a step answered, as bytes. -/
def ansT (o : OpD) (td : ToldD) : List Int := ansB td.e (if pickF o.kind 8 = 4 then loB td.l.length :: td.l.flatMap routeB else if pickF o.kind 8 = 5 then sumsB td.s else if pickF o.kind 8 = 6 then routeB td.r else if pickF o.kind 8 = 7 then [boolB td.b] else [])
set_option maxRecDepth 100000 in
set_option maxHeartbeats 4000000 in
theorem answered_no {w : World} {base : Nat} (o : OpD) (_ho : OpOk o) (td : ToldD) {a : Option Addr} {c : Nat} (_h : w.ownsRow base 42 4 (.slice a td.l.length c) td.l.length (td.l.flatMap routeCells)) (_hl : td.l.length ≤ 64) (he : td.e ≠ 0) :
    Calls Try.prog 12 #[.agg #[.int .i64 o.kind, .int .i64 o.who, .int .i64 o.a, .int .i64 o.b, .int .i64 o.c, .int .i64 o.d], .agg #[.int .i64 td.e, .slice a td.l.length c, .int .i64 td.s.own, .int .i64 td.s.taken, .int .i64 td.s.dropped, .int .i64 td.s.quota, .int .i64 td.r.addr, .int .i64 td.r.len, .int .i64 td.r.hop, .int .i64 td.r.from_, .bool td.b]] w fun en w' => ∃ v, en = .returned v ∧ w'.ownsRow w.heap.size 5 1 v (ansT o td).length ((ansT o td).map byteC) ∧ Still w w' := by
  have eA : ansT o td = [loB td.e] := by
    unfold ansT ansB
    rw [if_neg he]
  rw [eA]
  have hwe := wrap_lo td.e
  have hne : (td.e == 0) = false := by rw [beq_eq_false_iff_ne]; exact he
  have hr1 := bytesNew ((w.alloc (.cells #[.int .i64 o.kind, .int .i64 o.who, .int .i64 o.a, .int .i64 o.b, .int .i64 o.c, .int .i64 o.d] 34)).alloc (.cells #[.int .i64 td.e, .slice a td.l.length c, .int .i64 td.s.own, .int .i64 td.s.taken, .int .i64 td.s.dropped, .int .i64 td.s.quota, .int .i64 td.r.addr, .int .i64 td.r.len, .int .i64 td.r.hop, .int .i64 td.r.from_, .bool td.b] 44)) [loB td.e] (base := w.heap.size) (by simp; omega) (by simp)
  rw [World.size_alloc, World.size_alloc] at hr1
  have HR1 := hide hr1
  have HS1 : Hid (Still w (((w.alloc (.cells #[.int .i64 o.kind, .int .i64 o.who, .int .i64 o.a, .int .i64 o.b, .int .i64 o.c, .int .i64 o.d] 34)).alloc (.cells #[.int .i64 td.e, .slice a td.l.length c, .int .i64 td.s.own, .int .i64 td.s.taken, .int .i64 td.s.dropped, .int .i64 td.s.quota, .int .i64 td.r.addr, .int .i64 td.r.len, .int .i64 td.r.hop, .int .i64 td.r.from_, .bool td.b] 44)).alloc (.cells ([loB td.e].map byteC).toArray 5))) := (((Kept.refl _ _).alloc _).alloc _).alloc _
  clear eA he hr1
  go_enter Try.func12, Try.ntmps12
  go_wp2
  go_ret
  exact ⟨_, rfl, unhide HR1, unhide HS1⟩
set_option maxRecDepth 100000 in
set_option maxHeartbeats 4000000 in
theorem answered_bare {w : World} {base : Nat} (o : OpD) (ho : OpOk o) (td : ToldD) {a : Option Addr} {c : Nat} (h : w.ownsRow base 42 4 (.slice a td.l.length c) td.l.length (td.l.flatMap routeCells)) (_hl : td.l.length ≤ 64) (he : td.e = 0) (hk : pickF o.kind 8 < 4) :
    Calls Try.prog 12 #[.agg #[.int .i64 o.kind, .int .i64 o.who, .int .i64 o.a, .int .i64 o.b, .int .i64 o.c, .int .i64 o.d], .agg #[.int .i64 td.e, .slice a td.l.length c, .int .i64 td.s.own, .int .i64 td.s.taken, .int .i64 td.s.dropped, .int .i64 td.s.quota, .int .i64 td.r.addr, .int .i64 td.r.len, .int .i64 td.r.hop, .int .i64 td.r.from_, .bool td.b]] w fun en w' => ∃ v, en = .returned v ∧ w'.ownsRow w.heap.size 5 1 v (ansT o td).length ((ansT o td).map byteC) ∧ Still w w' := by
  have hp := pickF_range o.kind (n := 8) (by omega)
  have eA : ansT o td = [loB td.e] := by
    unfold ansT ansB
    rw [if_pos he, if_neg (by omega), if_neg (by omega), if_neg (by omega), if_neg (by omega), he]
    rfl
  rw [eA]
  have n4 : (pickF o.kind 8 == 4) = false := by rw [beq_eq_false_iff_ne]; omega
  have n5 : (pickF o.kind 8 == 5) = false := by rw [beq_eq_false_iff_ne]; omega
  have n6 : (pickF o.kind 8 == 6) = false := by rw [beq_eq_false_iff_ne]; omega
  have n7 : (pickF o.kind 8 == 7) = false := by rw [beq_eq_false_iff_ne]; omega
  clear eA hp hk
  obtain ⟨i0, hi0, hz0, hz1, hz2⟩ := info_parts infoByteX
  have hwe := wrap_lo td.e
  have hq : (td.e == 0) = true := by rw [he]; rfl
  clear he
  have hr1 := bytesNew ((w.alloc (.cells #[.int .i64 o.kind, .int .i64 o.who, .int .i64 o.a, .int .i64 o.b, .int .i64 o.c, .int .i64 o.d] 34)).alloc (.cells #[.int .i64 td.e, .slice a td.l.length c, .int .i64 td.s.own, .int .i64 td.s.taken, .int .i64 td.s.dropped, .int .i64 td.s.quota, .int .i64 td.r.addr, .int .i64 td.r.len, .int .i64 td.r.hop, .int .i64 td.r.from_, .bool td.b] 44)) [loB td.e] (base := w.heap.size + 2) (by simp) (by simp)
  rw [World.size_alloc, World.size_alloc] at hr1
  have HR1 : Hid ((((w.alloc (.cells #[.int .i64 o.kind, .int .i64 o.who, .int .i64 o.a, .int .i64 o.b, .int .i64 o.c, .int .i64 o.d] 34)).alloc (.cells #[.int .i64 td.e, .slice a td.l.length c, .int .i64 td.s.own, .int .i64 td.s.taken, .int .i64 td.s.dropped, .int .i64 td.s.quota, .int .i64 td.r.addr, .int .i64 td.r.len, .int .i64 td.r.hop, .int .i64 td.r.from_, .bool td.b] 44)).alloc (.cells #[.int .u8 (loB td.e)] 5)).ownsRow (w.heap.size + 2) 5 1 (.slice (some ⟨w.heap.size + 1 + 1, 0, none⟩) 1 1) 1 ([loB td.e].map byteC)) := hr1
  have HS1 : Hid (Still w (((w.alloc (.cells #[.int .i64 o.kind, .int .i64 o.who, .int .i64 o.a, .int .i64 o.b, .int .i64 o.c, .int .i64 o.d] 34)).alloc (.cells #[.int .i64 td.e, .slice a td.l.length c, .int .i64 td.s.own, .int .i64 td.s.taken, .int .i64 td.s.dropped, .int .i64 td.s.quota, .int .i64 td.r.addr, .int .i64 td.r.len, .int .i64 td.r.hop, .int .i64 td.r.from_, .bool td.b] 44)).alloc (.cells #[.int .u8 (loB td.e)] 5))) := (((Kept.refl _ _).alloc _).alloc _).alloc _
  have hb0 : BoxO (((w.alloc (.cells #[.int .i64 o.kind, .int .i64 o.who, .int .i64 o.a, .int .i64 o.b, .int .i64 o.c, .int .i64 o.d] 34)).alloc (.cells #[.int .i64 td.e, .slice a td.l.length c, .int .i64 td.s.own, .int .i64 td.s.taken, .int .i64 td.s.dropped, .int .i64 td.s.quota, .int .i64 td.r.addr, .int .i64 td.r.len, .int .i64 td.r.hop, .int .i64 td.r.from_, .bool td.b] 44)).alloc (.cells #[.int .u8 (loB td.e)] 5)) w.heap.size o := (BoxO.new w o 34).kept (((Kept.refl (fun _ => False) _).alloc _).alloc _) (fun q => q)
  have ht0 := (ToldAt.make2 (w.alloc (.cells #[.int .i64 o.kind, .int .i64 o.who, .int .i64 o.a, .int .i64 o.b, .int .i64 o.c, .int .i64 o.d] 34)) td a td.l.length c 44).kept ((Kept.refl (fun _ => False) _).alloc (.cells #[.int .u8 (loB td.e)] 5)) (fun q => q)
  rw [World.size_alloc] at ht0
  have HH := hide h
  have HB0 := hide hb0
  have HT0 := hide ht0
  have HPK := hide (fun w => pickK o.kind 8 w (by omega) ho.k0 ho.k1)
  clear hb0 ht0 hr1 h ho
  go_enter Try.func12, Try.ntmps12
  go_wp2_with fail
  refine (unhide HPK _).mono ?_
  rintro en w' ⟨rfl, hw⟩
  replace hw := hw.symm
  subst hw
  have hzW : (((w.alloc (.cells #[.int .i64 o.kind, .int .i64 o.who, .int .i64 o.a, .int .i64 o.b, .int .i64 o.c, .int .i64 o.d] 34)).alloc (.cells #[.int .i64 td.e, .slice a td.l.length c, .int .i64 td.s.own, .int .i64 td.s.taken, .int .i64 td.s.dropped, .int .i64 td.s.quota, .int .i64 td.r.addr, .int .i64 td.r.len, .int .i64 td.r.hop, .int .i64 td.r.from_, .bool td.b] 44)).alloc (.cells #[.int .u8 (loB td.e)] 5)).heap.size = w.heap.size + 3 := by simp
  generalize ((w.alloc (.cells #[.int .i64 o.kind, .int .i64 o.who, .int .i64 o.a, .int .i64 o.b, .int .i64 o.c, .int .i64 o.d] 34)).alloc (.cells #[.int .i64 td.e, .slice a td.l.length c, .int .i64 td.s.own, .int .i64 td.s.taken, .int .i64 td.s.dropped, .int .i64 td.s.quota, .int .i64 td.r.addr, .int .i64 td.r.len, .int .i64 td.r.hop, .int .i64 td.r.from_, .bool td.b] 44)).alloc (.cells #[.int .u8 (loB td.e)] 5) = V at *
  generalize hs0 : w.heap.size = s0 at *
  have Hs0 := hide hs0
  have HZ := hide hzW
  clear hs0 hzW
  go_wp2
  go_ret
  exact ⟨_, rfl, ownsRow_base (unhide HR1) (by have := unhide Hs0; omega), unhide HS1⟩
set_option maxRecDepth 100000 in
set_option maxHeartbeats 4000000 in
theorem answered_7 {w : World} {base : Nat} (o : OpD) (ho : OpOk o) (td : ToldD) {a : Option Addr} {c : Nat} (h : w.ownsRow base 42 4 (.slice a td.l.length c) td.l.length (td.l.flatMap routeCells)) (_hl : td.l.length ≤ 64) (he : td.e = 0) (hk : pickF o.kind 8 = 7) :
    Calls Try.prog 12 #[.agg #[.int .i64 o.kind, .int .i64 o.who, .int .i64 o.a, .int .i64 o.b, .int .i64 o.c, .int .i64 o.d], .agg #[.int .i64 td.e, .slice a td.l.length c, .int .i64 td.s.own, .int .i64 td.s.taken, .int .i64 td.s.dropped, .int .i64 td.s.quota, .int .i64 td.r.addr, .int .i64 td.r.len, .int .i64 td.r.hop, .int .i64 td.r.from_, .bool td.b]] w fun en w' => ∃ v, en = .returned v ∧ w'.ownsRow w.heap.size 5 1 v (ansT o td).length ((ansT o td).map byteC) ∧ Still w w' := by
  have eA : ansT o td = [loB td.e] ++ [boolB td.b] := by
    unfold ansT ansB
    rw [if_pos he, hk, he]
    rfl
  rw [eA]
  have nk : (pickF o.kind 8 == 7) = true := by rw [hk]; rfl
  have n4 : (pickF o.kind 8 == 4) = false := by rw [hk]; rfl
  have n5 : (pickF o.kind 8 == 5) = false := by rw [hk]; rfl
  have n6 : (pickF o.kind 8 == 6) = false := by rw [hk]; rfl
  clear eA hk
  obtain ⟨i0, hi0, hz0, hz1, hz2⟩ := info_parts infoByteX
  have hwe := wrap_lo td.e
  have hq : (td.e == 0) = true := by rw [he]; rfl
  clear he
  have hr1 := bytesNew ((w.alloc (.cells #[.int .i64 o.kind, .int .i64 o.who, .int .i64 o.a, .int .i64 o.b, .int .i64 o.c, .int .i64 o.d] 34)).alloc (.cells #[.int .i64 td.e, .slice a td.l.length c, .int .i64 td.s.own, .int .i64 td.s.taken, .int .i64 td.s.dropped, .int .i64 td.s.quota, .int .i64 td.r.addr, .int .i64 td.r.len, .int .i64 td.r.hop, .int .i64 td.r.from_, .bool td.b] 44)) [loB td.e] (base := w.heap.size + 2) (by simp) (by simp)
  rw [World.size_alloc, World.size_alloc] at hr1
  have HR1 : Hid ((((w.alloc (.cells #[.int .i64 o.kind, .int .i64 o.who, .int .i64 o.a, .int .i64 o.b, .int .i64 o.c, .int .i64 o.d] 34)).alloc (.cells #[.int .i64 td.e, .slice a td.l.length c, .int .i64 td.s.own, .int .i64 td.s.taken, .int .i64 td.s.dropped, .int .i64 td.s.quota, .int .i64 td.r.addr, .int .i64 td.r.len, .int .i64 td.r.hop, .int .i64 td.r.from_, .bool td.b] 44)).alloc (.cells #[.int .u8 (loB td.e)] 5)).ownsRow (w.heap.size + 2) 5 1 (.slice (some ⟨w.heap.size + 1 + 1, 0, none⟩) 1 1) 1 ([loB td.e].map byteC)) := hr1
  have HS1 : Hid (Still w (((w.alloc (.cells #[.int .i64 o.kind, .int .i64 o.who, .int .i64 o.a, .int .i64 o.b, .int .i64 o.c, .int .i64 o.d] 34)).alloc (.cells #[.int .i64 td.e, .slice a td.l.length c, .int .i64 td.s.own, .int .i64 td.s.taken, .int .i64 td.s.dropped, .int .i64 td.s.quota, .int .i64 td.r.addr, .int .i64 td.r.len, .int .i64 td.r.hop, .int .i64 td.r.from_, .bool td.b] 44)).alloc (.cells #[.int .u8 (loB td.e)] 5))) := (((Kept.refl _ _).alloc _).alloc _).alloc _
  have hb0 : BoxO (((w.alloc (.cells #[.int .i64 o.kind, .int .i64 o.who, .int .i64 o.a, .int .i64 o.b, .int .i64 o.c, .int .i64 o.d] 34)).alloc (.cells #[.int .i64 td.e, .slice a td.l.length c, .int .i64 td.s.own, .int .i64 td.s.taken, .int .i64 td.s.dropped, .int .i64 td.s.quota, .int .i64 td.r.addr, .int .i64 td.r.len, .int .i64 td.r.hop, .int .i64 td.r.from_, .bool td.b] 44)).alloc (.cells #[.int .u8 (loB td.e)] 5)) w.heap.size o := (BoxO.new w o 34).kept (((Kept.refl (fun _ => False) _).alloc _).alloc _) (fun q => q)
  have ht0 := (ToldAt.make2 (w.alloc (.cells #[.int .i64 o.kind, .int .i64 o.who, .int .i64 o.a, .int .i64 o.b, .int .i64 o.c, .int .i64 o.d] 34)) td a td.l.length c 44).kept ((Kept.refl (fun _ => False) _).alloc (.cells #[.int .u8 (loB td.e)] 5)) (fun q => q)
  rw [World.size_alloc] at ht0
  have HH := hide h
  have HB0 := hide hb0
  have HT0 := hide ht0
  have HPK := hide (fun w => pickK o.kind 8 w (by omega) ho.k0 ho.k1)
  clear hb0 ht0 hr1 h ho
  go_enter Try.func12, Try.ntmps12
  go_wp2_with fail
  refine (unhide HPK _).mono ?_
  rintro en w' ⟨rfl, hw⟩
  replace hw := hw.symm
  subst hw
  have hzW : (((w.alloc (.cells #[.int .i64 o.kind, .int .i64 o.who, .int .i64 o.a, .int .i64 o.b, .int .i64 o.c, .int .i64 o.d] 34)).alloc (.cells #[.int .i64 td.e, .slice a td.l.length c, .int .i64 td.s.own, .int .i64 td.s.taken, .int .i64 td.s.dropped, .int .i64 td.s.quota, .int .i64 td.r.addr, .int .i64 td.r.len, .int .i64 td.r.hop, .int .i64 td.r.from_, .bool td.b] 44)).alloc (.cells #[.int .u8 (loB td.e)] 5)).heap.size = w.heap.size + 3 := by simp
  generalize ((w.alloc (.cells #[.int .i64 o.kind, .int .i64 o.who, .int .i64 o.a, .int .i64 o.b, .int .i64 o.c, .int .i64 o.d] 34)).alloc (.cells #[.int .i64 td.e, .slice a td.l.length c, .int .i64 td.s.own, .int .i64 td.s.taken, .int .i64 td.s.dropped, .int .i64 td.s.quota, .int .i64 td.r.addr, .int .i64 td.r.len, .int .i64 td.r.hop, .int .i64 td.r.from_, .bool td.b] 44)).alloc (.cells #[.int .u8 (loB td.e)] 5) = V at *
  generalize hs0 : w.heap.size = s0 at *
  have Hs0 := hide hs0
  have HZ := hide hzW
  clear hs0 hzW
  have t10 := (unhide HT0).c10
  have hzv : s0 + 3 ≤ V.heap.size := by have := unhide HZ; omega
  cases hb : td.b
  · rw [hb] at t10
    have HBB := hide hb
    clear hb
    go_wp2_with (at_builtin; refine wpList_append_lies _ rfl _ _ _ rfl (s0 + 2) 5 i0 _ 1 1 Try.underlying29 hi0 hz0 hz1 hz2 rfl (by omega) (.slice (some ⟨s0 + 1 + 1, 0, none⟩) 1 1) (1) _ rfl ((unhide HR1).alloc _) ⟨V.heap.size, 0, none⟩ 1 1 [.int .u8 (0)] rfl rfl (World.news_of_block (cs := #[.int .u8 (0)]) (t := 5) (fr := (0, 0)) (heap_alloc_new V _)) (by simp [Value.oneCell']) (by omega) (by unfold maxLen; omega) (by omega) (by simp; omega) (V.heap.size + 1) (by simp) ?_; intro g3 cap3 w3 hown4 hgrow4 hat4 hlt4; refine unhide ?_)
    refine hide ?_
    have hk3 := grew_of (n := 1 + 1) (cap := cap3) hgrow4 hat4 (by omega)
    have hs3 := grew_still (unhide HS1) (unhide HR1) (by have := unhide Hs0; omega) hk3
    have HR3 : Hid (w3.ownsRow (s0 + 2) 5 1 (.slice (some ⟨g3, 0, none⟩) (1 + 1) cap3) (1 + 1) (([loB td.e] ++ [boolB false]).map byteC)) := by
      have := hown4
      refine hide ?_
      rw [List.map_append]
      exact this
    have HS3 := hide hs3
    clear hown4 hgrow4 hat4 hlt4 hk3 hs3
    go_wp2
    go_ret
    exact ⟨_, rfl, by rw [unhide HBB]; exact ownsRow_base (unhide HR3) (by have := unhide Hs0; omega), unhide HS3⟩
  · rw [hb] at t10
    have HBB := hide hb
    clear hb
    go_wp2_with (at_builtin; refine wpList_append_lies _ rfl _ _ _ rfl (s0 + 2) 5 i0 _ 1 1 Try.underlying29 hi0 hz0 hz1 hz2 rfl (by omega) (.slice (some ⟨s0 + 1 + 1, 0, none⟩) 1 1) (1) _ rfl ((unhide HR1).alloc _) ⟨V.heap.size, 0, none⟩ 1 1 [.int .u8 (1)] rfl rfl (World.news_of_block (cs := #[.int .u8 (1)]) (t := 5) (fr := (0, 0)) (heap_alloc_new V _)) (by simp [Value.oneCell']) (by omega) (by unfold maxLen; omega) (by omega) (by simp; omega) (V.heap.size + 1) (by simp) ?_; intro g3 cap3 w3 hown4 hgrow4 hat4 hlt4; refine unhide ?_)
    refine hide ?_
    have hk3 := grew_of (n := 1 + 1) (cap := cap3) hgrow4 hat4 (by omega)
    have hs3 := grew_still (unhide HS1) (unhide HR1) (by have := unhide Hs0; omega) hk3
    have HR3 : Hid (w3.ownsRow (s0 + 2) 5 1 (.slice (some ⟨g3, 0, none⟩) (1 + 1) cap3) (1 + 1) (([loB td.e] ++ [boolB true]).map byteC)) := by
      have := hown4
      refine hide ?_
      rw [List.map_append]
      exact this
    have HS3 := hide hs3
    clear hown4 hgrow4 hat4 hlt4 hk3 hs3
    go_wp2
    go_ret
    exact ⟨_, rfl, by rw [unhide HBB]; exact ownsRow_base (unhide HR3) (by have := unhide Hs0; omega), unhide HS3⟩
set_option maxRecDepth 100000 in
set_option maxHeartbeats 4000000 in
theorem answered_6 {w : World} {base : Nat} (o : OpD) (ho : OpOk o) (td : ToldD) {a : Option Addr} {c : Nat} (h : w.ownsRow base 42 4 (.slice a td.l.length c) td.l.length (td.l.flatMap routeCells)) (_hl : td.l.length ≤ 64) (he : td.e = 0) (hk : pickF o.kind 8 = 6) :
    Calls Try.prog 12 #[.agg #[.int .i64 o.kind, .int .i64 o.who, .int .i64 o.a, .int .i64 o.b, .int .i64 o.c, .int .i64 o.d], .agg #[.int .i64 td.e, .slice a td.l.length c, .int .i64 td.s.own, .int .i64 td.s.taken, .int .i64 td.s.dropped, .int .i64 td.s.quota, .int .i64 td.r.addr, .int .i64 td.r.len, .int .i64 td.r.hop, .int .i64 td.r.from_, .bool td.b]] w fun en w' => ∃ v, en = .returned v ∧ w'.ownsRow w.heap.size 5 1 v (ansT o td).length ((ansT o td).map byteC) ∧ Still w w' := by
  have eA : ansT o td = [loB td.e] ++ routeB td.r := by
    unfold ansT ansB
    rw [if_pos he, hk, he]
    rfl
  rw [eA]
  have nk : (pickF o.kind 8 == 6) = true := by rw [hk]; rfl
  have n4 : (pickF o.kind 8 == 4) = false := by rw [hk]; rfl
  have n5 : (pickF o.kind 8 == 5) = false := by rw [hk]; rfl
  have n7 : (pickF o.kind 8 == 7) = false := by rw [hk]; rfl
  clear eA hk
  obtain ⟨i0, hi0, hz0, hz1, hz2⟩ := info_parts infoByteX
  have hwe := wrap_lo td.e
  have hq : (td.e == 0) = true := by rw [he]; rfl
  clear he
  have hr1 := bytesNew ((w.alloc (.cells #[.int .i64 o.kind, .int .i64 o.who, .int .i64 o.a, .int .i64 o.b, .int .i64 o.c, .int .i64 o.d] 34)).alloc (.cells #[.int .i64 td.e, .slice a td.l.length c, .int .i64 td.s.own, .int .i64 td.s.taken, .int .i64 td.s.dropped, .int .i64 td.s.quota, .int .i64 td.r.addr, .int .i64 td.r.len, .int .i64 td.r.hop, .int .i64 td.r.from_, .bool td.b] 44)) [loB td.e] (base := w.heap.size + 2) (by simp) (by simp)
  rw [World.size_alloc, World.size_alloc] at hr1
  have HR1 : Hid ((((w.alloc (.cells #[.int .i64 o.kind, .int .i64 o.who, .int .i64 o.a, .int .i64 o.b, .int .i64 o.c, .int .i64 o.d] 34)).alloc (.cells #[.int .i64 td.e, .slice a td.l.length c, .int .i64 td.s.own, .int .i64 td.s.taken, .int .i64 td.s.dropped, .int .i64 td.s.quota, .int .i64 td.r.addr, .int .i64 td.r.len, .int .i64 td.r.hop, .int .i64 td.r.from_, .bool td.b] 44)).alloc (.cells #[.int .u8 (loB td.e)] 5)).ownsRow (w.heap.size + 2) 5 1 (.slice (some ⟨w.heap.size + 1 + 1, 0, none⟩) 1 1) 1 ([loB td.e].map byteC)) := hr1
  have HS1 : Hid (Still w (((w.alloc (.cells #[.int .i64 o.kind, .int .i64 o.who, .int .i64 o.a, .int .i64 o.b, .int .i64 o.c, .int .i64 o.d] 34)).alloc (.cells #[.int .i64 td.e, .slice a td.l.length c, .int .i64 td.s.own, .int .i64 td.s.taken, .int .i64 td.s.dropped, .int .i64 td.s.quota, .int .i64 td.r.addr, .int .i64 td.r.len, .int .i64 td.r.hop, .int .i64 td.r.from_, .bool td.b] 44)).alloc (.cells #[.int .u8 (loB td.e)] 5))) := (((Kept.refl _ _).alloc _).alloc _).alloc _
  have hb0 : BoxO (((w.alloc (.cells #[.int .i64 o.kind, .int .i64 o.who, .int .i64 o.a, .int .i64 o.b, .int .i64 o.c, .int .i64 o.d] 34)).alloc (.cells #[.int .i64 td.e, .slice a td.l.length c, .int .i64 td.s.own, .int .i64 td.s.taken, .int .i64 td.s.dropped, .int .i64 td.s.quota, .int .i64 td.r.addr, .int .i64 td.r.len, .int .i64 td.r.hop, .int .i64 td.r.from_, .bool td.b] 44)).alloc (.cells #[.int .u8 (loB td.e)] 5)) w.heap.size o := (BoxO.new w o 34).kept (((Kept.refl (fun _ => False) _).alloc _).alloc _) (fun q => q)
  have ht0 := (ToldAt.make2 (w.alloc (.cells #[.int .i64 o.kind, .int .i64 o.who, .int .i64 o.a, .int .i64 o.b, .int .i64 o.c, .int .i64 o.d] 34)) td a td.l.length c 44).kept ((Kept.refl (fun _ => False) _).alloc (.cells #[.int .u8 (loB td.e)] 5)) (fun q => q)
  rw [World.size_alloc] at ht0
  have HH := hide h
  have HB0 := hide hb0
  have HT0 := hide ht0
  have HPK := hide (fun w => pickK o.kind 8 w (by omega) ho.k0 ho.k1)
  clear hb0 ht0 hr1 h ho
  go_enter Try.func12, Try.ntmps12
  go_wp2_with fail
  refine (unhide HPK _).mono ?_
  rintro en w' ⟨rfl, hw⟩
  replace hw := hw.symm
  subst hw
  have hzW : (((w.alloc (.cells #[.int .i64 o.kind, .int .i64 o.who, .int .i64 o.a, .int .i64 o.b, .int .i64 o.c, .int .i64 o.d] 34)).alloc (.cells #[.int .i64 td.e, .slice a td.l.length c, .int .i64 td.s.own, .int .i64 td.s.taken, .int .i64 td.s.dropped, .int .i64 td.s.quota, .int .i64 td.r.addr, .int .i64 td.r.len, .int .i64 td.r.hop, .int .i64 td.r.from_, .bool td.b] 44)).alloc (.cells #[.int .u8 (loB td.e)] 5)).heap.size = w.heap.size + 3 := by simp
  generalize ((w.alloc (.cells #[.int .i64 o.kind, .int .i64 o.who, .int .i64 o.a, .int .i64 o.b, .int .i64 o.c, .int .i64 o.d] 34)).alloc (.cells #[.int .i64 td.e, .slice a td.l.length c, .int .i64 td.s.own, .int .i64 td.s.taken, .int .i64 td.s.dropped, .int .i64 td.s.quota, .int .i64 td.r.addr, .int .i64 td.r.len, .int .i64 td.r.hop, .int .i64 td.r.from_, .bool td.b] 44)).alloc (.cells #[.int .u8 (loB td.e)] 5) = V at *
  generalize hs0 : w.heap.size = s0 at *
  have Hs0 := hide hs0
  have HZ := hide hzW
  clear hs0 hzW
  have t6 := (unhide HT0).c6
  have t7 := (unhide HT0).c7
  have t8 := (unhide HT0).c8
  have t9 := (unhide HT0).c9
  have htl := (unhide HT0).lt
  have hzv : s0 + 2 ≤ V.heap.size := by have := unhide HZ; omega
  have HC := hide (routeBytes_W (unhide HR1) (by omega) hzv td.r)
  go_wp2_with fail
  refine (unhide HC).mono ?_
  rintro en w3 ⟨u3, rfl, hr3, hg3⟩
  have HS3 := hide (grew_still (unhide HS1) (unhide HR1) (by have := unhide Hs0; omega) hg3)
  have HR3 := hide hr3
  clear hr3 hg3 t6 t7 t8 t9
  go_wp2
  go_ret
  exact ⟨_, rfl, ownsRow_base (unhide HR3) (by have := unhide Hs0; omega), unhide HS3⟩
set_option maxRecDepth 100000 in
set_option maxHeartbeats 4000000 in
theorem answered_5 {w : World} {base : Nat} (o : OpD) (ho : OpOk o) (td : ToldD) {a : Option Addr} {c : Nat} (h : w.ownsRow base 42 4 (.slice a td.l.length c) td.l.length (td.l.flatMap routeCells)) (_hl : td.l.length ≤ 64) (he : td.e = 0) (hk : pickF o.kind 8 = 5) :
    Calls Try.prog 12 #[.agg #[.int .i64 o.kind, .int .i64 o.who, .int .i64 o.a, .int .i64 o.b, .int .i64 o.c, .int .i64 o.d], .agg #[.int .i64 td.e, .slice a td.l.length c, .int .i64 td.s.own, .int .i64 td.s.taken, .int .i64 td.s.dropped, .int .i64 td.s.quota, .int .i64 td.r.addr, .int .i64 td.r.len, .int .i64 td.r.hop, .int .i64 td.r.from_, .bool td.b]] w fun en w' => ∃ v, en = .returned v ∧ w'.ownsRow w.heap.size 5 1 v (ansT o td).length ((ansT o td).map byteC) ∧ Still w w' := by
  have eA : ansT o td = [loB td.e] ++ sumsB td.s := by
    unfold ansT ansB
    rw [if_pos he, hk, he]
    rfl
  rw [eA]
  have nk : (pickF o.kind 8 == 5) = true := by rw [hk]; rfl
  have n4 : (pickF o.kind 8 == 4) = false := by rw [hk]; rfl
  have n6 : (pickF o.kind 8 == 6) = false := by rw [hk]; rfl
  have n7 : (pickF o.kind 8 == 7) = false := by rw [hk]; rfl
  clear eA hk
  obtain ⟨i0, hi0, hz0, hz1, hz2⟩ := info_parts infoByteX
  have hwe := wrap_lo td.e
  have hq : (td.e == 0) = true := by rw [he]; rfl
  clear he
  have hr1 := bytesNew ((w.alloc (.cells #[.int .i64 o.kind, .int .i64 o.who, .int .i64 o.a, .int .i64 o.b, .int .i64 o.c, .int .i64 o.d] 34)).alloc (.cells #[.int .i64 td.e, .slice a td.l.length c, .int .i64 td.s.own, .int .i64 td.s.taken, .int .i64 td.s.dropped, .int .i64 td.s.quota, .int .i64 td.r.addr, .int .i64 td.r.len, .int .i64 td.r.hop, .int .i64 td.r.from_, .bool td.b] 44)) [loB td.e] (base := w.heap.size + 2) (by simp) (by simp)
  rw [World.size_alloc, World.size_alloc] at hr1
  have HR1 : Hid ((((w.alloc (.cells #[.int .i64 o.kind, .int .i64 o.who, .int .i64 o.a, .int .i64 o.b, .int .i64 o.c, .int .i64 o.d] 34)).alloc (.cells #[.int .i64 td.e, .slice a td.l.length c, .int .i64 td.s.own, .int .i64 td.s.taken, .int .i64 td.s.dropped, .int .i64 td.s.quota, .int .i64 td.r.addr, .int .i64 td.r.len, .int .i64 td.r.hop, .int .i64 td.r.from_, .bool td.b] 44)).alloc (.cells #[.int .u8 (loB td.e)] 5)).ownsRow (w.heap.size + 2) 5 1 (.slice (some ⟨w.heap.size + 1 + 1, 0, none⟩) 1 1) 1 ([loB td.e].map byteC)) := hr1
  have HS1 : Hid (Still w (((w.alloc (.cells #[.int .i64 o.kind, .int .i64 o.who, .int .i64 o.a, .int .i64 o.b, .int .i64 o.c, .int .i64 o.d] 34)).alloc (.cells #[.int .i64 td.e, .slice a td.l.length c, .int .i64 td.s.own, .int .i64 td.s.taken, .int .i64 td.s.dropped, .int .i64 td.s.quota, .int .i64 td.r.addr, .int .i64 td.r.len, .int .i64 td.r.hop, .int .i64 td.r.from_, .bool td.b] 44)).alloc (.cells #[.int .u8 (loB td.e)] 5))) := (((Kept.refl _ _).alloc _).alloc _).alloc _
  have hb0 : BoxO (((w.alloc (.cells #[.int .i64 o.kind, .int .i64 o.who, .int .i64 o.a, .int .i64 o.b, .int .i64 o.c, .int .i64 o.d] 34)).alloc (.cells #[.int .i64 td.e, .slice a td.l.length c, .int .i64 td.s.own, .int .i64 td.s.taken, .int .i64 td.s.dropped, .int .i64 td.s.quota, .int .i64 td.r.addr, .int .i64 td.r.len, .int .i64 td.r.hop, .int .i64 td.r.from_, .bool td.b] 44)).alloc (.cells #[.int .u8 (loB td.e)] 5)) w.heap.size o := (BoxO.new w o 34).kept (((Kept.refl (fun _ => False) _).alloc _).alloc _) (fun q => q)
  have ht0 := (ToldAt.make2 (w.alloc (.cells #[.int .i64 o.kind, .int .i64 o.who, .int .i64 o.a, .int .i64 o.b, .int .i64 o.c, .int .i64 o.d] 34)) td a td.l.length c 44).kept ((Kept.refl (fun _ => False) _).alloc (.cells #[.int .u8 (loB td.e)] 5)) (fun q => q)
  rw [World.size_alloc] at ht0
  have HH := hide h
  have HB0 := hide hb0
  have HT0 := hide ht0
  have HPK := hide (fun w => pickK o.kind 8 w (by omega) ho.k0 ho.k1)
  clear hb0 ht0 hr1 h ho
  go_enter Try.func12, Try.ntmps12
  go_wp2_with fail
  refine (unhide HPK _).mono ?_
  rintro en w' ⟨rfl, hw⟩
  replace hw := hw.symm
  subst hw
  have hzW : (((w.alloc (.cells #[.int .i64 o.kind, .int .i64 o.who, .int .i64 o.a, .int .i64 o.b, .int .i64 o.c, .int .i64 o.d] 34)).alloc (.cells #[.int .i64 td.e, .slice a td.l.length c, .int .i64 td.s.own, .int .i64 td.s.taken, .int .i64 td.s.dropped, .int .i64 td.s.quota, .int .i64 td.r.addr, .int .i64 td.r.len, .int .i64 td.r.hop, .int .i64 td.r.from_, .bool td.b] 44)).alloc (.cells #[.int .u8 (loB td.e)] 5)).heap.size = w.heap.size + 3 := by simp
  generalize ((w.alloc (.cells #[.int .i64 o.kind, .int .i64 o.who, .int .i64 o.a, .int .i64 o.b, .int .i64 o.c, .int .i64 o.d] 34)).alloc (.cells #[.int .i64 td.e, .slice a td.l.length c, .int .i64 td.s.own, .int .i64 td.s.taken, .int .i64 td.s.dropped, .int .i64 td.s.quota, .int .i64 td.r.addr, .int .i64 td.r.len, .int .i64 td.r.hop, .int .i64 td.r.from_, .bool td.b] 44)).alloc (.cells #[.int .u8 (loB td.e)] 5) = V at *
  generalize hs0 : w.heap.size = s0 at *
  have Hs0 := hide hs0
  have HZ := hide hzW
  clear hs0 hzW
  have t2 := (unhide HT0).c2
  have t3 := (unhide HT0).c3
  have h2' := wrap_lo td.s.own
  have h3' := wrap_lo td.s.taken
  have h5' := wrap_lo td.s.quota
  have hzv : s0 + 3 ≤ V.heap.size := by have := unhide HZ; omega
  go_wp2_with (at_builtin; refine wpList_append_lies _ rfl _ _ _ rfl (s0 + 2) 5 i0 _ 1 1 Try.underlying29 hi0 hz0 hz1 hz2 rfl (by omega) (.slice (some ⟨s0 + 1 + 1, 0, none⟩) 1 1) (1) _ rfl ((unhide HR1).alloc _) ⟨V.heap.size, 0, none⟩ 2 2 [.int .u8 (loB td.s.own), .int .u8 (loB td.s.taken)] rfl rfl (World.news_of_block (cs := #[.int .u8 (loB td.s.own), .int .u8 (loB td.s.taken)]) (t := 5) (fr := (0, 0)) (heap_alloc_new V _)) (by simp [Value.oneCell']) (by omega) (by unfold maxLen; omega) (by omega) (by simp; omega) (V.heap.size + 1) (by simp) ?_; intro g3 cap3 w3 hown4 hgrow4 hat4 hlt4; refine unhide ?_)
  refine hide ?_
  have hk3 := grew_of (n := 1 + 2) (cap := cap3) hgrow4 hat4 (by omega)
  have hs3 := grew_still (unhide HS1) (unhide HR1) (by have := unhide Hs0; omega) hk3
  have HR3 : Hid (w3.ownsRow (s0 + 2) 5 1 (.slice (some ⟨g3, 0, none⟩) (1 + 2) cap3) (1 + 2) (([loB td.e] ++ [loB td.s.own, loB td.s.taken]).map byteC)) := by
    have := hown4
    refine hide ?_
    rw [List.map_append]
    exact this
  have HS3 := hide hs3
  have ht3 := (unhide HT0).grew (unhide HR1) (by omega) hk3
  have t4 := ht3.c4
  have hz3 := hk3.kept.size
  have HT3 := hide ht3
  have HC := hide (word_W (unhide HR3) (by omega) (by omega) td.s.dropped)
  clear hown4 hgrow4 hat4 hlt4 hk3 hs3 ht3 t2 t3
  go_wp2_with fail
  refine (unhide HC).mono ?_
  rintro en w5 ⟨u5, rfl, hr5, hg5⟩
  obtain ⟨la5, lc5, rfl, _, _⟩ := ownsRow_slice hr5
  have ht5 := (unhide HT3).grew (unhide HR3) (by omega) hg5
  have hz5 := hg5.kept.size
  have t5 := ht5.c5
  have HS5 := hide (grew_still (unhide HS3) (unhide HR3) (by have := unhide Hs0; omega) hg5)
  have HR5 := hide hr5
  clear hr5 hg5 ht5 t4 HC
  go_wp2_with (at_builtin; refine wpList_append_lies _ rfl _ _ _ rfl (s0 + 2) 5 i0 _ 1 1 Try.underlying29 hi0 hz0 hz1 hz2 rfl (by omega) (.slice la5 (1 + 2 + 2) lc5) (1 + 2 + 2) _ rfl ((unhide HR5).alloc _) ⟨w5.heap.size, 0, none⟩ 1 1 [.int .u8 (loB td.s.quota)] rfl rfl (World.news_of_block (cs := #[.int .u8 (loB td.s.quota)]) (t := 5) (fr := (0, 0)) (heap_alloc_new w5 _)) (by simp [Value.oneCell']) (by omega) (by unfold maxLen; omega) (by omega) (by simp; omega) (w5.heap.size + 1) (by simp) ?_; intro g7 cap7 w7 hown4 hgrow4 hat4 hlt4; refine unhide ?_)
  refine hide ?_
  have hk7 := grew_of (n := 1 + 2 + 2 + 1) (cap := cap7) hgrow4 hat4 (by omega)
  have HS7 := hide (grew_still (unhide HS5) (unhide HR5) (by have := unhide Hs0; omega) hk7)
  have HR7 : Hid (w7.ownsRow (s0 + 2) 5 1 (.slice (some ⟨g7, 0, none⟩) (1 + 2 + 2 + 1) cap7) (1 + 2 + 2 + 1) (([loB td.e] ++ sumsB td.s).map byteC)) := hown4
  clear hown4 hgrow4 hat4 hlt4 hk7
  go_wp2
  go_ret
  exact ⟨_, rfl, ownsRow_base (unhide HR7) (by have := unhide Hs0; omega), unhide HS7⟩
set_option maxRecDepth 100000 in
set_option maxHeartbeats 4000000 in
theorem answered_4 {w : World} {base : Nat} (o : OpD) (ho : OpOk o) (td : ToldD) {a : Option Addr} {c : Nat} (h : w.ownsRow base 42 4 (.slice a td.l.length c) td.l.length (td.l.flatMap routeCells)) (hl : td.l.length ≤ 64) (he : td.e = 0) (hk : pickF o.kind 8 = 4) :
    Calls Try.prog 12 #[.agg #[.int .i64 o.kind, .int .i64 o.who, .int .i64 o.a, .int .i64 o.b, .int .i64 o.c, .int .i64 o.d], .agg #[.int .i64 td.e, .slice a td.l.length c, .int .i64 td.s.own, .int .i64 td.s.taken, .int .i64 td.s.dropped, .int .i64 td.s.quota, .int .i64 td.r.addr, .int .i64 td.r.len, .int .i64 td.r.hop, .int .i64 td.r.from_, .bool td.b]] w fun en w' => ∃ v, en = .returned v ∧ w'.ownsRow w.heap.size 5 1 v (ansT o td).length ((ansT o td).map byteC) ∧ Still w w' := by
  have eA : ansT o td = [loB td.e] ++ (loB td.l.length :: td.l.flatMap routeB) := by
    unfold ansT ansB
    rw [if_pos he, hk, he]
    rfl
  rw [eA]
  have hlenN : ([loB td.e] ++ (loB (td.l.length : Int) :: td.l.flatMap routeB)).length = 2 + 5 * td.l.length := by
    simp only [List.length_append, List.length_cons, List.length_nil, flatB_len]
    omega
  simp only [hlenN]
  clear hlenN
  have nk : (pickF o.kind 8 == 4) = true := by rw [hk]; rfl
  have n5 : (pickF o.kind 8 == 5) = false := by rw [hk]; rfl
  have n6 : (pickF o.kind 8 == 6) = false := by rw [hk]; rfl
  have n7 : (pickF o.kind 8 == 7) = false := by rw [hk]; rfl
  clear eA hk
  obtain ⟨i0, hi0, hz0, hz1, hz2⟩ := info_parts infoByteX
  have hwe := wrap_lo td.e
  have hq : (td.e == 0) = true := by rw [he]; rfl
  clear he
  have hr1 := bytesNew ((w.alloc (.cells #[.int .i64 o.kind, .int .i64 o.who, .int .i64 o.a, .int .i64 o.b, .int .i64 o.c, .int .i64 o.d] 34)).alloc (.cells #[.int .i64 td.e, .slice a td.l.length c, .int .i64 td.s.own, .int .i64 td.s.taken, .int .i64 td.s.dropped, .int .i64 td.s.quota, .int .i64 td.r.addr, .int .i64 td.r.len, .int .i64 td.r.hop, .int .i64 td.r.from_, .bool td.b] 44)) [loB td.e] (base := w.heap.size + 2) (by simp) (by simp)
  rw [World.size_alloc, World.size_alloc] at hr1
  have HR1 : Hid ((((w.alloc (.cells #[.int .i64 o.kind, .int .i64 o.who, .int .i64 o.a, .int .i64 o.b, .int .i64 o.c, .int .i64 o.d] 34)).alloc (.cells #[.int .i64 td.e, .slice a td.l.length c, .int .i64 td.s.own, .int .i64 td.s.taken, .int .i64 td.s.dropped, .int .i64 td.s.quota, .int .i64 td.r.addr, .int .i64 td.r.len, .int .i64 td.r.hop, .int .i64 td.r.from_, .bool td.b] 44)).alloc (.cells #[.int .u8 (loB td.e)] 5)).ownsRow (w.heap.size + 2) 5 1 (.slice (some ⟨w.heap.size + 1 + 1, 0, none⟩) 1 1) 1 ([loB td.e].map byteC)) := hr1
  have HS1 : Hid (Still w (((w.alloc (.cells #[.int .i64 o.kind, .int .i64 o.who, .int .i64 o.a, .int .i64 o.b, .int .i64 o.c, .int .i64 o.d] 34)).alloc (.cells #[.int .i64 td.e, .slice a td.l.length c, .int .i64 td.s.own, .int .i64 td.s.taken, .int .i64 td.s.dropped, .int .i64 td.s.quota, .int .i64 td.r.addr, .int .i64 td.r.len, .int .i64 td.r.hop, .int .i64 td.r.from_, .bool td.b] 44)).alloc (.cells #[.int .u8 (loB td.e)] 5))) := (((Kept.refl _ _).alloc _).alloc _).alloc _
  have hb0 : BoxO (((w.alloc (.cells #[.int .i64 o.kind, .int .i64 o.who, .int .i64 o.a, .int .i64 o.b, .int .i64 o.c, .int .i64 o.d] 34)).alloc (.cells #[.int .i64 td.e, .slice a td.l.length c, .int .i64 td.s.own, .int .i64 td.s.taken, .int .i64 td.s.dropped, .int .i64 td.s.quota, .int .i64 td.r.addr, .int .i64 td.r.len, .int .i64 td.r.hop, .int .i64 td.r.from_, .bool td.b] 44)).alloc (.cells #[.int .u8 (loB td.e)] 5)) w.heap.size o := (BoxO.new w o 34).kept (((Kept.refl (fun _ => False) _).alloc _).alloc _) (fun q => q)
  have ht0 := (ToldAt.make2 (w.alloc (.cells #[.int .i64 o.kind, .int .i64 o.who, .int .i64 o.a, .int .i64 o.b, .int .i64 o.c, .int .i64 o.d] 34)) td a td.l.length c 44).kept ((Kept.refl (fun _ => False) _).alloc (.cells #[.int .u8 (loB td.e)] 5)) (fun q => q)
  rw [World.size_alloc] at ht0
  have HH := hide h
  have HB0 := hide hb0
  have HT0 := hide ht0
  have HPK := hide (fun w => pickK o.kind 8 w (by omega) ho.k0 ho.k1)
  clear hb0 ht0 hr1 h ho
  go_enter Try.func12, Try.ntmps12
  go_wp2_with fail
  refine (unhide HPK _).mono ?_
  rintro en w' ⟨rfl, hw⟩
  replace hw := hw.symm
  subst hw
  have hzW : (((w.alloc (.cells #[.int .i64 o.kind, .int .i64 o.who, .int .i64 o.a, .int .i64 o.b, .int .i64 o.c, .int .i64 o.d] 34)).alloc (.cells #[.int .i64 td.e, .slice a td.l.length c, .int .i64 td.s.own, .int .i64 td.s.taken, .int .i64 td.s.dropped, .int .i64 td.s.quota, .int .i64 td.r.addr, .int .i64 td.r.len, .int .i64 td.r.hop, .int .i64 td.r.from_, .bool td.b] 44)).alloc (.cells #[.int .u8 (loB td.e)] 5)).heap.size = w.heap.size + 3 := by simp
  generalize ((w.alloc (.cells #[.int .i64 o.kind, .int .i64 o.who, .int .i64 o.a, .int .i64 o.b, .int .i64 o.c, .int .i64 o.d] 34)).alloc (.cells #[.int .i64 td.e, .slice a td.l.length c, .int .i64 td.s.own, .int .i64 td.s.taken, .int .i64 td.s.dropped, .int .i64 td.s.quota, .int .i64 td.r.addr, .int .i64 td.r.len, .int .i64 td.r.hop, .int .i64 td.r.from_, .bool td.b] 44)).alloc (.cells #[.int .u8 (loB td.e)] 5) = V at *
  generalize hs0 : w.heap.size = s0 at *
  have Hs0 := hide hs0
  have HZ := hide hzW
  clear hs0 hzW
  have t1 := (unhide HT0).c1
  have hwl := wrap_lo (td.l.length : Int)
  have hzv : s0 + 3 ≤ V.heap.size := by have := unhide HZ; omega
  go_wp2_with (at_builtin; refine wpList_append_lies _ rfl _ _ _ rfl (s0 + 2) 5 i0 _ 1 1 Try.underlying29 hi0 hz0 hz1 hz2 rfl (by omega) (.slice (some ⟨s0 + 1 + 1, 0, none⟩) 1 1) (1) _ rfl ((unhide HR1).alloc _) ⟨V.heap.size, 0, none⟩ 1 1 [.int .u8 (loB (td.l.length : Int))] rfl rfl (World.news_of_block (cs := #[.int .u8 (loB (td.l.length : Int))]) (t := 5) (fr := (0, 0)) (heap_alloc_new V _)) (by simp [Value.oneCell']) (by omega) (by unfold maxLen; omega) (by omega) (by simp; omega) (V.heap.size + 1) (by simp) ?_; intro g3 cap3 w3 hown4 hgrow4 hat4 hlt4; refine unhide ?_)
  refine hide ?_
  have hk3 := grew_of (n := 1 + 1) (cap := cap3) hgrow4 hat4 (by omega)
  have hs3 := grew_still (unhide HS1) (unhide HR1) (by have := unhide Hs0; omega) hk3
  have HR3 : Hid (w3.ownsRow (s0 + 2) 5 1 (.slice (some ⟨g3, 0, none⟩) (1 + 1) cap3) (1 + 1) (([loB td.e] ++ [loB (td.l.length : Int)]).map byteC)) := by
    have := hown4
    refine hide ?_
    rw [List.map_append]
    exact this
  have HS3 := hide hs3
  have ht3 := (unhide HT0).grew (unhide HR1) (by omega) hk3
  have HT3 := hide ht3
  have hz3 := hk3.kept.size
  clear hown4 hgrow4 hat4 hlt4 hk3 hs3 ht3 t1
  go_wp2
  go_loopw [5, 6] (fun l i w' => ∃ k : Nat, k ≤ td.l.length ∧ i = .int .i64 k ∧ w'.ownsRow (s0 + 2) 5 1 l (2 + 5 * k) (([loB td.e] ++ (loB (td.l.length : Int) :: (td.l.take k).flatMap routeB)).map byteC) ∧ Still w w' ∧ ToldAt w' (s0 + 1) td (.slice a td.l.length c)) (fun _ i _ => td.l.length - (intOf i).toNat)
  case atStart => exact ⟨0, by omega, rfl, unhide HR3, unhide HS3, unhide HT3⟩
  case round =>
    obtain ⟨k, hk, rfl, hrow, hst, htd⟩ := hrel
    obtain ⟨la, lc, rfl, hl1, hl2⟩ := ownsRow_slice hrow
    have HROW := hide hrow
    have HST := hide hst
    have HTD := hide htd
    have HRW := hide (keptRowX (unhide HH) hst)
    have t1 := htd.c1
    have htl := htd.lt
    have hwz := hst.size
    clear hrow hst htd
    by_cases hlt : k < td.l.length
    · obtain ⟨g, rfl, hg⟩ := ownsRow_some (unhide HRW) (by omega)
      obtain ⟨x0, x1, x2, x3⟩ := rowCellX (unhide HRW) rfl hlt
      have hstep : td.l.take (k + 1) = td.l.take k ++ [td.l.getD k rt0] := by
        rw [List.take_succ_eq_append_getElem hlt]
        simp [List.getD_eq_getElem?_getD, hlt]
      have HSTP := hide hstep
      have hk0 : (0 : Int) ≤ (k : Int) := by omega
      have hkl : (k : Int) < (td.l.length : Int) := by omega
      clear hstep
      generalize td.l.getD k rt0 = x at *
      have HC := hide (routeBytes_W (unhide HROW) (by omega) (by omega) x)
      go_wp2_with fail
      refine (unhide HC).mono ?_
      rintro en w5 ⟨u5, rfl, hr5, hg5⟩
      have HS5 := hide (grew_still (unhide HST) (unhide HROW) (by have := unhide Hs0; omega) hg5)
      have HT5 := hide ((unhide HTD).grew (unhide HROW) (by omega) hg5)
      have HR5 : Hid (w5.ownsRow (s0 + 2) 5 1 u5 (2 + 5 * (k + 1)) (([loB td.e] ++ (loB (td.l.length : Int) :: (td.l.take (k + 1)).flatMap routeB)).map byteC)) := by
        have e1 : 2 + 5 * (k + 1) = 2 + 5 * k + 2 + 3 := by omega
        have e2 : [loB td.e] ++ (loB (td.l.length : Int) :: (td.l.take (k + 1)).flatMap routeB) = [loB td.e] ++ (loB (td.l.length : Int) :: (td.l.take k).flatMap routeB) ++ routeB x := by
          rw [unhide HSTP, List.flatMap_append]
          simp
        refine hide ?_
        rw [e1, e2]
        exact hr5
      clear hr5 hg5 HC x0 x1 x2 x3 t1
      go_wp2
      go_roundw
      case rel => exact ⟨k + 1, by omega, by go_num, unhide HR5, unhide HS5, unhide HT5⟩
      case measure => simp [intOf]; omega
    · obtain rfl : k = td.l.length := by omega
      go_wp2
      go_ret
      refine ⟨_, rfl, ?_, unhide HST⟩
      have h1 := ownsRow_base (base' := w.heap.size) (unhide HROW) (by have := unhide Hs0; omega)
      rw [List.take_length] at h1
      exact h1
theorem answered_W {w : World} {base : Nat} (o : OpD) (ho : OpOk o) (td : ToldD) {a : Option Addr} {c : Nat} (h : w.ownsRow base 42 4 (.slice a td.l.length c) td.l.length (td.l.flatMap routeCells)) (hl : td.l.length ≤ 64)  :
    Calls Try.prog 12 #[.agg #[.int .i64 o.kind, .int .i64 o.who, .int .i64 o.a, .int .i64 o.b, .int .i64 o.c, .int .i64 o.d], .agg #[.int .i64 td.e, .slice a td.l.length c, .int .i64 td.s.own, .int .i64 td.s.taken, .int .i64 td.s.dropped, .int .i64 td.s.quota, .int .i64 td.r.addr, .int .i64 td.r.len, .int .i64 td.r.hop, .int .i64 td.r.from_, .bool td.b]] w fun en w' => ∃ v, en = .returned v ∧ w'.ownsRow w.heap.size 5 1 v (ansT o td).length ((ansT o td).map byteC) ∧ Still w w' := by
  have h8 := pickF_range o.kind (n := 8) (by omega)
  by_cases he : td.e = 0
  · by_cases hk : pickF o.kind 8 < 4
    · exact answered_bare o ho td h hl he hk
    · rcases (by omega : pickF o.kind 8 = 4 ∨ pickF o.kind 8 = 5 ∨ pickF o.kind 8 = 6 ∨ pickF o.kind 8 = 7) with q | q | q | q
      · exact answered_4 o ho td h hl he q
      · exact answered_5 o ho td h hl he q
      · exact answered_6 o ho td h hl he q
      · exact answered_7 o ho td h hl he q
  · exact answered_no o ho td h hl he
end Go.Proofs.Ytgndledehlilkab
