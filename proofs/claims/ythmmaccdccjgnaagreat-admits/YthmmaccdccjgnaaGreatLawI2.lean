/-
  Walks: districtlaw: tenants and sets (Create, Drop, Derive, Revoke, Insert, Remove, Share), over any engine that answers as 'EngI' says.
-/
import Derived.Test.YthmmaccdccjgnaaGreatLawI1
namespace Go.Proofs.YthmmaccdccjgnaaGreat
open Go.RowKit

set_option maxRecDepth 100000 in
set_option maxHeartbeats 4000000 in
theorem lawI_create (I : EngI) {w : World} {O : Tag} {e bx by_ : Nat} {r : RefS} (h : PairI I w O e bx by_ r) (ei a b c d : Int) (f : Bool) (ra : Option Addr) (rn rc : Nat) (sa : Option Addr) (sn sc : Nat) :
    Calls Tryz.prog 12 #[engW bx by_, stepW 2 ei a b c d f (.slice ra rn rc) (.slice sa sn sc)] w fun en w' => en = .returned (.bool true) ∧ AfterI I w O e bx by_ w' := by
  unfold engW stepW
  have HP := hide h
  clear h
  go_enter Tryz.func12, Tryz.ntmps12
  go_wp2_with fail
  have hst : Still w ((w.alloc (.cells #[.pointer (some ⟨bx, 0, none⟩), .pointer (some ⟨by_, 0, none⟩)] 46)).alloc (.cells #[.int .i64 2, .int .i64 ei, .int .i64 a, .int .i64 b, .int .i64 c, .int .i64 d, .bool f, .slice ra rn rc, .slice sa sn sc] 35)) := ((Kept.refl _ _).alloc _).alloc _
  have hp1 := (unhide HP).boxed hst
  refine (I.create hp1.x hp1.ok _).mono ?_
  rintro en w2 ⟨rfl, O1, hO1, hX, hk2⟩
  obtain ⟨b1, b2⟩ := box_two _ _ hk2 (cutO_not (Nat.le_refl _)) (cutO_not (by omega))
  have y1 : w2.cell? ⟨w.heap.size, 1, none⟩ = some (.pointer (some ⟨by_, 0, none⟩)) := by rw [b1, World.cell?_alloc_new]; rfl
  have y2 : w2.cell? ⟨w.heap.size + 1, 2, none⟩ = some (.int .i64 a) := by rw [b2, ← World.size_alloc w, World.cell?_alloc_new]; rfl
  have hr2 := hp1.ref hk2 hO1
  have HOK := hide hp1.ok
  have HK2 := hide hk2
  have HO1 := hide hO1
  have HX := hide hX
  have HST := hide hst
  clear b1 b2 hp1 hk2 hst hX hO1
  go_wp2_with fail
  refine (refCreate_fn hr2 (unhide HOK) _).mono ?_
  rintro en w3 ⟨rfl, hy⟩
  have HF : Hid (AfterI I w O e bx by_ w3) := (after_twoI (unhide HST) (unhide HO1) (unhide HX) (unhide HK2) hy ((unhide HOK).created _)).uncut
  clear hr2 hy HX HK2 HO1 HST HOK
  generalize (createA r a).1 = v0 at *
  generalize (createA r a).2 = v1 at *
  generalize createR r a = v2 at *
  go_wp2
  go_ret
  exact ⟨rfl, unhide HF⟩
set_option maxRecDepth 100000 in
set_option maxHeartbeats 4000000 in
theorem lawI_drop (I : EngI) {w : World} {O : Tag} {e bx by_ : Nat} {r : RefS} (h : PairI I w O e bx by_ r) (ei a b c d : Int) (f : Bool) (ra : Option Addr) (rn rc : Nat) (sa : Option Addr) (sn sc : Nat) :
    Calls Tryz.prog 12 #[engW bx by_, stepW 3 ei a b c d f (.slice ra rn rc) (.slice sa sn sc)] w fun en w' => en = .returned (.bool true) ∧ AfterI I w O e bx by_ w' := by
  unfold engW stepW
  have HP := hide h
  clear h
  go_enter Tryz.func12, Tryz.ntmps12
  go_wp2_with fail
  have hst : Still w ((w.alloc (.cells #[.pointer (some ⟨bx, 0, none⟩), .pointer (some ⟨by_, 0, none⟩)] 46)).alloc (.cells #[.int .i64 3, .int .i64 ei, .int .i64 a, .int .i64 b, .int .i64 c, .int .i64 d, .bool f, .slice ra rn rc, .slice sa sn sc] 35)) := ((Kept.refl _ _).alloc _).alloc _
  have hp1 := (unhide HP).boxed hst
  refine (I.drop hp1.x hp1.ok _).mono ?_
  rintro en w2 ⟨rfl, O1, hO1, hX, hk2⟩
  obtain ⟨b1, b2⟩ := box_two _ _ hk2 (cutO_not (Nat.le_refl _)) (cutO_not (by omega))
  have y1 : w2.cell? ⟨w.heap.size, 1, none⟩ = some (.pointer (some ⟨by_, 0, none⟩)) := by rw [b1, World.cell?_alloc_new]; rfl
  have y2 : w2.cell? ⟨w.heap.size + 1, 2, none⟩ = some (.int .i64 a) := by rw [b2, ← World.size_alloc w, World.cell?_alloc_new]; rfl
  have hr2 := hp1.ref hk2 hO1
  have HOK := hide hp1.ok
  have HK2 := hide hk2
  have HO1 := hide hO1
  have HX := hide hX
  have HST := hide hst
  clear b1 b2 hp1 hk2 hst hX hO1
  go_wp2_with fail
  refine (refDrop_fn hr2 (unhide HOK) _).mono ?_
  rintro en w3 ⟨rfl, hy⟩
  have HF : Hid (AfterI I w O e bx by_ w3) := (after_twoI (unhide HST) (unhide HO1) (unhide HX) (unhide HK2) hy ((unhide HOK).dropped _)).uncut
  clear hr2 hy HX HK2 HO1 HST HOK
  generalize dropR r a = v0 at *
  go_wp2
  go_ret
  exact ⟨rfl, unhide HF⟩
set_option maxRecDepth 100000 in
set_option maxHeartbeats 4000000 in
theorem lawI_derive (I : EngI) {w : World} {O : Tag} {e bx by_ : Nat} {r : RefS} (h : PairI I w O e bx by_ r) (ei a b c d : Int) (f : Bool) (ra : Option Addr) (rn rc : Nat) (sa : Option Addr) (sn sc : Nat) :
    Calls Tryz.prog 12 #[engW bx by_, stepW 4 ei a b c d f (.slice ra rn rc) (.slice sa sn sc)] w fun en w' => en = .returned (.bool true) ∧ AfterI I w O e bx by_ w' := by
  unfold engW stepW
  have HP := hide h
  clear h
  go_enter Tryz.func12, Tryz.ntmps12
  go_wp2_with fail
  have hst : Still w ((w.alloc (.cells #[.pointer (some ⟨bx, 0, none⟩), .pointer (some ⟨by_, 0, none⟩)] 46)).alloc (.cells #[.int .i64 4, .int .i64 ei, .int .i64 a, .int .i64 b, .int .i64 c, .int .i64 d, .bool f, .slice ra rn rc, .slice sa sn sc] 35)) := ((Kept.refl _ _).alloc _).alloc _
  have hp1 := (unhide HP).boxed hst
  refine (I.derive hp1.x hp1.ok _ _).mono ?_
  rintro en w2 ⟨rfl, O1, hO1, hX, hk2⟩
  obtain ⟨b1, b2⟩ := box_two _ _ hk2 (cutO_not (Nat.le_refl _)) (cutO_not (by omega))
  have y1 : w2.cell? ⟨w.heap.size, 1, none⟩ = some (.pointer (some ⟨by_, 0, none⟩)) := by rw [b1, World.cell?_alloc_new]; rfl
  have y2 : w2.cell? ⟨w.heap.size + 1, 2, none⟩ = some (.int .i64 a) := by rw [b2, ← World.size_alloc w, World.cell?_alloc_new]; rfl
  have y3 : w2.cell? ⟨w.heap.size + 1, 3, none⟩ = some (.int .i64 b) := by rw [b2, ← World.size_alloc w, World.cell?_alloc_new]; rfl
  have hr2 := hp1.ref hk2 hO1
  have HOK := hide hp1.ok
  have HK2 := hide hk2
  have HO1 := hide hO1
  have HX := hide hX
  have HST := hide hst
  clear b1 b2 hp1 hk2 hst hX hO1
  go_wp2_with fail
  refine (refDerive_fn hr2 (unhide HOK) _ _).mono ?_
  rintro en w3 ⟨rfl, hy⟩
  have HF : Hid (AfterI I w O e bx by_ w3) := (after_twoI (unhide HST) (unhide HO1) (unhide HX) (unhide HK2) hy ((unhide HOK).derived _ _)).uncut
  clear hr2 hy HX HK2 HO1 HST HOK
  generalize deriveA r a b = v0 at *
  generalize deriveR r a b = v1 at *
  go_wp2
  go_ret
  exact ⟨rfl, unhide HF⟩
set_option maxRecDepth 100000 in
set_option maxHeartbeats 4000000 in
theorem lawI_revoke (I : EngI) {w : World} {O : Tag} {e bx by_ : Nat} {r : RefS} (h : PairI I w O e bx by_ r) (ei a b c d : Int) (f : Bool) (ra : Option Addr) (rn rc : Nat) (sa : Option Addr) (sn sc : Nat) :
    Calls Tryz.prog 12 #[engW bx by_, stepW 5 ei a b c d f (.slice ra rn rc) (.slice sa sn sc)] w fun en w' => en = .returned (.bool true) ∧ AfterI I w O e bx by_ w' := by
  unfold engW stepW
  have HP := hide h
  clear h
  go_enter Tryz.func12, Tryz.ntmps12
  go_wp2_with fail
  have hst : Still w ((w.alloc (.cells #[.pointer (some ⟨bx, 0, none⟩), .pointer (some ⟨by_, 0, none⟩)] 46)).alloc (.cells #[.int .i64 5, .int .i64 ei, .int .i64 a, .int .i64 b, .int .i64 c, .int .i64 d, .bool f, .slice ra rn rc, .slice sa sn sc] 35)) := ((Kept.refl _ _).alloc _).alloc _
  have hp1 := (unhide HP).boxed hst
  refine (I.revoke hp1.x hp1.ok _ _).mono ?_
  rintro en w2 ⟨rfl, O1, hO1, hX, hk2⟩
  obtain ⟨b1, b2⟩ := box_two _ _ hk2 (cutO_not (Nat.le_refl _)) (cutO_not (by omega))
  have y1 : w2.cell? ⟨w.heap.size, 1, none⟩ = some (.pointer (some ⟨by_, 0, none⟩)) := by rw [b1, World.cell?_alloc_new]; rfl
  have y2 : w2.cell? ⟨w.heap.size + 1, 2, none⟩ = some (.int .i64 a) := by rw [b2, ← World.size_alloc w, World.cell?_alloc_new]; rfl
  have y3 : w2.cell? ⟨w.heap.size + 1, 3, none⟩ = some (.int .i64 b) := by rw [b2, ← World.size_alloc w, World.cell?_alloc_new]; rfl
  have hr2 := hp1.ref hk2 hO1
  have HOK := hide hp1.ok
  have HK2 := hide hk2
  have HO1 := hide hO1
  have HX := hide hX
  have HST := hide hst
  clear b1 b2 hp1 hk2 hst hX hO1
  go_wp2_with fail
  refine (refRevoke_fn hr2 (unhide HOK) _ _).mono ?_
  rintro en w3 ⟨rfl, hy⟩
  have HF : Hid (AfterI I w O e bx by_ w3) := (after_twoI (unhide HST) (unhide HO1) (unhide HX) (unhide HK2) hy ((unhide HOK).revoked _ _)).uncut
  clear hr2 hy HX HK2 HO1 HST HOK
  generalize revokeR r a b = v0 at *
  go_wp2
  go_ret
  exact ⟨rfl, unhide HF⟩
set_option maxRecDepth 100000 in
set_option maxHeartbeats 4000000 in
theorem lawI_insert (I : EngI) (J : EngI2 I) {w : World} {O : Tag} {e bx by_ : Nat} {r : RefS} (h : PairI I w O e bx by_ r) (ei a b c d : Int) (f : Bool) (ra : Option Addr) (rn rc : Nat) (sa : Option Addr) (sn sc : Nat) :
    Calls Tryz.prog 13 #[engW bx by_, stepW 6 ei a b c d f (.slice ra rn rc) (.slice sa sn sc)] w fun en w' => en = .returned (.bool true) ∧ AfterI I w O e bx by_ w' := by
  unfold engW stepW
  have HP := hide h
  clear h
  go_enter Tryz.func13, Tryz.ntmps13
  go_wp2_with fail
  have hst : Still w ((w.alloc (.cells #[.pointer (some ⟨bx, 0, none⟩), .pointer (some ⟨by_, 0, none⟩)] 46)).alloc (.cells #[.int .i64 6, .int .i64 ei, .int .i64 a, .int .i64 b, .int .i64 c, .int .i64 d, .bool f, .slice ra rn rc, .slice sa sn sc] 35)) := ((Kept.refl _ _).alloc _).alloc _
  have hp1 := (unhide HP).boxed hst
  refine (J.insert hp1.x hp1.ok _ _ _ _).mono ?_
  rintro en w2 ⟨rfl, O1, hO1, hX, hk2⟩
  obtain ⟨b1, b2⟩ := box_two _ _ hk2 (cutO_not (Nat.le_refl _)) (cutO_not (by omega))
  have y1 : w2.cell? ⟨w.heap.size, 1, none⟩ = some (.pointer (some ⟨by_, 0, none⟩)) := by rw [b1, World.cell?_alloc_new]; rfl
  have y2 : w2.cell? ⟨w.heap.size + 1, 2, none⟩ = some (.int .i64 a) := by rw [b2, ← World.size_alloc w, World.cell?_alloc_new]; rfl
  have y3 : w2.cell? ⟨w.heap.size + 1, 3, none⟩ = some (.int .i64 b) := by rw [b2, ← World.size_alloc w, World.cell?_alloc_new]; rfl
  have y4 : w2.cell? ⟨w.heap.size + 1, 4, none⟩ = some (.int .i64 c) := by rw [b2, ← World.size_alloc w, World.cell?_alloc_new]; rfl
  have y5 : w2.cell? ⟨w.heap.size + 1, 5, none⟩ = some (.int .i64 d) := by rw [b2, ← World.size_alloc w, World.cell?_alloc_new]; rfl
  have hr2 := hp1.ref hk2 hO1
  have HOK := hide hp1.ok
  have HK2 := hide hk2
  have HO1 := hide hO1
  have HX := hide hX
  have HST := hide hst
  clear b1 b2 hp1 hk2 hst hX hO1
  go_wp2_with fail
  refine (refInsert_any hr2 (unhide HOK).wf (unhide HOK).tab _ _ _ _).mono ?_
  rintro en w3 ⟨rfl, hy⟩
  have HF : Hid (AfterI I w O e bx by_ w3) := (after_twoI (unhide HST) (unhide HO1) (unhide HX) (unhide HK2) hy ((unhide HOK).inserted _ _ _ _)).uncut
  clear hr2 hy HX HK2 HO1 HST HOK
  generalize insertR r a b c d = v0 at *
  go_wp2
  go_ret
  exact ⟨rfl, unhide HF⟩
set_option maxRecDepth 100000 in
set_option maxHeartbeats 4000000 in
theorem lawI_remove (I : EngI) (J : EngI2 I) {w : World} {O : Tag} {e bx by_ : Nat} {r : RefS} (h : PairI I w O e bx by_ r) (ei a b c d : Int) (f : Bool) (ra : Option Addr) (rn rc : Nat) (sa : Option Addr) (sn sc : Nat) :
    Calls Tryz.prog 13 #[engW bx by_, stepW 7 ei a b c d f (.slice ra rn rc) (.slice sa sn sc)] w fun en w' => en = .returned (.bool true) ∧ AfterI I w O e bx by_ w' := by
  unfold engW stepW
  have HP := hide h
  clear h
  go_enter Tryz.func13, Tryz.ntmps13
  go_wp2_with fail
  have hst : Still w ((w.alloc (.cells #[.pointer (some ⟨bx, 0, none⟩), .pointer (some ⟨by_, 0, none⟩)] 46)).alloc (.cells #[.int .i64 7, .int .i64 ei, .int .i64 a, .int .i64 b, .int .i64 c, .int .i64 d, .bool f, .slice ra rn rc, .slice sa sn sc] 35)) := ((Kept.refl _ _).alloc _).alloc _
  have hp1 := (unhide HP).boxed hst
  refine (J.remove hp1.x hp1.ok _ _ _).mono ?_
  rintro en w2 ⟨rfl, O1, hO1, hX, hk2⟩
  obtain ⟨b1, b2⟩ := box_two _ _ hk2 (cutO_not (Nat.le_refl _)) (cutO_not (by omega))
  have y1 : w2.cell? ⟨w.heap.size, 1, none⟩ = some (.pointer (some ⟨by_, 0, none⟩)) := by rw [b1, World.cell?_alloc_new]; rfl
  have y2 : w2.cell? ⟨w.heap.size + 1, 2, none⟩ = some (.int .i64 a) := by rw [b2, ← World.size_alloc w, World.cell?_alloc_new]; rfl
  have y3 : w2.cell? ⟨w.heap.size + 1, 3, none⟩ = some (.int .i64 b) := by rw [b2, ← World.size_alloc w, World.cell?_alloc_new]; rfl
  have y4 : w2.cell? ⟨w.heap.size + 1, 4, none⟩ = some (.int .i64 c) := by rw [b2, ← World.size_alloc w, World.cell?_alloc_new]; rfl
  have hr2 := hp1.ref hk2 hO1
  have HOK := hide hp1.ok
  have HK2 := hide hk2
  have HO1 := hide hO1
  have HX := hide hX
  have HST := hide hst
  clear b1 b2 hp1 hk2 hst hX hO1
  go_wp2_with fail
  refine (refRemove_any hr2 (unhide HOK).wf (unhide HOK).tab _ _ _).mono ?_
  rintro en w3 ⟨rfl, hy⟩
  have HF : Hid (AfterI I w O e bx by_ w3) := (after_twoI (unhide HST) (unhide HO1) (unhide HX) (unhide HK2) hy ((unhide HOK).removed _ _ _)).uncut
  clear hr2 hy HX HK2 HO1 HST HOK
  generalize removeR r a b c = v0 at *
  go_wp2
  go_ret
  exact ⟨rfl, unhide HF⟩
set_option maxRecDepth 100000 in
set_option maxHeartbeats 4000000 in
theorem lawI_share (I : EngI) (J : EngI2 I) {w : World} {O : Tag} {e bx by_ : Nat} {r : RefS} (h : PairI I w O e bx by_ r) (ei a b c d : Int) (f : Bool) (ra : Option Addr) (rn rc : Nat) (sa : Option Addr) (sn sc : Nat) :
    Calls Tryz.prog 13 #[engW bx by_, stepW 8 ei a b c d f (.slice ra rn rc) (.slice sa sn sc)] w fun en w' => en = .returned (.bool true) ∧ AfterI I w O e bx by_ w' := by
  unfold engW stepW
  have HP := hide h
  clear h
  go_enter Tryz.func13, Tryz.ntmps13
  go_wp2_with fail
  have hst : Still w ((w.alloc (.cells #[.pointer (some ⟨bx, 0, none⟩), .pointer (some ⟨by_, 0, none⟩)] 46)).alloc (.cells #[.int .i64 8, .int .i64 ei, .int .i64 a, .int .i64 b, .int .i64 c, .int .i64 d, .bool f, .slice ra rn rc, .slice sa sn sc] 35)) := ((Kept.refl _ _).alloc _).alloc _
  have hp1 := (unhide HP).boxed hst
  refine (J.share hp1.x hp1.ok _ _ _).mono ?_
  rintro en w2 ⟨rfl, O1, hO1, hX, hk2⟩
  obtain ⟨b1, b2⟩ := box_two _ _ hk2 (cutO_not (Nat.le_refl _)) (cutO_not (by omega))
  have y1 : w2.cell? ⟨w.heap.size, 1, none⟩ = some (.pointer (some ⟨by_, 0, none⟩)) := by rw [b1, World.cell?_alloc_new]; rfl
  have y2 : w2.cell? ⟨w.heap.size + 1, 2, none⟩ = some (.int .i64 a) := by rw [b2, ← World.size_alloc w, World.cell?_alloc_new]; rfl
  have y3 : w2.cell? ⟨w.heap.size + 1, 3, none⟩ = some (.int .i64 b) := by rw [b2, ← World.size_alloc w, World.cell?_alloc_new]; rfl
  have y4 : w2.cell? ⟨w.heap.size + 1, 4, none⟩ = some (.int .i64 c) := by rw [b2, ← World.size_alloc w, World.cell?_alloc_new]; rfl
  have hr2 := hp1.ref hk2 hO1
  have HOK := hide hp1.ok
  have HK2 := hide hk2
  have HO1 := hide hO1
  have HX := hide hX
  have HST := hide hst
  clear b1 b2 hp1 hk2 hst hX hO1
  go_wp2_with fail
  refine (refShare_fn hr2 (unhide HOK) _ _ _).mono ?_
  rintro en w3 ⟨rfl, hy⟩
  have HF : Hid (AfterI I w O e bx by_ w3) := (after_twoI (unhide HST) (unhide HO1) (unhide HX) (unhide HK2) hy ((unhide HOK).shared _ _ _)).uncut
  clear hr2 hy HX HK2 HO1 HST HOK
  generalize shareR r a b c = v0 at *
  go_wp2
  go_ret
  exact ⟨rfl, unhide HF⟩
end Go.Proofs.YthmmaccdccjgnaaGreat
