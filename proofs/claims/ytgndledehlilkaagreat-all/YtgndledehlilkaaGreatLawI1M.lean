import Derived.Test.YtgndledehlilkaaGreatRefP4
import Derived.Test.YtgndledehlilkaaGreatEngI
namespace Go.Proofs.YtgndledehlilkaaGreat
open Go.RowKit

theorem RefRep.frameX {w w' : World} {O O' : Tag} {e b : Nat} {r : RefS} (h : RefRep w O e b r) (hk : ∀ k, k < w.heap.size → (O k).1 = e → (O k).2.1 ≤ 5 → w'.heap[k]? = w.heap[k]?) (hO : ∀ k, k < w.heap.size → (O k).1 = e → O' k = O k) : RefRep w' O' e b r := by
  obtain ⟨lv, tv, ov, rv, ln, h⟩ := h
  have hb := h.lt
  refine ⟨lv, tv, ov, rv, ln, ?_, ?_, ?_, ?_, ?_, ?_, ?_, ?_, ?_, ?_, ?_, ?_⟩
  · rw [hk b hb (by rw [h.btag]) (by rw [h.btag]; simp)]; exact h.blk
  · rw [hO b h.lt (by rw [h.btag])]; exact h.btag
  · exact ownsRow_of_block h.lives fun g hg => hk g (ownsRow_lt h.lives hg) (by rw [h.ltag g hg]) (by rw [h.ltag g hg]; simp)
  · intro g hg; rw [hO g (ownsRow_lt h.lives hg) (by rw [h.ltag g hg])]; exact h.ltag g hg
  · exact ownsRow_of_block h.toks fun g hg => hk g (ownsRow_lt h.toks hg) (by rw [h.ttag g hg]) (by rw [h.ttag g hg]; simp)
  · intro g hg; rw [hO g (ownsRow_lt h.toks hg) (by rw [h.ttag g hg])]; exact h.ttag g hg
  · intro i hi; exact ownsRow_of_block (h.owns i hi) fun g hg => hk g (ownsRow_lt (h.owns i hi) hg) (by rw [h.otag i g hi hg]) (by rw [h.otag i g hi hg]; simp)
  · intro i g hi hg; rw [hO g (ownsRow_lt (h.owns i hi) hg) (by rw [h.otag i g hi hg])]; exact h.otag i g hi hg
  · intro i hi; exact ownsRow_of_block (h.rules i hi) fun g hg => hk g (ownsRow_lt (h.rules i hi) hg) (by rw [h.rtag i g hi hg]) (by rw [h.rtag i g hi hg]; simp)
  · intro i g hi hg; rw [hO g (ownsRow_lt (h.rules i hi) hg) (by rw [h.rtag i g hi hg])]; exact h.rtag i g hi hg
  · intro i hi; exact ownsRow_of_block (h.lines i hi) fun g hg => hk g (ownsRow_lt (h.lines i hi) hg) (by rw [h.ntag i g hi hg]) (by rw [h.ntag i g hi hg]; simp)
  · intro i g hi hg; rw [hO g (ownsRow_lt (h.lines i hi) hg) (by rw [h.ntag i g hi hg])]; exact h.ntag i g hi hg

/-- An engine of the program's and one of the document's, number e, side by side. -/
structure PairI (I : EngI) (w : World) (O : Tag) (e bx by_ : Nat) (r : RefS) : Prop where
  x : I.Rep w O e bx r
  y : RefRep w O e by_ r
  ok : RefOk r
def mineA (O : Tag) (e : Nat) : Nat → Prop := fun k => (O k).1 = e
/-- What a call leaves of the pair. -/
def AfterI (I : EngI) (w : World) (O : Tag) (e bx by_ : Nat) (w' : World) : Prop :=
  ∃ O' : Tag, (∀ k, k < w.heap.size → O' k = O k) ∧ (∃ r', PairI I w' O' e bx by_ r') ∧ Kept (mineA O e) w w'
section
variable {I : EngI} {w w1 w2 w3 : World} {O O' : Tag} {e bx by_ : Nat} {r r' : RefS}
theorem PairI.frame (h : PairI I w O e bx by_ r) (hk : ∀ k, k < w.heap.size → (O k).1 = e → w1.heap[k]? = w.heap[k]?) (hO : ∀ k, k < w.heap.size → (O k).1 = e → O' k = O k) : PairI I w1 O' e bx by_ r :=
  ⟨I.frame h.x (fun k a c => hk k a c.1) hO, h.y.frameX (fun k a c _ => hk k a c) hO, h.ok⟩
theorem PairI.still (h : PairI I w O e bx by_ r) (hs : Still w w1) : PairI I w1 O e bx by_ r := h.frame (fun _ hk _ => hs.heap hk) (fun _ _ _ => rfl)
theorem AfterI.still (h : AfterI I w O e bx by_ w1) (hs : Still w1 w2) : AfterI I w O e bx by_ w2 := by
  obtain ⟨O', h1, ⟨r', h2⟩, h3⟩ := h
  exact ⟨O', h1, ⟨r', h2.still hs⟩, Kept.trans h3 (Still.kept hs _)⟩
/-- Behind the program's call the document's engine stands as it did. -/
theorem PairI.ref (h : PairI I w O e bx by_ r) (hk : Kept (mineX O e) w w1) (hO : ∀ k, k < w.heap.size → O' k = O k) : RefRep w1 O' e by_ r :=
  h.y.frameX (fun k a _ d => hk.block k a (fun hm => by have := hm.2; omega)) (fun k a _ => hO k a)
/-- The two calls of one step, behind one another. -/
theorem after_twoI (hw : Still w w1) (hO : ∀ k, k < w1.heap.size → O' k = O k) (hX : I.Rep w2 O' e bx r') (hx1 : Kept (mineX O e) w1 w2) (hy : changed w2 O' e by_ r' w3) (hok : RefOk r') : AfterI I w O e bx by_ w3 := by
  obtain ⟨O2, hO2, hr, hk⟩ := hy
  have z1 := hw.size
  have z2 := hx1.size
  refine ⟨O2, fun k a => (hO2 k (by omega)).trans (hO k (by omega)), ⟨r', I.frame hX (fun k a c => hk.block k a (fun hm => by have := hm.2; have := c.2; omega)) (fun k a _ => hO2 k a), hr, hok⟩, ?_⟩
  refine Kept.trans' (Kept.trans' (Still.kept hw _) hx1 ?_) hk ?_
  · intro i _ hq; exact hq.1
  · intro i hi hq
    have : O' i = O i := hO i (by omega)
    unfold mineA
    rw [← this]
    exact hq.1
theorem after_same (h : PairI I w O e bx by_ r) (hw : Still w w1) (hO : ∀ k, k < w1.heap.size → O' k = O k) (hX : I.Rep w2 O' e bx r) (hx1 : Kept (mineX O e) w1 w2) (hs : Still w2 w3) : AfterI I w O e bx by_ w3 := by
  have hr : RefRep w2 O' e by_ r := (h.still hw).ref hx1 hO
  exact after_twoI hw hO hX hx1 ⟨O', fun _ _ => rfl, hr.still hs, Still.kept hs _⟩ h.ok
end
/-- The marks, cut off behind the blocks that there are. -/
def cutO (O : Tag) (n : Nat) : Tag := fun k => if k < n then O k else (0, 8, 0)
theorem cutO_lt {O : Tag} {n k : Nat} (h : k < n) : cutO O n k = O k := by unfold cutO; rw [if_pos h]
theorem cutO_ge {O : Tag} {n k : Nat} (h : n ≤ k) : cutO O n k = (0, 8, 0) := by unfold cutO; rw [if_neg (by omega)]
theorem cutO_not {O : Tag} {n k e : Nat} (h : n ≤ k) : ¬ mineX (cutO O n) e k := by unfold mineX; rw [cutO_ge h]; simp
theorem PairI.boxed {I : EngI} {w : World} {O : Tag} {e bx by_ : Nat} {r : RefS} (h : PairI I w O e bx by_ r) {w1 : World} (hs : Still w w1) : PairI I w1 (cutO O w.heap.size) e bx by_ r :=
  h.frame (fun _ hk _ => hs.heap hk) (fun _ hk _ => cutO_lt hk)
theorem AfterI.uncut {I : EngI} {w w' : World} {O : Tag} {e bx by_ : Nat} (h : AfterI I w (cutO O w.heap.size) e bx by_ w') : AfterI I w O e bx by_ w' := by
  obtain ⟨O', h1, h2, h3⟩ := h
  refine ⟨O', fun k hk => (h1 k hk).trans (cutO_lt hk), h2, h3.mono fun i hi hq => ?_⟩
  unfold mineA at hq ⊢
  rw [cutO_lt hi] at hq
  exact hq
/-- A step's struct. -/
def stepW (kind ei a b c d : Int) (f : Bool) (rs bs : Value) : Value := .agg #[.int .i64 kind, .int .i64 ei, .int .i64 a, .int .i64 b, .int .i64 c, .int .i64 d, .bool f, rs, bs]
def engW (bx by_ : Nat) : Value := .agg #[.pointer (some ⟨bx, 0, none⟩), .pointer (some ⟨by_, 0, none⟩)]
/-- The two boxes of a step's arguments: their cells behind a call that leaves what is new alone. -/
theorem box_two {w w1 : World} {P : Nat → Prop} (o1 o2 : Obj) (h : Kept P ((w.alloc o1).alloc o2) w1) (h1 : ¬ P w.heap.size) (h2 : ¬ P (w.heap.size + 1)) :
    (∀ j, w1.cell? ⟨w.heap.size, j, none⟩ = (w.alloc o1).cell? ⟨w.heap.size, j, none⟩) ∧ (∀ j, w1.cell? ⟨w.heap.size + 1, j, none⟩ = ((w.alloc o1).alloc o2).cell? ⟨w.heap.size + 1, j, none⟩) := by
  refine ⟨fun j => ?_, fun j => ?_⟩
  · rw [Kept.cell (p := ⟨w.heap.size, j, none⟩) h (by simp; omega) h1, World.cell?_alloc_lt _ _ _ (by simp)]
  · exact Kept.cell (p := ⟨w.heap.size + 1, j, none⟩) h (by simp) h2

set_option maxRecDepth 100000 in
set_option maxHeartbeats 4000000 in
theorem lawI_create (I : EngI) {w : World} {O : Tag} {e bx by_ : Nat} {r : RefS} (h : PairI I w O e bx by_ r) (ei a b c d : Int) (f : Bool) (ra : Option Addr) (rn rc : Nat) (sa : Option Addr) (sn sc : Nat) :
    Calls Tryz.prog 14 #[engW bx by_, stepW 2 ei a b c d f (.slice ra rn rc) (.slice sa sn sc)] w fun en w' => en = .returned (.bool true) ∧ AfterI I w O e bx by_ w' := by
  unfold engW stepW
  have HP := hide h
  clear h
  go_enter Tryz.func14, Tryz.ntmps14
  go_wp2_with fail
  have hst : Still w ((w.alloc (.cells #[.pointer (some ⟨bx, 0, none⟩), .pointer (some ⟨by_, 0, none⟩)] 46)).alloc (.cells #[.int .i64 2, .int .i64 ei, .int .i64 a, .int .i64 b, .int .i64 c, .int .i64 d, .bool f, .slice ra rn rc, .slice sa sn sc] 35)) := ((Kept.refl _ _).alloc _).alloc _
  have hp1 := (unhide HP).boxed hst
  refine (I.create hp1.x hp1.ok _).mono ?_
  rintro en w2 ⟨rfl, O1, hO1, hX, hk2⟩
  obtain ⟨b1, b2⟩ := box_two _ _ hk2 (cutO_not (Nat.le_refl _)) (cutO_not (by omega))
  have y1 : w2.cell? ⟨w.heap.size, 1, none⟩ = some (.pointer (some ⟨by_, 0, none⟩)) := by rw [b1, World.cell?_alloc_new]; rfl
  have y2 : w2.cell? ⟨w.heap.size + 1, 2, none⟩ = some (.int .i64 a) := by rw [b2, ← World.size_alloc w, World.cell?_alloc_new]; rfl
  have hr2 := hp1.ref hk2 hO1
  have HOK := hide hp1.ok
  have HK2 := hide hk2
  have HO1 := hide hO1
  have HX := hide hX
  have HST := hide hst
  clear b1 b2 hp1 hk2 hst hX hO1
  go_wp2_with fail
  refine (refCreate_fn hr2 (unhide HOK) _).mono ?_
  rintro en w3 ⟨rfl, hy⟩
  have HF : Hid (AfterI I w O e bx by_ w3) := (after_twoI (unhide HST) (unhide HO1) (unhide HX) (unhide HK2) hy ((unhide HOK).created _)).uncut
  clear hr2 hy HX HK2 HO1 HST HOK
  generalize (createA r a).1 = v0 at *
  generalize (createA r a).2 = v1 at *
  generalize createR r a = v2 at *
  go_wp2
  go_ret
  exact ⟨rfl, unhide HF⟩
set_option maxRecDepth 100000 in
set_option maxHeartbeats 4000000 in
theorem lawI_drop (I : EngI) {w : World} {O : Tag} {e bx by_ : Nat} {r : RefS} (h : PairI I w O e bx by_ r) (ei a b c d : Int) (f : Bool) (ra : Option Addr) (rn rc : Nat) (sa : Option Addr) (sn sc : Nat) :
    Calls Tryz.prog 14 #[engW bx by_, stepW 3 ei a b c d f (.slice ra rn rc) (.slice sa sn sc)] w fun en w' => en = .returned (.bool true) ∧ AfterI I w O e bx by_ w' := by
  unfold engW stepW
  have HP := hide h
  clear h
  go_enter Tryz.func14, Tryz.ntmps14
  go_wp2_with fail
  have hst : Still w ((w.alloc (.cells #[.pointer (some ⟨bx, 0, none⟩), .pointer (some ⟨by_, 0, none⟩)] 46)).alloc (.cells #[.int .i64 3, .int .i64 ei, .int .i64 a, .int .i64 b, .int .i64 c, .int .i64 d, .bool f, .slice ra rn rc, .slice sa sn sc] 35)) := ((Kept.refl _ _).alloc _).alloc _
  have hp1 := (unhide HP).boxed hst
  refine (I.drop hp1.x hp1.ok _).mono ?_
  rintro en w2 ⟨rfl, O1, hO1, hX, hk2⟩
  obtain ⟨b1, b2⟩ := box_two _ _ hk2 (cutO_not (Nat.le_refl _)) (cutO_not (by omega))
  have y1 : w2.cell? ⟨w.heap.size, 1, none⟩ = some (.pointer (some ⟨by_, 0, none⟩)) := by rw [b1, World.cell?_alloc_new]; rfl
  have y2 : w2.cell? ⟨w.heap.size + 1, 2, none⟩ = some (.int .i64 a) := by rw [b2, ← World.size_alloc w, World.cell?_alloc_new]; rfl
  have hr2 := hp1.ref hk2 hO1
  have HOK := hide hp1.ok
  have HK2 := hide hk2
  have HO1 := hide hO1
  have HX := hide hX
  have HST := hide hst
  clear b1 b2 hp1 hk2 hst hX hO1
  go_wp2_with fail
  refine (refDrop_fn hr2 (unhide HOK) _).mono ?_
  rintro en w3 ⟨rfl, hy⟩
  have HF : Hid (AfterI I w O e bx by_ w3) := (after_twoI (unhide HST) (unhide HO1) (unhide HX) (unhide HK2) hy ((unhide HOK).dropped _)).uncut
  clear hr2 hy HX HK2 HO1 HST HOK
  generalize dropR r a = v0 at *
  go_wp2
  go_ret
  exact ⟨rfl, unhide HF⟩
set_option maxRecDepth 100000 in
set_option maxHeartbeats 4000000 in
theorem lawI_derive (I : EngI) {w : World} {O : Tag} {e bx by_ : Nat} {r : RefS} (h : PairI I w O e bx by_ r) (ei a b c d : Int) (f : Bool) (ra : Option Addr) (rn rc : Nat) (sa : Option Addr) (sn sc : Nat) :
    Calls Tryz.prog 14 #[engW bx by_, stepW 4 ei a b c d f (.slice ra rn rc) (.slice sa sn sc)] w fun en w' => en = .returned (.bool true) ∧ AfterI I w O e bx by_ w' := by
  unfold engW stepW
  have HP := hide h
  clear h
  go_enter Tryz.func14, Tryz.ntmps14
  go_wp2_with fail
  have hst : Still w ((w.alloc (.cells #[.pointer (some ⟨bx, 0, none⟩), .pointer (some ⟨by_, 0, none⟩)] 46)).alloc (.cells #[.int .i64 4, .int .i64 ei, .int .i64 a, .int .i64 b, .int .i64 c, .int .i64 d, .bool f, .slice ra rn rc, .slice sa sn sc] 35)) := ((Kept.refl _ _).alloc _).alloc _
  have hp1 := (unhide HP).boxed hst
  refine (I.derive hp1.x hp1.ok _ _).mono ?_
  rintro en w2 ⟨rfl, O1, hO1, hX, hk2⟩
  obtain ⟨b1, b2⟩ := box_two _ _ hk2 (cutO_not (Nat.le_refl _)) (cutO_not (by omega))
  have y1 : w2.cell? ⟨w.heap.size, 1, none⟩ = some (.pointer (some ⟨by_, 0, none⟩)) := by rw [b1, World.cell?_alloc_new]; rfl
  have y2 : w2.cell? ⟨w.heap.size + 1, 2, none⟩ = some (.int .i64 a) := by rw [b2, ← World.size_alloc w, World.cell?_alloc_new]; rfl
  have y3 : w2.cell? ⟨w.heap.size + 1, 3, none⟩ = some (.int .i64 b) := by rw [b2, ← World.size_alloc w, World.cell?_alloc_new]; rfl
  have hr2 := hp1.ref hk2 hO1
  have HOK := hide hp1.ok
  have HK2 := hide hk2
  have HO1 := hide hO1
  have HX := hide hX
  have HST := hide hst
  clear b1 b2 hp1 hk2 hst hX hO1
  go_wp2_with fail
  refine (refDerive_fn hr2 (unhide HOK) _ _).mono ?_
  rintro en w3 ⟨rfl, hy⟩
  have HF : Hid (AfterI I w O e bx by_ w3) := (after_twoI (unhide HST) (unhide HO1) (unhide HX) (unhide HK2) hy ((unhide HOK).derived _ _)).uncut
  clear hr2 hy HX HK2 HO1 HST HOK
  generalize deriveA r a b = v0 at *
  generalize deriveR r a b = v1 at *
  go_wp2
  go_ret
  exact ⟨rfl, unhide HF⟩
set_option maxRecDepth 100000 in
set_option maxHeartbeats 4000000 in
theorem lawI_revoke (I : EngI) {w : World} {O : Tag} {e bx by_ : Nat} {r : RefS} (h : PairI I w O e bx by_ r) (ei a b c d : Int) (f : Bool) (ra : Option Addr) (rn rc : Nat) (sa : Option Addr) (sn sc : Nat) :
    Calls Tryz.prog 14 #[engW bx by_, stepW 5 ei a b c d f (.slice ra rn rc) (.slice sa sn sc)] w fun en w' => en = .returned (.bool true) ∧ AfterI I w O e bx by_ w' := by
  unfold engW stepW
  have HP := hide h
  clear h
  go_enter Tryz.func14, Tryz.ntmps14
  go_wp2_with fail
  have hst : Still w ((w.alloc (.cells #[.pointer (some ⟨bx, 0, none⟩), .pointer (some ⟨by_, 0, none⟩)] 46)).alloc (.cells #[.int .i64 5, .int .i64 ei, .int .i64 a, .int .i64 b, .int .i64 c, .int .i64 d, .bool f, .slice ra rn rc, .slice sa sn sc] 35)) := ((Kept.refl _ _).alloc _).alloc _
  have hp1 := (unhide HP).boxed hst
  refine (I.revoke hp1.x hp1.ok _ _).mono ?_
  rintro en w2 ⟨rfl, O1, hO1, hX, hk2⟩
  obtain ⟨b1, b2⟩ := box_two _ _ hk2 (cutO_not (Nat.le_refl _)) (cutO_not (by omega))
  have y1 : w2.cell? ⟨w.heap.size, 1, none⟩ = some (.pointer (some ⟨by_, 0, none⟩)) := by rw [b1, World.cell?_alloc_new]; rfl
  have y2 : w2.cell? ⟨w.heap.size + 1, 2, none⟩ = some (.int .i64 a) := by rw [b2, ← World.size_alloc w, World.cell?_alloc_new]; rfl
  have y3 : w2.cell? ⟨w.heap.size + 1, 3, none⟩ = some (.int .i64 b) := by rw [b2, ← World.size_alloc w, World.cell?_alloc_new]; rfl
  have hr2 := hp1.ref hk2 hO1
  have HOK := hide hp1.ok
  have HK2 := hide hk2
  have HO1 := hide hO1
  have HX := hide hX
  have HST := hide hst
  clear b1 b2 hp1 hk2 hst hX hO1
  go_wp2_with fail
  refine (refRevoke_fn hr2 (unhide HOK) _ _).mono ?_
  rintro en w3 ⟨rfl, hy⟩
  have HF : Hid (AfterI I w O e bx by_ w3) := (after_twoI (unhide HST) (unhide HO1) (unhide HX) (unhide HK2) hy ((unhide HOK).revoked _ _)).uncut
  clear hr2 hy HX HK2 HO1 HST HOK
  generalize revokeR r a b = v0 at *
  go_wp2
  go_ret
  exact ⟨rfl, unhide HF⟩
set_option maxRecDepth 100000 in
set_option maxHeartbeats 4000000 in
theorem lawI_insert (I : EngI) (J : EngI2 I) {w : World} {O : Tag} {e bx by_ : Nat} {r : RefS} (h : PairI I w O e bx by_ r) (ei a b c d : Int) (f : Bool) (ra : Option Addr) (rn rc : Nat) (sa : Option Addr) (sn sc : Nat) :
    Calls Tryz.prog 15 #[engW bx by_, stepW 6 ei a b c d f (.slice ra rn rc) (.slice sa sn sc)] w fun en w' => en = .returned (.bool true) ∧ AfterI I w O e bx by_ w' := by
  unfold engW stepW
  have HP := hide h
  clear h
  go_enter Tryz.func15, Tryz.ntmps15
  go_wp2_with fail
  have hst : Still w ((w.alloc (.cells #[.pointer (some ⟨bx, 0, none⟩), .pointer (some ⟨by_, 0, none⟩)] 46)).alloc (.cells #[.int .i64 6, .int .i64 ei, .int .i64 a, .int .i64 b, .int .i64 c, .int .i64 d, .bool f, .slice ra rn rc, .slice sa sn sc] 35)) := ((Kept.refl _ _).alloc _).alloc _
  have hp1 := (unhide HP).boxed hst
  refine (J.insert hp1.x hp1.ok _ _ _ _).mono ?_
  rintro en w2 ⟨rfl, O1, hO1, hX, hk2⟩
  obtain ⟨b1, b2⟩ := box_two _ _ hk2 (cutO_not (Nat.le_refl _)) (cutO_not (by omega))
  have y1 : w2.cell? ⟨w.heap.size, 1, none⟩ = some (.pointer (some ⟨by_, 0, none⟩)) := by rw [b1, World.cell?_alloc_new]; rfl
  have y2 : w2.cell? ⟨w.heap.size + 1, 2, none⟩ = some (.int .i64 a) := by rw [b2, ← World.size_alloc w, World.cell?_alloc_new]; rfl
  have y3 : w2.cell? ⟨w.heap.size + 1, 3, none⟩ = some (.int .i64 b) := by rw [b2, ← World.size_alloc w, World.cell?_alloc_new]; rfl
  have y4 : w2.cell? ⟨w.heap.size + 1, 4, none⟩ = some (.int .i64 c) := by rw [b2, ← World.size_alloc w, World.cell?_alloc_new]; rfl
  have y5 : w2.cell? ⟨w.heap.size + 1, 5, none⟩ = some (.int .i64 d) := by rw [b2, ← World.size_alloc w, World.cell?_alloc_new]; rfl
  have hr2 := hp1.ref hk2 hO1
  have HOK := hide hp1.ok
  have HK2 := hide hk2
  have HO1 := hide hO1
  have HX := hide hX
  have HST := hide hst
  clear b1 b2 hp1 hk2 hst hX hO1
  go_wp2_with fail
  refine (refInsert_any hr2 (unhide HOK).wf (unhide HOK).tab _ _ _ _).mono ?_
  rintro en w3 ⟨rfl, hy⟩
  have HF : Hid (AfterI I w O e bx by_ w3) := (after_twoI (unhide HST) (unhide HO1) (unhide HX) (unhide HK2) hy ((unhide HOK).inserted _ _ _ _)).uncut
  clear hr2 hy HX HK2 HO1 HST HOK
  generalize insertR r a b c d = v0 at *
  go_wp2
  go_ret
  exact ⟨rfl, unhide HF⟩
set_option maxRecDepth 100000 in
set_option maxHeartbeats 4000000 in
theorem lawI_remove (I : EngI) (J : EngI2 I) {w : World} {O : Tag} {e bx by_ : Nat} {r : RefS} (h : PairI I w O e bx by_ r) (ei a b c d : Int) (f : Bool) (ra : Option Addr) (rn rc : Nat) (sa : Option Addr) (sn sc : Nat) :
    Calls Tryz.prog 15 #[engW bx by_, stepW 7 ei a b c d f (.slice ra rn rc) (.slice sa sn sc)] w fun en w' => en = .returned (.bool true) ∧ AfterI I w O e bx by_ w' := by
  unfold engW stepW
  have HP := hide h
  clear h
  go_enter Tryz.func15, Tryz.ntmps15
  go_wp2_with fail
  have hst : Still w ((w.alloc (.cells #[.pointer (some ⟨bx, 0, none⟩), .pointer (some ⟨by_, 0, none⟩)] 46)).alloc (.cells #[.int .i64 7, .int .i64 ei, .int .i64 a, .int .i64 b, .int .i64 c, .int .i64 d, .bool f, .slice ra rn rc, .slice sa sn sc] 35)) := ((Kept.refl _ _).alloc _).alloc _
  have hp1 := (unhide HP).boxed hst
  refine (J.remove hp1.x hp1.ok _ _ _).mono ?_
  rintro en w2 ⟨rfl, O1, hO1, hX, hk2⟩
  obtain ⟨b1, b2⟩ := box_two _ _ hk2 (cutO_not (Nat.le_refl _)) (cutO_not (by omega))
  have y1 : w2.cell? ⟨w.heap.size, 1, none⟩ = some (.pointer (some ⟨by_, 0, none⟩)) := by rw [b1, World.cell?_alloc_new]; rfl
  have y2 : w2.cell? ⟨w.heap.size + 1, 2, none⟩ = some (.int .i64 a) := by rw [b2, ← World.size_alloc w, World.cell?_alloc_new]; rfl
  have y3 : w2.cell? ⟨w.heap.size + 1, 3, none⟩ = some (.int .i64 b) := by rw [b2, ← World.size_alloc w, World.cell?_alloc_new]; rfl
  have y4 : w2.cell? ⟨w.heap.size + 1, 4, none⟩ = some (.int .i64 c) := by rw [b2, ← World.size_alloc w, World.cell?_alloc_new]; rfl
  have hr2 := hp1.ref hk2 hO1
  have HOK := hide hp1.ok
  have HK2 := hide hk2
  have HO1 := hide hO1
  have HX := hide hX
  have HST := hide hst
  clear b1 b2 hp1 hk2 hst hX hO1
  go_wp2_with fail
  refine (refRemove_any hr2 (unhide HOK).wf (unhide HOK).tab _ _ _).mono ?_
  rintro en w3 ⟨rfl, hy⟩
  have HF : Hid (AfterI I w O e bx by_ w3) := (after_twoI (unhide HST) (unhide HO1) (unhide HX) (unhide HK2) hy ((unhide HOK).removed _ _ _)).uncut
  clear hr2 hy HX HK2 HO1 HST HOK
  generalize removeR r a b c = v0 at *
  go_wp2
  go_ret
  exact ⟨rfl, unhide HF⟩
set_option maxRecDepth 100000 in
set_option maxHeartbeats 4000000 in
theorem lawI_share (I : EngI) (J : EngI2 I) {w : World} {O : Tag} {e bx by_ : Nat} {r : RefS} (h : PairI I w O e bx by_ r) (ei a b c d : Int) (f : Bool) (ra : Option Addr) (rn rc : Nat) (sa : Option Addr) (sn sc : Nat) :
    Calls Tryz.prog 15 #[engW bx by_, stepW 8 ei a b c d f (.slice ra rn rc) (.slice sa sn sc)] w fun en w' => en = .returned (.bool true) ∧ AfterI I w O e bx by_ w' := by
  unfold engW stepW
  have HP := hide h
  clear h
  go_enter Tryz.func15, Tryz.ntmps15
  go_wp2_with fail
  have hst : Still w ((w.alloc (.cells #[.pointer (some ⟨bx, 0, none⟩), .pointer (some ⟨by_, 0, none⟩)] 46)).alloc (.cells #[.int .i64 8, .int .i64 ei, .int .i64 a, .int .i64 b, .int .i64 c, .int .i64 d, .bool f, .slice ra rn rc, .slice sa sn sc] 35)) := ((Kept.refl _ _).alloc _).alloc _
  have hp1 := (unhide HP).boxed hst
  refine (J.share hp1.x hp1.ok _ _ _).mono ?_
  rintro en w2 ⟨rfl, O1, hO1, hX, hk2⟩
  obtain ⟨b1, b2⟩ := box_two _ _ hk2 (cutO_not (Nat.le_refl _)) (cutO_not (by omega))
  have y1 : w2.cell? ⟨w.heap.size, 1, none⟩ = some (.pointer (some ⟨by_, 0, none⟩)) := by rw [b1, World.cell?_alloc_new]; rfl
  have y2 : w2.cell? ⟨w.heap.size + 1, 2, none⟩ = some (.int .i64 a) := by rw [b2, ← World.size_alloc w, World.cell?_alloc_new]; rfl
  have y3 : w2.cell? ⟨w.heap.size + 1, 3, none⟩ = some (.int .i64 b) := by rw [b2, ← World.size_alloc w, World.cell?_alloc_new]; rfl
  have y4 : w2.cell? ⟨w.heap.size + 1, 4, none⟩ = some (.int .i64 c) := by rw [b2, ← World.size_alloc w, World.cell?_alloc_new]; rfl
  have hr2 := hp1.ref hk2 hO1
  have HOK := hide hp1.ok
  have HK2 := hide hk2
  have HO1 := hide hO1
  have HX := hide hX
  have HST := hide hst
  clear b1 b2 hp1 hk2 hst hX hO1
  go_wp2_with fail
  refine (refShare_fn hr2 (unhide HOK) _ _ _).mono ?_
  rintro en w3 ⟨rfl, hy⟩
  have HF : Hid (AfterI I w O e bx by_ w3) := (after_twoI (unhide HST) (unhide HO1) (unhide HX) (unhide HK2) hy ((unhide HOK).shared _ _ _)).uncut
  clear hr2 hy HX HK2 HO1 HST HOK
  generalize shareR r a b c = v0 at *
  go_wp2
  go_ret
  exact ⟨rfl, unhide HF⟩
end Go.Proofs.YtgndledehlilkaaGreat
