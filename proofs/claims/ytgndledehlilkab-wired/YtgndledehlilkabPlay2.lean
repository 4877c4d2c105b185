/-
  Steps of a script: play.
-/
import Derived.Test.YtgndledehlilkabPlay1
import Derived.Test.YtgndledehlilkabOrd4
import Derived.Test.YtgndledehlilkabPrV
import Derived.Deep.MidRow
namespace Go.Proofs.Ytgndledehlilkab
open Go.RowKit

/-- What a step answered. -/
structure ToldD where
  e : Int
  l : List RouteD
  s : SumsD
  r : RouteD
  b : Bool
def su0 : SumsD := ⟨0, 0, 0, 0⟩
def toldE (e : Int) : ToldD := ⟨e, [], su0, rt0, false⟩
def andF (a m : Int) : Int := bits .and .i64 a m
/-- What a step answers, and what it leaves. -/
def playT (r : RefS) (n : Int) (o : OpD) (mk : Int) : ToldD :=
  if pickF o.kind 8 = 0 then toldE (insertR r n (pfxA o.a o.b) (pfxL o.b) (pickF o.c 256))
  else if pickF o.kind 8 = 1 then toldE (removeR r n (pfxA o.a o.b) (pfxL o.b))
  else if pickF o.kind 8 = 2 then toldE (shareR r n (andF o.a mk) (andF o.b mk))
  else if pickF o.kind 8 = 3 then toldE (filterR r n (rulesF o))
  else if pickF o.kind 8 = 4 then ⟨mayI r n 1, tableL r n, su0, rt0, false⟩
  else if pickF o.kind 8 = 5 then ⟨mayI r n 1, [], countF r n, rt0, false⟩
  else if pickF o.kind 8 = 6 then ⟨lookR r n (pickF o.a 65536), [], su0, lookA r n (pickF o.a 65536), false⟩
  else ⟨passR r n (pickF o.a 65536) (pickF o.c 256), [], su0, rt0, passA r n (pickF o.a 65536) (pickF o.c 256) (andF o.d 1 == 1)⟩
def playS (r : RefS) (n : Int) (o : OpD) (mk : Int) : RefS :=
  if pickF o.kind 8 = 0 then insertedR r n (pfxA o.a o.b) (pfxL o.b) (pickF o.c 256)
  else if pickF o.kind 8 = 1 then removedR r n (pfxA o.a o.b) (pfxL o.b)
  else if pickF o.kind 8 = 2 then sharedR r n (andF o.a mk) (andF o.b mk)
  else if pickF o.kind 8 = 3 then filteredR r n (rulesF o)
  else r
/-- An answer in a block of its own. -/
structure ToldAt (w : World) (s : Nat) (t : ToldD) (lv : Value) : Prop where
  lt : s < w.heap.size
  fz : ∀ j, w.frozen? ⟨s, j, none⟩ = false
  c0 : w.cell? ⟨s, 0, none⟩ = some (.int .i64 t.e)
  c1 : w.cell? ⟨s, 1, none⟩ = some lv
  c2 : w.cell? ⟨s, 2, none⟩ = some (.int .i64 t.s.own)
  c3 : w.cell? ⟨s, 3, none⟩ = some (.int .i64 t.s.taken)
  c4 : w.cell? ⟨s, 4, none⟩ = some (.int .i64 t.s.dropped)
  c5 : w.cell? ⟨s, 5, none⟩ = some (.int .i64 t.s.quota)
  c6 : w.cell? ⟨s, 6, none⟩ = some (.int .i64 t.r.addr)
  c7 : w.cell? ⟨s, 7, none⟩ = some (.int .i64 t.r.len)
  c8 : w.cell? ⟨s, 8, none⟩ = some (.int .i64 t.r.hop)
  c9 : w.cell? ⟨s, 9, none⟩ = some (.int .i64 t.r.from_)
  c10 : w.cell? ⟨s, 10, none⟩ = some (.bool t.b)
def toldCells (t : ToldD) (lv : Value) : List Value := [.int .i64 t.e, lv, .int .i64 t.s.own, .int .i64 t.s.taken, .int .i64 t.s.dropped, .int .i64 t.s.quota, .int .i64 t.r.addr, .int .i64 t.r.len, .int .i64 t.r.hop, .int .i64 t.r.from_, .bool t.b]
theorem ToldAt.new (w : World) (ty : TypeId) : ToldAt (w.alloc (.cells (toldCells (toldE 0) (.slice none 0 0)).toArray ty)) w.heap.size (toldE 0) (.slice none 0 0) := by
  refine ⟨by simp, fun j => World.frozen?_alloc_new _ _ _ _, ?_, ?_, ?_, ?_, ?_, ?_, ?_, ?_, ?_, ?_, ?_⟩ <;> rw [World.cell?_alloc_new] <;> rfl
section
variable {w w' : World} {s : Nat} {t : ToldD} {lv : Value} {P : Nat → Prop}
theorem ToldAt.kept (h : ToldAt w s t lv) (hk : Kept P w w') (hp : ¬ P s) : ToldAt w' s t lv :=
  ⟨Nat.lt_of_lt_of_le h.lt hk.size, fun j => (hk.frozen (p := ⟨s, j, none⟩) h.lt hp).trans (h.fz j), (hk.cell (p := ⟨s, 0, none⟩) h.lt hp).trans h.c0, (hk.cell (p := ⟨s, 1, none⟩) h.lt hp).trans h.c1, (hk.cell (p := ⟨s, 2, none⟩) h.lt hp).trans h.c2, (hk.cell (p := ⟨s, 3, none⟩) h.lt hp).trans h.c3, (hk.cell (p := ⟨s, 4, none⟩) h.lt hp).trans h.c4, (hk.cell (p := ⟨s, 5, none⟩) h.lt hp).trans h.c5, (hk.cell (p := ⟨s, 6, none⟩) h.lt hp).trans h.c6, (hk.cell (p := ⟨s, 7, none⟩) h.lt hp).trans h.c7, (hk.cell (p := ⟨s, 8, none⟩) h.lt hp).trans h.c8, (hk.cell (p := ⟨s, 9, none⟩) h.lt hp).trans h.c9, (hk.cell (p := ⟨s, 10, none⟩) h.lt hp).trans h.c10⟩
theorem ToldAt.range (h : ToldAt w s t lv) : w.rangeAt s 0 (toldCells t lv) := by
  intro j v hv
  rw [Nat.zero_add]
  unfold toldCells at hv
  rcases j with _ | _ | _ | _ | _ | _ | _ | _ | _ | _ | _ | j <;> simp at hv
  · rw [← hv]; exact h.c0
  · rw [← hv]; exact h.c1
  · rw [← hv]; exact h.c2
  · rw [← hv]; exact h.c3
  · rw [← hv]; exact h.c4
  · rw [← hv]; exact h.c5
  · rw [← hv]; exact h.c6
  · rw [← hv]; exact h.c7
  · rw [← hv]; exact h.c8
  · rw [← hv]; exact h.c9
  · rw [← hv]; exact h.c10
theorem ToldAt.there (h : ToldAt w s t lv) : w.there s 0 11 := by
  intro j hj
  refine ⟨?_, h.fz _⟩
  rw [Nat.zero_add]
  rcases j with _ | _ | _ | _ | _ | _ | _ | _ | _ | _ | _ | j
  · rw [h.c0]; rfl
  · rw [h.c1]; rfl
  · rw [h.c2]; rfl
  · rw [h.c3]; rfl
  · rw [h.c4]; rfl
  · rw [h.c5]; rfl
  · rw [h.c6]; rfl
  · rw [h.c7]; rfl
  · rw [h.c8]; rfl
  · rw [h.c9]; rfl
  · rw [h.c10]; rfl
  · omega
theorem ToldAt.setE (h : ToldAt w s t lv) (v : Int) : ToldAt (w.setCell ⟨s, 0, none⟩ (.int .i64 v)) s { t with e := v } lv := by
  refine ⟨by simpa using h.lt, fun j => by simpa using h.fz j, World.cell?_setCell_same _ _ _ h.c0, ?_, ?_, ?_, ?_, ?_, ?_, ?_, ?_, ?_, ?_⟩ <;> rw [off_cell _ _ _ (by omega)]
  · exact h.c1
  · exact h.c2
  · exact h.c3
  · exact h.c4
  · exact h.c5
  · exact h.c6
  · exact h.c7
  · exact h.c8
  · exact h.c9
  · exact h.c10
theorem ToldAt.setL (h : ToldAt w s t lv) (u : Value) (l : List RouteD) : ToldAt (w.setCell ⟨s, 1, none⟩ u) s { t with l := l } u := by
  refine ⟨by simpa using h.lt, fun j => by simpa using h.fz j, ?_, World.cell?_setCell_same _ _ _ h.c1, ?_, ?_, ?_, ?_, ?_, ?_, ?_, ?_, ?_⟩ <;> rw [off_cell _ _ _ (by omega)]
  · exact h.c0
  · exact h.c2
  · exact h.c3
  · exact h.c4
  · exact h.c5
  · exact h.c6
  · exact h.c7
  · exact h.c8
  · exact h.c9
  · exact h.c10
theorem ToldAt.setB (h : ToldAt w s t lv) (v : Bool) : ToldAt (w.setCell ⟨s, 10, none⟩ (.bool v)) s { t with b := v } lv := by
  refine ⟨by simpa using h.lt, fun j => by simpa using h.fz j, ?_, ?_, ?_, ?_, ?_, ?_, ?_, ?_, ?_, ?_, World.cell?_setCell_same _ _ _ h.c10⟩ <;> rw [off_cell _ _ _ (by omega)]
  · exact h.c0
  · exact h.c1
  · exact h.c2
  · exact h.c3
  · exact h.c4
  · exact h.c5
  · exact h.c6
  · exact h.c7
  · exact h.c8
  · exact h.c9
theorem ToldAt.setS (h : ToldAt w s t lv) (x : SumsD) : ToldAt ((((w.setCell ⟨s, 2, none⟩ (.int .i64 x.own)).setCell ⟨s, 3, none⟩ (.int .i64 x.taken)).setCell ⟨s, 4, none⟩ (.int .i64 x.dropped)).setCell ⟨s, 5, none⟩ (.int .i64 x.quota)) s { t with s := x } lv := by
  have k0 := h.c0; have k1 := h.c1; have k2 := h.c2; have k3 := h.c3; have k4 := h.c4; have k5 := h.c5; have k6 := h.c6; have k7 := h.c7; have k8 := h.c8; have k9 := h.c9; have k10 := h.c10
  refine ⟨by simpa using h.lt, fun j => by simp [h.fz j], ?_, ?_, ?_, ?_, ?_, ?_, ?_, ?_, ?_, ?_, ?_⟩ <;> simp [World.cell?_setCell_same, World.cell?_setCell_other, *]
theorem ToldAt.setR (h : ToldAt w s t lv) (x : RouteD) : ToldAt ((((w.setCell ⟨s, 6, none⟩ (.int .i64 x.addr)).setCell ⟨s, 7, none⟩ (.int .i64 x.len)).setCell ⟨s, 8, none⟩ (.int .i64 x.hop)).setCell ⟨s, 9, none⟩ (.int .i64 x.from_)) s { t with r := x } lv := by
  have k0 := h.c0; have k1 := h.c1; have k2 := h.c2; have k3 := h.c3; have k4 := h.c4; have k5 := h.c5; have k6 := h.c6; have k7 := h.c7; have k8 := h.c8; have k9 := h.c9; have k10 := h.c10
  refine ⟨by simpa using h.lt, fun j => by simp [h.fz j], ?_, ?_, ?_, ?_, ?_, ?_, ?_, ?_, ?_, ?_, ?_⟩ <;> simp [World.cell?_setCell_same, World.cell?_setCell_other, *]
end
theorem infoTold : (Try.prog.info? 44).map (·.size) = some 11 := by kernel_rfl
theorem toldCells_one (t : ToldD) (a : Option Addr) (n c : Nat) : (toldCells t (.slice a n c)).toArray.all (·.oneCell') = true := by simp [toldCells, Value.oneCell']
theorem on_filter0 {w0 w : World} {O : Tag} {e b : Nat} {r r' : RefS} (h : On w0 w O e b r) {n c : Int} {v : Value} {R : List RuleD} (hR : RulesIn w v R) (h0 : filterR r n R = c) (h1 : filteredR r n R = r') : Calls Try.prog 35 #[.pointer (some ⟨b, 0, none⟩), .int .i64 n, v] w fun en w' =>
    en = .returned (.int .i64 c) ∧ Now w0 w O e b r' w' := by
  subst h0 h1
  exact (engX2.filter h.rep h.ok n v R hR).mono fun _ _ q => ⟨q.1, (h.went (h.ok.filtered n R) q.2).now⟩
end Go.Proofs.Ytgndledehlilkab
