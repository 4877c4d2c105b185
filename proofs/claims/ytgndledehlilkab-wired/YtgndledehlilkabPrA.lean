/-
  The program's engine (packages district, tokens, routes, filter): its state as plain data, and how it lies in memory.
-/
import Derived.Test.YtgndledehlilkabPure
import Derived.Deep.DrawnRows
import Derived.Deep.MidRow
import Derived.RegionTactic
namespace Go.Proofs.Ytgndledehlilkab
open Go.RowKit

structure ProgS where
  room : Int
  quota : Nat → Int
  gives : Nat → Int
  takes : Nat → Int
  rules : Nat → List RuleD
  own : Nat → List RouteD
  given : Nat
  tenant : Nat → Int
  rights : Nat → Int
  parent : Nat → Nat
  ended : Nat → Bool
def pad (l : List RouteD) : Nat → RouteD := fun j => l.getD j rt0
def padR (l : List RuleD) : Nat → RuleD := fun j => l.getD j ru0
/-- Between w and w' nothing old has turned but cells of block b, from o on, n of them. -/
structure Within (b o n : Nat) (w w' : World) : Prop where
  kept : Kept (· = b) w w'
  cell : ∀ j, (j < o ∨ o + n ≤ j) → w'.cell? ⟨b, j, none⟩ = w.cell? ⟨b, j, none⟩
  fz : ∀ j, w'.frozen? ⟨b, j, none⟩ = w.frozen? ⟨b, j, none⟩
theorem Within.refl (b o n : Nat) (w : World) : Within b o n w w := ⟨Kept.refl _ _, fun _ _ => rfl, fun _ => rfl⟩
theorem Within.trans {b o n : Nat} {w w1 w2 : World} (h : Within b o n w w1) (k : Within b o n w1 w2) : Within b o n w w2 :=
  ⟨h.kept.trans k.kept, fun j hj => (k.cell j hj).trans (h.cell j hj), fun j => (k.fz j).trans (h.fz j)⟩
theorem Within.still {b o n : Nat} {w w1 w2 : World} (h : Within b o n w w1) (hb : b < w1.heap.size) (k : Still w1 w2) : Within b o n w w2 :=
  ⟨h.kept.trans (Still.kept k _), fun j hj => (k.cell b j hb).trans (h.cell j hj), fun j => (k.frozen b j hb).trans (h.fz j)⟩
theorem Within.of_still {b o n : Nat} {w w2 : World} (hb : b < w.heap.size) (k : Still w w2) : Within b o n w w2 := (Within.refl b o n w).still hb k
theorem Within.setCell {b o n : Nat} {w w1 : World} (h : Within b o n w w1) {j : Nat} (hj : o ≤ j ∧ j < o + n) (u : Value) : Within b o n w (w1.setCell ⟨b, j, none⟩ u) := by
  refine ⟨Kept.setCell h.kept (p := ⟨b, j, none⟩) (.inl rfl) u, fun i hi => ?_, fun i => ?_⟩
  · rw [World.cell?_setCell_other _ _ _ _ (fun hh => by have e : j = i := congrArg Addr.off hh; omega)]
    exact h.cell i hi
  · rw [World.frozen?_setCell]
    exact h.fz i
theorem Within.wider {b o n o' n' : Nat} {w w1 : World} (h : Within b o n w w1) (h1 : o' ≤ o) (h2 : o + n ≤ o' + n') : Within b o' n' w w1 :=
  ⟨h.kept, fun j hj => h.cell j (by omega), h.fz⟩
/-- A list of routes, from cell o of block b on: n routes, and what lies in the 64 places. -/
structure LAt (w : World) (b o n : Nat) (f : Nat → RouteD) : Prop where
  lt : b < w.heap.size
  fz : ∀ j, w.frozen? ⟨b, j, none⟩ = false
  most : n ≤ 64
  cnt : w.cell? ⟨b, o, none⟩ = some (.int .i64 (n : Int))
  addr : ∀ j, j < 64 → w.cell? ⟨b, o + 1 + j * 4, none⟩ = some (.int .i64 (f j).addr)
  len : ∀ j, j < 64 → w.cell? ⟨b, o + 1 + j * 4 + 1, none⟩ = some (.int .i64 (f j).len)
  hop : ∀ j, j < 64 → w.cell? ⟨b, o + 1 + j * 4 + 2, none⟩ = some (.int .i64 (f j).hop)
  frm : ∀ j, j < 64 → w.cell? ⟨b, o + 1 + j * 4 + 3, none⟩ = some (.int .i64 (f j).from_)
/-- Rules, likewise. -/
structure RAt (w : World) (b o n : Nat) (f : Nat → RuleD) : Prop where
  lt : b < w.heap.size
  fz : ∀ j, w.frozen? ⟨b, j, none⟩ = false
  most : n ≤ 4
  cnt : w.cell? ⟨b, o, none⟩ = some (.int .i64 (n : Int))
  allow : ∀ j, j < 4 → w.cell? ⟨b, o + 1 + j * 5, none⟩ = some (.bool (f j).allow)
  addr : ∀ j, j < 4 → w.cell? ⟨b, o + 1 + j * 5 + 1, none⟩ = some (.int .i64 (f j).addr)
  len : ∀ j, j < 4 → w.cell? ⟨b, o + 1 + j * 5 + 2, none⟩ = some (.int .i64 (f j).len)
  ge : ∀ j, j < 4 → w.cell? ⟨b, o + 1 + j * 5 + 3, none⟩ = some (.int .i64 (f j).ge)
  le : ∀ j, j < 4 → w.cell? ⟨b, o + 1 + j * 5 + 4, none⟩ = some (.int .i64 (f j).le)
section
variable {w w' : World} {b o n : Nat}
theorem LAt.apart {f : Nat → RouteD} (h : LAt w b o n f) (hl : b < w'.heap.size) (hf : ∀ j, w'.frozen? ⟨b, j, none⟩ = w.frozen? ⟨b, j, none⟩) (hc : ∀ j, o ≤ j → j < o + 257 → w'.cell? ⟨b, j, none⟩ = w.cell? ⟨b, j, none⟩) : LAt w' b o n f :=
  ⟨hl, fun j => (hf j).trans (h.fz j), h.most, (hc _ (by omega) (by omega)).trans h.cnt, fun j hj => (hc _ (by omega) (by omega)).trans (h.addr j hj), fun j hj => (hc _ (by omega) (by omega)).trans (h.len j hj), fun j hj => (hc _ (by omega) (by omega)).trans (h.hop j hj), fun j hj => (hc _ (by omega) (by omega)).trans (h.frm j hj)⟩
theorem LAt.frame {f : Nat → RouteD} (h : LAt w b o n f) (hl : b < w'.heap.size) (hk : w'.heap[b]? = w.heap[b]?) : LAt w' b o n f :=
  h.apart hl (fun j => World.frozen?_of_block (w := w) (a := ⟨b, j, none⟩) hk) (fun j _ _ => World.cell?_of_block (w := w) (a := ⟨b, j, none⟩) hk)
theorem LAt.still {f : Nat → RouteD} (h : LAt w b o n f) (hs : Still w w') : LAt w' b o n f := h.frame (Nat.lt_of_lt_of_le h.lt hs.size) (hs.heap h.lt)
theorem LAt.congr {f g : Nat → RouteD} (h : LAt w b o n f) (e : ∀ j, j < 64 → f j = g j) : LAt w b o n g :=
  ⟨h.lt, h.fz, h.most, h.cnt, fun j hj => by rw [← e j hj]; exact h.addr j hj, fun j hj => by rw [← e j hj]; exact h.len j hj, fun j hj => by rw [← e j hj]; exact h.hop j hj, fun j hj => by rw [← e j hj]; exact h.frm j hj⟩
theorem RAt.apart {f : Nat → RuleD} (h : RAt w b o n f) (hl : b < w'.heap.size) (hf : ∀ j, w'.frozen? ⟨b, j, none⟩ = w.frozen? ⟨b, j, none⟩) (hc : ∀ j, o ≤ j → j < o + 21 → w'.cell? ⟨b, j, none⟩ = w.cell? ⟨b, j, none⟩) : RAt w' b o n f :=
  ⟨hl, fun j => (hf j).trans (h.fz j), h.most, (hc _ (by omega) (by omega)).trans h.cnt, fun j hj => (hc _ (by omega) (by omega)).trans (h.allow j hj), fun j hj => (hc _ (by omega) (by omega)).trans (h.addr j hj), fun j hj => (hc _ (by omega) (by omega)).trans (h.len j hj), fun j hj => (hc _ (by omega) (by omega)).trans (h.ge j hj), fun j hj => (hc _ (by omega) (by omega)).trans (h.le j hj)⟩
theorem RAt.frame {f : Nat → RuleD} (h : RAt w b o n f) (hl : b < w'.heap.size) (hk : w'.heap[b]? = w.heap[b]?) : RAt w' b o n f :=
  h.apart hl (fun j => World.frozen?_of_block (w := w) (a := ⟨b, j, none⟩) hk) (fun j _ _ => World.cell?_of_block (w := w) (a := ⟨b, j, none⟩) hk)
theorem RAt.still {f : Nat → RuleD} (h : RAt w b o n f) (hs : Still w w') : RAt w' b o n f := h.frame (Nat.lt_of_lt_of_le h.lt hs.size) (hs.heap h.lt)
theorem RAt.congr {f g : Nat → RuleD} (h : RAt w b o n f) (e : ∀ j, j < 4 → f j = g j) : RAt w b o n g :=
  ⟨h.lt, h.fz, h.most, h.cnt, fun j hj => by rw [← e j hj]; exact h.allow j hj, fun j hj => by rw [← e j hj]; exact h.addr j hj, fun j hj => by rw [← e j hj]; exact h.len j hj, fun j hj => by rw [← e j hj]; exact h.ge j hj, fun j hj => by rw [← e j hj]; exact h.le j hj⟩
theorem off_cell (w : World) (b : Nat) {i j : Nat} (u : Value) (h : i ≠ j) : (w.setCell ⟨b, j, none⟩ u).cell? ⟨b, i, none⟩ = w.cell? ⟨b, i, none⟩ :=
  World.cell?_setCell_other _ _ _ _ (fun hh => by have e : j = i := congrArg Addr.off hh; exact h e.symm)
/-- A route into place k of a list. -/
theorem LAt.put {f : Nat → RouteD} (h : LAt w b o n f) {k : Nat} (hk : k < 64) (x : RouteD) :
    LAt ((((w.setCell ⟨b, o + 1 + k * 4, none⟩ (.int .i64 x.addr)).setCell ⟨b, o + 1 + k * 4 + 1, none⟩ (.int .i64 x.len)).setCell ⟨b, o + 1 + k * 4 + 2, none⟩ (.int .i64 x.hop)).setCell ⟨b, o + 1 + k * 4 + 3, none⟩ (.int .i64 x.from_)) b o n (upd f k x) := by
  refine ⟨by simpa using h.lt, fun j => by simpa using h.fz j, h.most, ?_, fun j hj => ?_, fun j hj => ?_, fun j hj => ?_, fun j hj => ?_⟩
  · rw [off_cell _ _ _ (by omega), off_cell _ _ _ (by omega), off_cell _ _ _ (by omega), off_cell _ _ _ (by omega)]; exact h.cnt
  · rw [off_cell _ _ _ (by omega), off_cell _ _ _ (by omega), off_cell _ _ _ (by omega)]
    by_cases e : j = k
    · subst e; rw [upd_same]; exact World.cell?_setCell_same _ _ _ (h.addr j hj)
    · rw [off_cell _ _ _ (by omega), upd_other _ _ e]; exact h.addr j hj
  · rw [off_cell _ _ _ (by omega), off_cell _ _ _ (by omega)]
    by_cases e : j = k
    · subst e; rw [upd_same]; exact World.cell?_setCell_same _ _ _ (by rw [off_cell _ _ _ (by omega)]; exact h.len j hj)
    · rw [off_cell _ _ _ (by omega), off_cell _ _ _ (by omega), upd_other _ _ e]; exact h.len j hj
  · rw [off_cell _ _ _ (by omega)]
    by_cases e : j = k
    · subst e; rw [upd_same]; exact World.cell?_setCell_same _ _ _ (by rw [off_cell _ _ _ (by omega), off_cell _ _ _ (by omega)]; exact h.hop j hj)
    · rw [off_cell _ _ _ (by omega), off_cell _ _ _ (by omega), off_cell _ _ _ (by omega), upd_other _ _ e]; exact h.hop j hj
  · by_cases e : j = k
    · subst e; rw [upd_same]; exact World.cell?_setCell_same _ _ _ (by rw [off_cell _ _ _ (by omega), off_cell _ _ _ (by omega), off_cell _ _ _ (by omega)]; exact h.frm j hj)
    · rw [off_cell _ _ _ (by omega), off_cell _ _ _ (by omega), off_cell _ _ _ (by omega), off_cell _ _ _ (by omega), upd_other _ _ e]; exact h.frm j hj
theorem LAt.setCnt {f : Nat → RouteD} (h : LAt w b o n f) {m : Nat} (hm : m ≤ 64) : LAt (w.setCell ⟨b, o, none⟩ (.int .i64 (m : Int))) b o m f :=
  ⟨by simpa using h.lt, fun j => by simpa using h.fz j, hm, World.cell?_setCell_same _ _ _ h.cnt, fun j hj => by rw [off_cell _ _ _ (by omega)]; exact h.addr j hj, fun j hj => by rw [off_cell _ _ _ (by omega)]; exact h.len j hj, fun j hj => by rw [off_cell _ _ _ (by omega)]; exact h.hop j hj, fun j hj => by rw [off_cell _ _ _ (by omega)]; exact h.frm j hj⟩
theorem RAt.put {f : Nat → RuleD} (h : RAt w b o n f) {k : Nat} (hk : k < 4) (x : RuleD) :
    RAt (((((w.setCell ⟨b, o + 1 + k * 5, none⟩ (.bool x.allow)).setCell ⟨b, o + 1 + k * 5 + 1, none⟩ (.int .i64 x.addr)).setCell ⟨b, o + 1 + k * 5 + 2, none⟩ (.int .i64 x.len)).setCell ⟨b, o + 1 + k * 5 + 3, none⟩ (.int .i64 x.ge)).setCell ⟨b, o + 1 + k * 5 + 4, none⟩ (.int .i64 x.le)) b o n (upd f k x) := by
  refine ⟨by simpa using h.lt, fun j => by simpa using h.fz j, h.most, ?_, fun j hj => ?_, fun j hj => ?_, fun j hj => ?_, fun j hj => ?_, fun j hj => ?_⟩
  · rw [off_cell _ _ _ (by omega), off_cell _ _ _ (by omega), off_cell _ _ _ (by omega), off_cell _ _ _ (by omega), off_cell _ _ _ (by omega)]; exact h.cnt
  · rw [off_cell _ _ _ (by omega), off_cell _ _ _ (by omega), off_cell _ _ _ (by omega), off_cell _ _ _ (by omega)]
    by_cases e : j = k
    · subst e; rw [upd_same]; exact World.cell?_setCell_same _ _ _ (h.allow j hj)
    · rw [off_cell _ _ _ (by omega), upd_other _ _ e]; exact h.allow j hj
  · rw [off_cell _ _ _ (by omega), off_cell _ _ _ (by omega), off_cell _ _ _ (by omega)]
    by_cases e : j = k
    · subst e; rw [upd_same]; exact World.cell?_setCell_same _ _ _ (by rw [off_cell _ _ _ (by omega)]; exact h.addr j hj)
    · rw [off_cell _ _ _ (by omega), off_cell _ _ _ (by omega), upd_other _ _ e]; exact h.addr j hj
  · rw [off_cell _ _ _ (by omega), off_cell _ _ _ (by omega)]
    by_cases e : j = k
    · subst e; rw [upd_same]; exact World.cell?_setCell_same _ _ _ (by rw [off_cell _ _ _ (by omega), off_cell _ _ _ (by omega)]; exact h.len j hj)
    · rw [off_cell _ _ _ (by omega), off_cell _ _ _ (by omega), off_cell _ _ _ (by omega), upd_other _ _ e]; exact h.len j hj
  · rw [off_cell _ _ _ (by omega)]
    by_cases e : j = k
    · subst e; rw [upd_same]; exact World.cell?_setCell_same _ _ _ (by rw [off_cell _ _ _ (by omega), off_cell _ _ _ (by omega), off_cell _ _ _ (by omega)]; exact h.ge j hj)
    · rw [off_cell _ _ _ (by omega), off_cell _ _ _ (by omega), off_cell _ _ _ (by omega), off_cell _ _ _ (by omega), upd_other _ _ e]; exact h.ge j hj
  · by_cases e : j = k
    · subst e; rw [upd_same]; exact World.cell?_setCell_same _ _ _ (by rw [off_cell _ _ _ (by omega), off_cell _ _ _ (by omega), off_cell _ _ _ (by omega), off_cell _ _ _ (by omega)]; exact h.le j hj)
    · rw [off_cell _ _ _ (by omega), off_cell _ _ _ (by omega), off_cell _ _ _ (by omega), off_cell _ _ _ (by omega), off_cell _ _ _ (by omega), upd_other _ _ e]; exact h.le j hj
theorem RAt.setCnt {f : Nat → RuleD} (h : RAt w b o n f) {m : Nat} (hm : m ≤ 4) : RAt (w.setCell ⟨b, o, none⟩ (.int .i64 (m : Int))) b o m f :=
  ⟨by simpa using h.lt, fun j => by simpa using h.fz j, hm, World.cell?_setCell_same _ _ _ h.cnt, fun j hj => by rw [off_cell _ _ _ (by omega)]; exact h.allow j hj, fun j hj => by rw [off_cell _ _ _ (by omega)]; exact h.addr j hj, fun j hj => by rw [off_cell _ _ _ (by omega)]; exact h.len j hj, fun j hj => by rw [off_cell _ _ _ (by omega)]; exact h.ge j hj, fun j hj => by rw [off_cell _ _ _ (by omega)]; exact h.le j hj⟩
end
/-- The engine x in block b. -/
structure XAt (w : World) (b : Nat) (p : ProgS) : Prop where
  lt : b < w.heap.size
  fz : ∀ j, w.frozen? ⟨b, j, none⟩ = false
  room : w.cell? ⟨b, 0, none⟩ = some (.int .i64 p.room)
  quota : ∀ i, i < 8 → w.cell? ⟨b, 1 + i * 281, none⟩ = some (.int .i64 (p.quota i))
  gives : ∀ i, i < 8 → w.cell? ⟨b, 1 + i * 281 + 1, none⟩ = some (.int .i64 (p.gives i))
  takes : ∀ i, i < 8 → w.cell? ⟨b, 1 + i * 281 + 2, none⟩ = some (.int .i64 (p.takes i))
  rl : ∀ i, i < 8 → RAt w b (1 + i * 281 + 3) (p.rules i).length (padR (p.rules i))
  ow : ∀ i, i < 8 → LAt w b (1 + i * 281 + 24) (p.own i).length (pad (p.own i))
  given : w.cell? ⟨b, 2249, none⟩ = some (.int .i64 (p.given : Int))
  tenant : ∀ i, i < 100 → w.cell? ⟨b, 2250 + i * 4, none⟩ = some (.int .i64 (p.tenant i))
  rights : ∀ i, i < 100 → w.cell? ⟨b, 2250 + i * 4 + 1, none⟩ = some (.int .i64 (p.rights i))
  parent : ∀ i, i < 100 → w.cell? ⟨b, 2250 + i * 4 + 2, none⟩ = some (.int .i64 (p.parent i : Int))
  ended : ∀ i, i < 100 → w.cell? ⟨b, 2250 + i * 4 + 3, none⟩ = some (.bool (p.ended i))

structure ProgWf (p : ProgS) : Prop where
  room : 1 ≤ p.room ∧ p.room ≤ 64
  quota : ∀ i, i < 8 → 0 ≤ p.quota i ∧ p.quota i ≤ 64
  given : p.given ≤ 100
  rights : ∀ k, k < p.given → 0 ≤ p.rights k ∧ p.rights k ≤ 15
  parent : ∀ k, k < p.given → p.parent k ≤ k

section
variable {w w' : World} {b : Nat} {p : ProgS}
theorem XAt.frame (h : XAt w b p) (hk : w'.heap[b]? = w.heap[b]?) : XAt w' b p := by
  have hc : ∀ j, w'.cell? ⟨b, j, none⟩ = w.cell? ⟨b, j, none⟩ := fun j => World.cell?_of_block (w := w) (a := ⟨b, j, none⟩) hk
  have hf : ∀ j, w'.frozen? ⟨b, j, none⟩ = w.frozen? ⟨b, j, none⟩ := fun j => World.frozen?_of_block (w := w) (a := ⟨b, j, none⟩) hk
  have hl : b < w'.heap.size := by
    have h1 := (hc 0).trans h.room
    exact World.block_lt_of_cell? w' ⟨b, 0, none⟩ h1
  exact ⟨hl, fun j => (hf j).trans (h.fz j), (hc _).trans h.room, fun i hi => (hc _).trans (h.quota i hi), fun i hi => (hc _).trans (h.gives i hi), fun i hi => (hc _).trans (h.takes i hi), fun i hi => (h.rl i hi).frame hl hk, fun i hi => (h.ow i hi).frame hl hk, (hc _).trans h.given, fun k hk => (hc _).trans (h.tenant k hk), fun k hk => (hc _).trans (h.rights k hk), fun k hk => (hc _).trans (h.parent k hk), fun k hk => (hc _).trans (h.ended k hk)⟩
theorem XAt.still (h : XAt w b p) (hs : Still w w') : XAt w' b p := h.frame (hs.heap h.lt)
theorem XAt.off (h : XAt w b p) (j : Nat) (u : Value) : b < (w.setCell ⟨b, j, none⟩ u).heap.size ∧ (∀ i, (w.setCell ⟨b, j, none⟩ u).frozen? ⟨b, i, none⟩ = false) ∧ (∀ i, i ≠ j → (w.setCell ⟨b, j, none⟩ u).cell? ⟨b, i, none⟩ = w.cell? ⟨b, i, none⟩) ∧ (∀ i, (w.setCell ⟨b, j, none⟩ u).frozen? ⟨b, i, none⟩ = w.frozen? ⟨b, i, none⟩) := by
  refine ⟨by simpa using h.lt, fun i => by simpa using h.fz i, fun i hi => off_cell _ _ _ hi, fun i => World.frozen?_setCell _ _ _ _⟩
theorem XAt.setQuota (h : XAt w b p) {k : Nat} (hk : k < 8) (v : Int) : XAt (w.setCell ⟨b, 1 + k * 281, none⟩ (.int .i64 v)) b { p with quota := upd p.quota k v } := by
  obtain ⟨hl, hf, ho, hz⟩ := h.off (1 + k * 281) (.int .i64 v)
  have hs : (w.setCell ⟨b, 1 + k * 281, none⟩ (.int .i64 v)).cell? ⟨b, 1 + k * 281, none⟩ = some (.int .i64 v) := World.cell?_setCell_same _ _ _ (h.quota k hk)
  refine ⟨hl, hf, ?_, ?_, ?_, ?_, ?_, ?_, ?_, ?_, ?_, ?_, ?_⟩
  · rw [ho _ (by omega)]; exact h.room
  · intro i hi
    by_cases e : i = k
    · subst e; rw [hs]; simp only [upd_same]
    · rw [ho _ (by omega)]; simp only [upd_other _ _ e]; exact h.quota i hi
  · intro i hi; rw [ho _ (by omega)]; exact h.gives i hi
  · intro i hi; rw [ho _ (by omega)]; exact h.takes i hi
  · intro i hi; exact (h.rl i hi).apart hl hz (fun j h1 h2 => ho j (by omega))
  · intro i hi; exact (h.ow i hi).apart hl hz (fun j h1 h2 => ho j (by omega))
  · rw [ho _ (by omega)]; exact h.given
  · intro i hi; rw [ho _ (by omega)]; exact h.tenant i hi
  · intro i hi; rw [ho _ (by omega)]; exact h.rights i hi
  · intro i hi; rw [ho _ (by omega)]; exact h.parent i hi
  · intro i hi; rw [ho _ (by omega)]; exact h.ended i hi
theorem XAt.setGives (h : XAt w b p) {k : Nat} (hk : k < 8) (v : Int) : XAt (w.setCell ⟨b, 1 + k * 281 + 1, none⟩ (.int .i64 v)) b { p with gives := upd p.gives k v } := by
  obtain ⟨hl, hf, ho, hz⟩ := h.off (1 + k * 281 + 1) (.int .i64 v)
  have hs : (w.setCell ⟨b, 1 + k * 281 + 1, none⟩ (.int .i64 v)).cell? ⟨b, 1 + k * 281 + 1, none⟩ = some (.int .i64 v) := World.cell?_setCell_same _ _ _ (h.gives k hk)
  refine ⟨hl, hf, ?_, ?_, ?_, ?_, ?_, ?_, ?_, ?_, ?_, ?_, ?_⟩
  · rw [ho _ (by omega)]; exact h.room
  · intro i hi; rw [ho _ (by omega)]; exact h.quota i hi
  · intro i hi
    by_cases e : i = k
    · subst e; rw [hs]; simp only [upd_same]
    · rw [ho _ (by omega)]; simp only [upd_other _ _ e]; exact h.gives i hi
  · intro i hi; rw [ho _ (by omega)]; exact h.takes i hi
  · intro i hi; exact (h.rl i hi).apart hl hz (fun j h1 h2 => ho j (by omega))
  · intro i hi; exact (h.ow i hi).apart hl hz (fun j h1 h2 => ho j (by omega))
  · rw [ho _ (by omega)]; exact h.given
  · intro i hi; rw [ho _ (by omega)]; exact h.tenant i hi
  · intro i hi; rw [ho _ (by omega)]; exact h.rights i hi
  · intro i hi; rw [ho _ (by omega)]; exact h.parent i hi
  · intro i hi; rw [ho _ (by omega)]; exact h.ended i hi
theorem XAt.setTakes (h : XAt w b p) {k : Nat} (hk : k < 8) (v : Int) : XAt (w.setCell ⟨b, 1 + k * 281 + 2, none⟩ (.int .i64 v)) b { p with takes := upd p.takes k v } := by
  obtain ⟨hl, hf, ho, hz⟩ := h.off (1 + k * 281 + 2) (.int .i64 v)
  have hs : (w.setCell ⟨b, 1 + k * 281 + 2, none⟩ (.int .i64 v)).cell? ⟨b, 1 + k * 281 + 2, none⟩ = some (.int .i64 v) := World.cell?_setCell_same _ _ _ (h.takes k hk)
  refine ⟨hl, hf, ?_, ?_, ?_, ?_, ?_, ?_, ?_, ?_, ?_, ?_, ?_⟩
  · rw [ho _ (by omega)]; exact h.room
  · intro i hi; rw [ho _ (by omega)]; exact h.quota i hi
  · intro i hi; rw [ho _ (by omega)]; exact h.gives i hi
  · intro i hi
    by_cases e : i = k
    · subst e; rw [hs]; simp only [upd_same]
    · rw [ho _ (by omega)]; simp only [upd_other _ _ e]; exact h.takes i hi
  · intro i hi; exact (h.rl i hi).apart hl hz (fun j h1 h2 => ho j (by omega))
  · intro i hi; exact (h.ow i hi).apart hl hz (fun j h1 h2 => ho j (by omega))
  · rw [ho _ (by omega)]; exact h.given
  · intro i hi; rw [ho _ (by omega)]; exact h.tenant i hi
  · intro i hi; rw [ho _ (by omega)]; exact h.rights i hi
  · intro i hi; rw [ho _ (by omega)]; exact h.parent i hi
  · intro i hi; rw [ho _ (by omega)]; exact h.ended i hi
theorem XAt.setGiven (h : XAt w b p) (v : Nat) : XAt (w.setCell ⟨b, 2249, none⟩ (.int .i64 (v : Int))) b { p with given := v } := by
  obtain ⟨hl, hf, ho, hz⟩ := h.off (2249) (.int .i64 (v : Int))
  have hs : (w.setCell ⟨b, 2249, none⟩ (.int .i64 (v : Int))).cell? ⟨b, 2249, none⟩ = some (.int .i64 (v : Int)) := World.cell?_setCell_same _ _ _ (h.given)
  refine ⟨hl, hf, ?_, ?_, ?_, ?_, ?_, ?_, ?_, ?_, ?_, ?_, ?_⟩
  · rw [ho _ (by omega)]; exact h.room
  · intro i hi; rw [ho _ (by omega)]; exact h.quota i hi
  · intro i hi; rw [ho _ (by omega)]; exact h.gives i hi
  · intro i hi; rw [ho _ (by omega)]; exact h.takes i hi
  · intro i hi; exact (h.rl i hi).apart hl hz (fun j h1 h2 => ho j (by omega))
  · intro i hi; exact (h.ow i hi).apart hl hz (fun j h1 h2 => ho j (by omega))
  · exact hs
  · intro i hi; rw [ho _ (by omega)]; exact h.tenant i hi
  · intro i hi; rw [ho _ (by omega)]; exact h.rights i hi
  · intro i hi; rw [ho _ (by omega)]; exact h.parent i hi
  · intro i hi; rw [ho _ (by omega)]; exact h.ended i hi
theorem XAt.setTenant (h : XAt w b p) {k : Nat} (hk : k < 100) (v : Int) : XAt (w.setCell ⟨b, 2250 + k * 4, none⟩ (.int .i64 v)) b { p with tenant := upd p.tenant k v } := by
  obtain ⟨hl, hf, ho, hz⟩ := h.off (2250 + k * 4) (.int .i64 v)
  have hs : (w.setCell ⟨b, 2250 + k * 4, none⟩ (.int .i64 v)).cell? ⟨b, 2250 + k * 4, none⟩ = some (.int .i64 v) := World.cell?_setCell_same _ _ _ (h.tenant k hk)
  refine ⟨hl, hf, ?_, ?_, ?_, ?_, ?_, ?_, ?_, ?_, ?_, ?_, ?_⟩
  · rw [ho _ (by omega)]; exact h.room
  · intro i hi; rw [ho _ (by omega)]; exact h.quota i hi
  · intro i hi; rw [ho _ (by omega)]; exact h.gives i hi
  · intro i hi; rw [ho _ (by omega)]; exact h.takes i hi
  · intro i hi; exact (h.rl i hi).apart hl hz (fun j h1 h2 => ho j (by omega))
  · intro i hi; exact (h.ow i hi).apart hl hz (fun j h1 h2 => ho j (by omega))
  · rw [ho _ (by omega)]; exact h.given
  · intro i hi
    by_cases e : i = k
    · subst e; rw [hs]; simp only [upd_same]
    · rw [ho _ (by omega)]; simp only [upd_other _ _ e]; exact h.tenant i hi
  · intro i hi; rw [ho _ (by omega)]; exact h.rights i hi
  · intro i hi; rw [ho _ (by omega)]; exact h.parent i hi
  · intro i hi; rw [ho _ (by omega)]; exact h.ended i hi
theorem XAt.setRights (h : XAt w b p) {k : Nat} (hk : k < 100) (v : Int) : XAt (w.setCell ⟨b, 2250 + k * 4 + 1, none⟩ (.int .i64 v)) b { p with rights := upd p.rights k v } := by
  obtain ⟨hl, hf, ho, hz⟩ := h.off (2250 + k * 4 + 1) (.int .i64 v)
  have hs : (w.setCell ⟨b, 2250 + k * 4 + 1, none⟩ (.int .i64 v)).cell? ⟨b, 2250 + k * 4 + 1, none⟩ = some (.int .i64 v) := World.cell?_setCell_same _ _ _ (h.rights k hk)
  refine ⟨hl, hf, ?_, ?_, ?_, ?_, ?_, ?_, ?_, ?_, ?_, ?_, ?_⟩
  · rw [ho _ (by omega)]; exact h.room
  · intro i hi; rw [ho _ (by omega)]; exact h.quota i hi
  · intro i hi; rw [ho _ (by omega)]; exact h.gives i hi
  · intro i hi; rw [ho _ (by omega)]; exact h.takes i hi
  · intro i hi; exact (h.rl i hi).apart hl hz (fun j h1 h2 => ho j (by omega))
  · intro i hi; exact (h.ow i hi).apart hl hz (fun j h1 h2 => ho j (by omega))
  · rw [ho _ (by omega)]; exact h.given
  · intro i hi; rw [ho _ (by omega)]; exact h.tenant i hi
  · intro i hi
    by_cases e : i = k
    · subst e; rw [hs]; simp only [upd_same]
    · rw [ho _ (by omega)]; simp only [upd_other _ _ e]; exact h.rights i hi
  · intro i hi; rw [ho _ (by omega)]; exact h.parent i hi
  · intro i hi; rw [ho _ (by omega)]; exact h.ended i hi
theorem XAt.setParent (h : XAt w b p) {k : Nat} (hk : k < 100) (v : Nat) : XAt (w.setCell ⟨b, 2250 + k * 4 + 2, none⟩ (.int .i64 (v : Int))) b { p with parent := upd p.parent k v } := by
  obtain ⟨hl, hf, ho, hz⟩ := h.off (2250 + k * 4 + 2) (.int .i64 (v : Int))
  have hs : (w.setCell ⟨b, 2250 + k * 4 + 2, none⟩ (.int .i64 (v : Int))).cell? ⟨b, 2250 + k * 4 + 2, none⟩ = some (.int .i64 (v : Int)) := World.cell?_setCell_same _ _ _ (h.parent k hk)
  refine ⟨hl, hf, ?_, ?_, ?_, ?_, ?_, ?_, ?_, ?_, ?_, ?_, ?_⟩
  · rw [ho _ (by omega)]; exact h.room
  · intro i hi; rw [ho _ (by omega)]; exact h.quota i hi
  · intro i hi; rw [ho _ (by omega)]; exact h.gives i hi
  · intro i hi; rw [ho _ (by omega)]; exact h.takes i hi
  · intro i hi; exact (h.rl i hi).apart hl hz (fun j h1 h2 => ho j (by omega))
  · intro i hi; exact (h.ow i hi).apart hl hz (fun j h1 h2 => ho j (by omega))
  · rw [ho _ (by omega)]; exact h.given
  · intro i hi; rw [ho _ (by omega)]; exact h.tenant i hi
  · intro i hi; rw [ho _ (by omega)]; exact h.rights i hi
  · intro i hi
    by_cases e : i = k
    · subst e; rw [hs]; simp only [upd_same]
    · rw [ho _ (by omega)]; simp only [upd_other _ _ e]; exact h.parent i hi
  · intro i hi; rw [ho _ (by omega)]; exact h.ended i hi
theorem XAt.setEnded (h : XAt w b p) {k : Nat} (hk : k < 100) (v : Bool) : XAt (w.setCell ⟨b, 2250 + k * 4 + 3, none⟩ (.bool v)) b { p with ended := upd p.ended k v } := by
  obtain ⟨hl, hf, ho, hz⟩ := h.off (2250 + k * 4 + 3) (.bool v)
  have hs : (w.setCell ⟨b, 2250 + k * 4 + 3, none⟩ (.bool v)).cell? ⟨b, 2250 + k * 4 + 3, none⟩ = some (.bool v) := World.cell?_setCell_same _ _ _ (h.ended k hk)
  refine ⟨hl, hf, ?_, ?_, ?_, ?_, ?_, ?_, ?_, ?_, ?_, ?_, ?_⟩
  · rw [ho _ (by omega)]; exact h.room
  · intro i hi; rw [ho _ (by omega)]; exact h.quota i hi
  · intro i hi; rw [ho _ (by omega)]; exact h.gives i hi
  · intro i hi; rw [ho _ (by omega)]; exact h.takes i hi
  · intro i hi; exact (h.rl i hi).apart hl hz (fun j h1 h2 => ho j (by omega))
  · intro i hi; exact (h.ow i hi).apart hl hz (fun j h1 h2 => ho j (by omega))
  · rw [ho _ (by omega)]; exact h.given
  · intro i hi; rw [ho _ (by omega)]; exact h.tenant i hi
  · intro i hi; rw [ho _ (by omega)]; exact h.rights i hi
  · intro i hi; rw [ho _ (by omega)]; exact h.parent i hi
  · intro i hi
    by_cases e : i = k
    · subst e; rw [hs]; simp only [upd_same]
    · rw [ho _ (by omega)]; simp only [upd_other _ _ e]; exact h.ended i hi
theorem XAt.setOwn (h : XAt w b p) {k : Nat} (hk : k < 8) (hw : Within b (1 + k * 281 + 24) 257 w w') {l : List RouteD} (hn : LAt w' b (1 + k * 281 + 24) l.length (pad l)) : XAt w' b { p with own := upd p.own k l } := by
  have hl : b < w'.heap.size := Nat.lt_of_lt_of_le h.lt hw.kept.size
  have ho := hw.cell
  have hz := hw.fz
  refine ⟨hl, fun j => (hz j).trans (h.fz j), ?_, ?_, ?_, ?_, ?_, ?_, ?_, ?_, ?_, ?_, ?_⟩
  · rw [ho _ (by omega)]; exact h.room
  · intro i hi; rw [ho _ (by omega)]; exact h.quota i hi
  · intro i hi; rw [ho _ (by omega)]; exact h.gives i hi
  · intro i hi; rw [ho _ (by omega)]; exact h.takes i hi
  · intro i hi; exact (h.rl i hi).apart hl hz (fun j h1 h2 => ho j (by omega))
  · intro i hi
    by_cases e : i = k
    · subst e; simp only [upd_same]; exact hn
    · simp only [upd_other _ _ e]; exact (h.ow i hi).apart hl hz (fun j h1 h2 => ho j (by omega))
  · rw [ho _ (by omega)]; exact h.given
  · intro i hi; rw [ho _ (by omega)]; exact h.tenant i hi
  · intro i hi; rw [ho _ (by omega)]; exact h.rights i hi
  · intro i hi; rw [ho _ (by omega)]; exact h.parent i hi
  · intro i hi; rw [ho _ (by omega)]; exact h.ended i hi
theorem XAt.setRules (h : XAt w b p) {k : Nat} (hk : k < 8) (hw : Within b (1 + k * 281 + 3) 21 w w') {l : List RuleD} (hn : RAt w' b (1 + k * 281 + 3) l.length (padR l)) : XAt w' b { p with rules := upd p.rules k l } := by
  have hl : b < w'.heap.size := Nat.lt_of_lt_of_le h.lt hw.kept.size
  have ho := hw.cell
  have hz := hw.fz
  refine ⟨hl, fun j => (hz j).trans (h.fz j), ?_, ?_, ?_, ?_, ?_, ?_, ?_, ?_, ?_, ?_, ?_⟩
  · rw [ho _ (by omega)]; exact h.room
  · intro i hi; rw [ho _ (by omega)]; exact h.quota i hi
  · intro i hi; rw [ho _ (by omega)]; exact h.gives i hi
  · intro i hi; rw [ho _ (by omega)]; exact h.takes i hi
  · intro i hi
    by_cases e : i = k
    · subst e; simp only [upd_same]; exact hn
    · simp only [upd_other _ _ e]; exact (h.rl i hi).apart hl hz (fun j h1 h2 => ho j (by omega))
  · intro i hi; exact (h.ow i hi).apart hl hz (fun j h1 h2 => ho j (by omega))
  · rw [ho _ (by omega)]; exact h.given
  · intro i hi; rw [ho _ (by omega)]; exact h.tenant i hi
  · intro i hi; rw [ho _ (by omega)]; exact h.rights i hi
  · intro i hi; rw [ho _ (by omega)]; exact h.parent i hi
  · intro i hi; rw [ho _ (by omega)]; exact h.ended i hi
theorem XAt.setMember (h : XAt w b p) {k : Nat} (hk : k < 8) (hw : Within b (1 + k * 281) 281 w w') {q g t : Int} {rs : List RuleD} {l : List RouteD} (hq : w'.cell? ⟨b, 1 + k * 281, none⟩ = some (.int .i64 q)) (hg : w'.cell? ⟨b, 1 + k * 281 + 1, none⟩ = some (.int .i64 g)) (ht : w'.cell? ⟨b, 1 + k * 281 + 2, none⟩ = some (.int .i64 t))
    (hr : RAt w' b (1 + k * 281 + 3) rs.length (padR rs)) (hn : LAt w' b (1 + k * 281 + 24) l.length (pad l)) : XAt w' b { p with quota := upd p.quota k q, gives := upd p.gives k g, takes := upd p.takes k t, rules := upd p.rules k rs, own := upd p.own k l } := by
  have hl : b < w'.heap.size := Nat.lt_of_lt_of_le h.lt hw.kept.size
  have ho := hw.cell
  have hz := hw.fz
  refine ⟨hl, fun j => (hz j).trans (h.fz j), ?_, ?_, ?_, ?_, ?_, ?_, ?_, ?_, ?_, ?_, ?_⟩
  · rw [ho _ (by omega)]; exact h.room
  · intro i hi
    by_cases e : i = k
    · subst e; simp only [upd_same]; exact hq
    · rw [ho _ (by omega)]; simp only [upd_other _ _ e]; exact h.quota i hi
  · intro i hi
    by_cases e : i = k
    · subst e; simp only [upd_same]; exact hg
    · rw [ho _ (by omega)]; simp only [upd_other _ _ e]; exact h.gives i hi
  · intro i hi
    by_cases e : i = k
    · subst e; simp only [upd_same]; exact ht
    · rw [ho _ (by omega)]; simp only [upd_other _ _ e]; exact h.takes i hi
  · intro i hi
    by_cases e : i = k
    · subst e; simp only [upd_same]; exact hr
    · simp only [upd_other _ _ e]; exact (h.rl i hi).apart hl hz (fun j h1 h2 => ho j (by omega))
  · intro i hi
    by_cases e : i = k
    · subst e; simp only [upd_same]; exact hn
    · simp only [upd_other _ _ e]; exact (h.ow i hi).apart hl hz (fun j h1 h2 => ho j (by omega))
  · rw [ho _ (by omega)]; exact h.given
  · intro i hi; rw [ho _ (by omega)]; exact h.tenant i hi
  · intro i hi; rw [ho _ (by omega)]; exact h.rights i hi
  · intro i hi; rw [ho _ (by omega)]; exact h.parent i hi
  · intro i hi; rw [ho _ (by omega)]; exact h.ended i hi
end
end Go.Proofs.Ytgndledehlilkab
