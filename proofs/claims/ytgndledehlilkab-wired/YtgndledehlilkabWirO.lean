/-
  Wired: what its walk wants: the script that came in, the two engines at the start, bytes as strings.
-/
import Derived.Test.YtgndledehlilkabWirE
import Derived.Laws.BytesArg
namespace Go.Proofs.Ytgndledehlilkab
open Go.RowKit

/-- The steps that came in. -/
structure OpsIn (w : World) (a : Option Addr) (n : Nat) (X : Nat → OpD) : Prop where
  most : n ≤ 17592186044416
  at_ : 0 < n → ∃ bs off, a = some ⟨bs, off, none⟩ ∧ bs < w.heap.size ∧ ∀ i, i < n → OpOk (X i) ∧ w.cell? ⟨bs, off + i * 6, none⟩ = some (.int .i64 (X i).kind) ∧ w.cell? ⟨bs, off + i * 6 + 1, none⟩ = some (.int .i64 (X i).who) ∧ w.cell? ⟨bs, off + i * 6 + 2, none⟩ = some (.int .i64 (X i).a) ∧ w.cell? ⟨bs, off + i * 6 + 3, none⟩ = some (.int .i64 (X i).b) ∧ w.cell? ⟨bs, off + i * 6 + 4, none⟩ = some (.int .i64 (X i).c) ∧ w.cell? ⟨bs, off + i * 6 + 5, none⟩ = some (.int .i64 (X i).d)
theorem toldArr (t : ToldD) (lv : Value) : (toldCells t lv).toArray = #[.int .i64 t.e, lv, .int .i64 t.s.own, .int .i64 t.s.taken, .int .i64 t.s.dropped, .int .i64 t.s.quota, .int .i64 t.r.addr, .int .i64 t.r.len, .int .i64 t.r.hop, .int .i64 t.r.from_, .bool t.b] := rfl
theorem ToldAt.make (w : World) (t : ToldD) (lv : Value) (ty : TypeId) : ToldAt (w.alloc (.cells #[.int .i64 t.e, lv, .int .i64 t.s.own, .int .i64 t.s.taken, .int .i64 t.s.dropped, .int .i64 t.s.quota, .int .i64 t.r.addr, .int .i64 t.r.len, .int .i64 t.r.hop, .int .i64 t.r.from_, .bool t.b] ty)) w.heap.size t lv := by
  refine ⟨by simp, fun j => World.frozen?_alloc_new _ _ _ _, ?_, ?_, ?_, ?_, ?_, ?_, ?_, ?_, ?_, ?_, ?_⟩ <;> rw [World.cell?_alloc_new] <;> rfl
theorem told_len {r : RefS} (hk : RefOk r) (n : Int) (o : OpD) (mk : Int) : (playT r n o mk).l.length ≤ 64 := by
  have := tableX_le hk n
  unfold playT
  repeat' split
  all_goals first | (show ([] : List RouteD).length ≤ _; simp) | (show (tableL r n).length ≤ _; omega)
theorem ansT_pos (o : OpD) (t : ToldD) : 0 < (ansT o t).length := by
  unfold ansT ansB
  repeat' split
  all_goals simp
theorem pair_start {V0 w1 V1 w2 : World} {b c : Nat} {r s : RefS} (hx : On V0 w1 (oneTag b) 1 b r) (h1 : Still w1 V1) (hy : On V1 w2 (oneTag c) 1 c s) : Pair V0 w2 b c r s := by
  have hb := hx.lt
  have hc := hy.here
  have hz := h1.size
  have hz0 := hx.still.size
  refine ⟨(hx.again h1).again hy.still, ⟨hy.rep, hy.ok, fun k hk => by unfold oneTag; rw [if_neg (by omega)]; simp, (hx.still.trans h1).trans hy.still⟩, by omega⟩
theorem Pair.leftK {w0 w w' : World} {b c : Nat} {r s r' : RefS} (h : Pair w0 w b c r s) (hon : On w0 w' (oneTag b) 1 b r') (hk : Kept (· = b) w w') : Pair w0 w' b c r' s := ⟨hon, h.y.past hk h.ne h.x.here, h.ne⟩
theorem begunW (w : World) :
    Calls Try.prog 4 #[.slice (some ⟨w.heap.size, 0, none⟩) 3 3] (w.alloc (.cells #[.int .i64 5, .int .i64 3, .int .i64 2] 3)) fun en w' =>
      ∃ b, en = .returned (.pointer (some ⟨b, 0, none⟩)) ∧ On (w.alloc (.cells #[.int .i64 5, .int .i64 3, .int .i64 2] 3)) w' (oneTag b) 1 b (begF [5, 3, 2] 3) := by
  have hcell : ∀ j, j < ([5, 3, 2] : List Int).length → (w.alloc (.cells #[.int .i64 5, .int .i64 3, .int .i64 2] 3)).cell? ⟨w.heap.size, j, none⟩ = some (.int .i64 (([5, 3, 2] : List Int).getD j 0)) := by
    intro j hj
    rw [World.cell?_alloc_new]
    have hj' : j < 3 := hj
    have : j = 0 ∨ j = 1 ∨ j = 2 := by omega
    rcases this with rfl | rfl | rfl <;> rfl
  have hg : w.heap.size < (w.alloc (.cells #[.int .i64 5, .int .i64 3, .int .i64 2] 3)).heap.size := by simp
  have hB := begunK (w := w.alloc (.cells #[.int .i64 5, .int .i64 3, .int .i64 2] 3)) (g := w.heap.size) (cap := 3) (Q := [5, 3, 2]) (fun _ => (0, 0, 0)) 1 (fun _ _ => by simp) (by
    intro j hj
    have hj' : j < 3 := hj
    have : j = 0 ∨ j = 1 ∨ j = 2 := by omega
    rcases this with rfl | rfl | rfl <;> decide) (by decide) (by decide) hg hcell
  refine Calls.mono hB ?_
  rintro en w' ⟨b, O', rfl, _, hon⟩
  exact ⟨b, rfl, On.alone hon⟩
theorem newW (w : World) : Calls Try.prog 5 #[.int .i64 64] w fun en w' => ∃ b, en = .returned (.tuple #[.pointer (some ⟨b, 0, none⟩), .int .i64 0]) ∧ On w w' (oneTag b) 1 b (begF [5, 3, 2] 0) := by
  refine (engX.new_yes 64 w (by omega) (by omega)).mono ?_
  rintro en w1 ⟨b, rfl, hst, hrep⟩
  obtain ⟨O1, hO1, hr1⟩ := hrep (fun _ => (0, 0, 0)) 1 (begF [5, 3, 2] 0).life (begF [5, 3, 2] 0).tok
  have hon : On w w1 O1 1 b (begF [5, 3, 2] 0) := ⟨hr1, RefOk.new (by omega) (by omega) _ _, fun k hk => by rw [hO1 k hk]; simp, hst⟩
  exact ⟨b, rfl, hon.alone⟩
/-- Do of bytes that are written down. -/
theorem Pair.lit {w0 w : World} {b c : Nat} {r s s' : RefS} (h : Pair w0 w b c r s) (S : List Int) {F : List Int} {n m : Nat} {C : Array Value} (hS : okBytes S) (hn : S.length = n) (hn2 : n ≤ 100) (hC : C = (S.map byteC).toArray) (hB : doB s S = F) (hs : doS s S = s') (hm : F.length = m) (hm0 : 0 < m) :
    Calls Try.prog 6 #[.pointer (some ⟨c, 0, none⟩), .slice (some ⟨w.heap.size, 0, none⟩) n n] (w.alloc (.cells C 5)) fun en w' =>
      ∃ g cap, en = .returned (.slice (some ⟨g, 0, none⟩) m cap) ∧ w'.ownsRow w.heap.size 5 1 (.slice (some ⟨g, 0, none⟩) m cap) m (F.map byteC) ∧ Pair w0 w' b c r s' ∧ Kept (· = c) w w' := by
  subst hn hC hB hs hm
  have hst : Still w (w.alloc (.cells (S.map byteC).toArray 5)) := (Kept.refl _ _).alloc _
  have hb : BytesIn (w.alloc (.cells (S.map byteC).toArray 5)) (.slice (some ⟨w.heap.size, 0, none⟩) S.length S.length) S := BytesIn.rowB (bytesNew w S (Nat.le_refl _) (by omega)) rfl hS (by omega)
  refine ((h.again hst).do2 hb).mono ?_
  rintro en w' ⟨a, cap, rfl, hr, hp, hk⟩
  obtain ⟨g, rfl, _⟩ := ownsRow_some hr hm0
  exact ⟨g, cap, rfl, ownsRow_base hr hst.size, hp, Kept.trans (Still.kept hst _) hk⟩
theorem strRow {w : World} {base g n cap : Nat} {F : List Int} (h : w.ownsRow base 5 1 (.slice (some ⟨g, 0, none⟩) n cap) n (F.map byteC)) (hn : F.length = n) : (convert 29 9 (.slice (some ⟨g, 0, none⟩) n cap)).run Try.prog w = .ok (.string (strOfNums F)) w :=
  run_convert_bytes_arg w 29 5 Try.underlying29 Try.underlying5 g 0 n cap F hn (fun j hj => by
    have hj' : j < F.length := by omega
    have := h.cells (g := g) rfl j (.int .u8 (F.getD j 0)) (by rw [List.getElem?_map, List.getElem?_eq_getElem hj', List.getD_eq_getElem?_getD, List.getElem?_eq_getElem hj']; rfl)
    have e : (⟨g, 0, none⟩ : Addr).add j = ⟨g, 0 + j, none⟩ := by unfold Addr.add; split <;> simp_all
    rw [e] at this
    exact this) 9 Try.underlying9
end Go.Proofs.Ytgndledehlilkab
