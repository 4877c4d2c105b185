import Derived.Test.YtgndledehlilkaaGreatRefX1M
import Derived.Test.YtgndledehlilkaaGreatPrX3
import Derived.Deep.RegionHeld3
import Derived.Deep.DrawnRows
import Derived.Deep.RegionLaw
import Derived.Test.YtgndledehlilkaaGreatRefP4
namespace Go.Proofs.YtgndledehlilkaaGreat
open Go.RowKit
section

/-- An error alone, or numbers by a form. -/
def ansW (e : Int) (f : Nat → Nat) (l : Nat → Int) (n : Nat) : List Int := if e = 0 then writeW f l n else [loB e]
set_option maxHeartbeats 1000000 in
theorem answered_any {w : World} {s : ByteArray} {n m base : Nat} {f : Nat → Nat} {l : Nat → Int} {v : Value} (e : Int) (hf : FormIs s m f) (hm : n ≤ m) (hn : n ≤ 5000) (hl : ∀ j, j < n → 0 ≤ l j ∧ l j ≤ 2000000) (h : w.ownsRow base 3 1 v n (numsRow n l)) :
    Calls Tryz.prog 89 #[.int .i64 e, .string s, v] w fun en w' => ∃ u, en = .returned u ∧ w'.ownsRow w.heap.size 5 1 u (ansW e f l n).length ((ansW e f l n).map byteC) ∧ Still w w' := by
  by_cases h0 : e = 0
  · have ea : ansW e f l n = writeW f l n := by unfold ansW; rw [if_pos h0]
    rw [ea]
    have HC := hide (written_any hf hm hn hl h)
    have h0' : (e == 0) = true := by rw [h0]; rfl
    clear h hf hl ea h0
    generalize writeW f l n = F at *
    go_enter Tryz.func89, Tryz.ntmps89
    go_wp2_with fail
    refine (unhide HC).mono ?_
    rintro en w2 ⟨u, rfl, hr, hs⟩
    have HR := hide hr
    have HS := hide hs
    clear hr hs
    go_wp2
    go_ret
    exact ⟨_, rfl, unhide HR, unhide HS⟩
  · have ea : ansW e f l n = [loB e] := by unfold ansW; rw [if_neg h0]
    rw [ea]
    have h0' : (e == 0) = false := by rw [beq_eq_false_iff_ne]; exact h0
    have hwe := wrap_lo e
    have HR1 : Hid ((w.alloc (.cells #[.int .u8 (loB e)] 5)).ownsRow w.heap.size 5 1 (.slice (some ⟨w.heap.size, 0, none⟩) 1 1) ([loB e]).length ([loB e].map byteC)) := bytesNew w [loB e] (Nat.le_refl _) (by simp)
    clear h hf hl ea h0
    go_enter Tryz.func89, Tryz.ntmps89
    go_wp2
    go_ret
    exact ⟨_, rfl, unhide HR1, (Kept.refl _ _).alloc _⟩
/-- A table as numbers: the form and the numbers. -/
def flatL : Nat → List UInt8
  | 0 => [98]
  | k + 1 => flatL k ++ [119, 98, 98, 98]
theorem flatL_len (k : Nat) : (flatL k).length = 1 + 4 * k := by
  induction k with
  | zero => rfl
  | succ k ih => show (flatL k ++ _).length = _; rw [List.length_append, ih]; simp; omega
def nums4 (x : RouteD) : List Int := [x.addr, x.len, x.hop, x.from_]
def flatN (L : List RouteD) (k : Nat) : List Int := (L.length : Int) :: (L.take k).flatMap nums4
def intC (x : Int) : Value := .int .i64 x
theorem flatN_succ {L : List RouteD} {k : Nat} (h : k < L.length) : flatN L (k + 1) = flatN L k ++ nums4 (L.getD k rt0) := by
  unfold flatN
  have e : L.take (k + 1) = L.take k ++ [L.getD k rt0] := by
    rw [List.take_succ_eq_append_getElem h]
    simp [List.getD_eq_getElem?_getD, h]
  rw [e, List.flatMap_append]
  simp
theorem intsNew (w : World) (F : List Int) {base : Nat} (hb : base ≤ w.heap.size) (hl : F.length ≤ 1000) : (w.alloc (.cells (F.map intC).toArray 3)).ownsRow base 3 1 (.slice (some ⟨w.heap.size, 0, none⟩) F.length F.length) F.length (F.map intC) := by
  refine ⟨by simp, .inr ⟨w.heap.size, F.length, (F.map intC).toArray, rfl, hb, heap_alloc_new w _, Nat.le_refl _, by unfold maxLen; omega, by simp, by rw [List.take_of_length_le (by simp)]⟩⟩
attribute [local go_sem ↓] Go.wp_at_zero Go.wp_at_succ
set_option maxRecDepth 100000 in
set_option maxHeartbeats 4000000 in
theorem flat_any {w : World} {base : Nat} {v : Value} {L : List RouteD} (h : w.ownsRow base 50 4 v L.length (L.flatMap routeCells)) (hl : L.length ≤ 64) :
    Calls Tryz.prog 90 #[v] w fun en w' => ∃ u, en = .returned (.tuple #[.string ⟨(flatL L.length).toArray⟩, u]) ∧ w'.ownsRow w.heap.size 3 1 u (1 + 4 * L.length) ((flatN L L.length).map intC) ∧ Still w w' := by
  obtain ⟨i0, hi0, hz0, hz1, hz2⟩ := info_parts infoIntX
  obtain ⟨va, vc, rfl, hv1, hv2⟩ := ownsRow_slice h
  unfold maxLen at hv2
  have HR := hide h
  have hS : Still w (w.alloc (.cells #[.int .i64 L.length] 3)) := (Kept.refl _ _).alloc _
  have HR1 : Hid ((w.alloc (.cells #[.int .i64 L.length] 3)).ownsRow w.heap.size 3 1 (.slice (some ⟨w.heap.size, 0, none⟩) 1 1) (1 + 4 * 0) ((flatN L 0).map intC)) := intsNew w [(L.length : Int)] (Nat.le_refl _) (by simp)
  have HS := hide hS
  clear h hS
  go_enter Tryz.func90, Tryz.ntmps90
  go_wp2
  go_loopw [4, 5, 6] (fun s l i w' => ∃ k : Nat, k ≤ L.length ∧ i = .int .i64 k ∧ s = .string ⟨(flatL k).toArray⟩ ∧ w'.ownsRow w.heap.size 3 1 l (1 + 4 * k) ((flatN L k).map intC) ∧ Still w w') (fun _ _ i _ => L.length - (intOf i).toNat)
  case atStart => exact ⟨0, by omega, rfl, rfl, unhide HR1, unhide HS⟩
  case round =>
    obtain ⟨k, hk, rfl, rfl, hrow, hst⟩ := hrel
    obtain ⟨la, lc, rfl, hl1, hl2⟩ := ownsRow_slice hrow
    have HROW := hide hrow
    have HST := hide hst
    have HRW := hide (keptRowX (unhide HR) hst)
    have hwz := hst.size
    clear hrow hst
    by_cases hlt : k < L.length
    · obtain ⟨g, rfl, hg⟩ := ownsRow_some (unhide HRW) (by omega)
      have HG : Hid (g < w.heap.size) := ownsRow_lt (unhide HR) rfl
      obtain ⟨x0, x1, x2, x3⟩ := rowCellX (unhide HRW) rfl hlt
      have hstep := hide (flatN_succ hlt)
      have hsl := flatL_len k
      have hsu : flatL (k + 1) = flatL k ++ [119, 98, 98, 98] := rfl
      have HSU := hide hsu
      have hk0 : (0 : Int) ≤ (k : Int) := by omega
      have hkl : (k : Int) < (L.length : Int) := by omega
      clear hsu
      generalize L.getD k rt0 = x at *
      generalize flatL k = FL at *
      generalize flatN L k = cl at *
      have HNG : Hid (some g ≠ (Value.slice la (1 + 4 * k) lc).ownBlock) := fun e => by
        have h1 := ((unhide HROW).lt g e.symm).1
        have h2 := unhide HG
        omega
      have hgr : g < wr.heap.size := hg
      clear HR HRW hl2
      go_wp2_with fail
      go_region_held3 (fun w' => w'.cell? ⟨g, k * 4, none⟩ = some (.int .i64 x.addr) ∧ w'.cell? ⟨g, k * 4 + 1, none⟩ = some (.int .i64 x.len) ∧ w'.cell? ⟨g, k * 4 + 2, none⟩ = some (.int .i64 x.hop) ∧ w'.cell? ⟨g, k * 4 + 3, none⟩ = some (.int .i64 x.from_)) (first | go_keep | (go_split_ands; exact ⟨(hgrow4.cell_far ⟨g, k * 4, none⟩ (by simp; omega) (unhide HNG)).trans (by rw [World.cell?_drew, World.cell?_alloc_lt _ _ _ hgr]; exact x0), (hgrow4.cell_far ⟨g, k * 4 + 1, none⟩ (by simp; omega) (unhide HNG)).trans (by rw [World.cell?_drew, World.cell?_alloc_lt _ _ _ hgr]; exact x1), (hgrow4.cell_far ⟨g, k * 4 + 2, none⟩ (by simp; omega) (unhide HNG)).trans (by rw [World.cell?_drew, World.cell?_alloc_lt _ _ _ hgr]; exact x2), (hgrow4.cell_far ⟨g, k * 4 + 3, none⟩ (by simp; omega) (unhide HNG)).trans (by rw [World.cell?_drew, World.cell?_alloc_lt _ _ _ hgr]; exact x3)⟩)) ((refine step_append_lies _ (by rfl) _ _ _ (by rfl) w.heap.size 3 i0 _ 1 8 Tryz.underlying24 hi0 hz0 hz1 hz2 rfl (by omega) (.slice la (1 + 4 * k) lc) (1 + 4 * k) _ (by rfl) (((unhide HROW).alloc _).drew) ⟨wr.heap.size, 0, none⟩ 4 4 [.int .i64 x.addr, .int .i64 x.len, .int .i64 x.hop, .int .i64 x.from_] (by rfl) (by rfl) (World.news_of_block (cs := #[.int .i64 x.addr, .int .i64 x.len, .int .i64 x.hop, .int .i64 x.from_]) (t := 3) (fr := (0, 0)) (heap_alloc_new wr _)) (by simp [Value.oneCell']) (by omega) (by unfold maxLen; omega) (by omega) (by simp; omega) (wr.heap.size + 1) (by simp) ?_; intro g4 cap4 w4 hown4 hgrow4 hat4 hlt4))
      all_goals
        have hge : ∀ y, (Value.slice la (1 + 4 * k) lc).ownBlock = some y → w.heap.size ≤ y := fun y hy => ((unhide HROW).lt y hy).1
        have hkg : Kept (fun y => w.heap.size ≤ y) wr w4 := Kept.grown (Kept.drew ((Kept.refl _ _).alloc _)) hgrow4 (fun y hy => .inl (hge y hy))
        have hst5 : Still w w4 := Kept.trans' (unhide HST) hkg (fun i hi q => by omega)
        have HO4 := hide hown4
        have HST5 := hide hst5
        clear hkg hst5 hown4 hgrow4 hat4 hge x0 x1 x2 x3
        go_wp2
        go_roundw
        case rel =>
          refine ⟨k + 1, by omega, by go_num, by rw [unhide HSU, ← Go.ByteArray.mk_append_mk], ?_, unhide HST5⟩
          rw [unhide hstep, List.map_append]
          exact unhide HO4
        case measure => simp [intOf]; omega
    · obtain rfl : k = L.length := by omega
      go_wp2
      go_ret2
      exact ⟨_, rfl, unhide HROW, unhide HST⟩
end
section

/-- A rule out of numbers. -/
def askR (l : Nat → Int) (i : Nat) : RuleD := ⟨l i == 1, l (i + 1), l (i + 2), l (i + 3), l (i + 4)⟩
def askTo (l : Nat → Int) (k : Nat) : List RuleD := (List.range k).map fun j => askR l (2 + 5 * j)
theorem askTo_len (l : Nat → Int) (k : Nat) : (askTo l k).length = k := by unfold askTo; simp
theorem askTo_succ (l : Nat → Int) (k : Nat) : askTo l (k + 1) = askTo l k ++ [askR l (2 + 5 * k)] := by unfold askTo; rw [List.range_succ, List.map_append]; rfl
theorem wrap64_small {x : Int} (h0 : 0 ≤ x) (h1 : x ≤ 1000000) : IntKind.i64.wrap x = x := by rw [IntKind.wrap_i64]; omega
attribute [local go_sem ↓] Go.wp_at_zero Go.wp_at_succ
set_option maxRecDepth 100000 in
set_option maxHeartbeats 4000000 in
theorem asked_any {w : World} {base K : Nat} {v : Value} {l : Nat → Int} (h : w.ownsRow base 3 1 v (2 + 5 * K) (numsRow (2 + 5 * K) l)) (hl : K ≤ 255) :
    Calls Tryz.prog 121 #[v] w fun en w' => ∃ u, en = .returned u ∧ w'.ownsRow w.heap.size 55 5 u (askTo l K).length ((askTo l K).flatMap ruleCells) ∧ Still w w' := by
  obtain ⟨i0, hi0, hz0, hz1, hz2⟩ := info_parts infoRuleX
  obtain ⟨va, vc, rfl, hv1, hv2⟩ := ownsRow_slice h
  obtain ⟨g, rfl, hg⟩ := ownsRow_some h (by omega)
  unfold maxLen at hv2
  have HG := hide hg
  simp only [askTo_len]
  have HR := hide h
  clear h
  go_enter Tryz.func121, Tryz.ntmps121
  go_wp2
  go_loopw [3, 4] (fun o i w' => ∃ k : Nat, k ≤ K ∧ i = .int .i64 ((2 + 5 * k : Nat) : Int) ∧ w'.ownsRow w.heap.size 55 5 o k ((askTo l k).flatMap ruleCells) ∧ Still w w') (fun _ i _ => 2 + 5 * K - (intOf i).toNat)
  case atStart => exact ⟨0, by omega, rfl, World.ownsRow_nil _ _ _ _, Kept.refl _ _⟩
  case round =>
    obtain ⟨k, hk, rfl, hrow, hst⟩ := hrel
    obtain ⟨la, lc, rfl, hl1, hl2⟩ := ownsRow_slice hrow
    have HROW := hide hrow
    have HST := hide hst
    have HRW := hide (keptRowX (unhide HR) hst)
    have hwz := hst.size
    clear hrow hst
    by_cases hlt : k < K
    · have q : ∀ r, r < 5 → wr.cell? ⟨g, 2 + 5 * k + r, none⟩ = some (.int .i64 (l (2 + 5 * k + r))) := fun r hr => by
        have := ownsRow_cell (unhide HRW) (fun _ _ => rfl) (i := 2 + 5 * k + r) (by omega) (j := 0) (by omega)
        simpa using this
      have x0 := q 0 (by omega)
      have x1 := q 1 (by omega)
      have x2 := q 2 (by omega)
      have x3 := q 3 (by omega)
      have x4 := q 4 (by omega)
      have hstep := hide (askTo_succ l k)
      have eA : askR l (2 + 5 * k) = ⟨l (2 + 5 * k) == 1, l (2 + 5 * k + 1), l (2 + 5 * k + 2), l (2 + 5 * k + 3), l (2 + 5 * k + 4)⟩ := rfl
      rw [Nat.add_zero] at x0
      generalize hi : 2 + 5 * k = i at *
      have HI := hide hi
      have hi1 : i ≤ 2000 := by omega
      have hi2 : i + 4 < 2 + 5 * K := by omega
      clear q hi
      generalize l i = y0 at *
      generalize l (i + 1) = y1 at *
      generalize l (i + 2) = y2 at *
      generalize l (i + 3) = y3 at *
      generalize l (i + 4) = y4 at *
      rw [eA] at hstep
      clear eA
      have j0 : (0 : Int) ≤ (i : Int) := by omega
      have j1 : (i : Int) + 4 < ((2 + 5 * K : Nat) : Int) := by omega
      have e1 := wrap64_small (x := (i : Int) + 1) (by omega) (by omega)
      have e2 := wrap64_small (x := (i : Int) + 2) (by omega) (by omega)
      have e3 := wrap64_small (x := (i : Int) + 3) (by omega) (by omega)
      have e4 := wrap64_small (x := (i : Int) + 4) (by omega) (by omega)
      have f1 : ((i : Int) + 1).toNat = i + 1 := by omega
      have f2 : ((i : Int) + 2).toNat = i + 2 := by omega
      have f3 : ((i : Int) + 3).toNat = i + 3 := by omega
      have f4 : ((i : Int) + 4).toNat = i + 4 := by omega
      generalize hKn : 2 + 5 * K = Kn at *
      have HKN := hide hKn
      clear hKn
      generalize askTo l k = cl at *
      have n0 : i < Kn := by omega
      have p1 : 0 ≤ (i : Int) + 1 ∧ (i : Int) + 1 < (Kn : Int) := by omega
      have p2 : 0 ≤ (i : Int) + 2 ∧ (i : Int) + 2 < (Kn : Int) := by omega
      have p3 : 0 ≤ (i : Int) + 3 ∧ (i : Int) + 3 < (Kn : Int) := by omega
      have p4 : 0 ≤ (i : Int) + 4 ∧ (i : Int) + 4 < (Kn : Int) := by omega
      clear hi2 hv1 hv2 hl1 hl2 j0 j1 HR HRW
      have HNG : Hid (some g ≠ (Value.slice la k lc).ownBlock) := fun e => by
        have h1 := ((unhide HROW).lt g e.symm).1
        have h2 := unhide HG
        omega
      have hgr : g < wr.heap.size := Nat.lt_of_lt_of_le (unhide HG) hwz
      go_wp2_with fail
      go_region_held3 (fun w' => w'.cell? ⟨g, i, none⟩ = some (.int .i64 y0) ∧ w'.cell? ⟨g, i + 1, none⟩ = some (.int .i64 y1) ∧ w'.cell? ⟨g, i + 2, none⟩ = some (.int .i64 y2) ∧ w'.cell? ⟨g, i + 3, none⟩ = some (.int .i64 y3) ∧ w'.cell? ⟨g, i + 4, none⟩ = some (.int .i64 y4)) (first | go_keep | (go_split_ands; exact ⟨(hgrow4.cell_far ⟨g, i, none⟩ (by simp; omega) (unhide HNG)).trans (by rw [World.cell?_drew, World.cell?_alloc_lt _ _ _ hgr]; exact x0), (hgrow4.cell_far ⟨g, i + 1, none⟩ (by simp; omega) (unhide HNG)).trans (by rw [World.cell?_drew, World.cell?_alloc_lt _ _ _ hgr]; exact x1), (hgrow4.cell_far ⟨g, i + 2, none⟩ (by simp; omega) (unhide HNG)).trans (by rw [World.cell?_drew, World.cell?_alloc_lt _ _ _ hgr]; exact x2), (hgrow4.cell_far ⟨g, i + 3, none⟩ (by simp; omega) (unhide HNG)).trans (by rw [World.cell?_drew, World.cell?_alloc_lt _ _ _ hgr]; exact x3), (hgrow4.cell_far ⟨g, i + 4, none⟩ (by simp; omega) (unhide HNG)).trans (by rw [World.cell?_drew, World.cell?_alloc_lt _ _ _ hgr]; exact x4)⟩)) ((refine step_append_lies _ (by rfl) _ _ _ (by rfl) w.heap.size 55 i0 _ 5 40 Tryz.underlying32 hi0 hz0 hz1 hz2 rfl (by omega) (.slice la k lc) k _ (by rfl) (((unhide HROW).alloc _).drew) ⟨wr.heap.size, 0, none⟩ 1 1 [.bool (y0 == 1), .int .i64 y1, .int .i64 y2, .int .i64 y3, .int .i64 y4] (by rfl) (by rfl) (World.news_of_block (cs := #[.bool (y0 == 1), .int .i64 y1, .int .i64 y2, .int .i64 y3, .int .i64 y4]) (t := 55) (fr := (0, 0)) (heap_alloc_new wr _)) (by simp [Value.oneCell']) (by omega) (by unfold maxLen; omega) (by omega) (by simp; omega) (wr.heap.size + 1) (by simp) ?_; intro g4 cap4 w4 hown4 hgrow4 hat4 hlt4))
      all_goals
        have hge : ∀ y, (Value.slice la k lc).ownBlock = some y → w.heap.size ≤ y := fun y hy => ((unhide HROW).lt y hy).1
        have hkg : Kept (fun y => w.heap.size ≤ y) wr w4 := Kept.grown (Kept.drew ((Kept.refl _ _).alloc _)) hgrow4 (fun y hy => .inl (hge y hy))
        have hst5 : Still w w4 := Kept.trans' (unhide HST) hkg (fun i hi q => by omega)
        have HO4 := hide hown4
        have HST5 := hide hst5
        clear hkg hst5 hown4 hgrow4 hat4 hge x0 x1 x2 x3 x4
        go_wp2
        go_roundw
        case rel =>
          refine ⟨k + 1, by omega, by rw [show 2 + 5 * (k + 1) = i + 5 by have := unhide HI; omega]; go_num, ?_, unhide HST5⟩
          rw [unhide hstep, rule_snocX]
          exact unhide HO4
        case measure => simp [intOf]; omega
    · obtain rfl : k = K := by omega
      go_wp2
      go_ret
      exact ⟨_, rfl, unhide HROW, unhide HST⟩
end

theorem changed_of {w w1 w2 w3 : World} {O : Tag} {e b : Nat} {r' : RefS} (hs : Still w w1) (hc : changed w1 O e b r' w2) (ht : Still w2 w3) : changed w O e b r' w3 := by
  obtain ⟨O', h1, h2, h3⟩ := hc
  exact ⟨O', fun k hk => h1 k (by have := hs.size; omega), h2.still ht, Kept.trans (Kept.trans (Still.kept hs _) h3) (Still.kept ht _)⟩
theorem changed_same {w w1 : World} {O : Tag} {e b : Nat} {r : RefS} (h : RefRep w O e b r) (hs : Still w w1) : changed w O e b r w1 := ⟨O, fun _ _ => rfl, h.still hs, Still.kept hs _⟩
theorem enc_shift (x : List Value) (n : Nat) (f : Nat → List Value) : enc (n + 1) (fun i => if i = 0 then x else f (i - 1)) = x ++ enc n f := by
  induction n with
  | zero => rw [enc_succ, enc_zero, enc_zero]; simp
  | succ n ih => rw [enc_succ, ih, enc_succ, if_neg (by omega), List.append_assoc]; rfl
theorem map_nums (F : List Int) : F.map intC = numsRow F.length (fun i => F.getD i 0) := by
  unfold numsRow
  induction F with
  | nil => rfl
  | cons x F ih =>
    rw [List.map_cons, ih, List.length_cons]
    have e := enc_shift [.int .i64 x] F.length (fun i => [.int .i64 (F.getD i 0)])
    refine Eq.trans e.symm (enc_congr fun i _ => ?_)
    cases i with
    | zero => rfl
    | succ i => rw [if_neg (by omega)]; simp
/-- What a request leaves of the document's engine, and the answer. -/
def DoneR (w : World) (O : Tag) (e b : Nat) (r' : RefS) (u : Value) (F : List Int) (w' : World) : Prop :=
  w'.ownsRow w.heap.size 5 1 u F.length (F.map byteC) ∧ changed w O e b r' w'
theorem ansW_none (er : Int) (f : Nat → Nat) (l : Nat → Int) : ansW er f l 0 = ansB er [] := by unfold ansW ansB; split <;> rfl
theorem ansW_two (er t k : Int) : ansW er (chF [98, 119]) (fun i => [t, k].getD i 0) 2 = ansB er [loB t, hiB k, loB k] := by unfold ansW ansB; split <;> rfl
theorem ansW_one (er k : Int) : ansW er (chF [119]) (fun i => [k].getD i 0) 1 = ansB er [hiB k, loB k] := by unfold ansW ansB; split <;> rfl
theorem ansW_bool (er k : Int) : ansW er (chF [98]) (fun i => [k].getD i 0) 1 = ansB er [loB k] := by unfold ansW ansB; split <;> rfl
theorem ansW_route (er a b c d : Int) : ansW er (chF [119, 98, 98, 98]) (fun i => [a, b, c, d].getD i 0) 4 = ansB er [hiB a, loB a, loB b, loB c, loB d] := by unfold ansW ansB; split <;> rfl
theorem ansW_sums (er a b c d : Int) : ansW er (chF [98, 98, 119, 98]) (fun i => [a, b, c, d].getD i 0) 4 = ansB er [loB a, loB b, hiB c, loB c, loB d] := by unfold ansW ansB; split <;> rfl
section
variable {w : World} {O : Tag} {e b : Nat} {r : RefS} {n base : Nat} {l : Nat → Int} {v : Value}
set_option maxRecDepth 100000 in
set_option maxHeartbeats 4000000 in
theorem changes_1 (h : RefRep w O e b r) (hk : RefOk r) (hv : w.ownsRow base 3 1 v n (numsRow n l)) (hn : 1 ≤ n) (hO : ∀ g, v.ownBlock = some g → (O g).1 ≠ e) :
    Calls Tryz.prog 91 #[.pointer (some ⟨b, 0, none⟩), .int .i64 1, v] w fun en w' => ∃ u, en = .returned u ∧ DoneR w O e b (createdR r (l 0)) u (ansB (createR r (l 0)) [loB (createA r (l 0)).1, hiB (createA r (l 0)).2, loB (createA r (l 0)).2]) w' := by
  obtain ⟨va, vc, rfl, hv1, hv2⟩ := ownsRow_slice hv
  obtain ⟨g, rfl, hg⟩ := ownsRow_some hv (by omega)
  unfold maxLen at hv2
  have q : ∀ i, i < n → w.cell? ⟨g, i, none⟩ = some (.int .i64 (l i)) := fun i hi => by
    have := ownsRow_cell hv (fun _ _ => rfl) hi (j := 0) (by omega)
    simpa using this
  have hng : ¬ mineR O e g := fun hm => hO g rfl hm.1
  have hn0 : (0 : Int) < (n : Int) := by omega
  have hk0 : 0 < n := by omega
  have hd : RefRep w.drew O e b r := h.still ((Kept.refl _ _).drew)
  have c0 := q 0 (by omega)
  have HC := hide (refCreate_fn h hk (l 0))
  have hb1 : 0 ≤ (createA r (l 0)).1 ∧ (createA r (l 0)).1 ≤ 2000000 := by
    unfold createA
    split
    · rename_i h0
      have := freeNo_lt (createR_zero h0).2.2.1
      show 0 ≤ (freeNo r : Int) ∧ (freeNo r : Int) ≤ 2000000
      omega
    · show (0 : Int) ≤ 0 ∧ (0 : Int) ≤ 2000000
      omega
  have hb2 : 0 ≤ (createA r (l 0)).2 ∧ (createA r (l 0)).2 ≤ 2000000 := by
    have := hk.wf.nt
    unfold createA
    split
    · show 0 ≤ (r.nt : Int) + 1 ∧ (r.nt : Int) + 1 ≤ 2000000
      omega
    · show (0 : Int) ≤ 0 ∧ (0 : Int) ≤ 2000000
      omega
  clear h hk hv q hng hd hO
  generalize l 0 = a0 at *
  generalize (createA r a0).1 = t1 at *
  generalize (createA r a0).2 = t2 at *
  go_enter Tryz.func91, Tryz.ntmps91
  go_wp2_with fail
  refine (unhide HC).mono ?_
  rintro en w2 ⟨rfl, hy⟩
  have HY := hide hy
  have hz2 : w.heap.size ≤ w2.heap.size := hy.choose_spec.2.2.size
  clear hy HC c0
  have hrw := intsNew w2 [t1, t2] (Nat.zero_le _) (by simp)
  rw [map_nums] at hrw
  have HAH := hide (answered_any (s := ⟨([98, 119] : List UInt8).toArray⟩) (createR r a0) (formIs_list [98, 119]) (n := 2) (Nat.le_refl _) (by omega) (l := fun i => [t1, t2].getD i 0) (fun j hj => by rcases (by omega : j = 0 ∨ j = 1) with rfl | rfl; (exact hb1); (exact hb2)) hrw)
  clear hrw
  go_wp2_with fail
  refine (unhide HAH).mono ?_
  rintro en w5 ⟨u5, rfl, hr5, hs5⟩
  have hz5 := hs5.size
  rw [ansW_two] at hr5
  have HF : Hid (DoneR w O e b (createdR r a0) u5 _ w5) := ⟨ownsRow_base hr5 (by simp; omega), changed_of (Kept.refl _ _) (unhide HY) (Kept.trans ((Kept.refl _ _).alloc _) hs5)⟩
  clear hr5 hs5 HAH
  go_wp2
  go_ret
  exact ⟨_, rfl, unhide HF⟩
set_option maxRecDepth 100000 in
set_option maxHeartbeats 4000000 in
theorem changes_2 (h : RefRep w O e b r) (hk : RefOk r) (hv : w.ownsRow base 3 1 v n (numsRow n l)) (hn : 1 ≤ n) (hO : ∀ g, v.ownBlock = some g → (O g).1 ≠ e) :
    Calls Tryz.prog 91 #[.pointer (some ⟨b, 0, none⟩), .int .i64 2, v] w fun en w' => ∃ u, en = .returned u ∧ DoneR w O e b (droppedS r (l 0)) u (ansB (dropR r (l 0)) []) w' := by
  obtain ⟨va, vc, rfl, hv1, hv2⟩ := ownsRow_slice hv
  obtain ⟨g, rfl, hg⟩ := ownsRow_some hv (by omega)
  unfold maxLen at hv2
  have q : ∀ i, i < n → w.cell? ⟨g, i, none⟩ = some (.int .i64 (l i)) := fun i hi => by
    have := ownsRow_cell hv (fun _ _ => rfl) hi (j := 0) (by omega)
    simpa using this
  have hng : ¬ mineR O e g := fun hm => hO g rfl hm.1
  have hn0 : (0 : Int) < (n : Int) := by omega
  have hk0 : 0 < n := by omega
  have hd : RefRep w.drew O e b r := h.still ((Kept.refl _ _).drew)
  have c0 := q 0 (by omega)
  have HC := hide (refDrop_fn h hk (l 0))
  clear h hk hv q hng hd hO
  generalize l 0 = a0 at *
  go_enter Tryz.func91, Tryz.ntmps91
  go_wp2_with fail
  refine (unhide HC).mono ?_
  rintro en w2 ⟨rfl, hy⟩
  have HY := hide hy
  have hz2 : w.heap.size ≤ w2.heap.size := hy.choose_spec.2.2.size
  clear hy HC c0
  have HA := fun (er : Int) => answered_any (w := w2) (base := 0) (l := fun _ => 0) er (formIs_list []) (n := 0) (Nat.le_refl _) (by omega) (fun j hj => absurd hj (Nat.not_lt_zero _)) (World.ownsRow_nil w2 0 _ _)
  have HAH := hide HA
  clear HA
  go_wp2_with fail
  refine (unhide HAH _).mono ?_
  rintro en w5 ⟨u5, rfl, hr5, hs5⟩
  rw [ansW_none] at hr5
  have HF : Hid (DoneR w O e b (droppedS r a0) u5 (ansB (dropR r a0) []) w5) := ⟨ownsRow_base hr5 (by omega), changed_of (Kept.refl _ _) (unhide HY) hs5⟩
  clear hr5 hs5 HAH
  go_wp2
  go_ret
  exact ⟨_, rfl, unhide HF⟩
set_option maxRecDepth 100000 in
set_option maxHeartbeats 4000000 in
theorem changes_3 (h : RefRep w O e b r) (hk : RefOk r) (hv : w.ownsRow base 3 1 v n (numsRow n l)) (hn : 2 ≤ n) (hO : ∀ g, v.ownBlock = some g → (O g).1 ≠ e) :
    Calls Tryz.prog 91 #[.pointer (some ⟨b, 0, none⟩), .int .i64 3, v] w fun en w' => ∃ u, en = .returned u ∧ DoneR w O e b (derivedR r (l 0) (l 1)) u (ansB (deriveR r (l 0) (l 1)) [hiB (deriveA r (l 0) (l 1)), loB (deriveA r (l 0) (l 1))]) w' := by
  obtain ⟨va, vc, rfl, hv1, hv2⟩ := ownsRow_slice hv
  obtain ⟨g, rfl, hg⟩ := ownsRow_some hv (by omega)
  unfold maxLen at hv2
  have q : ∀ i, i < n → w.cell? ⟨g, i, none⟩ = some (.int .i64 (l i)) := fun i hi => by
    have := ownsRow_cell hv (fun _ _ => rfl) hi (j := 0) (by omega)
    simpa using this
  have hng : ¬ mineR O e g := fun hm => hO g rfl hm.1
  have hn0 : (0 : Int) < (n : Int) := by omega
  have hk0 : 0 < n := by omega
  have hd : RefRep w.drew O e b r := h.still ((Kept.refl _ _).drew)
  have c0 := q 0 (by omega)
  have c1 := q 1 (by omega)
  have m1 : (1 : Int) < (n : Int) := by omega
  have k1 : 1 < n := by omega
  have HC := hide (refDerive_fn hd hk (l 0) (l 1))
  have hb2 : 0 ≤ deriveA r (l 0) (l 1) ∧ deriveA r (l 0) (l 1) ≤ 2000000 := by
    have := hk.wf.nt
    unfold deriveA
    split
    · omega
    · omega
  clear h hk hv q hd hO
  generalize l 0 = a0 at *
  generalize l 1 = a1 at *
  go_enter Tryz.func91, Tryz.ntmps91
  go_wp2_with fail
  go_region_held3 (fun w' => w'.cell? ⟨g, 0, none⟩ = some (.int .i64 a0) ∧ w'.cell? ⟨g, 1, none⟩ = some (.int .i64 a1)) (first | go_keep | (go_split_ands; exact ⟨(hy.choose_spec.2.2.cell (p := ⟨g, 0, none⟩) hg hng).trans c0, (hy.choose_spec.2.2.cell (p := ⟨g, 1, none⟩) hg hng).trans c1⟩)) ((go_at_call 26; refine (unhide HC).mono ?_; rintro en w2 ⟨rfl, hy⟩))
  all_goals
    have HY := hide hy
    have hz2 : w.heap.size ≤ w2.heap.size := hy.choose_spec.2.2.size
    clear hy HC
    have hrw := intsNew w2 [deriveA r a0 a1] (Nat.zero_le _) (by simp)
    rw [map_nums] at hrw
    have HAH := hide (answered_any (s := ⟨([119] : List UInt8).toArray⟩) (deriveR r a0 a1) (formIs_list [119]) (n := 1) (Nat.le_refl _) (by omega) (l := fun i => [deriveA r a0 a1].getD i 0) (fun j hj => by obtain rfl : j = 0 := (by omega); exact hb2) hrw)
    clear hrw
    go_wp2_with fail
    refine (unhide HAH).mono ?_
    rintro en w5 ⟨u5, rfl, hr5, hs5⟩
    have hz5 := hs5.size
    rw [ansW_one] at hr5
    have HF : Hid (DoneR w O e b (derivedR r a0 a1) u5 _ w5) := ⟨ownsRow_base hr5 (by simp; omega), changed_of ((Kept.refl _ _).drew) (unhide HY) (Kept.trans ((Kept.refl _ _).alloc _) hs5)⟩
    clear hr5 hs5 HAH
    go_wp2
    go_ret
    exact ⟨_, rfl, unhide HF⟩
set_option maxRecDepth 100000 in
set_option maxHeartbeats 4000000 in
theorem changes_4 (h : RefRep w O e b r) (hk : RefOk r) (hv : w.ownsRow base 3 1 v n (numsRow n l)) (hn : 2 ≤ n) (hO : ∀ g, v.ownBlock = some g → (O g).1 ≠ e) :
    Calls Tryz.prog 91 #[.pointer (some ⟨b, 0, none⟩), .int .i64 4, v] w fun en w' => ∃ u, en = .returned u ∧ DoneR w O e b (revokedR r (l 0) (l 1)) u (ansB (revokeR r (l 0) (l 1)) []) w' := by
  obtain ⟨va, vc, rfl, hv1, hv2⟩ := ownsRow_slice hv
  obtain ⟨g, rfl, hg⟩ := ownsRow_some hv (by omega)
  unfold maxLen at hv2
  have q : ∀ i, i < n → w.cell? ⟨g, i, none⟩ = some (.int .i64 (l i)) := fun i hi => by
    have := ownsRow_cell hv (fun _ _ => rfl) hi (j := 0) (by omega)
    simpa using this
  have hng : ¬ mineR O e g := fun hm => hO g rfl hm.1
  have hn0 : (0 : Int) < (n : Int) := by omega
  have hk0 : 0 < n := by omega
  have hd : RefRep w.drew O e b r := h.still ((Kept.refl _ _).drew)
  have c0 := q 0 (by omega)
  have c1 := q 1 (by omega)
  have m1 : (1 : Int) < (n : Int) := by omega
  have k1 : 1 < n := by omega
  have HC := hide (refRevoke_fn hd hk (l 0) (l 1))
  clear h hk hv q hd hO
  generalize l 0 = a0 at *
  generalize l 1 = a1 at *
  go_enter Tryz.func91, Tryz.ntmps91
  go_wp2_with fail
  go_region_held3 (fun w' => w'.cell? ⟨g, 0, none⟩ = some (.int .i64 a0) ∧ w'.cell? ⟨g, 1, none⟩ = some (.int .i64 a1)) (first | go_keep | (go_split_ands; exact ⟨(hy.choose_spec.2.2.cell (p := ⟨g, 0, none⟩) hg hng).trans c0, (hy.choose_spec.2.2.cell (p := ⟨g, 1, none⟩) hg hng).trans c1⟩)) ((go_at_call 28; refine (unhide HC).mono ?_; rintro en w2 ⟨rfl, hy⟩))
  all_goals
    have HY := hide hy
    have hz2 : w.heap.size ≤ w2.heap.size := hy.choose_spec.2.2.size
    clear hy HC
    have HA := fun (er : Int) => answered_any (w := w2) (base := 0) (l := fun _ => 0) er (formIs_list []) (n := 0) (Nat.le_refl _) (by omega) (fun j hj => absurd hj (Nat.not_lt_zero _)) (World.ownsRow_nil w2 0 _ _)
    have HAH := hide HA
    clear HA
    go_wp2_with fail
    refine (unhide HAH _).mono ?_
    rintro en w5 ⟨u5, rfl, hr5, hs5⟩
    rw [ansW_none] at hr5
    have HF : Hid (DoneR w O e b (revokedR r a0 a1) u5 (ansB (revokeR r a0 a1) []) w5) := ⟨ownsRow_base hr5 (by omega), changed_of ((Kept.refl _ _).drew) (unhide HY) hs5⟩
    clear hr5 hs5 HAH
    go_wp2
    go_ret
    exact ⟨_, rfl, unhide HF⟩
set_option maxRecDepth 100000 in
set_option maxHeartbeats 4000000 in
theorem changes_5 (h : RefRep w O e b r) (hk : RefOk r) (hv : w.ownsRow base 3 1 v n (numsRow n l)) (hn : 4 ≤ n) (hO : ∀ g, v.ownBlock = some g → (O g).1 ≠ e) :
    Calls Tryz.prog 91 #[.pointer (some ⟨b, 0, none⟩), .int .i64 5, v] w fun en w' => ∃ u, en = .returned u ∧ DoneR w O e b (insertedR r (l 0) (l 1) (l 2) (l 3)) u (ansB (insertR r (l 0) (l 1) (l 2) (l 3)) []) w' := by
  obtain ⟨va, vc, rfl, hv1, hv2⟩ := ownsRow_slice hv
  obtain ⟨g, rfl, hg⟩ := ownsRow_some hv (by omega)
  unfold maxLen at hv2
  have q : ∀ i, i < n → w.cell? ⟨g, i, none⟩ = some (.int .i64 (l i)) := fun i hi => by
    have := ownsRow_cell hv (fun _ _ => rfl) hi (j := 0) (by omega)
    simpa using this
  have hng : ¬ mineR O e g := fun hm => hO g rfl hm.1
  have hn0 : (0 : Int) < (n : Int) := by omega
  have hk0 : 0 < n := by omega
  have hd : RefRep w.drew O e b r := h.still ((Kept.refl _ _).drew)
  have c0 := q 0 (by omega)
  have c1 := q 1 (by omega)
  have c2 := q 2 (by omega)
  have c3 := q 3 (by omega)
  have m1 : (1 : Int) < (n : Int) := by omega
  have k1 : 1 < n := by omega
  have m2 : (2 : Int) < (n : Int) := by omega
  have k2 : 2 < n := by omega
  have m3 : (3 : Int) < (n : Int) := by omega
  have k3 : 3 < n := by omega
  have HC := hide (refInsert_any hd hk.wf hk.tab (l 0) (l 1) (l 2) (l 3))
  clear h hk hv q hd hO
  generalize l 0 = a0 at *
  generalize l 1 = a1 at *
  generalize l 2 = a2 at *
  generalize l 3 = a3 at *
  go_enter Tryz.func91, Tryz.ntmps91
  go_wp2_with fail
  go_region_held3 (fun w' => w'.cell? ⟨g, 0, none⟩ = some (.int .i64 a0) ∧ w'.cell? ⟨g, 1, none⟩ = some (.int .i64 a1) ∧ w'.cell? ⟨g, 2, none⟩ = some (.int .i64 a2) ∧ w'.cell? ⟨g, 3, none⟩ = some (.int .i64 a3)) (first | go_keep | (go_split_ands; exact ⟨(hy.choose_spec.2.2.cell (p := ⟨g, 0, none⟩) hg hng).trans c0, (hy.choose_spec.2.2.cell (p := ⟨g, 1, none⟩) hg hng).trans c1, (hy.choose_spec.2.2.cell (p := ⟨g, 2, none⟩) hg hng).trans c2, (hy.choose_spec.2.2.cell (p := ⟨g, 3, none⟩) hg hng).trans c3⟩)) ((go_at_call 30; refine (unhide HC).mono ?_; rintro en w2 ⟨rfl, hy⟩))
  all_goals
    have HY := hide hy
    have hz2 : w.heap.size ≤ w2.heap.size := hy.choose_spec.2.2.size
    clear hy HC
    have HA := fun (er : Int) => answered_any (w := w2) (base := 0) (l := fun _ => 0) er (formIs_list []) (n := 0) (Nat.le_refl _) (by omega) (fun j hj => absurd hj (Nat.not_lt_zero _)) (World.ownsRow_nil w2 0 _ _)
    have HAH := hide HA
    clear HA
    go_wp2_with fail
    refine (unhide HAH _).mono ?_
    rintro en w5 ⟨u5, rfl, hr5, hs5⟩
    rw [ansW_none] at hr5
    have HF : Hid (DoneR w O e b (insertedR r a0 a1 a2 a3) u5 (ansB (insertR r a0 a1 a2 a3) []) w5) := ⟨ownsRow_base hr5 (by omega), changed_of ((Kept.refl _ _).drew) (unhide HY) hs5⟩
    clear hr5 hs5 HAH
    go_wp2
    go_ret
    exact ⟨_, rfl, unhide HF⟩
set_option maxRecDepth 100000 in
set_option maxHeartbeats 4000000 in
theorem changes_6 (h : RefRep w O e b r) (hk : RefOk r) (hv : w.ownsRow base 3 1 v n (numsRow n l)) (hn : 3 ≤ n) (hO : ∀ g, v.ownBlock = some g → (O g).1 ≠ e) :
    Calls Tryz.prog 91 #[.pointer (some ⟨b, 0, none⟩), .int .i64 6, v] w fun en w' => ∃ u, en = .returned u ∧ DoneR w O e b (removedR r (l 0) (l 1) (l 2)) u (ansB (removeR r (l 0) (l 1) (l 2)) []) w' := by
  obtain ⟨va, vc, rfl, hv1, hv2⟩ := ownsRow_slice hv
  obtain ⟨g, rfl, hg⟩ := ownsRow_some hv (by omega)
  unfold maxLen at hv2
  have q : ∀ i, i < n → w.cell? ⟨g, i, none⟩ = some (.int .i64 (l i)) := fun i hi => by
    have := ownsRow_cell hv (fun _ _ => rfl) hi (j := 0) (by omega)
    simpa using this
  have hng : ¬ mineR O e g := fun hm => hO g rfl hm.1
  have hn0 : (0 : Int) < (n : Int) := by omega
  have hk0 : 0 < n := by omega
  have hd : RefRep w.drew O e b r := h.still ((Kept.refl _ _).drew)
  have c0 := q 0 (by omega)
  have c1 := q 1 (by omega)
  have c2 := q 2 (by omega)
  have m1 : (1 : Int) < (n : Int) := by omega
  have k1 : 1 < n := by omega
  have m2 : (2 : Int) < (n : Int) := by omega
  have k2 : 2 < n := by omega
  have HC := hide (refRemove_any hd hk.wf hk.tab (l 0) (l 1) (l 2))
  clear h hk hv q hd hO
  generalize l 0 = a0 at *
  generalize l 1 = a1 at *
  generalize l 2 = a2 at *
  go_enter Tryz.func91, Tryz.ntmps91
  go_wp2_with fail
  go_region_held3 (fun w' => w'.cell? ⟨g, 0, none⟩ = some (.int .i64 a0) ∧ w'.cell? ⟨g, 1, none⟩ = some (.int .i64 a1) ∧ w'.cell? ⟨g, 2, none⟩ = some (.int .i64 a2)) (first | go_keep | (go_split_ands; exact ⟨(hy.choose_spec.2.2.cell (p := ⟨g, 0, none⟩) hg hng).trans c0, (hy.choose_spec.2.2.cell (p := ⟨g, 1, none⟩) hg hng).trans c1, (hy.choose_spec.2.2.cell (p := ⟨g, 2, none⟩) hg hng).trans c2⟩)) ((go_at_call 32; refine (unhide HC).mono ?_; rintro en w2 ⟨rfl, hy⟩))
  all_goals
    have HY := hide hy
    have hz2 : w.heap.size ≤ w2.heap.size := hy.choose_spec.2.2.size
    clear hy HC
    have HA := fun (er : Int) => answered_any (w := w2) (base := 0) (l := fun _ => 0) er (formIs_list []) (n := 0) (Nat.le_refl _) (by omega) (fun j hj => absurd hj (Nat.not_lt_zero _)) (World.ownsRow_nil w2 0 _ _)
    have HAH := hide HA
    clear HA
    go_wp2_with fail
    refine (unhide HAH _).mono ?_
    rintro en w5 ⟨u5, rfl, hr5, hs5⟩
    rw [ansW_none] at hr5
    have HF : Hid (DoneR w O e b (removedR r a0 a1 a2) u5 (ansB (removeR r a0 a1 a2) []) w5) := ⟨ownsRow_base hr5 (by omega), changed_of ((Kept.refl _ _).drew) (unhide HY) hs5⟩
    clear hr5 hs5 HAH
    go_wp2
    go_ret
    exact ⟨_, rfl, unhide HF⟩
set_option maxRecDepth 100000 in
set_option maxHeartbeats 4000000 in
theorem changes_7 (h : RefRep w O e b r) (hk : RefOk r) (hv : w.ownsRow base 3 1 v n (numsRow n l)) (hn : 3 ≤ n) (hO : ∀ g, v.ownBlock = some g → (O g).1 ≠ e) :
    Calls Tryz.prog 91 #[.pointer (some ⟨b, 0, none⟩), .int .i64 7, v] w fun en w' => ∃ u, en = .returned u ∧ DoneR w O e b (sharedR r (l 0) (l 1) (l 2)) u (ansB (shareR r (l 0) (l 1) (l 2)) []) w' := by
  obtain ⟨va, vc, rfl, hv1, hv2⟩ := ownsRow_slice hv
  obtain ⟨g, rfl, hg⟩ := ownsRow_some hv (by omega)
  unfold maxLen at hv2
  have q : ∀ i, i < n → w.cell? ⟨g, i, none⟩ = some (.int .i64 (l i)) := fun i hi => by
    have := ownsRow_cell hv (fun _ _ => rfl) hi (j := 0) (by omega)
    simpa using this
  have hng : ¬ mineR O e g := fun hm => hO g rfl hm.1
  have hn0 : (0 : Int) < (n : Int) := by omega
  have hk0 : 0 < n := by omega
  have hd : RefRep w.drew O e b r := h.still ((Kept.refl _ _).drew)
  have c0 := q 0 (by omega)
  have c1 := q 1 (by omega)
  have c2 := q 2 (by omega)
  have m1 : (1 : Int) < (n : Int) := by omega
  have k1 : 1 < n := by omega
  have m2 : (2 : Int) < (n : Int) := by omega
  have k2 : 2 < n := by omega
  have HC := hide (refShare_fn hd hk (l 0) (l 1) (l 2))
  clear h hk hv q hd hO
  generalize l 0 = a0 at *
  generalize l 1 = a1 at *
  generalize l 2 = a2 at *
  go_enter Tryz.func91, Tryz.ntmps91
  go_wp2_with fail
  go_region_held3 (fun w' => w'.cell? ⟨g, 0, none⟩ = some (.int .i64 a0) ∧ w'.cell? ⟨g, 1, none⟩ = some (.int .i64 a1) ∧ w'.cell? ⟨g, 2, none⟩ = some (.int .i64 a2)) (first | go_keep | (go_split_ands; exact ⟨(hy.choose_spec.2.2.cell (p := ⟨g, 0, none⟩) hg hng).trans c0, (hy.choose_spec.2.2.cell (p := ⟨g, 1, none⟩) hg hng).trans c1, (hy.choose_spec.2.2.cell (p := ⟨g, 2, none⟩) hg hng).trans c2⟩)) ((go_at_call 34; refine (unhide HC).mono ?_; rintro en w2 ⟨rfl, hy⟩))
  all_goals
    have HY := hide hy
    have hz2 : w.heap.size ≤ w2.heap.size := hy.choose_spec.2.2.size
    clear hy HC
    have HA := fun (er : Int) => answered_any (w := w2) (base := 0) (l := fun _ => 0) er (formIs_list []) (n := 0) (Nat.le_refl _) (by omega) (fun j hj => absurd hj (Nat.not_lt_zero _)) (World.ownsRow_nil w2 0 _ _)
    have HAH := hide HA
    clear HA
    go_wp2_with fail
    refine (unhide HAH _).mono ?_
    rintro en w5 ⟨u5, rfl, hr5, hs5⟩
    rw [ansW_none] at hr5
    have HF : Hid (DoneR w O e b (sharedR r a0 a1 a2) u5 (ansB (shareR r a0 a1 a2) []) w5) := ⟨ownsRow_base hr5 (by omega), changed_of ((Kept.refl _ _).drew) (unhide HY) hs5⟩
    clear hr5 hs5 HAH
    go_wp2
    go_ret
    exact ⟨_, rfl, unhide HF⟩
set_option maxRecDepth 100000 in
set_option maxHeartbeats 4000000 in
theorem changes_8 (h : RefRep w O e b r) (hk : RefOk r) (hv : w.ownsRow base 3 1 v n (numsRow n l)) (hn : 2 ≤ n) (hO : ∀ g, v.ownBlock = some g → (O g).1 ≠ e) {K : Nat} (hK : n = 2 + 5 * K) (hK2 : K ≤ 255) :
    Calls Tryz.prog 91 #[.pointer (some ⟨b, 0, none⟩), .int .i64 8, v] w fun en w' => ∃ u, en = .returned u ∧ DoneR w O e b (filteredR r (l 0) (askTo l K)) u (ansB (filterR r (l 0) (askTo l K)) []) w' := by
  obtain ⟨va, vc, rfl, hv1, hv2⟩ := ownsRow_slice hv
  obtain ⟨g, rfl, hg⟩ := ownsRow_some hv (by omega)
  unfold maxLen at hv2
  have q : ∀ i, i < n → w.cell? ⟨g, i, none⟩ = some (.int .i64 (l i)) := fun i hi => by
    have := ownsRow_cell hv (fun _ _ => rfl) hi (j := 0) (by omega)
    simpa using this
  have hng : ¬ mineR O e g := fun hm => hO g rfl hm.1
  have hn0 : (0 : Int) < (n : Int) := by omega
  have hk0 : 0 < n := by omega
  have hd : RefRep w.drew O e b r := h.still ((Kept.refl _ _).drew)
  subst hK
  have c0 := q 0 (by omega)
  have HQ := hide (asked_any hv hK2)
  have HI := hide h
  have HW := hide hk.wf
  have hll : (askTo l K).length ≤ 1000 := by rw [askTo_len]; omega
  clear h hk hv q hng hd hO
  generalize l 0 = a0 at *
  generalize askTo l K = R at *
  have hn0' : 0 < 2 + 5 * K := by omega
  generalize 2 + 5 * K = N at *
  go_enter Tryz.func91, Tryz.ntmps91
  go_wp2_with fail
  refine (unhide HQ).mono ?_
  rintro en w1 ⟨u, rfl, hrow, hs1⟩
  have c1 := (hs1.cell g 0 hg).trans c0
  have HC := hide (refFilter_any ((unhide HI).still hs1) (unhide HW) a0 (RulesIn.ofRow hrow hll))
  have HS1 := hide hs1
  have hz1 := hs1.size
  clear hrow hs1 HQ c0
  go_wp2_with fail
  refine (unhide HC).mono ?_
  rintro en w2 ⟨rfl, hy⟩
  have HY := hide hy
  have hz2 : w1.heap.size ≤ w2.heap.size := hy.choose_spec.2.2.size
  clear hy HC c1
  have HA := fun (er : Int) => answered_any (w := w2) (base := 0) (l := fun _ => 0) er (formIs_list []) (n := 0) (Nat.le_refl _) (by omega) (fun j hj => absurd hj (Nat.not_lt_zero _)) (World.ownsRow_nil w2 0 _ _)
  have HAH := hide HA
  clear HA
  go_wp2_with fail
  refine (unhide HAH _).mono ?_
  rintro en w5 ⟨u5, rfl, hr5, hs5⟩
  rw [ansW_none] at hr5
  have HF : Hid (DoneR w O e b (filteredR r a0 R) u5 (ansB (filterR r a0 R) []) w5) := ⟨ownsRow_base hr5 (by omega), changed_of (unhide HS1) (unhide HY) hs5⟩
  clear hr5 hs5 HAH
  go_wp2
  go_ret
  exact ⟨_, rfl, unhide HF⟩
end

theorem tableL_ok {r : RefS} (hk : RefOk r) (n : Int) : ∀ y ∈ tableL r n, okRoute y := fun y hy => by
  unfold tableL at hy
  split at hy
  · rename_i hm
    have hlf0 := may_life hk hm
    obtain ⟨_, hmem⟩ := tabF_is hk.tab hk.own hlf0
    rcases (hmem y).1 hy with q | q
    · exact hk.tab.own _ hlf0 y q
    · exact (((offF_is hk.tab hk.own _).2 y).1 (List.mem_of_mem_take q)).1.ok hk.tab
  · cases hy
def small (x : Int) : Prop := 0 ≤ x ∧ x ≤ 2000000
theorem okRoute.smalls {x : RouteD} (h : okRoute x) : small x.addr ∧ small x.len ∧ small x.hop ∧ small x.from_ := by
  obtain ⟨a0, a1, l0, l1, h0, h1, f0, f1, _⟩ := h
  unfold small
  omega
theorem longL_mem {l : List RouteD} {a : Int} {x : RouteD} (h : longL l a = some x) : x ∈ l := by
  have e : longL l a = (l.filter (inB a)).getLast? := by
    unfold longL
    first | rfl | (rw [List.getLast?_filter]) | simp
  rw [e] at h
  exact (List.mem_filter.1 (List.mem_of_getLast? h)).1
theorem lookA_small {r : RefS} (hk : RefOk r) (n a : Int) : small (lookA r n a).addr ∧ small (lookA r n a).len ∧ small (lookA r n a).hop ∧ small (lookA r n a).from_ := by
  have h0 : small rt0.addr ∧ small rt0.len ∧ small rt0.hop ∧ small rt0.from_ := by refine ⟨⟨?_, ?_⟩, ⟨?_, ?_⟩, ⟨?_, ?_⟩, ⟨?_, ?_⟩⟩ <;> decide
  unfold lookA
  split
  · split
    · unfold longA
      cases hl : longL (tableL r n) a with
      | none => exact h0
      | some x => exact (tableL_ok hk n x (longL_mem hl)).smalls
    · exact h0
  · exact h0
theorem sorted_len : ∀ (l : List RouteD) (c M : Int), Sorted l → (∀ x ∈ l, c ≤ key x ∧ key x < M) → c ≤ M → (l.length : Int) ≤ M - c
  | [], c, M, _, _, hc => by simp; omega
  | x :: l, c, M, hs, hb, hc => by
    obtain ⟨h1, h2⟩ := List.pairwise_cons.1 hs
    have hx := hb x List.mem_cons_self
    have := sorted_len l (c + 1) M h2 (fun y hy => ⟨by have := h1 y hy; omega, (hb y (List.mem_cons_of_mem _ hy)).2⟩) (by omega)
    simp only [List.length_cons]
    omega
theorem key_ok {x : RouteD} (h : okRoute x) : 0 ≤ key x ∧ key x < 1114112 := by
  obtain ⟨a0, a1, l0, l1, _, _, _, _, _⟩ := h
  unfold key
  omega
theorem offF_len {r : RefS} (hk : RefOk r) (t : Nat) : (offF r t).length ≤ 1114112 := by
  have h := offF_is hk.tab hk.own t
  have := sorted_len (offF r t) 0 1114112 h.1 (fun x hx => key_ok (((h.2 x).1 hx).1.ok hk.tab)) (by omega)
  omega
theorem countF_small {r : RefS} (hk : RefOk r) (n : Int) : small (countF r n).own ∧ small (countF r n).taken ∧ small (countF r n).dropped ∧ small (countF r n).quota := by
  unfold countF
  split
  · rename_i hm
    have hl := may_life hk hm
    have hq := hk.wf.quota _ hl
    have ho := hk.tab.ownN _ hl
    have h1 := offF_len hk (lifeOf r n)
    have h2 : (takenF r (lifeOf r n)).length ≤ (offF r (lifeOf r n)).length := by unfold takenF; rw [List.length_take]; omega
    refine ⟨?_, ?_, ?_, ?_⟩
    · show small ((r.life (lifeOf r n)).own.length : Int); unfold small; omega
    · show small ((takenF r (lifeOf r n)).length : Int); unfold small; omega
    · show small (droppedR (r.life (lifeOf r n)) (offF r (lifeOf r n))); unfold small droppedR; omega
    · show small (r.life (lifeOf r n)).quota; unfold small; omega
  · unfold small; show (0 ≤ (0 : Int) ∧ (0 : Int) ≤ 2000000) ∧ (0 ≤ (0 : Int) ∧ (0 : Int) ≤ 2000000) ∧ (0 ≤ (0 : Int) ∧ (0 : Int) ≤ 2000000) ∧ (0 ≤ (0 : Int) ∧ (0 : Int) ≤ 2000000); omega
/-- The form of a table. -/
theorem fl_zero (k : Nat) : chF (flatL k) 0 = 98 := by
  induction k with
  | zero => rfl
  | succ k ih =>
    have hl := flatL_len k
    rw [← ih]
    unfold chF
    show ((flatL k ++ _).getD 0 0).toNat = _
    rw [List.getD_eq_getElem?_getD, List.getElem?_append_left (by omega), ← List.getD_eq_getElem?_getD]
theorem fl_at (k : Nat) : ∀ i r, i < k → r < 4 → chF (flatL k) (1 + 4 * i + r) = chF [119, 98, 98, 98] r := by
  induction k with
  | zero => intro i r h; omega
  | succ k ih =>
    intro i r hi hr
    have hl := flatL_len k
    by_cases h : i < k
    · rw [← ih i r h hr]
      unfold chF
      show ((flatL k ++ _).getD _ 0).toNat = _
      rw [List.getD_eq_getElem?_getD, List.getElem?_append_left (by omega), ← List.getD_eq_getElem?_getD]
    · obtain rfl : i = k := by omega
      unfold chF
      show ((flatL i ++ [119, 98, 98, 98]).getD _ 0).toNat = _
      rw [List.getD_eq_getElem?_getD, List.getElem?_append_right (by omega), hl, show 1 + 4 * i + r - (1 + 4 * i) = r by omega, ← List.getD_eq_getElem?_getD]
theorem nums4_len (L : List RouteD) : (L.flatMap nums4).length = 4 * L.length := by
  induction L with
  | nil => rfl
  | cons x L ih => rw [List.flatMap_cons, List.length_append, ih]; simp [nums4]; omega
theorem flatN_len (L : List RouteD) : (flatN L L.length).length = 1 + 4 * L.length := by
  unfold flatN
  rw [List.take_length, List.length_cons, nums4_len]
  omega
theorem flatN_at {L : List RouteD} : ∀ {i r : Nat}, i < L.length → r < 4 → (flatN L L.length).getD (1 + 4 * i + r) 0 = (nums4 (L.getD i rt0)).getD r 0 := by
  have key : ∀ (M : List RouteD) (i r : Nat), i < M.length → r < 4 → (M.flatMap nums4).getD (4 * i + r) 0 = (nums4 (M.getD i rt0)).getD r 0 := by
    intro M
    induction M with
    | nil => intro i r h; simp at h
    | cons x M ih =>
      intro i r hi hr
      rw [List.flatMap_cons]
      cases i with
      | zero =>
        rw [List.getD_eq_getElem?_getD, List.getElem?_append_left (by simp [nums4]; omega), ← List.getD_eq_getElem?_getD]
        simp
      | succ i =>
        rw [List.getD_eq_getElem?_getD, List.getElem?_append_right (by simp [nums4]; omega), show 4 * (i + 1) + r - (nums4 x).length = 4 * i + r by simp [nums4]; omega, ← List.getD_eq_getElem?_getD, ih i r (by simpa using hi) hr]
        simp
  intro i r hi hr
  unfold flatN
  rw [List.take_length, show 1 + 4 * i + r = (4 * i + r) + 1 by omega]
  have := key L i r hi hr
  simpa using this
theorem flatN_zero (L : List RouteD) : (flatN L L.length).getD 0 0 = (L.length : Int) := by unfold flatN; simp
theorem writeW_succ (f : Nat → Nat) (l : Nat → Int) (k : Nat) : writeW f l (k + 1) = writeW f l k ++ (if f k = 119 then [hiB (l k)] else []) ++ [loB (l k)] := rfl
theorem fl_write (L : List RouteD) : ∀ k, k ≤ L.length → writeW (chF (flatL L.length)) (fun i => (flatN L L.length).getD i 0) (1 + 4 * k) = 0 :: tabB L k := by
  intro k
  induction k with
  | zero =>
    intro _
    show writeW _ _ (0 + 1) = _
    rw [writeW_succ, fl_zero]
    show [0] ++ _ ++ [loB ((flatN L L.length).getD 0 0)] = _
    rw [flatN_zero]
    unfold tabB
    simp
  | succ k ih =>
    intro hk
    have c0 := fl_at L.length k 0 (by omega) (by omega)
    have c1 := fl_at L.length k 1 (by omega) (by omega)
    have c2 := fl_at L.length k 2 (by omega) (by omega)
    have c3 := fl_at L.length k 3 (by omega) (by omega)
    have d0 := flatN_at (L := L) (i := k) (r := 0) (by omega) (by omega)
    have d1 := flatN_at (L := L) (i := k) (r := 1) (by omega) (by omega)
    have d2 := flatN_at (L := L) (i := k) (r := 2) (by omega) (by omega)
    have d3 := flatN_at (L := L) (i := k) (r := 3) (by omega) (by omega)
    rw [tabB_succ (by omega)]
    rw [show 1 + 4 * (k + 1) = 1 + 4 * k + 0 + 1 + 1 + 1 + 1 by omega, writeW_succ, writeW_succ, writeW_succ, writeW_succ]
    rw [show 1 + 4 * k + 0 + 1 + 1 + 1 = 1 + 4 * k + 3 by omega, show 1 + 4 * k + 0 + 1 + 1 = 1 + 4 * k + 2 by omega, show 1 + 4 * k + 0 + 1 = 1 + 4 * k + 1 by omega]
    rw [Nat.add_zero] at c0 d0
    simp only [c0, c1, c2, c3, d0, d1, d2, d3]
    rw [ih (by omega)]
    generalize L.getD k rt0 = x
    simp [chF, nums4, routeB]
theorem ansW_table (er : Int) (L : List RouteD) : ansW er (chF (flatL L.length)) (fun i => (flatN L L.length).getD i 0) (1 + 4 * L.length) = ansB er (loB L.length :: L.flatMap routeB) := by
  unfold ansW ansB
  rw [fl_write L _ (Nat.le_refl _), tabB_all]
theorem flatN_small {r : RefS} (hk : RefOk r) (n : Int) : ∀ j, j < 1 + 4 * (tableL r n).length → small ((flatN (tableL r n) (tableL r n).length).getD j 0) := fun j hj => by
  have hl := tableX_le hk n
  have hok := tableL_ok hk n
  generalize tableL r n = L at *
  by_cases h0 : j = 0
  · subst h0; rw [flatN_zero]; unfold small; omega
  · obtain ⟨i, r', rfl, hr⟩ : ∃ i r', j = 1 + 4 * i + r' ∧ r' < 4 := ⟨(j - 1) / 4, (j - 1) % 4, by omega, by omega⟩
    rw [flatN_at (by omega) hr]
    have hx := (hok (L.getD i rt0) (by
      rw [List.getD_eq_getElem?_getD, List.getElem?_eq_getElem (by omega)]
      exact List.getElem_mem _)).smalls
    generalize L.getD i rt0 = x at *
    rcases (by omega : r' = 0 ∨ r' = 1 ∨ r' = 2 ∨ r' = 3) with rfl | rfl | rfl | rfl
    · exact hx.1
    · exact hx.2.1
    · exact hx.2.2.1
    · exact hx.2.2.2
/-- The rules, by forms. -/
theorem ask_rules (x : Int) (b : List Int) (K : Nat) (hK : fB b 2 = (K : Int)) : askTo (fldW (chF (spreadL K)) b) K = rulesB (x :: b) := by
  unfold askTo rulesB
  have e3 : fB (x :: b) 3 = fB b 2 := fB_tail x b 2
  rw [e3, hK]
  show List.map _ (List.range K) = List.map _ (List.range K)
  refine List.map_congr_left fun i hi => ?_
  obtain ⟨f0, f1, f2, f3, f4⟩ := sp_fld (List.mem_range.1 hi) b
  unfold askR ruleW
  rw [f0, f1, f2, f3, f4, show 4 + 6 * i = 3 + 6 * i + 1 by omega, show 3 + 6 * i + 1 + 1 = 4 + 6 * i + 1 by omega, show 3 + 6 * i + 1 + 3 = 6 + 6 * i + 1 by omega, show 3 + 6 * i + 1 + 4 = 7 + 6 * i + 1 by omega, show 3 + 6 * i + 1 + 5 = 8 + 6 * i + 1 by omega, fB_tail, fB_tail, fB_tail, fB_tail, fW_tail, show 3 + 6 * i + 1 = 4 + 6 * i by omega]
end Go.Proofs.YtgndledehlilkaaGreat
