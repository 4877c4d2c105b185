/-
  Walks: districtref: Table, Count, Share.
-/
import Derived.Test.YthmmaccdccjgnaaGreatPure
import Derived.Test.YthmmaccdccjgnaaGreatRefT9
namespace Go.Proofs.YthmmaccdccjgnaaGreat
open Go.RowKit
def refTablePost (w : World) (r : RefS) (n : Int) (en : Ending) (w' : World) : Prop :=
  (mayI r n 1 ≠ 0 ∧ en = .returned (.tuple #[.slice none 0 0, .int .i64 (mayI r n 1)]) ∧ Still w w') ∨
  (mayI r n 1 = 0 ∧ ∃ (off : List RouteD) (v : Value), Chain r (lifeOf r n) (nxAll r (lifeOf r n) rt0 true r.nl) off ∧ en = .returned (.tuple #[v, .int .i64 0]) ∧ w'.ownsRow w.heap.size 50 4 v (tableR (r.life (lifeOf r n)) off).length ((tableR (r.life (lifeOf r n)) off).flatMap routeCells) ∧ Still w w')
set_option maxRecDepth 100000 in
set_option maxHeartbeats 4000000 in
theorem refTable_any {w : World} {O : Nat → Nat × Nat × Nat} {e b : Nat} {r : RefS} (h : RefRep w O e b r) (hf : RefWf r) (htb : RefTab r) (n : Int) :
    Calls Tryz.prog 35 #[.pointer (some ⟨b, 0, none⟩), .int .i64 n] w fun en w' => refTablePost w r n en w' := by
  by_cases hm : mayI r n 1 = 0
  · obtain ⟨_, hn1, hn2⟩ := mayI_zero hm
    obtain ⟨k, rfl⟩ : ∃ k : Nat, n = (k : Int) + 1 := ⟨(n - 1).toNat, by omega⟩
    have hk : k < r.nt := by omega
    have hlf : lifeOf r ((k : Int) + 1) = (r.tok k).life := by unfold lifeOf; rw [show ((k : Int) + 1 - 1).toNat = k from by omega]
    have HLF := hide hlf
    have HM := hide hm
    have hnl := hf.life k hk
    have hn := hf.nt
    clear hm hlf
    obtain ⟨lv, tv, ov, rv, ln, ht⟩ := h
    obtain ⟨a, cap, rfl, h1, h2, h3⟩ := ht.toksAt
    obtain ⟨g, rfl⟩ := h3 k hk
    unfold maxLen at h2
    have HT := hide ht
    clear ht h3
    go_enter Tryz.func35, Tryz.ntmps35
    go_wp2_with fail
    refine (may_any ⟨_, _, _, _, _, unhide HT⟩ hf _ _ (by omega) (by omega)).mono ?_
    rintro en w1 ⟨rfl, hw⟩
    rw [unhide HM]
    have ht1 := (unhide HT).still hw
    obtain ⟨_, _, c2, _⟩ := ht1.cells
    have t0 : w1.cell? ⟨g, k * 4, none⟩ = some (.int .i64 ((r.tok k).life : Int)) := ht1.tokCell hk 0 (by omega)
    have HT1 := hide ht1
    have HW := hide hw
    have hz := hw.size
    clear ht1 hw
    go_wp2_with fail
    refine (whole_any ⟨_, _, _, _, _, unhide HT1⟩ hf htb _ hnl).mono ?_
    rintro en w2 ⟨off, v, hch, hlo, rfl, how, hs2⟩
    obtain ⟨va, vc, rfl, _, _⟩ := ownsRow_slice how
    have HF : Hid (refTablePost w r ((k : Int) + 1) (.returned (.tuple #[.slice va (tableR (r.life (r.tok k).life) off).length vc, .int .i64 0])) w2) := by
      refine Or.inr ⟨unhide HM, off, _, ?_, rfl, ?_, Kept.trans (unhide HW) hs2⟩
      · rw [unhide HLF]; exact hch
      · rw [unhide HLF]; exact how.mono hz
    clear hch how hs2
    generalize (tableR (r.life (r.tok k).life) off).length = tl at *
    generalize droppedR (r.life (r.tok k).life) off = dl at *
    go_wp2
    go_ret2
    exact unhide HF
  · have hc := mayI_cases r n 1
    have hne : (mayI r n 1 != 0) = true := by simpa using hm
    have HM := hide hm
    clear hm
    go_enter Tryz.func35, Tryz.ntmps35
    go_wp2_with fail
    refine (may_any h hf _ _ (by omega) (by omega)).mono ?_
    rintro en w1 ⟨rfl, hw⟩
    have HP : Hid (refTablePost w r n (.returned (.tuple #[.slice none 0 0, .int .i64 (mayI r n 1)])) w1) := Or.inl ⟨unhide HM, rfl, hw⟩
    clear hw
    generalize mayI r n 1 = x at *
    go_wp2
    go_ret2
    exact unhide HP
def refCountPost (w : World) (r : RefS) (n : Int) (en : Ending) (w' : World) : Prop :=
  (mayI r n 1 ≠ 0 ∧ en = .returned (.tuple #[.agg #[.int .i64 0, .int .i64 0, .int .i64 0, .int .i64 0], .int .i64 (mayI r n 1)]) ∧ Still w w') ∨
  (mayI r n 1 = 0 ∧ ∃ (off : List RouteD), Chain r (lifeOf r n) (nxAll r (lifeOf r n) rt0 true r.nl) off ∧ en = .returned (.tuple #[.agg #[.int .i64 ((r.life (lifeOf r n)).own.length : Int), .int .i64 (((tableR (r.life (lifeOf r n)) off).length : Int) - ((r.life (lifeOf r n)).own.length : Int)), .int .i64 (droppedR (r.life (lifeOf r n)) off), .int .i64 (r.life (lifeOf r n)).quota], .int .i64 0]) ∧ Still w w')
set_option maxRecDepth 100000 in
set_option maxHeartbeats 4000000 in
theorem refCount_any {w : World} {O : Nat → Nat × Nat × Nat} {e b : Nat} {r : RefS} (h : RefRep w O e b r) (hf : RefWf r) (htb : RefTab r) (n : Int) :
    Calls Tryz.prog 38 #[.pointer (some ⟨b, 0, none⟩), .int .i64 n] w fun en w' => refCountPost w r n en w' := by
  by_cases hm : mayI r n 1 = 0
  · obtain ⟨_, hn1, hn2⟩ := mayI_zero hm
    obtain ⟨k, rfl⟩ : ∃ k : Nat, n = (k : Int) + 1 := ⟨(n - 1).toNat, by omega⟩
    have hk : k < r.nt := by omega
    have hlf : lifeOf r ((k : Int) + 1) = (r.tok k).life := by unfold lifeOf; rw [show ((k : Int) + 1 - 1).toNat = k from by omega]
    have HLF := hide hlf
    have HM := hide hm
    have hnl := hf.life k hk
    have hn := hf.nt
    have hl := hf.nl
    have hqq := hf.quota _ hnl
    have hoo := htb.ownN _ hnl
    clear hm hlf
    obtain ⟨lv, tv, ov, rv, ln, ht⟩ := h
    have bl := ht.lt
    obtain ⟨a, cap, rfl, h1, h2, h3⟩ := ht.toksAt
    obtain ⟨g, rfl⟩ := h3 k hk
    obtain ⟨al, capl, rfl, h1', h2', h3'⟩ := ht.livesAt
    obtain ⟨gl, rfl⟩ := h3' _ hnl
    obtain ⟨oa, oc, oe, ol1, ol2⟩ := ownsRow_slice (ht.owns _ hnl)
    have OE := hide oe
    unfold maxLen at h2 h2' ol2
    have HT := hide ht
    clear ht h3 h3' oe
    go_enter Tryz.func38, Tryz.ntmps38
    go_wp2_with fail
    have hb0 : Box4 (w.alloc (.cells #[.int .i64 0, .int .i64 0, .int .i64 0, .int .i64 0] 89)) w.heap.size rt0 := Box4.new w rt0 _
    have hs0 : Still w (w.alloc (.cells #[.int .i64 0, .int .i64 0, .int .i64 0, .int .i64 0] 89)) := (Kept.refl _ _).alloc _
    refine (may_any ⟨_, _, _, _, _, (unhide HT).still hs0⟩ hf _ _ (by omega) (by omega)).mono ?_
    rintro en w1 ⟨rfl, hw⟩
    rw [unhide HM]
    have hw1 : Still w w1 := Kept.trans hs0 hw
    have ht1 := (unhide HT).still hw1
    obtain ⟨_, _, c2, _⟩ := ht1.cells
    have t0 : w1.cell? ⟨g, k * 4, none⟩ = some (.int .i64 ((r.tok k).life : Int)) := ht1.tokCell hk 0 (by omega)
    have HT1 := hide ht1
    have HW := hide hw1
    have HB1 := hide (hb0.still hw)
    clear ht1 hw hw1 hb0 hs0
    go_wp2_with fail
    refine (whole_any ⟨_, _, _, _, _, unhide HT1⟩ hf htb _ hnl).mono ?_
    rintro en w2 ⟨off, v, hch, hlo, rfl, how, hs2⟩
    obtain ⟨va, vc, rfl, _, _⟩ := ownsRow_slice how
    have ht2 := (unhide HT1).still hs2
    obtain ⟨_, d1, _, _⟩ := ht2.cells
    have u4 : w2.cell? ⟨gl, (r.tok k).life * 7 + 4, none⟩ = some (ov (r.tok k).life) := ht2.lifeCell hnl 4 (by omega)
    have u1 : w2.cell? ⟨gl, (r.tok k).life * 7 + 1, none⟩ = some (.int .i64 (r.life (r.tok k).life).quota) := ht2.lifeCell hnl 1 (by omega)
    rw [unhide OE] at u4
    have hbx := (unhide HB1).still hs2
    have m0 := hbx.c0
    have m1 := hbx.c1
    have m2 := hbx.c2
    have m3 := hbx.c3
    have mf := hbx.fz
    have htl := tableR_le (off := off) hqq.1 hqq.2 hoo
    have hll0 : (0 : Int) ≤ ((r.tok k).life : Int) := by omega
    have hll1 : ((r.tok k).life : Int) < (r.nl : Int) := by omega
    have BP := hide (hbx.put ⟨((r.life (r.tok k).life).own.length : Int), ((tableR (r.life (r.tok k).life) off).length : Int) - ((r.life (r.tok k).life).own.length : Int), droppedR (r.life (r.tok k).life) off, (r.life (r.tok k).life).quota⟩)
    have HCH := hide hch
    have HS2 : Hid (Still w w2) := Kept.trans (unhide HW) hs2
    have hs2z := hs2.size
    clear how hch hs2 ht2 hbx c2 t0
    generalize hse : w.heap.size = s0 at *
    have Hse := hide hse
    clear hse
    go_wp2
    have KP : Hid (Still w ((((w2.setCell ⟨s0, 0, none⟩ (.int .i64 ((r.life (r.tok k).life).own.length : Int))).setCell ⟨s0, 1, none⟩ (.int .i64 (((tableR (r.life (r.tok k).life) off).length : Int) - ((r.life (r.tok k).life).own.length : Int)))).setCell ⟨s0, 2, none⟩ (.int .i64 (droppedR (r.life (r.tok k).life) off))).setCell ⟨s0, 3, none⟩ (.int .i64 (r.life (r.tok k).life).quota))) := by
      have hh := unhide Hse
      exact Kept.setCell (Kept.setCell (Kept.setCell (Kept.setCell (unhide HS2) (.inr (by show w.heap.size ≤ s0; omega)) _) (.inr (by show w.heap.size ≤ s0; omega)) _) (.inr (by show w.heap.size ≤ s0; omega)) _) (.inr (by show w.heap.size ≤ s0; omega)) _
    have o0 := (unhide BP).c0
    have o1 := (unhide BP).c1
    have o2 := (unhide BP).c2
    have o3 := (unhide BP).c3
    refine bodyPost_ret (v := .tuple #[.agg #[.int .i64 ((r.life (r.tok k).life).own.length : Int), .int .i64 (((tableR (r.life (r.tok k).life) off).length : Int) - ((r.life (r.tok k).life).own.length : Int)), .int .i64 (droppedR (r.life (r.tok k).life) off), .int .i64 (r.life (r.tok k).life).quota], .int .i64 0]) ?_ rfl ?_
    · simp [results, Tryz.results38, go_sem, o0, o1, o2, o3]
    · exact Or.inr ⟨unhide HM, off, by rw [unhide HLF]; exact unhide HCH, by rw [unhide HLF], unhide KP⟩
  · have hc := mayI_cases r n 1
    have hne : (mayI r n 1 != 0) = true := by simpa using hm
    have HM := hide hm
    clear hm
    go_enter Tryz.func38, Tryz.ntmps38
    go_wp2_with fail
    have hb0 : Box4 (w.alloc (.cells #[.int .i64 0, .int .i64 0, .int .i64 0, .int .i64 0] 89)) w.heap.size rt0 := Box4.new w rt0 _
    have hs0 : Still w (w.alloc (.cells #[.int .i64 0, .int .i64 0, .int .i64 0, .int .i64 0] 89)) := (Kept.refl _ _).alloc _
    refine (may_any (h.still hs0) hf _ _ (by omega) (by omega)).mono ?_
    rintro en w1 ⟨rfl, hw⟩
    have hbx := hb0.still hw
    have m0 := hbx.c0
    have m1 := hbx.c1
    have m2 := hbx.c2
    have m3 := hbx.c3
    have mf := hbx.fz
    have HS1 : Hid (Still w w1) := Kept.trans hs0 hw
    have BP := hide (hbx.put rt0)
    clear hw hs0 hb0 hbx
    generalize hse : w.heap.size = s0 at *
    have Hse := hide hse
    clear hse
    generalize hx : mayI r n 1 = x at *
    have HX := hide hx
    clear hx
    go_wp2
    have KP : Hid (Still w ((((w1.setCell ⟨s0, 0, none⟩ (.int .i64 rt0.addr)).setCell ⟨s0, 1, none⟩ (.int .i64 rt0.len)).setCell ⟨s0, 2, none⟩ (.int .i64 rt0.hop)).setCell ⟨s0, 3, none⟩ (.int .i64 rt0.from_))) := by
      have hh := unhide Hse
      exact Kept.setCell (Kept.setCell (Kept.setCell (Kept.setCell (unhide HS1) (.inr (by show w.heap.size ≤ s0; omega)) _) (.inr (by show w.heap.size ≤ s0; omega)) _) (.inr (by show w.heap.size ≤ s0; omega)) _) (.inr (by show w.heap.size ≤ s0; omega)) _
    have o0 := (unhide BP).c0
    have o1 := (unhide BP).c1
    have o2 := (unhide BP).c2
    have o3 := (unhide BP).c3
    refine bodyPost_ret (v := .tuple #[.agg #[.int .i64 0, .int .i64 0, .int .i64 0, .int .i64 0], .int .i64 x]) ?_ rfl ?_
    · simp only [rt0] at o0 o1 o2 o3
      simp [results, Tryz.results38, go_sem, o0, o1, o2, o3]
    · exact Or.inl ⟨by rw [unhide HX]; exact unhide HM, by rw [unhide HX], unhide KP⟩
end Go.Proofs.YthmmaccdccjgnaaGreat
