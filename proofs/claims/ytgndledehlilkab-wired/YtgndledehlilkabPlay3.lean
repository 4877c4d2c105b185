/-
  Steps of a script: play, its walk.
-/
import Derived.Test.YtgndledehlilkabPlay2
namespace Go.Proofs.Ytgndledehlilkab
open Go.RowKit

theorem On.stepP {w0 w w' : World} {b : Nat} {r r' : RefS} (_h : On w0 w (oneTag b) 1 b r) (hn : Now w0 w (oneTag b) 1 b r' w') : On w0 w' (oneTag b) 1 b r' ∧ Kept (· = b) w w' := by
  obtain ⟨O', _, h2, h3, _⟩ := hn
  exact ⟨h2.alone, h3.mono fun i _ q => (oneTag_mine b i).1 q⟩
/-- What play promises. -/
def PlayPost (w0 w : World) (b : Nat) (t : ToldD) (r' : RefS) (en : Ending) (w' : World) : Prop :=
  ∃ a c, en = .returned (.agg (toldCells t (.slice a t.l.length c)).toArray) ∧ w'.ownsRow w.heap.size 42 4 (.slice a t.l.length c) t.l.length (t.l.flatMap routeCells) ∧ On w0 w' (oneTag b) 1 b r' ∧ Kept (· = b) w w'
/-- The end of play: the answer lies in s9, and goes out by s8. -/
structure PlayEnd (w0 w w3 : World) (b s8 s9 : Nat) (t : ToldD) (lv : Value) (r' : RefS) : Prop where
  t9 : ToldAt w3 s9 t lv
  t8 : w3.there s8 0 11
  on : On w0 w3 (oneTag b) 1 b r'
  kept : Kept (· = b) w w3
  new : w.heap.size ≤ s8
  base : w0.heap.size ≤ w.heap.size
  ne : s8 ≠ b
  row : w3.ownsRow w.heap.size 42 4 lv t.l.length (t.l.flatMap routeCells)
  off : ∀ g, lv.ownBlock = some g → g ≠ s8
theorem PlayEnd.there' {w0 w w3 : World} {b s8 s9 : Nat} {t : ToldD} {lv : Value} {r' : RefS} (h : PlayEnd w0 w w3 b s8 s9 t lv r') : w3.there s8 0 (toldCells t lv).toArray.size := h.t8
theorem PlayEnd.post {w0 w w3 : World} {b s8 s9 : Nat} {t : ToldD} {a : Option Addr} {c : Nat} {r' : RefS} (h : PlayEnd w0 w w3 b s8 s9 t (.slice a t.l.length c) r') {w4 : World} (hw : w4 = w3.setCells s8 0 (toldCells t (.slice a t.l.length c)).toArray.toList) :
    w4.rangeAt s8 0 (toldCells t (.slice a t.l.length c)) ∧ PlayPost w0 w b t r' (.returned (.agg (toldCells t (.slice a t.l.length c)).toArray)) w4 := by
  subst hw
  have hk : Kept (· = s8) w3 (w3.setCells s8 0 (toldCells t (.slice a t.l.length c)).toArray.toList) := Kept.setCells (Kept.refl (· = s8) w3) (.inl rfl) _ _
  have hs8 := h.new
  refine ⟨?_, a, c, rfl, kept_row h.row hk (fun g hg => h.off g hg), ?_, ?_⟩
  · have := World.rangeAt_setCells_same w3 s8 0 (toldCells t (.slice a t.l.length c)) h.t8
    rw [List.toList_toArray]
    exact this
  · exact h.on.past hk h.ne (Nat.le_trans h.base hs8)
  · exact Kept.trans' h.kept (hk.mono (Q := fun i => i = b ∨ w.heap.size ≤ i) fun i _ q => .inr (by omega)) (fun i hi q => by rcases q with q | q; exact q; omega)
theorem infoTold' (t : ToldD) (lv : Value) : (Try.prog.info? 44).map (·.size) = some (toldCells t lv).toArray.size := infoTold
set_option maxHeartbeats 8000000 in
theorem play_insert {w0 w : World} {b : Nat} {r r' : RefS} (h : On w0 w (oneTag b) 1 b r) (o : OpD) (ho : OpOk o) (n mk : Int) (hkd : pickF o.kind 8 = 0) {c : Int} (h0 : insertR r n (pfxA o.a o.b) (pfxL o.b) (pickF o.c 256) = c) (h1 : insertedR r n (pfxA o.a o.b) (pfxL o.b) (pickF o.c 256) = r') :
    Calls Try.prog 11 #[.pointer (some ⟨b, 0, none⟩), .int .i64 n, .agg #[.int .i64 o.kind, .int .i64 o.who, .int .i64 o.a, .int .i64 o.b, .int .i64 o.c, .int .i64 o.d], .int .i64 mk] w fun en w' => PlayPost w0 w b (toldE c) r' en w' := by
  have hb := h.lt
  have hS1 : Still w (w.alloc (.cells #[.int .i64 o.kind, .int .i64 o.who, .int .i64 o.a, .int .i64 o.b, .int .i64 o.c, .int .i64 o.d] 34)) := (Kept.refl _ _).alloc _
  have hbo := BoxO.new w o 34
  generalize hW1 : w.alloc (.cells #[.int .i64 o.kind, .int .i64 o.who, .int .i64 o.a, .int .i64 o.b, .int .i64 o.c, .int .i64 o.d] 34) = W1 at hS1 hbo
  have hs1 : W1.heap.size = w.heap.size + 1 := by rw [← hW1]; simp
  have hS2 : Still W1 (W1.alloc (.cells #[.int .i64 0, .slice none 0 0, .int .i64 0, .int .i64 0, .int .i64 0, .int .i64 0, .int .i64 0, .int .i64 0, .int .i64 0, .int .i64 0, .bool false] 44)) := (Kept.refl _ _).alloc _
  have ht8 : ToldAt (W1.alloc (.cells #[.int .i64 0, .slice none 0 0, .int .i64 0, .int .i64 0, .int .i64 0, .int .i64 0, .int .i64 0, .int .i64 0, .int .i64 0, .int .i64 0, .bool false] 44)) W1.heap.size (toldE 0) (.slice none 0 0) := ToldAt.new W1 44
  generalize hW2 : W1.alloc (.cells #[.int .i64 0, .slice none 0 0, .int .i64 0, .int .i64 0, .int .i64 0, .int .i64 0, .int .i64 0, .int .i64 0, .int .i64 0, .int .i64 0, .bool false] 44) = W2 at hS2 ht8
  have hs2 : W2.heap.size = w.heap.size + 1 + 1 := by rw [← hW2]; simp [hs1]
  have hS3 : Still W2 (W2.alloc (.cells #[.int .i64 0, .slice none 0 0, .int .i64 0, .int .i64 0, .int .i64 0, .int .i64 0, .int .i64 0, .int .i64 0, .int .i64 0, .int .i64 0, .bool false] 44)) := (Kept.refl _ _).alloc _
  have ht9 : ToldAt (W2.alloc (.cells #[.int .i64 0, .slice none 0 0, .int .i64 0, .int .i64 0, .int .i64 0, .int .i64 0, .int .i64 0, .int .i64 0, .int .i64 0, .int .i64 0, .bool false] 44)) W2.heap.size (toldE 0) (.slice none 0 0) := ToldAt.new W2 44
  generalize hW3 : W2.alloc (.cells #[.int .i64 0, .slice none 0 0, .int .i64 0, .int .i64 0, .int .i64 0, .int .i64 0, .int .i64 0, .int .i64 0, .int .i64 0, .int .i64 0, .bool false] 44) = W3 at hS3 ht9
  have HON := hide (((h.again hS1).again hS2).again hS3)
  have HSW := hide ((hS1.trans hS2).trans hS3)
  have HT8 := hide (ht8.kept hS3 (fun q => q))
  have HT9 := hide ht9
  have hbo3 := (hbo.kept hS2 (fun q => q)).kept hS3 (fun q => q)
  rw [hs1] at HT8
  rw [hs2] at HT9
  have o0 := hbo3.c0
  have o2 := hbo3.c2
  have o3 := hbo3.c3
  have o4 := hbo3.c4
  have ol := hbo3.lt
  have HBO := hide hbo3
  have HW : Hid (((w.alloc (.cells #[.int .i64 o.kind, .int .i64 o.who, .int .i64 o.a, .int .i64 o.b, .int .i64 o.c, .int .i64 o.d] 34)).alloc (.cells #[.int .i64 0, .slice none 0 0, .int .i64 0, .int .i64 0, .int .i64 0, .int .i64 0, .int .i64 0, .int .i64 0, .int .i64 0, .int .i64 0, .bool false] 44)).alloc (.cells #[.int .i64 0, .slice none 0 0, .int .i64 0, .int .i64 0, .int .i64 0, .int .i64 0, .int .i64 0, .int .i64 0, .int .i64 0, .int .i64 0, .bool false] 44) = W3) := by
    show _ = W3
    rw [hW1, hW2, hW3]
  have HO := hide ho
  have HKD := hide hkd
  have HBASE := hide h.still.size
  have hbw : b < w.heap.size := hb
  clear hS1 hbo hS2 ht8 hS3 ht9 hbo3 hW1 hW2 hW3 hs1 hs2 h ho hkd
  go_enter Try.func11, Try.ntmps11
  go_wp2_with fail
  rw [unhide HW]
  generalize hs0 : w.heap.size = s0 at *
  refine (prefixK _ _ _ (unhide HO).a0 (unhide HO).a1 (unhide HO).b0 (unhide HO).b1).mono ?_
  rintro en w' ⟨rfl, hw⟩
  replace hw := hw.symm
  subst hw
  go_wp2_with fail
  refine (pickK _ _ _ (by omega) (unhide HO).k0 (unhide HO).k1).mono ?_
  rintro en w' ⟨rfl, hw⟩
  replace hw := hw.symm
  subst hw
  rw [unhide HKD]
  have H0 := hide h0
  have H1 := hide h1
  clear h0 h1
  go_wp2_with fail
  refine (pickK _ _ _ (by omega) (unhide HO).c0 (unhide HO).c1).mono ?_
  rintro en w' ⟨rfl, hw⟩
  replace hw := hw.symm
  subst hw
  go_wp2_with fail
  refine (on_insert0 (unhide HON) (unhide H0) (unhide H1)).mono ?_
  rintro en w2 ⟨rfl, hn2⟩
  obtain ⟨hon2, hk2⟩ := (unhide HON).stepP hn2
  have ht9 := (unhide HT9).kept hk2 (by omega)
  have ht8 := (unhide HT8).kept hk2 (by omega)
  have z0 := ht9.c0
  have zf := ht9.fz 0
  have zl := ht9.lt
  have hk3 : Kept (· = s0 + 1 + 1) w2 (w2.setCell ⟨s0 + 1 + 1, 0, none⟩ (.int .i64 c)) := Kept.setAt (Kept.refl _ _) _ _
  have hpe : PlayEnd w0 w (w2.setCell ⟨s0 + 1 + 1, 0, none⟩ (.int .i64 c)) b (s0 + 1) (s0 + 1 + 1) (toldE c) (.slice none 0 0) r' := ⟨ht9.setE c, (ht8.kept hk3 (by omega)).there, hon2.past hk3 (by omega) (by have := unhide HBASE; omega), Kept.trans' ((Still.kept (unhide HSW) (· = b)).trans hk2) hk3 (fun i hi q => by omega), by omega, by have := unhide HBASE; omega, by omega, World.ownsRow_nil _ _ _ _, fun g hg => by cases hg⟩
  have HRG := hide hpe.t9.range
  have HTH := hide hpe.there'
  have hpost : ((w2.setCell ⟨s0 + 1 + 1, 0, none⟩ (.int .i64 c)).setCells (s0 + 1) 0 (toldCells (toldE c) (.slice none 0 0)).toArray.toList).rangeAt (s0 + 1) 0 (toldCells (toldE c) (.slice none 0 0)) ∧ PlayPost w0 w b (toldE c) r' (.returned (.agg (toldCells (toldE c) (.slice none 0 0)).toArray)) ((w2.setCell ⟨s0 + 1 + 1, 0, none⟩ (.int .i64 c)).setCells (s0 + 1) 0 (toldCells (toldE c) (.slice none 0 0)).toArray.toList) := PlayEnd.post (a := none) (c := 0) hpe rfl
  have HPOST := hide hpost
  have hi := infoTold' (toldE c) (.slice none 0 0)
  have hi2 : (Try.prog.info? 44).map (·.size) = some (toldCells (toldE c) (.slice none 0 0)).length := infoTold
  have ho1 : (toldCells (toldE c) (.slice none 0 0)).toArray.all (·.oneCell') = true := toldCells_one _ _ _ _
  clear hpost hpe hn2 hon2 hk2 ht9 ht8 hk3 o0 o2 o3 o4 ol HBO HT8 HT9 HON
  generalize hcs : toldCells (toldE c) (.slice none 0 0) = cs at *
  clear hcs
  go_wp2_with (refine wpList_load_mid rfl 44 _ rfl _ _ rfl cs _ (unhide HRG) Try.underlying44 rfl hi2 (unhide ?_))
  refine hide ?_
  go_wp2_with (refine wpList_store_mid rfl 44 _ _ rfl _ _ cs.toArray rfl rfl (unhide HTH) hi ho1 (unhide ?_))
  refine hide ?_
  generalize (w2.setCell ⟨s0 + 1 + 1, 0, none⟩ (.int .i64 c)).setCells (s0 + 1) 0 cs.toArray.toList = Z at *
  go_wp2
  refine bodyPost_ret (results_range1 rfl _ _ _ _ _ _ rfl (unhide HPOST).1 Try.underlying44 rfl hi2) rfl ?_
  exact (unhide HPOST).2
set_option maxHeartbeats 8000000 in
theorem play_remove {w0 w : World} {b : Nat} {r r' : RefS} (h : On w0 w (oneTag b) 1 b r) (o : OpD) (ho : OpOk o) (n mk : Int) (hkd : pickF o.kind 8 = 1) {c : Int} (h0 : removeR r n (pfxA o.a o.b) (pfxL o.b) = c) (h1 : removedR r n (pfxA o.a o.b) (pfxL o.b) = r') :
    Calls Try.prog 11 #[.pointer (some ⟨b, 0, none⟩), .int .i64 n, .agg #[.int .i64 o.kind, .int .i64 o.who, .int .i64 o.a, .int .i64 o.b, .int .i64 o.c, .int .i64 o.d], .int .i64 mk] w fun en w' => PlayPost w0 w b (toldE c) r' en w' := by
  have hb := h.lt
  have hS1 : Still w (w.alloc (.cells #[.int .i64 o.kind, .int .i64 o.who, .int .i64 o.a, .int .i64 o.b, .int .i64 o.c, .int .i64 o.d] 34)) := (Kept.refl _ _).alloc _
  have hbo := BoxO.new w o 34
  generalize hW1 : w.alloc (.cells #[.int .i64 o.kind, .int .i64 o.who, .int .i64 o.a, .int .i64 o.b, .int .i64 o.c, .int .i64 o.d] 34) = W1 at hS1 hbo
  have hs1 : W1.heap.size = w.heap.size + 1 := by rw [← hW1]; simp
  have hS2 : Still W1 (W1.alloc (.cells #[.int .i64 0, .slice none 0 0, .int .i64 0, .int .i64 0, .int .i64 0, .int .i64 0, .int .i64 0, .int .i64 0, .int .i64 0, .int .i64 0, .bool false] 44)) := (Kept.refl _ _).alloc _
  have ht8 : ToldAt (W1.alloc (.cells #[.int .i64 0, .slice none 0 0, .int .i64 0, .int .i64 0, .int .i64 0, .int .i64 0, .int .i64 0, .int .i64 0, .int .i64 0, .int .i64 0, .bool false] 44)) W1.heap.size (toldE 0) (.slice none 0 0) := ToldAt.new W1 44
  generalize hW2 : W1.alloc (.cells #[.int .i64 0, .slice none 0 0, .int .i64 0, .int .i64 0, .int .i64 0, .int .i64 0, .int .i64 0, .int .i64 0, .int .i64 0, .int .i64 0, .bool false] 44) = W2 at hS2 ht8
  have hs2 : W2.heap.size = w.heap.size + 1 + 1 := by rw [← hW2]; simp [hs1]
  have hS3 : Still W2 (W2.alloc (.cells #[.int .i64 0, .slice none 0 0, .int .i64 0, .int .i64 0, .int .i64 0, .int .i64 0, .int .i64 0, .int .i64 0, .int .i64 0, .int .i64 0, .bool false] 44)) := (Kept.refl _ _).alloc _
  have ht9 : ToldAt (W2.alloc (.cells #[.int .i64 0, .slice none 0 0, .int .i64 0, .int .i64 0, .int .i64 0, .int .i64 0, .int .i64 0, .int .i64 0, .int .i64 0, .int .i64 0, .bool false] 44)) W2.heap.size (toldE 0) (.slice none 0 0) := ToldAt.new W2 44
  generalize hW3 : W2.alloc (.cells #[.int .i64 0, .slice none 0 0, .int .i64 0, .int .i64 0, .int .i64 0, .int .i64 0, .int .i64 0, .int .i64 0, .int .i64 0, .int .i64 0, .bool false] 44) = W3 at hS3 ht9
  have HON := hide (((h.again hS1).again hS2).again hS3)
  have HSW := hide ((hS1.trans hS2).trans hS3)
  have HT8 := hide (ht8.kept hS3 (fun q => q))
  have HT9 := hide ht9
  have hbo3 := (hbo.kept hS2 (fun q => q)).kept hS3 (fun q => q)
  rw [hs1] at HT8
  rw [hs2] at HT9
  have o0 := hbo3.c0
  have o2 := hbo3.c2
  have o3 := hbo3.c3
  have o4 := hbo3.c4
  have ol := hbo3.lt
  have HBO := hide hbo3
  have HW : Hid (((w.alloc (.cells #[.int .i64 o.kind, .int .i64 o.who, .int .i64 o.a, .int .i64 o.b, .int .i64 o.c, .int .i64 o.d] 34)).alloc (.cells #[.int .i64 0, .slice none 0 0, .int .i64 0, .int .i64 0, .int .i64 0, .int .i64 0, .int .i64 0, .int .i64 0, .int .i64 0, .int .i64 0, .bool false] 44)).alloc (.cells #[.int .i64 0, .slice none 0 0, .int .i64 0, .int .i64 0, .int .i64 0, .int .i64 0, .int .i64 0, .int .i64 0, .int .i64 0, .int .i64 0, .bool false] 44) = W3) := by
    show _ = W3
    rw [hW1, hW2, hW3]
  have HO := hide ho
  have HKD := hide hkd
  have HBASE := hide h.still.size
  have hbw : b < w.heap.size := hb
  clear hS1 hbo hS2 ht8 hS3 ht9 hbo3 hW1 hW2 hW3 hs1 hs2 h ho hkd
  go_enter Try.func11, Try.ntmps11
  go_wp2_with fail
  rw [unhide HW]
  generalize hs0 : w.heap.size = s0 at *
  refine (prefixK _ _ _ (unhide HO).a0 (unhide HO).a1 (unhide HO).b0 (unhide HO).b1).mono ?_
  rintro en w' ⟨rfl, hw⟩
  replace hw := hw.symm
  subst hw
  go_wp2_with fail
  refine (pickK _ _ _ (by omega) (unhide HO).k0 (unhide HO).k1).mono ?_
  rintro en w' ⟨rfl, hw⟩
  replace hw := hw.symm
  subst hw
  rw [unhide HKD]
  have H0 := hide h0
  have H1 := hide h1
  clear h0 h1
  go_wp2_with fail
  refine (on_remove0 (unhide HON) (unhide H0) (unhide H1)).mono ?_
  rintro en w2 ⟨rfl, hn2⟩
  obtain ⟨hon2, hk2⟩ := (unhide HON).stepP hn2
  have ht9 := (unhide HT9).kept hk2 (by omega)
  have ht8 := (unhide HT8).kept hk2 (by omega)
  have z0 := ht9.c0
  have zf := ht9.fz 0
  have zl := ht9.lt
  have hk3 : Kept (· = s0 + 1 + 1) w2 (w2.setCell ⟨s0 + 1 + 1, 0, none⟩ (.int .i64 c)) := Kept.setAt (Kept.refl _ _) _ _
  have hpe : PlayEnd w0 w (w2.setCell ⟨s0 + 1 + 1, 0, none⟩ (.int .i64 c)) b (s0 + 1) (s0 + 1 + 1) (toldE c) (.slice none 0 0) r' := ⟨ht9.setE c, (ht8.kept hk3 (by omega)).there, hon2.past hk3 (by omega) (by have := unhide HBASE; omega), Kept.trans' ((Still.kept (unhide HSW) (· = b)).trans hk2) hk3 (fun i hi q => by omega), by omega, by have := unhide HBASE; omega, by omega, World.ownsRow_nil _ _ _ _, fun g hg => by cases hg⟩
  have HRG := hide hpe.t9.range
  have HTH := hide hpe.there'
  have hpost : ((w2.setCell ⟨s0 + 1 + 1, 0, none⟩ (.int .i64 c)).setCells (s0 + 1) 0 (toldCells (toldE c) (.slice none 0 0)).toArray.toList).rangeAt (s0 + 1) 0 (toldCells (toldE c) (.slice none 0 0)) ∧ PlayPost w0 w b (toldE c) r' (.returned (.agg (toldCells (toldE c) (.slice none 0 0)).toArray)) ((w2.setCell ⟨s0 + 1 + 1, 0, none⟩ (.int .i64 c)).setCells (s0 + 1) 0 (toldCells (toldE c) (.slice none 0 0)).toArray.toList) := PlayEnd.post (a := none) (c := 0) hpe rfl
  have HPOST := hide hpost
  have hi := infoTold' (toldE c) (.slice none 0 0)
  have hi2 : (Try.prog.info? 44).map (·.size) = some (toldCells (toldE c) (.slice none 0 0)).length := infoTold
  have ho1 : (toldCells (toldE c) (.slice none 0 0)).toArray.all (·.oneCell') = true := toldCells_one _ _ _ _
  clear hpost hpe hn2 hon2 hk2 ht9 ht8 hk3 o0 o2 o3 o4 ol HBO HT8 HT9 HON
  generalize hcs : toldCells (toldE c) (.slice none 0 0) = cs at *
  clear hcs
  go_wp2_with (refine wpList_load_mid rfl 44 _ rfl _ _ rfl cs _ (unhide HRG) Try.underlying44 rfl hi2 (unhide ?_))
  refine hide ?_
  go_wp2_with (refine wpList_store_mid rfl 44 _ _ rfl _ _ cs.toArray rfl rfl (unhide HTH) hi ho1 (unhide ?_))
  refine hide ?_
  generalize (w2.setCell ⟨s0 + 1 + 1, 0, none⟩ (.int .i64 c)).setCells (s0 + 1) 0 cs.toArray.toList = Z at *
  go_wp2
  refine bodyPost_ret (results_range1 rfl _ _ _ _ _ _ rfl (unhide HPOST).1 Try.underlying44 rfl hi2) rfl ?_
  exact (unhide HPOST).2
set_option maxHeartbeats 8000000 in
theorem play_share {w0 w : World} {b : Nat} {r r' : RefS} (h : On w0 w (oneTag b) 1 b r) (o : OpD) (ho : OpOk o) (n mk : Int) (hkd : pickF o.kind 8 = 2) {c : Int} (h0 : shareR r n (andF o.a mk) (andF o.b mk) = c) (h1 : sharedR r n (andF o.a mk) (andF o.b mk) = r') :
    Calls Try.prog 11 #[.pointer (some ⟨b, 0, none⟩), .int .i64 n, .agg #[.int .i64 o.kind, .int .i64 o.who, .int .i64 o.a, .int .i64 o.b, .int .i64 o.c, .int .i64 o.d], .int .i64 mk] w fun en w' => PlayPost w0 w b (toldE c) r' en w' := by
  have hb := h.lt
  have hS1 : Still w (w.alloc (.cells #[.int .i64 o.kind, .int .i64 o.who, .int .i64 o.a, .int .i64 o.b, .int .i64 o.c, .int .i64 o.d] 34)) := (Kept.refl _ _).alloc _
  have hbo := BoxO.new w o 34
  generalize hW1 : w.alloc (.cells #[.int .i64 o.kind, .int .i64 o.who, .int .i64 o.a, .int .i64 o.b, .int .i64 o.c, .int .i64 o.d] 34) = W1 at hS1 hbo
  have hs1 : W1.heap.size = w.heap.size + 1 := by rw [← hW1]; simp
  have hS2 : Still W1 (W1.alloc (.cells #[.int .i64 0, .slice none 0 0, .int .i64 0, .int .i64 0, .int .i64 0, .int .i64 0, .int .i64 0, .int .i64 0, .int .i64 0, .int .i64 0, .bool false] 44)) := (Kept.refl _ _).alloc _
  have ht8 : ToldAt (W1.alloc (.cells #[.int .i64 0, .slice none 0 0, .int .i64 0, .int .i64 0, .int .i64 0, .int .i64 0, .int .i64 0, .int .i64 0, .int .i64 0, .int .i64 0, .bool false] 44)) W1.heap.size (toldE 0) (.slice none 0 0) := ToldAt.new W1 44
  generalize hW2 : W1.alloc (.cells #[.int .i64 0, .slice none 0 0, .int .i64 0, .int .i64 0, .int .i64 0, .int .i64 0, .int .i64 0, .int .i64 0, .int .i64 0, .int .i64 0, .bool false] 44) = W2 at hS2 ht8
  have hs2 : W2.heap.size = w.heap.size + 1 + 1 := by rw [← hW2]; simp [hs1]
  have hS3 : Still W2 (W2.alloc (.cells #[.int .i64 0, .slice none 0 0, .int .i64 0, .int .i64 0, .int .i64 0, .int .i64 0, .int .i64 0, .int .i64 0, .int .i64 0, .int .i64 0, .bool false] 44)) := (Kept.refl _ _).alloc _
  have ht9 : ToldAt (W2.alloc (.cells #[.int .i64 0, .slice none 0 0, .int .i64 0, .int .i64 0, .int .i64 0, .int .i64 0, .int .i64 0, .int .i64 0, .int .i64 0, .int .i64 0, .bool false] 44)) W2.heap.size (toldE 0) (.slice none 0 0) := ToldAt.new W2 44
  generalize hW3 : W2.alloc (.cells #[.int .i64 0, .slice none 0 0, .int .i64 0, .int .i64 0, .int .i64 0, .int .i64 0, .int .i64 0, .int .i64 0, .int .i64 0, .int .i64 0, .bool false] 44) = W3 at hS3 ht9
  have HON := hide (((h.again hS1).again hS2).again hS3)
  have HSW := hide ((hS1.trans hS2).trans hS3)
  have HT8 := hide (ht8.kept hS3 (fun q => q))
  have HT9 := hide ht9
  have hbo3 := (hbo.kept hS2 (fun q => q)).kept hS3 (fun q => q)
  rw [hs1] at HT8
  rw [hs2] at HT9
  have o0 := hbo3.c0
  have o2 := hbo3.c2
  have o3 := hbo3.c3
  have o4 := hbo3.c4
  have ol := hbo3.lt
  have HBO := hide hbo3
  have HW : Hid (((w.alloc (.cells #[.int .i64 o.kind, .int .i64 o.who, .int .i64 o.a, .int .i64 o.b, .int .i64 o.c, .int .i64 o.d] 34)).alloc (.cells #[.int .i64 0, .slice none 0 0, .int .i64 0, .int .i64 0, .int .i64 0, .int .i64 0, .int .i64 0, .int .i64 0, .int .i64 0, .int .i64 0, .bool false] 44)).alloc (.cells #[.int .i64 0, .slice none 0 0, .int .i64 0, .int .i64 0, .int .i64 0, .int .i64 0, .int .i64 0, .int .i64 0, .int .i64 0, .int .i64 0, .bool false] 44) = W3) := by
    show _ = W3
    rw [hW1, hW2, hW3]
  have HO := hide ho
  have HKD := hide hkd
  have HBASE := hide h.still.size
  have hbw : b < w.heap.size := hb
  clear hS1 hbo hS2 ht8 hS3 ht9 hbo3 hW1 hW2 hW3 hs1 hs2 h ho hkd
  go_enter Try.func11, Try.ntmps11
  go_wp2_with fail
  rw [unhide HW]
  generalize hs0 : w.heap.size = s0 at *
  refine (prefixK _ _ _ (unhide HO).a0 (unhide HO).a1 (unhide HO).b0 (unhide HO).b1).mono ?_
  rintro en w' ⟨rfl, hw⟩
  replace hw := hw.symm
  subst hw
  go_wp2_with fail
  refine (pickK _ _ _ (by omega) (unhide HO).k0 (unhide HO).k1).mono ?_
  rintro en w' ⟨rfl, hw⟩
  replace hw := hw.symm
  subst hw
  rw [unhide HKD]
  have H0 := hide h0
  have H1 := hide h1
  clear h0 h1
  go_wp2_with fail
  refine (on_share0 (g := andF o.a mk) (k := andF o.b mk) (unhide HON) (unhide H0) (unhide H1)).mono ?_
  rintro en w2 ⟨rfl, hn2⟩
  obtain ⟨hon2, hk2⟩ := (unhide HON).stepP hn2
  have ht9 := (unhide HT9).kept hk2 (by omega)
  have ht8 := (unhide HT8).kept hk2 (by omega)
  have z0 := ht9.c0
  have zf := ht9.fz 0
  have zl := ht9.lt
  have hk3 : Kept (· = s0 + 1 + 1) w2 (w2.setCell ⟨s0 + 1 + 1, 0, none⟩ (.int .i64 c)) := Kept.setAt (Kept.refl _ _) _ _
  have hpe : PlayEnd w0 w (w2.setCell ⟨s0 + 1 + 1, 0, none⟩ (.int .i64 c)) b (s0 + 1) (s0 + 1 + 1) (toldE c) (.slice none 0 0) r' := ⟨ht9.setE c, (ht8.kept hk3 (by omega)).there, hon2.past hk3 (by omega) (by have := unhide HBASE; omega), Kept.trans' ((Still.kept (unhide HSW) (· = b)).trans hk2) hk3 (fun i hi q => by omega), by omega, by have := unhide HBASE; omega, by omega, World.ownsRow_nil _ _ _ _, fun g hg => by cases hg⟩
  have HRG := hide hpe.t9.range
  have HTH := hide hpe.there'
  have hpost : ((w2.setCell ⟨s0 + 1 + 1, 0, none⟩ (.int .i64 c)).setCells (s0 + 1) 0 (toldCells (toldE c) (.slice none 0 0)).toArray.toList).rangeAt (s0 + 1) 0 (toldCells (toldE c) (.slice none 0 0)) ∧ PlayPost w0 w b (toldE c) r' (.returned (.agg (toldCells (toldE c) (.slice none 0 0)).toArray)) ((w2.setCell ⟨s0 + 1 + 1, 0, none⟩ (.int .i64 c)).setCells (s0 + 1) 0 (toldCells (toldE c) (.slice none 0 0)).toArray.toList) := PlayEnd.post (a := none) (c := 0) hpe rfl
  have HPOST := hide hpost
  have hi := infoTold' (toldE c) (.slice none 0 0)
  have hi2 : (Try.prog.info? 44).map (·.size) = some (toldCells (toldE c) (.slice none 0 0)).length := infoTold
  have ho1 : (toldCells (toldE c) (.slice none 0 0)).toArray.all (·.oneCell') = true := toldCells_one _ _ _ _
  clear hpost hpe hn2 hon2 hk2 ht9 ht8 hk3 o0 o2 o3 o4 ol HBO HT8 HT9 HON
  generalize hcs : toldCells (toldE c) (.slice none 0 0) = cs at *
  clear hcs
  go_wp2_with (refine wpList_load_mid rfl 44 _ rfl _ _ rfl cs _ (unhide HRG) Try.underlying44 rfl hi2 (unhide ?_))
  refine hide ?_
  go_wp2_with (refine wpList_store_mid rfl 44 _ _ rfl _ _ cs.toArray rfl rfl (unhide HTH) hi ho1 (unhide ?_))
  refine hide ?_
  generalize (w2.setCell ⟨s0 + 1 + 1, 0, none⟩ (.int .i64 c)).setCells (s0 + 1) 0 cs.toArray.toList = Z at *
  go_wp2
  refine bodyPost_ret (results_range1 rfl _ _ _ _ _ _ rfl (unhide HPOST).1 Try.underlying44 rfl hi2) rfl ?_
  exact (unhide HPOST).2
set_option maxHeartbeats 8000000 in
theorem play_filter {w0 w : World} {b : Nat} {r r' : RefS} (h : On w0 w (oneTag b) 1 b r) (o : OpD) (ho : OpOk o) (n mk : Int) (hkd : pickF o.kind 8 = 3) {c : Int} (h0 : filterR r n (rulesF o) = c) (h1 : filteredR r n (rulesF o) = r') :
    Calls Try.prog 11 #[.pointer (some ⟨b, 0, none⟩), .int .i64 n, .agg #[.int .i64 o.kind, .int .i64 o.who, .int .i64 o.a, .int .i64 o.b, .int .i64 o.c, .int .i64 o.d], .int .i64 mk] w fun en w' => PlayPost w0 w b (toldE c) r' en w' := by
  have hb := h.lt
  have hS1 : Still w (w.alloc (.cells #[.int .i64 o.kind, .int .i64 o.who, .int .i64 o.a, .int .i64 o.b, .int .i64 o.c, .int .i64 o.d] 34)) := (Kept.refl _ _).alloc _
  have hbo := BoxO.new w o 34
  generalize hW1 : w.alloc (.cells #[.int .i64 o.kind, .int .i64 o.who, .int .i64 o.a, .int .i64 o.b, .int .i64 o.c, .int .i64 o.d] 34) = W1 at hS1 hbo
  have hs1 : W1.heap.size = w.heap.size + 1 := by rw [← hW1]; simp
  have hS2 : Still W1 (W1.alloc (.cells #[.int .i64 0, .slice none 0 0, .int .i64 0, .int .i64 0, .int .i64 0, .int .i64 0, .int .i64 0, .int .i64 0, .int .i64 0, .int .i64 0, .bool false] 44)) := (Kept.refl _ _).alloc _
  have ht8 : ToldAt (W1.alloc (.cells #[.int .i64 0, .slice none 0 0, .int .i64 0, .int .i64 0, .int .i64 0, .int .i64 0, .int .i64 0, .int .i64 0, .int .i64 0, .int .i64 0, .bool false] 44)) W1.heap.size (toldE 0) (.slice none 0 0) := ToldAt.new W1 44
  generalize hW2 : W1.alloc (.cells #[.int .i64 0, .slice none 0 0, .int .i64 0, .int .i64 0, .int .i64 0, .int .i64 0, .int .i64 0, .int .i64 0, .int .i64 0, .int .i64 0, .bool false] 44) = W2 at hS2 ht8
  have hs2 : W2.heap.size = w.heap.size + 1 + 1 := by rw [← hW2]; simp [hs1]
  have hS3 : Still W2 (W2.alloc (.cells #[.int .i64 0, .slice none 0 0, .int .i64 0, .int .i64 0, .int .i64 0, .int .i64 0, .int .i64 0, .int .i64 0, .int .i64 0, .int .i64 0, .bool false] 44)) := (Kept.refl _ _).alloc _
  have ht9 : ToldAt (W2.alloc (.cells #[.int .i64 0, .slice none 0 0, .int .i64 0, .int .i64 0, .int .i64 0, .int .i64 0, .int .i64 0, .int .i64 0, .int .i64 0, .int .i64 0, .bool false] 44)) W2.heap.size (toldE 0) (.slice none 0 0) := ToldAt.new W2 44
  generalize hW3 : W2.alloc (.cells #[.int .i64 0, .slice none 0 0, .int .i64 0, .int .i64 0, .int .i64 0, .int .i64 0, .int .i64 0, .int .i64 0, .int .i64 0, .int .i64 0, .bool false] 44) = W3 at hS3 ht9
  have HON := hide (((h.again hS1).again hS2).again hS3)
  have HSW := hide ((hS1.trans hS2).trans hS3)
  have HT8 := hide (ht8.kept hS3 (fun q => q))
  have HT9 := hide ht9
  have hbo3 := (hbo.kept hS2 (fun q => q)).kept hS3 (fun q => q)
  rw [hs1] at HT8
  rw [hs2] at HT9
  have o0 := hbo3.c0
  have o2 := hbo3.c2
  have o3 := hbo3.c3
  have o4 := hbo3.c4
  have ol := hbo3.lt
  have o1 := hbo3.c1
  have o5 := hbo3.c5
  have HBO := hide hbo3
  have HW : Hid (((w.alloc (.cells #[.int .i64 o.kind, .int .i64 o.who, .int .i64 o.a, .int .i64 o.b, .int .i64 o.c, .int .i64 o.d] 34)).alloc (.cells #[.int .i64 0, .slice none 0 0, .int .i64 0, .int .i64 0, .int .i64 0, .int .i64 0, .int .i64 0, .int .i64 0, .int .i64 0, .int .i64 0, .bool false] 44)).alloc (.cells #[.int .i64 0, .slice none 0 0, .int .i64 0, .int .i64 0, .int .i64 0, .int .i64 0, .int .i64 0, .int .i64 0, .int .i64 0, .int .i64 0, .bool false] 44) = W3) := by
    show _ = W3
    rw [hW1, hW2, hW3]
  have HO := hide ho
  have HKD := hide hkd
  have HBASE := hide h.still.size
  have hbw : b < w.heap.size := hb
  clear hS1 hbo hS2 ht8 hS3 ht9 hbo3 hW1 hW2 hW3 hs1 hs2 h ho hkd
  go_enter Try.func11, Try.ntmps11
  go_wp2_with fail
  rw [unhide HW]
  generalize hs0 : w.heap.size = s0 at *
  refine (prefixK _ _ _ (unhide HO).a0 (unhide HO).a1 (unhide HO).b0 (unhide HO).b1).mono ?_
  rintro en w' ⟨rfl, hw⟩
  replace hw := hw.symm
  subst hw
  go_wp2_with fail
  refine (pickK _ _ _ (by omega) (unhide HO).k0 (unhide HO).k1).mono ?_
  rintro en w' ⟨rfl, hw⟩
  replace hw := hw.symm
  subst hw
  rw [unhide HKD]
  have H0 := hide h0
  have H1 := hide h1
  clear h0 h1
  go_wp2_with fail
  refine (rulesK o (unhide HO) _).mono ?_
  rintro en wf ⟨v, rfl, hR, hsf⟩
  have HR := hide hR
  have HON4 := hide ((unhide HON).again hsf)
  have HSW4 := hide (Kept.trans (unhide HSW) hsf)
  replace HT8 := hide ((unhide HT8).kept hsf (fun q => q))
  replace HT9 := hide ((unhide HT9).kept hsf (fun q => q))
  have := hsf.size
  clear hR hsf
  go_wp2_with fail
  refine (on_filter0 (unhide HON4) (unhide HR) (unhide H0) (unhide H1)).mono ?_
  rintro en w2 ⟨rfl, hn2⟩
  obtain ⟨hon2, hk2⟩ := (unhide HON4).stepP hn2
  have ht9 := (unhide HT9).kept hk2 (by omega)
  have ht8 := (unhide HT8).kept hk2 (by omega)
  have z0 := ht9.c0
  have zf := ht9.fz 0
  have zl := ht9.lt
  have hk3 : Kept (· = s0 + 1 + 1) w2 (w2.setCell ⟨s0 + 1 + 1, 0, none⟩ (.int .i64 c)) := Kept.setAt (Kept.refl _ _) _ _
  have hpe : PlayEnd w0 w (w2.setCell ⟨s0 + 1 + 1, 0, none⟩ (.int .i64 c)) b (s0 + 1) (s0 + 1 + 1) (toldE c) (.slice none 0 0) r' := ⟨ht9.setE c, (ht8.kept hk3 (by omega)).there, hon2.past hk3 (by omega) (by have := unhide HBASE; omega), Kept.trans' ((Still.kept (unhide HSW4) (· = b)).trans hk2) hk3 (fun i hi q => by omega), by omega, by have := unhide HBASE; omega, by omega, World.ownsRow_nil _ _ _ _, fun g hg => by cases hg⟩
  have HRG := hide hpe.t9.range
  have HTH := hide hpe.there'
  have hpost : ((w2.setCell ⟨s0 + 1 + 1, 0, none⟩ (.int .i64 c)).setCells (s0 + 1) 0 (toldCells (toldE c) (.slice none 0 0)).toArray.toList).rangeAt (s0 + 1) 0 (toldCells (toldE c) (.slice none 0 0)) ∧ PlayPost w0 w b (toldE c) r' (.returned (.agg (toldCells (toldE c) (.slice none 0 0)).toArray)) ((w2.setCell ⟨s0 + 1 + 1, 0, none⟩ (.int .i64 c)).setCells (s0 + 1) 0 (toldCells (toldE c) (.slice none 0 0)).toArray.toList) := PlayEnd.post (a := none) (c := 0) hpe rfl
  have HPOST := hide hpost
  have hi := infoTold' (toldE c) (.slice none 0 0)
  have hi2 : (Try.prog.info? 44).map (·.size) = some (toldCells (toldE c) (.slice none 0 0)).length := infoTold
  have ho1 : (toldCells (toldE c) (.slice none 0 0)).toArray.all (·.oneCell') = true := toldCells_one _ _ _ _
  clear hpost hpe hn2 hon2 hk2 ht9 ht8 hk3 o0 o2 o3 o4 ol HBO HT8 HT9 HON
  generalize hcs : toldCells (toldE c) (.slice none 0 0) = cs at *
  clear hcs
  go_wp2_with (refine wpList_load_mid rfl 44 _ rfl _ _ rfl cs _ (unhide HRG) Try.underlying44 rfl hi2 (unhide ?_))
  refine hide ?_
  go_wp2_with (refine wpList_store_mid rfl 44 _ _ rfl _ _ cs.toArray rfl rfl (unhide HTH) hi ho1 (unhide ?_))
  refine hide ?_
  generalize (w2.setCell ⟨s0 + 1 + 1, 0, none⟩ (.int .i64 c)).setCells (s0 + 1) 0 cs.toArray.toList = Z at *
  go_wp2
  refine bodyPost_ret (results_range1 rfl _ _ _ _ _ _ rfl (unhide HPOST).1 Try.underlying44 rfl hi2) rfl ?_
  exact (unhide HPOST).2
set_option maxHeartbeats 8000000 in
theorem play_table {w0 w : World} {b : Nat} {r r' : RefS} (h : On w0 w (oneTag b) 1 b r) (o : OpD) (ho : OpOk o) (n mk : Int) (hkd : pickF o.kind 8 = 4) {c : Int} {l : List RouteD} (h0 : mayI r n 1 = c) (h1 : tableL r n = l) (_h2 : r = r') :
    Calls Try.prog 11 #[.pointer (some ⟨b, 0, none⟩), .int .i64 n, .agg #[.int .i64 o.kind, .int .i64 o.who, .int .i64 o.a, .int .i64 o.b, .int .i64 o.c, .int .i64 o.d], .int .i64 mk] w fun en w' => PlayPost w0 w b ⟨c, l, su0, rt0, false⟩ r en w' := by
  have hb := h.lt
  have hS1 : Still w (w.alloc (.cells #[.int .i64 o.kind, .int .i64 o.who, .int .i64 o.a, .int .i64 o.b, .int .i64 o.c, .int .i64 o.d] 34)) := (Kept.refl _ _).alloc _
  have hbo := BoxO.new w o 34
  generalize hW1 : w.alloc (.cells #[.int .i64 o.kind, .int .i64 o.who, .int .i64 o.a, .int .i64 o.b, .int .i64 o.c, .int .i64 o.d] 34) = W1 at hS1 hbo
  have hs1 : W1.heap.size = w.heap.size + 1 := by rw [← hW1]; simp
  have hS2 : Still W1 (W1.alloc (.cells #[.int .i64 0, .slice none 0 0, .int .i64 0, .int .i64 0, .int .i64 0, .int .i64 0, .int .i64 0, .int .i64 0, .int .i64 0, .int .i64 0, .bool false] 44)) := (Kept.refl _ _).alloc _
  have ht8 : ToldAt (W1.alloc (.cells #[.int .i64 0, .slice none 0 0, .int .i64 0, .int .i64 0, .int .i64 0, .int .i64 0, .int .i64 0, .int .i64 0, .int .i64 0, .int .i64 0, .bool false] 44)) W1.heap.size (toldE 0) (.slice none 0 0) := ToldAt.new W1 44
  generalize hW2 : W1.alloc (.cells #[.int .i64 0, .slice none 0 0, .int .i64 0, .int .i64 0, .int .i64 0, .int .i64 0, .int .i64 0, .int .i64 0, .int .i64 0, .int .i64 0, .bool false] 44) = W2 at hS2 ht8
  have hs2 : W2.heap.size = w.heap.size + 1 + 1 := by rw [← hW2]; simp [hs1]
  have hS3 : Still W2 (W2.alloc (.cells #[.int .i64 0, .slice none 0 0, .int .i64 0, .int .i64 0, .int .i64 0, .int .i64 0, .int .i64 0, .int .i64 0, .int .i64 0, .int .i64 0, .bool false] 44)) := (Kept.refl _ _).alloc _
  have ht9 : ToldAt (W2.alloc (.cells #[.int .i64 0, .slice none 0 0, .int .i64 0, .int .i64 0, .int .i64 0, .int .i64 0, .int .i64 0, .int .i64 0, .int .i64 0, .int .i64 0, .bool false] 44)) W2.heap.size (toldE 0) (.slice none 0 0) := ToldAt.new W2 44
  generalize hW3 : W2.alloc (.cells #[.int .i64 0, .slice none 0 0, .int .i64 0, .int .i64 0, .int .i64 0, .int .i64 0, .int .i64 0, .int .i64 0, .int .i64 0, .int .i64 0, .bool false] 44) = W3 at hS3 ht9
  have HON := hide (((h.again hS1).again hS2).again hS3)
  have HSW := hide ((hS1.trans hS2).trans hS3)
  have HT8 := hide (ht8.kept hS3 (fun q => q))
  have HT9 := hide ht9
  have hbo3 := (hbo.kept hS2 (fun q => q)).kept hS3 (fun q => q)
  rw [hs1] at HT8
  rw [hs2] at HT9
  have o0 := hbo3.c0
  have o2 := hbo3.c2
  have o3 := hbo3.c3
  have o4 := hbo3.c4
  have ol := hbo3.lt
  have HBO := hide hbo3
  have HW : Hid (((w.alloc (.cells #[.int .i64 o.kind, .int .i64 o.who, .int .i64 o.a, .int .i64 o.b, .int .i64 o.c, .int .i64 o.d] 34)).alloc (.cells #[.int .i64 0, .slice none 0 0, .int .i64 0, .int .i64 0, .int .i64 0, .int .i64 0, .int .i64 0, .int .i64 0, .int .i64 0, .int .i64 0, .bool false] 44)).alloc (.cells #[.int .i64 0, .slice none 0 0, .int .i64 0, .int .i64 0, .int .i64 0, .int .i64 0, .int .i64 0, .int .i64 0, .int .i64 0, .int .i64 0, .bool false] 44) = W3) := by
    show _ = W3
    rw [hW1, hW2, hW3]
  have HO := hide ho
  have HKD := hide hkd
  have HBASE := hide h.still.size
  have hbw : b < w.heap.size := hb
  clear hS1 hbo hS2 ht8 hS3 ht9 hbo3 hW1 hW2 hW3 hs1 hs2 h ho hkd
  go_enter Try.func11, Try.ntmps11
  go_wp2_with fail
  rw [unhide HW]
  generalize hs0 : w.heap.size = s0 at *
  refine (prefixK _ _ _ (unhide HO).a0 (unhide HO).a1 (unhide HO).b0 (unhide HO).b1).mono ?_
  rintro en w' ⟨rfl, hw⟩
  replace hw := hw.symm
  subst hw
  go_wp2_with fail
  refine (pickK _ _ _ (by omega) (unhide HO).k0 (unhide HO).k1).mono ?_
  rintro en w' ⟨rfl, hw⟩
  replace hw := hw.symm
  subst hw
  rw [unhide HKD]
  have H0 := hide h0
  have H1 := hide h1
  clear h0 h1
  go_wp2_with fail
  refine (on_table0 (unhide HON) (unhide H0) (unhide H1)).mono ?_
  rintro en w2 ⟨ta, tc, rfl, hr2, O2, hO2, hon2', hk2', _, hnew2⟩
  have hwl := (unhide HT9).lt
  obtain ⟨hon2, hk2⟩ := (unhide HON).stepP ⟨O2, hO2, hon2', hk2', hnew2⟩
  have ht9 := (unhide HT9).kept hk2 (by omega)
  have ht8 := (unhide HT8).kept hk2 (by omega)
  have z0 := ht9.c0
  have z1 := ht9.c1
  have zf := ht9.fz 0
  have zf1 := ht9.fz 1
  have zl := ht9.lt
  have hk3 : Kept (· = s0 + 1 + 1) w2 ((w2.setCell ⟨s0 + 1 + 1, 1, none⟩ (.slice ta l.length tc)).setCell ⟨s0 + 1 + 1, 0, none⟩ (.int .i64 c)) := Kept.setAt (Kept.setAt (Kept.refl _ _) _ _) _ _
  have hpe : PlayEnd w0 w ((w2.setCell ⟨s0 + 1 + 1, 1, none⟩ (.slice ta l.length tc)).setCell ⟨s0 + 1 + 1, 0, none⟩ (.int .i64 c)) b (s0 + 1) (s0 + 1 + 1) (⟨c, l, su0, rt0, false⟩ : ToldD) (.slice ta l.length tc) r := ⟨(ht9.setL (.slice ta l.length tc) l).setE c, (ht8.kept hk3 (by omega)).there, hon2.past hk3 (by omega) (by have := unhide HBASE; omega), Kept.trans' ((Still.kept (unhide HSW) (· = b)).trans hk2) hk3 (fun i hi q => by omega), by omega, by have := unhide HBASE; omega, by omega, (kept_row hr2 hk3 (fun g hg => by have := (hr2.lt g hg).1; omega)).mono (by have := (unhide HSW).size; omega), fun g hg => by have := (hr2.lt g hg).1; omega⟩
  have HRG := hide hpe.t9.range
  have HTH := hide hpe.there'
  have hpost : (((w2.setCell ⟨s0 + 1 + 1, 1, none⟩ (.slice ta l.length tc)).setCell ⟨s0 + 1 + 1, 0, none⟩ (.int .i64 c)).setCells (s0 + 1) 0 (toldCells (⟨c, l, su0, rt0, false⟩ : ToldD) (.slice ta l.length tc)).toArray.toList).rangeAt (s0 + 1) 0 (toldCells (⟨c, l, su0, rt0, false⟩ : ToldD) (.slice ta l.length tc)) ∧ PlayPost w0 w b (⟨c, l, su0, rt0, false⟩ : ToldD) r (.returned (.agg (toldCells (⟨c, l, su0, rt0, false⟩ : ToldD) (.slice ta l.length tc)).toArray)) (((w2.setCell ⟨s0 + 1 + 1, 1, none⟩ (.slice ta l.length tc)).setCell ⟨s0 + 1 + 1, 0, none⟩ (.int .i64 c)).setCells (s0 + 1) 0 (toldCells (⟨c, l, su0, rt0, false⟩ : ToldD) (.slice ta l.length tc)).toArray.toList) := PlayEnd.post (a := ta) (c := tc) hpe rfl
  have HPOST := hide hpost
  have hi := infoTold' (⟨c, l, su0, rt0, false⟩ : ToldD) (.slice ta l.length tc)
  have hi2 : (Try.prog.info? 44).map (·.size) = some (toldCells (⟨c, l, su0, rt0, false⟩ : ToldD) (.slice ta l.length tc)).length := infoTold
  have ho1 : (toldCells (⟨c, l, su0, rt0, false⟩ : ToldD) (.slice ta l.length tc)).toArray.all (·.oneCell') = true := toldCells_one _ _ _ _
  clear hpost hpe hr2 hO2 hon2' hk2' hnew2 hon2 hk2 ht9 ht8 hk3 o0 o2 o3 o4 ol HBO HT8 HT9 HON
  generalize hcs : toldCells (⟨c, l, su0, rt0, false⟩ : ToldD) (.slice ta l.length tc) = cs at *
  clear hcs
  go_wp2_with (refine wpList_load_mid rfl 44 _ rfl _ _ rfl cs _ (unhide HRG) Try.underlying44 rfl hi2 (unhide ?_))
  refine hide ?_
  go_wp2_with (refine wpList_store_mid rfl 44 _ _ rfl _ _ cs.toArray rfl rfl (unhide HTH) hi ho1 (unhide ?_))
  refine hide ?_
  generalize ((w2.setCell ⟨s0 + 1 + 1, 1, none⟩ (.slice ta l.length tc)).setCell ⟨s0 + 1 + 1, 0, none⟩ (.int .i64 c)).setCells (s0 + 1) 0 cs.toArray.toList = Z at *
  go_wp2
  refine bodyPost_ret (results_range1 rfl _ _ _ _ _ _ rfl (unhide HPOST).1 Try.underlying44 rfl hi2) rfl ?_
  exact (unhide HPOST).2
set_option maxHeartbeats 8000000 in
theorem play_count {w0 w : World} {b : Nat} {r r' : RefS} (h : On w0 w (oneTag b) 1 b r) (o : OpD) (ho : OpOk o) (n mk : Int) (hkd : pickF o.kind 8 = 5) {c : Int} {x : SumsD} (h0 : mayI r n 1 = c) (h1 : countF r n = x) (_h2 : r = r') :
    Calls Try.prog 11 #[.pointer (some ⟨b, 0, none⟩), .int .i64 n, .agg #[.int .i64 o.kind, .int .i64 o.who, .int .i64 o.a, .int .i64 o.b, .int .i64 o.c, .int .i64 o.d], .int .i64 mk] w fun en w' => PlayPost w0 w b ⟨c, [], x, rt0, false⟩ r en w' := by
  have hb := h.lt
  have hS1 : Still w (w.alloc (.cells #[.int .i64 o.kind, .int .i64 o.who, .int .i64 o.a, .int .i64 o.b, .int .i64 o.c, .int .i64 o.d] 34)) := (Kept.refl _ _).alloc _
  have hbo := BoxO.new w o 34
  generalize hW1 : w.alloc (.cells #[.int .i64 o.kind, .int .i64 o.who, .int .i64 o.a, .int .i64 o.b, .int .i64 o.c, .int .i64 o.d] 34) = W1 at hS1 hbo
  have hs1 : W1.heap.size = w.heap.size + 1 := by rw [← hW1]; simp
  have hS2 : Still W1 (W1.alloc (.cells #[.int .i64 0, .slice none 0 0, .int .i64 0, .int .i64 0, .int .i64 0, .int .i64 0, .int .i64 0, .int .i64 0, .int .i64 0, .int .i64 0, .bool false] 44)) := (Kept.refl _ _).alloc _
  have ht8 : ToldAt (W1.alloc (.cells #[.int .i64 0, .slice none 0 0, .int .i64 0, .int .i64 0, .int .i64 0, .int .i64 0, .int .i64 0, .int .i64 0, .int .i64 0, .int .i64 0, .bool false] 44)) W1.heap.size (toldE 0) (.slice none 0 0) := ToldAt.new W1 44
  generalize hW2 : W1.alloc (.cells #[.int .i64 0, .slice none 0 0, .int .i64 0, .int .i64 0, .int .i64 0, .int .i64 0, .int .i64 0, .int .i64 0, .int .i64 0, .int .i64 0, .bool false] 44) = W2 at hS2 ht8
  have hs2 : W2.heap.size = w.heap.size + 1 + 1 := by rw [← hW2]; simp [hs1]
  have hS3 : Still W2 (W2.alloc (.cells #[.int .i64 0, .slice none 0 0, .int .i64 0, .int .i64 0, .int .i64 0, .int .i64 0, .int .i64 0, .int .i64 0, .int .i64 0, .int .i64 0, .bool false] 44)) := (Kept.refl _ _).alloc _
  have ht9 : ToldAt (W2.alloc (.cells #[.int .i64 0, .slice none 0 0, .int .i64 0, .int .i64 0, .int .i64 0, .int .i64 0, .int .i64 0, .int .i64 0, .int .i64 0, .int .i64 0, .bool false] 44)) W2.heap.size (toldE 0) (.slice none 0 0) := ToldAt.new W2 44
  generalize hW3 : W2.alloc (.cells #[.int .i64 0, .slice none 0 0, .int .i64 0, .int .i64 0, .int .i64 0, .int .i64 0, .int .i64 0, .int .i64 0, .int .i64 0, .int .i64 0, .bool false] 44) = W3 at hS3 ht9
  have HON := hide (((h.again hS1).again hS2).again hS3)
  have HSW := hide ((hS1.trans hS2).trans hS3)
  have HT8 := hide (ht8.kept hS3 (fun q => q))
  have HT9 := hide ht9
  have hbo3 := (hbo.kept hS2 (fun q => q)).kept hS3 (fun q => q)
  rw [hs1] at HT8
  rw [hs2] at HT9
  have o0 := hbo3.c0
  have o2 := hbo3.c2
  have o3 := hbo3.c3
  have o4 := hbo3.c4
  have ol := hbo3.lt
  have HBO := hide hbo3
  have HW : Hid (((w.alloc (.cells #[.int .i64 o.kind, .int .i64 o.who, .int .i64 o.a, .int .i64 o.b, .int .i64 o.c, .int .i64 o.d] 34)).alloc (.cells #[.int .i64 0, .slice none 0 0, .int .i64 0, .int .i64 0, .int .i64 0, .int .i64 0, .int .i64 0, .int .i64 0, .int .i64 0, .int .i64 0, .bool false] 44)).alloc (.cells #[.int .i64 0, .slice none 0 0, .int .i64 0, .int .i64 0, .int .i64 0, .int .i64 0, .int .i64 0, .int .i64 0, .int .i64 0, .int .i64 0, .bool false] 44) = W3) := by
    show _ = W3
    rw [hW1, hW2, hW3]
  have HO := hide ho
  have HKD := hide hkd
  have HBASE := hide h.still.size
  have hbw : b < w.heap.size := hb
  clear hS1 hbo hS2 ht8 hS3 ht9 hbo3 hW1 hW2 hW3 hs1 hs2 h ho hkd
  go_enter Try.func11, Try.ntmps11
  go_wp2_with fail
  rw [unhide HW]
  generalize hs0 : w.heap.size = s0 at *
  refine (prefixK _ _ _ (unhide HO).a0 (unhide HO).a1 (unhide HO).b0 (unhide HO).b1).mono ?_
  rintro en w' ⟨rfl, hw⟩
  replace hw := hw.symm
  subst hw
  go_wp2_with fail
  refine (pickK _ _ _ (by omega) (unhide HO).k0 (unhide HO).k1).mono ?_
  rintro en w' ⟨rfl, hw⟩
  replace hw := hw.symm
  subst hw
  rw [unhide HKD]
  have H0 := hide h0
  have H1 := hide h1
  clear h0 h1
  go_wp2_with fail
  refine (on_count0 (unhide HON) (unhide H0) (unhide H1)).mono ?_
  rintro en w2 ⟨rfl, hn2⟩
  obtain ⟨hon2, hk2⟩ := (unhide HON).stepP hn2
  have hS4 : Still w2 (w2.alloc (.cells #[.int .i64 x.own, .int .i64 x.taken, .int .i64 x.dropped, .int .i64 x.quota] 40)) := (Kept.refl _ _).alloc _
  have hbr := (SumAt.new w2 (x.own) (x.taken) (x.dropped) (x.quota) 40).range
  have hi4 : (Try.prog.info? 40).map (·.size) = some ([.int .i64 x.own, .int .i64 x.taken, .int .i64 x.dropped, .int .i64 x.quota] : List Value).length := by kernel_rfl
  have ht9 := ((unhide HT9).kept hk2 (by omega)).kept hS4 (fun q => q)
  have ht8 := ((unhide HT8).kept hk2 (by omega)).kept hS4 (fun q => q)
  have hne4 : s0 + 1 + 1 < w2.heap.size := ((unhide HT9).kept hk2 (by omega)).lt
  have HBR := hide hbr
  have HS4 := hide hS4
  have HT9b := hide ht9
  have HT8b := hide ht8
  have HON2 := hide (hon2.again hS4)
  have HK2 := hide (((Still.kept (unhide HSW) (· = b)).trans hk2).trans (Still.kept hS4 (· = b)))
  clear hS4 hbr ht9 ht8 hn2 hon2 hk2 HT8 HT9 HON o0 o2 o3 o4 ol HBO
  go_wp2_with (refine wpList_load_mid rfl 40 _ rfl _ _ rfl [.int .i64 x.own, .int .i64 x.taken, .int .i64 x.dropped, .int .i64 x.quota] _ (unhide HBR) Try.underlying40 rfl hi4 (unhide ?_))
  refine hide ?_
  generalize (w2.alloc (.cells #[.int .i64 x.own, .int .i64 x.taken, .int .i64 x.dropped, .int .i64 x.quota] 40)) = W4 at *
  have ht9 := unhide HT9b
  have ht8 := unhide HT8b
  have hth4 : W4.there (s0 + 1 + 1) 2 ([.int .i64 x.own, .int .i64 x.taken, .int .i64 x.dropped, .int .i64 x.quota] : List Value).toArray.size := fun j hj => by
    have hj4 : j < 4 := hj
    have := ht9.there (2 + j) (by omega)
    rw [Nat.zero_add] at this
    exact this
  have hi5 : (Try.prog.info? 40).map (·.size) = some ([.int .i64 x.own, .int .i64 x.taken, .int .i64 x.dropped, .int .i64 x.quota] : List Value).toArray.size := hi4
  have ho4 : ([.int .i64 x.own, .int .i64 x.taken, .int .i64 x.dropped, .int .i64 x.quota] : List Value).toArray.all (·.oneCell') = true := by simp [Value.oneCell']
  have hk4 : Kept (· = s0 + 1 + 1) W4 (W4.setCells (s0 + 1 + 1) 2 ([.int .i64 x.own, .int .i64 x.taken, .int .i64 x.dropped, .int .i64 x.quota] : List Value).toArray.toList) := Kept.setCells (Kept.refl (· = s0 + 1 + 1) W4) (.inl rfl) _ _
  have ht9c : ToldAt (W4.setCells (s0 + 1 + 1) 2 ([.int .i64 x.own, .int .i64 x.taken, .int .i64 x.dropped, .int .i64 x.quota] : List Value).toArray.toList) (s0 + 1 + 1) { toldE 0 with s := x } (.slice none 0 0) := ht9.setS x
  have HTH4 := hide hth4
  have HT9c := hide ht9c
  have HT8c := hide (ht8.kept hk4 (by omega))
  have HON3 := hide ((unhide HON2).past hk4 (by omega) (by have := unhide HBASE; omega))
  have HK3 : Hid (Kept (· = b) w (W4.setCells (s0 + 1 + 1) 2 ([.int .i64 x.own, .int .i64 x.taken, .int .i64 x.dropped, .int .i64 x.quota] : List Value).toArray.toList)) := Kept.trans' (unhide HK2) hk4 (fun i hi q => by omega)
  clear hth4 hk4 ht9c ht9 ht8 HT9b HT8b HON2
  go_wp2_with (refine wpList_store_mid rfl 40 _ _ rfl _ _ ([.int .i64 x.own, .int .i64 x.taken, .int .i64 x.dropped, .int .i64 x.quota] : List Value).toArray rfl rfl (unhide HTH4) hi5 ho4 (unhide ?_))
  refine hide ?_
  generalize W4.setCells (s0 + 1 + 1) 2 ([.int .i64 x.own, .int .i64 x.taken, .int .i64 x.dropped, .int .i64 x.quota] : List Value).toArray.toList = W5 at *
  have ht9 := unhide HT9c
  have ht8 := unhide HT8c
  have z0 := ht9.c0
  have zf := ht9.fz 0
  have zl := ht9.lt
  have hk3 : Kept (· = s0 + 1 + 1) W5 (W5.setCell ⟨s0 + 1 + 1, 0, none⟩ (.int .i64 c)) := Kept.setAt (Kept.refl _ _) _ _
  have hpe : PlayEnd w0 w (W5.setCell ⟨s0 + 1 + 1, 0, none⟩ (.int .i64 c)) b (s0 + 1) (s0 + 1 + 1) (⟨c, [], x, rt0, false⟩ : ToldD) (.slice none 0 0) r := ⟨ht9.setE c, (ht8.kept hk3 (by omega)).there, (unhide HON3).past hk3 (by omega) (by have := unhide HBASE; omega), Kept.trans' (unhide HK3) hk3 (fun i hi q => by omega), by omega, by have := unhide HBASE; omega, by omega, World.ownsRow_nil _ _ _ _, fun g hg => by cases hg⟩
  have HRG := hide hpe.t9.range
  have HTH := hide hpe.there'
  have hpost : ((W5.setCell ⟨s0 + 1 + 1, 0, none⟩ (.int .i64 c)).setCells (s0 + 1) 0 (toldCells (⟨c, [], x, rt0, false⟩ : ToldD) (.slice none 0 0)).toArray.toList).rangeAt (s0 + 1) 0 (toldCells (⟨c, [], x, rt0, false⟩ : ToldD) (.slice none 0 0)) ∧ PlayPost w0 w b (⟨c, [], x, rt0, false⟩ : ToldD) r (.returned (.agg (toldCells (⟨c, [], x, rt0, false⟩ : ToldD) (.slice none 0 0)).toArray)) ((W5.setCell ⟨s0 + 1 + 1, 0, none⟩ (.int .i64 c)).setCells (s0 + 1) 0 (toldCells (⟨c, [], x, rt0, false⟩ : ToldD) (.slice none 0 0)).toArray.toList) := PlayEnd.post (a := none) (c := 0) hpe rfl
  have HPOST := hide hpost
  have hi := infoTold' (⟨c, [], x, rt0, false⟩ : ToldD) (.slice none 0 0)
  have hi2 : (Try.prog.info? 44).map (·.size) = some (toldCells (⟨c, [], x, rt0, false⟩ : ToldD) (.slice none 0 0)).length := infoTold
  have ho1 : (toldCells (⟨c, [], x, rt0, false⟩ : ToldD) (.slice none 0 0)).toArray.all (·.oneCell') = true := toldCells_one _ _ _ _
  clear hpost hpe ht9 ht8 hk3 HT9c HT8c HON3
  generalize hcs : toldCells (⟨c, [], x, rt0, false⟩ : ToldD) (.slice none 0 0) = cs at *
  clear hcs
  go_wp2_with (refine wpList_load_mid rfl 44 _ rfl _ _ rfl cs _ (unhide HRG) Try.underlying44 rfl hi2 (unhide ?_))
  refine hide ?_
  go_wp2_with (refine wpList_store_mid rfl 44 _ _ rfl _ _ cs.toArray rfl rfl (unhide HTH) hi ho1 (unhide ?_))
  refine hide ?_
  generalize (W5.setCell ⟨s0 + 1 + 1, 0, none⟩ (.int .i64 c)).setCells (s0 + 1) 0 cs.toArray.toList = Z at *
  go_wp2
  refine bodyPost_ret (results_range1 rfl _ _ _ _ _ _ rfl (unhide HPOST).1 Try.underlying44 rfl hi2) rfl ?_
  exact (unhide HPOST).2
set_option maxHeartbeats 8000000 in
theorem play_look {w0 w : World} {b : Nat} {r r' : RefS} (h : On w0 w (oneTag b) 1 b r) (o : OpD) (ho : OpOk o) (n mk : Int) (hkd : pickF o.kind 8 = 6) {c : Int} {x : RouteD} (h0 : lookR r n (pickF o.a 65536) = c) (h1 : lookA r n (pickF o.a 65536) = x) (_h2 : r = r') :
    Calls Try.prog 11 #[.pointer (some ⟨b, 0, none⟩), .int .i64 n, .agg #[.int .i64 o.kind, .int .i64 o.who, .int .i64 o.a, .int .i64 o.b, .int .i64 o.c, .int .i64 o.d], .int .i64 mk] w fun en w' => PlayPost w0 w b ⟨c, [], su0, x, false⟩ r en w' := by
  have hb := h.lt
  have hS1 : Still w (w.alloc (.cells #[.int .i64 o.kind, .int .i64 o.who, .int .i64 o.a, .int .i64 o.b, .int .i64 o.c, .int .i64 o.d] 34)) := (Kept.refl _ _).alloc _
  have hbo := BoxO.new w o 34
  generalize hW1 : w.alloc (.cells #[.int .i64 o.kind, .int .i64 o.who, .int .i64 o.a, .int .i64 o.b, .int .i64 o.c, .int .i64 o.d] 34) = W1 at hS1 hbo
  have hs1 : W1.heap.size = w.heap.size + 1 := by rw [← hW1]; simp
  have hS2 : Still W1 (W1.alloc (.cells #[.int .i64 0, .slice none 0 0, .int .i64 0, .int .i64 0, .int .i64 0, .int .i64 0, .int .i64 0, .int .i64 0, .int .i64 0, .int .i64 0, .bool false] 44)) := (Kept.refl _ _).alloc _
  have ht8 : ToldAt (W1.alloc (.cells #[.int .i64 0, .slice none 0 0, .int .i64 0, .int .i64 0, .int .i64 0, .int .i64 0, .int .i64 0, .int .i64 0, .int .i64 0, .int .i64 0, .bool false] 44)) W1.heap.size (toldE 0) (.slice none 0 0) := ToldAt.new W1 44
  generalize hW2 : W1.alloc (.cells #[.int .i64 0, .slice none 0 0, .int .i64 0, .int .i64 0, .int .i64 0, .int .i64 0, .int .i64 0, .int .i64 0, .int .i64 0, .int .i64 0, .bool false] 44) = W2 at hS2 ht8
  have hs2 : W2.heap.size = w.heap.size + 1 + 1 := by rw [← hW2]; simp [hs1]
  have hS3 : Still W2 (W2.alloc (.cells #[.int .i64 0, .slice none 0 0, .int .i64 0, .int .i64 0, .int .i64 0, .int .i64 0, .int .i64 0, .int .i64 0, .int .i64 0, .int .i64 0, .bool false] 44)) := (Kept.refl _ _).alloc _
  have ht9 : ToldAt (W2.alloc (.cells #[.int .i64 0, .slice none 0 0, .int .i64 0, .int .i64 0, .int .i64 0, .int .i64 0, .int .i64 0, .int .i64 0, .int .i64 0, .int .i64 0, .bool false] 44)) W2.heap.size (toldE 0) (.slice none 0 0) := ToldAt.new W2 44
  generalize hW3 : W2.alloc (.cells #[.int .i64 0, .slice none 0 0, .int .i64 0, .int .i64 0, .int .i64 0, .int .i64 0, .int .i64 0, .int .i64 0, .int .i64 0, .int .i64 0, .bool false] 44) = W3 at hS3 ht9
  have HON := hide (((h.again hS1).again hS2).again hS3)
  have HSW := hide ((hS1.trans hS2).trans hS3)
  have HT8 := hide (ht8.kept hS3 (fun q => q))
  have HT9 := hide ht9
  have hbo3 := (hbo.kept hS2 (fun q => q)).kept hS3 (fun q => q)
  rw [hs1] at HT8
  rw [hs2] at HT9
  have o0 := hbo3.c0
  have o2 := hbo3.c2
  have o3 := hbo3.c3
  have o4 := hbo3.c4
  have ol := hbo3.lt
  have HBO := hide hbo3
  have HW : Hid (((w.alloc (.cells #[.int .i64 o.kind, .int .i64 o.who, .int .i64 o.a, .int .i64 o.b, .int .i64 o.c, .int .i64 o.d] 34)).alloc (.cells #[.int .i64 0, .slice none 0 0, .int .i64 0, .int .i64 0, .int .i64 0, .int .i64 0, .int .i64 0, .int .i64 0, .int .i64 0, .int .i64 0, .bool false] 44)).alloc (.cells #[.int .i64 0, .slice none 0 0, .int .i64 0, .int .i64 0, .int .i64 0, .int .i64 0, .int .i64 0, .int .i64 0, .int .i64 0, .int .i64 0, .bool false] 44) = W3) := by
    show _ = W3
    rw [hW1, hW2, hW3]
  have HO := hide ho
  have HKD := hide hkd
  have HBASE := hide h.still.size
  have hbw : b < w.heap.size := hb
  clear hS1 hbo hS2 ht8 hS3 ht9 hbo3 hW1 hW2 hW3 hs1 hs2 h ho hkd
  go_enter Try.func11, Try.ntmps11
  go_wp2_with fail
  rw [unhide HW]
  generalize hs0 : w.heap.size = s0 at *
  refine (prefixK _ _ _ (unhide HO).a0 (unhide HO).a1 (unhide HO).b0 (unhide HO).b1).mono ?_
  rintro en w' ⟨rfl, hw⟩
  replace hw := hw.symm
  subst hw
  go_wp2_with fail
  refine (pickK _ _ _ (by omega) (unhide HO).k0 (unhide HO).k1).mono ?_
  rintro en w' ⟨rfl, hw⟩
  replace hw := hw.symm
  subst hw
  rw [unhide HKD]
  have H0 := hide h0
  have H1 := hide h1
  clear h0 h1
  go_wp2_with fail
  refine (pickK _ _ _ (by omega) (unhide HO).a0 (unhide HO).a1).mono ?_
  rintro en w' ⟨rfl, hw⟩
  replace hw := hw.symm
  subst hw
  go_wp2_with fail
  refine (on_lookup0 (unhide HON) (unhide H0) (unhide H1)).mono ?_
  rintro en w2 ⟨rfl, hn2⟩
  obtain ⟨hon2, hk2⟩ := (unhide HON).stepP hn2
  have hS4 : Still w2 (w2.alloc (.cells #[.int .i64 x.addr, .int .i64 x.len, .int .i64 x.hop, .int .i64 x.from_] 42)) := (Kept.refl _ _).alloc _
  have hbr := (SumAt.new w2 (x.addr) (x.len) (x.hop) (x.from_) 42).range
  have hi4 : (Try.prog.info? 42).map (·.size) = some ([.int .i64 x.addr, .int .i64 x.len, .int .i64 x.hop, .int .i64 x.from_] : List Value).length := by kernel_rfl
  have ht9 := ((unhide HT9).kept hk2 (by omega)).kept hS4 (fun q => q)
  have ht8 := ((unhide HT8).kept hk2 (by omega)).kept hS4 (fun q => q)
  have hne4 : s0 + 1 + 1 < w2.heap.size := ((unhide HT9).kept hk2 (by omega)).lt
  have HBR := hide hbr
  have HS4 := hide hS4
  have HT9b := hide ht9
  have HT8b := hide ht8
  have HON2 := hide (hon2.again hS4)
  have HK2 := hide (((Still.kept (unhide HSW) (· = b)).trans hk2).trans (Still.kept hS4 (· = b)))
  clear hS4 hbr ht9 ht8 hn2 hon2 hk2 HT8 HT9 HON o0 o2 o3 o4 ol HBO
  go_wp2_with (refine wpList_load_mid rfl 42 _ rfl _ _ rfl [.int .i64 x.addr, .int .i64 x.len, .int .i64 x.hop, .int .i64 x.from_] _ (unhide HBR) Try.underlying42 rfl hi4 (unhide ?_))
  refine hide ?_
  generalize (w2.alloc (.cells #[.int .i64 x.addr, .int .i64 x.len, .int .i64 x.hop, .int .i64 x.from_] 42)) = W4 at *
  have ht9 := unhide HT9b
  have ht8 := unhide HT8b
  have hth4 : W4.there (s0 + 1 + 1) 6 ([.int .i64 x.addr, .int .i64 x.len, .int .i64 x.hop, .int .i64 x.from_] : List Value).toArray.size := fun j hj => by
    have hj4 : j < 4 := hj
    have := ht9.there (6 + j) (by omega)
    rw [Nat.zero_add] at this
    exact this
  have hi5 : (Try.prog.info? 42).map (·.size) = some ([.int .i64 x.addr, .int .i64 x.len, .int .i64 x.hop, .int .i64 x.from_] : List Value).toArray.size := hi4
  have ho4 : ([.int .i64 x.addr, .int .i64 x.len, .int .i64 x.hop, .int .i64 x.from_] : List Value).toArray.all (·.oneCell') = true := by simp [Value.oneCell']
  have hk4 : Kept (· = s0 + 1 + 1) W4 (W4.setCells (s0 + 1 + 1) 6 ([.int .i64 x.addr, .int .i64 x.len, .int .i64 x.hop, .int .i64 x.from_] : List Value).toArray.toList) := Kept.setCells (Kept.refl (· = s0 + 1 + 1) W4) (.inl rfl) _ _
  have ht9c : ToldAt (W4.setCells (s0 + 1 + 1) 6 ([.int .i64 x.addr, .int .i64 x.len, .int .i64 x.hop, .int .i64 x.from_] : List Value).toArray.toList) (s0 + 1 + 1) { toldE 0 with r := x } (.slice none 0 0) := ht9.setR x
  have HTH4 := hide hth4
  have HT9c := hide ht9c
  have HT8c := hide (ht8.kept hk4 (by omega))
  have HON3 := hide ((unhide HON2).past hk4 (by omega) (by have := unhide HBASE; omega))
  have HK3 : Hid (Kept (· = b) w (W4.setCells (s0 + 1 + 1) 6 ([.int .i64 x.addr, .int .i64 x.len, .int .i64 x.hop, .int .i64 x.from_] : List Value).toArray.toList)) := Kept.trans' (unhide HK2) hk4 (fun i hi q => by omega)
  clear hth4 hk4 ht9c ht9 ht8 HT9b HT8b HON2
  go_wp2_with (refine wpList_store_mid rfl 42 _ _ rfl _ _ ([.int .i64 x.addr, .int .i64 x.len, .int .i64 x.hop, .int .i64 x.from_] : List Value).toArray rfl rfl (unhide HTH4) hi5 ho4 (unhide ?_))
  refine hide ?_
  generalize W4.setCells (s0 + 1 + 1) 6 ([.int .i64 x.addr, .int .i64 x.len, .int .i64 x.hop, .int .i64 x.from_] : List Value).toArray.toList = W5 at *
  have ht9 := unhide HT9c
  have ht8 := unhide HT8c
  have z0 := ht9.c0
  have zf := ht9.fz 0
  have zl := ht9.lt
  have hk3 : Kept (· = s0 + 1 + 1) W5 (W5.setCell ⟨s0 + 1 + 1, 0, none⟩ (.int .i64 c)) := Kept.setAt (Kept.refl _ _) _ _
  have hpe : PlayEnd w0 w (W5.setCell ⟨s0 + 1 + 1, 0, none⟩ (.int .i64 c)) b (s0 + 1) (s0 + 1 + 1) (⟨c, [], su0, x, false⟩ : ToldD) (.slice none 0 0) r := ⟨ht9.setE c, (ht8.kept hk3 (by omega)).there, (unhide HON3).past hk3 (by omega) (by have := unhide HBASE; omega), Kept.trans' (unhide HK3) hk3 (fun i hi q => by omega), by omega, by have := unhide HBASE; omega, by omega, World.ownsRow_nil _ _ _ _, fun g hg => by cases hg⟩
  have HRG := hide hpe.t9.range
  have HTH := hide hpe.there'
  have hpost : ((W5.setCell ⟨s0 + 1 + 1, 0, none⟩ (.int .i64 c)).setCells (s0 + 1) 0 (toldCells (⟨c, [], su0, x, false⟩ : ToldD) (.slice none 0 0)).toArray.toList).rangeAt (s0 + 1) 0 (toldCells (⟨c, [], su0, x, false⟩ : ToldD) (.slice none 0 0)) ∧ PlayPost w0 w b (⟨c, [], su0, x, false⟩ : ToldD) r (.returned (.agg (toldCells (⟨c, [], su0, x, false⟩ : ToldD) (.slice none 0 0)).toArray)) ((W5.setCell ⟨s0 + 1 + 1, 0, none⟩ (.int .i64 c)).setCells (s0 + 1) 0 (toldCells (⟨c, [], su0, x, false⟩ : ToldD) (.slice none 0 0)).toArray.toList) := PlayEnd.post (a := none) (c := 0) hpe rfl
  have HPOST := hide hpost
  have hi := infoTold' (⟨c, [], su0, x, false⟩ : ToldD) (.slice none 0 0)
  have hi2 : (Try.prog.info? 44).map (·.size) = some (toldCells (⟨c, [], su0, x, false⟩ : ToldD) (.slice none 0 0)).length := infoTold
  have ho1 : (toldCells (⟨c, [], su0, x, false⟩ : ToldD) (.slice none 0 0)).toArray.all (·.oneCell') = true := toldCells_one _ _ _ _
  clear hpost hpe ht9 ht8 hk3 HT9c HT8c HON3
  generalize hcs : toldCells (⟨c, [], su0, x, false⟩ : ToldD) (.slice none 0 0) = cs at *
  clear hcs
  go_wp2_with (refine wpList_load_mid rfl 44 _ rfl _ _ rfl cs _ (unhide HRG) Try.underlying44 rfl hi2 (unhide ?_))
  refine hide ?_
  go_wp2_with (refine wpList_store_mid rfl 44 _ _ rfl _ _ cs.toArray rfl rfl (unhide HTH) hi ho1 (unhide ?_))
  refine hide ?_
  generalize (W5.setCell ⟨s0 + 1 + 1, 0, none⟩ (.int .i64 c)).setCells (s0 + 1) 0 cs.toArray.toList = Z at *
  go_wp2
  refine bodyPost_ret (results_range1 rfl _ _ _ _ _ _ rfl (unhide HPOST).1 Try.underlying44 rfl hi2) rfl ?_
  exact (unhide HPOST).2
set_option maxHeartbeats 8000000 in
theorem play_pass {w0 w : World} {b : Nat} {r r' : RefS} (h : On w0 w (oneTag b) 1 b r) (o : OpD) (ho : OpOk o) (n mk : Int) (hkd : pickF o.kind 8 = 7) {c : Int} {x : Bool} (h0 : passR r n (pickF o.a 65536) (pickF o.c 256) = c) (h1 : passA r n (pickF o.a 65536) (pickF o.c 256) (andF o.d 1 == 1) = x) (_h2 : r = r') :
    Calls Try.prog 11 #[.pointer (some ⟨b, 0, none⟩), .int .i64 n, .agg #[.int .i64 o.kind, .int .i64 o.who, .int .i64 o.a, .int .i64 o.b, .int .i64 o.c, .int .i64 o.d], .int .i64 mk] w fun en w' => PlayPost w0 w b ⟨c, [], su0, rt0, x⟩ r en w' := by
  have hb := h.lt
  have hS1 : Still w (w.alloc (.cells #[.int .i64 o.kind, .int .i64 o.who, .int .i64 o.a, .int .i64 o.b, .int .i64 o.c, .int .i64 o.d] 34)) := (Kept.refl _ _).alloc _
  have hbo := BoxO.new w o 34
  generalize hW1 : w.alloc (.cells #[.int .i64 o.kind, .int .i64 o.who, .int .i64 o.a, .int .i64 o.b, .int .i64 o.c, .int .i64 o.d] 34) = W1 at hS1 hbo
  have hs1 : W1.heap.size = w.heap.size + 1 := by rw [← hW1]; simp
  have hS2 : Still W1 (W1.alloc (.cells #[.int .i64 0, .slice none 0 0, .int .i64 0, .int .i64 0, .int .i64 0, .int .i64 0, .int .i64 0, .int .i64 0, .int .i64 0, .int .i64 0, .bool false] 44)) := (Kept.refl _ _).alloc _
  have ht8 : ToldAt (W1.alloc (.cells #[.int .i64 0, .slice none 0 0, .int .i64 0, .int .i64 0, .int .i64 0, .int .i64 0, .int .i64 0, .int .i64 0, .int .i64 0, .int .i64 0, .bool false] 44)) W1.heap.size (toldE 0) (.slice none 0 0) := ToldAt.new W1 44
  generalize hW2 : W1.alloc (.cells #[.int .i64 0, .slice none 0 0, .int .i64 0, .int .i64 0, .int .i64 0, .int .i64 0, .int .i64 0, .int .i64 0, .int .i64 0, .int .i64 0, .bool false] 44) = W2 at hS2 ht8
  have hs2 : W2.heap.size = w.heap.size + 1 + 1 := by rw [← hW2]; simp [hs1]
  have hS3 : Still W2 (W2.alloc (.cells #[.int .i64 0, .slice none 0 0, .int .i64 0, .int .i64 0, .int .i64 0, .int .i64 0, .int .i64 0, .int .i64 0, .int .i64 0, .int .i64 0, .bool false] 44)) := (Kept.refl _ _).alloc _
  have ht9 : ToldAt (W2.alloc (.cells #[.int .i64 0, .slice none 0 0, .int .i64 0, .int .i64 0, .int .i64 0, .int .i64 0, .int .i64 0, .int .i64 0, .int .i64 0, .int .i64 0, .bool false] 44)) W2.heap.size (toldE 0) (.slice none 0 0) := ToldAt.new W2 44
  generalize hW3 : W2.alloc (.cells #[.int .i64 0, .slice none 0 0, .int .i64 0, .int .i64 0, .int .i64 0, .int .i64 0, .int .i64 0, .int .i64 0, .int .i64 0, .int .i64 0, .bool false] 44) = W3 at hS3 ht9
  have HON := hide (((h.again hS1).again hS2).again hS3)
  have HSW := hide ((hS1.trans hS2).trans hS3)
  have HT8 := hide (ht8.kept hS3 (fun q => q))
  have HT9 := hide ht9
  have hbo3 := (hbo.kept hS2 (fun q => q)).kept hS3 (fun q => q)
  rw [hs1] at HT8
  rw [hs2] at HT9
  have o0 := hbo3.c0
  have o2 := hbo3.c2
  have o3 := hbo3.c3
  have o4 := hbo3.c4
  have ol := hbo3.lt
  have o5 := hbo3.c5
  have HNB : Hid (¬ mineX (oneTag b) 1 w.heap.size) := fun q => by have := (oneTag_mine b _).1 q; omega
  have HBO := hide hbo3
  have HW : Hid (((w.alloc (.cells #[.int .i64 o.kind, .int .i64 o.who, .int .i64 o.a, .int .i64 o.b, .int .i64 o.c, .int .i64 o.d] 34)).alloc (.cells #[.int .i64 0, .slice none 0 0, .int .i64 0, .int .i64 0, .int .i64 0, .int .i64 0, .int .i64 0, .int .i64 0, .int .i64 0, .int .i64 0, .bool false] 44)).alloc (.cells #[.int .i64 0, .slice none 0 0, .int .i64 0, .int .i64 0, .int .i64 0, .int .i64 0, .int .i64 0, .int .i64 0, .int .i64 0, .int .i64 0, .bool false] 44) = W3) := by
    show _ = W3
    rw [hW1, hW2, hW3]
  have HO := hide ho
  have HKD := hide hkd
  have HBASE := hide h.still.size
  have hbw : b < w.heap.size := hb
  clear hS1 hbo hS2 ht8 hS3 ht9 hbo3 hW1 hW2 hW3 hs1 hs2 h ho hkd
  go_enter Try.func11, Try.ntmps11
  go_wp2_with fail
  rw [unhide HW]
  generalize hs0 : w.heap.size = s0 at *
  refine (prefixK _ _ _ (unhide HO).a0 (unhide HO).a1 (unhide HO).b0 (unhide HO).b1).mono ?_
  rintro en w' ⟨rfl, hw⟩
  replace hw := hw.symm
  subst hw
  go_wp2_with fail
  refine (pickK _ _ _ (by omega) (unhide HO).k0 (unhide HO).k1).mono ?_
  rintro en w' ⟨rfl, hw⟩
  replace hw := hw.symm
  subst hw
  rw [unhide HKD]
  have H0 := hide h0
  have H1 := hide h1
  clear h0 h1
  go_wp2_with fail
  have HOND := hide ((unhide HON).again ((Kept.refl _ W3).drew))
  go_region_held3 (fun w' => w'.cell? ⟨s0, 2, none⟩ = some (.int .i64 o.a) ∧ w'.cell? ⟨s0, 4, none⟩ = some (.int .i64 o.c) ∧ w'.cell? ⟨s0, 5, none⟩ = some (.int .i64 o.d)) (first | go_keep | (go_split_ands; exact ⟨((unhide HK5).cell (p := ⟨s0, 2, none⟩) ol (unhide HNB)).trans o2, ((unhide HK5).cell (p := ⟨s0, 4, none⟩) ol (unhide HNB)).trans o4, ((unhide HK5).cell (p := ⟨s0, 5, none⟩) ol (unhide HNB)).trans o5⟩)) ((first | (go_at_call 38; refine (on_pass0 (strict := andF o.d 1 == 1) (unhide HOND) (unhide H0) (unhide H1)).mono ?_; rintro en w2 ⟨rfl, hn2⟩; have HK5 := hide hn2.choose_spec.2.2.1) | (go_at_call 8; refine (pickK _ _ _ (by omega) (by first | exact (unhide HO).a0 | exact (unhide HO).c0) (by first | exact (unhide HO).a1 | exact (unhide HO).c1)).mono ?_; rintro en w' ⟨rfl, hw⟩; replace hw := hw.symm; subst hw)))
  obtain ⟨hon2, hk2⟩ := (unhide HOND).stepP hn2
  have hkd : Still W3 W3.drew := (Kept.refl _ _).drew
  have ht9 := ((unhide HT9).kept hkd (fun q => q)).kept hk2 (by omega)
  have ht8 := ((unhide HT8).kept hkd (fun q => q)).kept hk2 (by omega)
  have z0 := ht9.c0
  have z10 := ht9.c10
  have zf := ht9.fz 0
  have zf10 := ht9.fz 10
  have zl := ht9.lt
  have hk3 : Kept (· = s0 + 1 + 1) w2 ((w2.setCell ⟨s0 + 1 + 1, 10, none⟩ (.bool x)).setCell ⟨s0 + 1 + 1, 0, none⟩ (.int .i64 c)) := Kept.setAt (Kept.setAt (Kept.refl _ _) _ _) _ _
  have hpe : PlayEnd w0 w ((w2.setCell ⟨s0 + 1 + 1, 10, none⟩ (.bool x)).setCell ⟨s0 + 1 + 1, 0, none⟩ (.int .i64 c)) b (s0 + 1) (s0 + 1 + 1) (⟨c, [], su0, rt0, x⟩ : ToldD) (.slice none 0 0) r := ⟨(ht9.setB x).setE c, (ht8.kept hk3 (by omega)).there, hon2.past hk3 (by omega) (by have := unhide HBASE; omega), Kept.trans' (((Still.kept (unhide HSW) (· = b)).trans (Still.kept hkd (· = b))).trans hk2) hk3 (fun i hi q => by omega), by omega, by have := unhide HBASE; omega, by omega, World.ownsRow_nil _ _ _ _, fun g hg => by cases hg⟩
  have HRG := hide hpe.t9.range
  have HTH := hide hpe.there'
  have hpost : (((w2.setCell ⟨s0 + 1 + 1, 10, none⟩ (.bool x)).setCell ⟨s0 + 1 + 1, 0, none⟩ (.int .i64 c)).setCells (s0 + 1) 0 (toldCells (⟨c, [], su0, rt0, x⟩ : ToldD) (.slice none 0 0)).toArray.toList).rangeAt (s0 + 1) 0 (toldCells (⟨c, [], su0, rt0, x⟩ : ToldD) (.slice none 0 0)) ∧ PlayPost w0 w b (⟨c, [], su0, rt0, x⟩ : ToldD) r (.returned (.agg (toldCells (⟨c, [], su0, rt0, x⟩ : ToldD) (.slice none 0 0)).toArray)) (((w2.setCell ⟨s0 + 1 + 1, 10, none⟩ (.bool x)).setCell ⟨s0 + 1 + 1, 0, none⟩ (.int .i64 c)).setCells (s0 + 1) 0 (toldCells (⟨c, [], su0, rt0, x⟩ : ToldD) (.slice none 0 0)).toArray.toList) := PlayEnd.post (a := none) (c := 0) hpe rfl
  have HPOST := hide hpost
  have hi := infoTold' (⟨c, [], su0, rt0, x⟩ : ToldD) (.slice none 0 0)
  have hi2 : (Try.prog.info? 44).map (·.size) = some (toldCells (⟨c, [], su0, rt0, x⟩ : ToldD) (.slice none 0 0)).length := infoTold
  have ho1 : (toldCells (⟨c, [], su0, rt0, x⟩ : ToldD) (.slice none 0 0)).toArray.all (·.oneCell') = true := toldCells_one _ _ _ _
  clear hpost hpe hn2 hon2 hk2 ht9 ht8 hk3 hkd HK5 o0 o2 o3 o4 ol HBO HT8 HT9 HON HOND
  generalize hcs : toldCells (⟨c, [], su0, rt0, x⟩ : ToldD) (.slice none 0 0) = cs at *
  clear hcs
  go_wp2_with (refine wpList_load_mid rfl 44 _ rfl _ _ rfl cs _ (unhide HRG) Try.underlying44 rfl hi2 (unhide ?_))
  refine hide ?_
  go_wp2_with (refine wpList_store_mid rfl 44 _ _ rfl _ _ cs.toArray rfl rfl (unhide HTH) hi ho1 (unhide ?_))
  refine hide ?_
  generalize ((w2.setCell ⟨s0 + 1 + 1, 10, none⟩ (.bool x)).setCell ⟨s0 + 1 + 1, 0, none⟩ (.int .i64 c)).setCells (s0 + 1) 0 cs.toArray.toList = Z at *
  go_wp2
  refine bodyPost_ret (results_range1 rfl _ _ _ _ _ _ rfl (unhide HPOST).1 Try.underlying44 rfl hi2) rfl ?_
  exact (unhide HPOST).2
theorem playK {w0 w : World} {b : Nat} {r : RefS} (h : On w0 w (oneTag b) 1 b r) (o : OpD) (ho : OpOk o) (n mk : Int) :
    Calls Try.prog 11 #[.pointer (some ⟨b, 0, none⟩), .int .i64 n, .agg #[.int .i64 o.kind, .int .i64 o.who, .int .i64 o.a, .int .i64 o.b, .int .i64 o.c, .int .i64 o.d], .int .i64 mk] w fun en w' => PlayPost w0 w b (playT r n o mk) (playS r n o mk) en w' := by
  have h8 := pickF_range o.kind (n := 8) (by omega)
  have hc : pickF o.kind 8 = 0 ∨ pickF o.kind 8 = 1 ∨ pickF o.kind 8 = 2 ∨ pickF o.kind 8 = 3 ∨ pickF o.kind 8 = 4 ∨ pickF o.kind 8 = 5 ∨ pickF o.kind 8 = 6 ∨ pickF o.kind 8 = 7 := by omega
  unfold playT playS
  rcases hc with hk | hk | hk | hk | hk | hk | hk | hk
  · simp only [hk]
    exact play_insert h o ho n mk hk rfl rfl
  · simp only [hk]
    exact play_remove h o ho n mk hk rfl rfl
  · simp only [hk]
    exact play_share h o ho n mk hk rfl rfl
  · simp only [hk]
    exact play_filter h o ho n mk hk rfl rfl
  · simp only [hk]
    exact play_table h o ho n mk hk rfl rfl rfl
  · simp only [hk]
    exact play_count h o ho n mk hk rfl rfl rfl
  · simp only [hk]
    exact play_look h o ho n mk hk rfl rfl rfl
  · simp only [hk]
    exact play_pass h o ho n mk hk rfl rfl rfl
end Go.Proofs.Ytgndledehlilkab
