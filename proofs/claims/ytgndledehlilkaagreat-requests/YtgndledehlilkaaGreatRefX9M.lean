import Derived.Test.YtgndledehlilkaaGreatRefX5M
import Derived.Test.YtgndledehlilkaaGreatRefL1M
import Derived.Test.YtgndledehlilkaaGreatLawI1M
namespace Go.Proofs.YtgndledehlilkaaGreat
open Go.RowKit

theorem changed_uncut {w w1 w2 : World} {O : Tag} {e b : Nat} {r' : RefS} (hs : Still w w1) (hc : changed w1 (cutO O w.heap.size) e b r' w2) : changed w O e b r' w2 := by
  obtain ⟨O', h1, h2, h3⟩ := hc
  have z := hs.size
  refine ⟨O', fun k hk => (h1 k (by omega)).trans (cutO_lt hk), h2, Kept.trans' (Still.kept hs _) h3 fun i hi q => ?_⟩
  unfold mineR at q ⊢
  rw [cutO_lt hi] at q
  exact q
theorem refRep_cut {w w1 : World} {O : Tag} {e b : Nat} {r : RefS} (h : RefRep w O e b r) (hs : Still w w1) : RefRep w1 (cutO O w.heap.size) e b r := h.frameX (fun _ hk _ _ => hs.heap hk) (fun _ hk _ => cutO_lt hk)
theorem DoneR.uncut {w w1 w2 : World} {O : Tag} {e b : Nat} {r' : RefS} {u : Value} {F : List Int} (hs : Still w w1) (h : DoneR w1 (cutO O w.heap.size) e b r' u F w2) : DoneR w O e b r' u F w2 := ⟨ownsRow_base h.1 hs.size, changed_uncut hs h.2⟩
/-- The bytes behind the first one. -/
theorem BytesIn.tail {w : World} {a : Option Addr} {n c : Nat} {x : Int} {T : List Int} (h : BytesIn w (.slice a n c) (x :: T)) : ∃ bs off, a = some ⟨bs, off, none⟩ ∧ n = T.length + 1 ∧ T.length + 1 ≤ c ∧ T.length + 1 ≤ 140737488355328 ∧ w.cell? ⟨bs, off, none⟩ = some (.int .u8 x) ∧ BytesIn w (.slice (some ⟨bs, off + 1, none⟩) T.length (c - 1)) T ∧ (T = [] → BytesIn w (.slice (some ⟨bs, off, none⟩) 0 0) T) := by
  obtain ⟨h0, h⟩ := h
  rcases h with ⟨_, e⟩ | ⟨ad, c', e, h1, h2, h4⟩
  · cases e
  · simp only [Value.slice.injEq] at e
    obtain ⟨rfl, rfl, rfl⟩ := e
    obtain ⟨bs, off, rfl, q1, q2⟩ := h4 0 (by simp)
    have hok : okBytes T := fun y hy => h0 y (List.mem_cons_of_mem _ hy)
    simp only [List.length_cons] at h1 h2
    refine ⟨bs, off, rfl, rfl, h1, h2, by simpa [fB] using q2, ⟨hok, .inr ⟨_, _, rfl, by omega, by omega, fun j hj => ⟨bs, off + 1, rfl, q1, ?_⟩⟩⟩, fun e => ?_⟩
    · obtain ⟨bs', off', e', _, q3⟩ := h4 (j + 1) (by simp; omega)
      simp only [Addr.mk.injEq, and_true] at e'
      obtain ⟨rfl, rfl⟩ := e'
      rw [show off + 1 + j = off + (j + 1) by omega, q3, fB_tail]
    · subst e
      exact ⟨hok, .inr ⟨_, _, rfl, by simp, by simp, fun j hj => by simp at hj⟩⟩
theorem isReq_one (x : Int) : isReq [x] = false := by
  unfold isReq sizeB
  have e : fB [x] 3 = 0 := rfl
  rw [e]
  generalize fB [x] 0 = y
  have h : ¬ (([x].length : Int) = if y = 1 ∨ y = 2 then 2 else if y = 11 ∨ y = 12 then 3 else if y = 3 then 4 else if y = 4 ∨ y = 7 ∨ y = 9 then 5 else if y = 6 then 6 else if y = 5 ∨ y = 10 then 7 else if y = 8 then 4 + 6 * 0 else -1) := by
    repeat' split
    all_goals simp
  rw [decide_eq_false h]
  rfl
section
variable {w : World} {O : Tag} {e b : Nat} {r : RefS}
/-- Bytes that are no request. -/
theorem doneR_form (h : RefRep w O e b r) {w1 w2 : World} (hs : Still w w1) (hw : w2 = w1.alloc (.cells #[.int .u8 1] 5)) {S : List Int} (hq : isReq S = false) : DoneR w O e b (doS r S) (.slice (some ⟨w1.heap.size, 0, none⟩) 1 1) (doB r S) w2 := by
  have eB : doB r S = [1] := by unfold doB; rw [hq]; rfl
  have eS : doS r S = r := by unfold doS; rw [hq]; rfl
  rw [eB, eS, hw]
  exact ⟨bytesNew w1 [1] hs.size (by simp), changed_same h (Kept.alloc hs _)⟩
set_option maxRecDepth 100000 in
set_option maxHeartbeats 2000000 in
theorem refDo_nil (h : RefRep w O e b r) {a : Option Addr} {c : Nat} : Calls Tryz.prog 46 #[.pointer (some ⟨b, 0, none⟩), .slice a 0 c] w fun en w' => ∃ u, en = .returned u ∧ DoneR w O e b (doS r []) u (doB r []) w' := by
  have HF := hide (doneR_form h (Kept.refl _ _) rfl (S := []) rfl)
  clear h
  go_enter Tryz.func46, Tryz.ntmps46
  go_wp2
  go_ret
  exact ⟨_, rfl, unhide HF⟩
/-- The form of a request, spread. -/
theorem spread_any {w : World} {a : Option Addr} {n c : Nat} {T : List Int} (h : BytesIn w (.slice a n c) T) (x : Int) : Calls Tryz.prog 87 #[.string ⟨(formL x).toArray⟩, .slice a n c] w fun en w' => en = .returned (.string ⟨(formS x T).toArray⟩) ∧ w' = w := by
  by_cases h8 : x = 8
  · subst h8
    have e1 : formS 8 T = spreadL (fB T 2).toNat := by unfold formS; rw [if_pos rfl]
    rw [e1]
    exact spread_star h
  · have e1 : formS x T = formL x := by unfold formS; rw [if_neg h8]
    rw [e1]
    exact spread_other _ _ (formL_star x h8)
theorem formS_len {x : Int} {T : List Int} (hT : okBytes T) : (formS x T).length ≤ 5000 := by
  unfold formS
  split
  · rw [spreadL_len]; have := fB_ok hT 2; omega
  · unfold formL
    repeat' split
    all_goals simp
set_option maxRecDepth 100000 in
set_option maxHeartbeats 2000000 in
theorem refDo_one (h : RefRep w O e b r) {bs off : Nat} {x : Int} (hc : w.cell? ⟨bs, off, none⟩ = some (.int .u8 x)) (x0 : 0 ≤ x) (x1 : x ≤ 255) (ht : BytesIn w (.slice (some ⟨bs, off, none⟩) 0 0) []) : Calls Tryz.prog 46 #[.pointer (some ⟨b, 0, none⟩), .slice (some ⟨bs, off, none⟩) 1 1] w fun en w' => ∃ u, en = .returned u ∧ DoneR w O e b (doS r [x]) u (doB r [x]) w' := by
  have hok : okBytes [x] := fun y hy => by rw [List.mem_singleton] at hy; omega
  have hq := isReq_form x [] hok
  rw [isReq_one] at hq
  have HSP := hide (spread_any ht x)
  have HRD := hide (read_any (formIs_list (formS x [])) (formS_len (fun y hy => absurd hy List.not_mem_nil)) ht)
  have HI := hide h
  clear h ht hok
  cases hok : formOk x with
  | false =>
    clear hq
    go_enter Tryz.func46, Tryz.ntmps46
    go_wp2_with fail
    refine (forms_any _ _).mono ?_
    rintro en w1 ⟨rfl, hw⟩
    replace hw := hw.symm
    subst hw
    go_wp2_with fail
    refine (unhide HSP).mono ?_
    rintro en w1 ⟨rfl, hw⟩
    replace hw := hw.symm
    subst hw
    go_wp2_with fail
    refine (unhide HRD).mono ?_
    rintro en w1 ⟨v, rfl, hv, hs1⟩
    have HF := hide (doneR_form (unhide HI) hs1 rfl (isReq_one x))
    clear hv hs1
    generalize okW (chF (formS x [])) (formS x []).length [] = q at *
    cases q
    all_goals
      go_wp2
      go_ret
      exact ⟨_, rfl, unhide HF⟩
  | true =>
    rw [hok, Bool.true_and] at hq
    have HQ2 := hide hq
    clear hq
    go_enter Tryz.func46, Tryz.ntmps46
    go_wp2_with fail
    refine (forms_any _ _).mono ?_
    rintro en w1 ⟨rfl, hw⟩
    replace hw := hw.symm
    subst hw
    go_wp2_with fail
    refine (unhide HSP).mono ?_
    rintro en w1 ⟨rfl, hw⟩
    replace hw := hw.symm
    subst hw
    go_wp2_with fail
    refine (unhide HRD).mono ?_
    rintro en w1 ⟨v, rfl, hv, hs1⟩
    have HF := hide (doneR_form (unhide HI) hs1 rfl (isReq_one x))
    clear hv hs1
    rw [← unhide HQ2]
    go_wp2
    go_ret
    exact ⟨_, rfl, unhide HF⟩
set_option maxRecDepth 100000 in
set_option maxHeartbeats 2000000 in
theorem refDo_not (h : RefRep w O e b r) {bs off c : Nat} {x : Int} {T : List Int} (hc : w.cell? ⟨bs, off, none⟩ = some (.int .u8 x)) (hok : okBytes (x :: T)) (hl : T.length + 1 ≤ 140737488355328) (_hcap : T.length + 1 ≤ c) (hc1 : ¬ c = 1) (ht : BytesIn w (.slice (some ⟨bs, off + 1, none⟩) T.length (c - 1)) T) (hq : isReq (x :: T) = false) : Calls Tryz.prog 46 #[.pointer (some ⟨b, 0, none⟩), .slice (some ⟨bs, off, none⟩) (T.length + 1) c] w fun en w' => ∃ u, en = .returned u ∧ DoneR w O e b (doS r (x :: T)) u (doB r (x :: T)) w' := by
  have hxx := hok x List.mem_cons_self
  have x0 := hxx.1
  have x1 := hxx.2
  have hq2 := isReq_form x T hok
  rw [hq] at hq2
  have HSP := hide (spread_any ht x)
  have HRD := hide (read_any (formIs_list (formS x T)) (formS_len ht.1) ht)
  have HI := hide h
  have HQ := hide hq
  clear h ht hok hxx hq
  cases hok : formOk x with
  | false =>
    clear hq2
    go_enter Tryz.func46, Tryz.ntmps46
    go_wp2_with fail
    refine (forms_any _ _).mono ?_
    rintro en w1 ⟨rfl, hw⟩
    replace hw := hw.symm
    subst hw
    go_wp2_with fail
    refine (unhide HSP).mono ?_
    rintro en w1 ⟨rfl, hw⟩
    replace hw := hw.symm
    subst hw
    go_wp2_with fail
    refine (unhide HRD).mono ?_
    rintro en w1 ⟨v, rfl, hv, hs1⟩
    have HF := hide (doneR_form (unhide HI) hs1 rfl (unhide HQ))
    clear hv hs1
    generalize okW (chF (formS x T)) (formS x T).length T = q at *
    cases q
    all_goals
      go_wp2
      go_ret
      exact ⟨_, rfl, unhide HF⟩
  | true =>
    rw [hok, Bool.true_and] at hq2
    have HQ2 := hide hq2
    clear hq2
    go_enter Tryz.func46, Tryz.ntmps46
    go_wp2_with fail
    refine (forms_any _ _).mono ?_
    rintro en w1 ⟨rfl, hw⟩
    replace hw := hw.symm
    subst hw
    go_wp2_with fail
    refine (unhide HSP).mono ?_
    rintro en w1 ⟨rfl, hw⟩
    replace hw := hw.symm
    subst hw
    go_wp2_with fail
    refine (unhide HRD).mono ?_
    rintro en w1 ⟨v, rfl, hv, hs1⟩
    have HF := hide (doneR_form (unhide HI) hs1 rfl (unhide HQ))
    clear hv hs1
    rw [← unhide HQ2]
    go_wp2
    go_ret
    exact ⟨_, rfl, unhide HF⟩
end

theorem cut_out {w : World} {O : Tag} {e : Nat} (he : 1 ≤ e) {w1 : World} {t : TypeId} {v : Value} {n sz : Nat} {xs : List Value} (hv : w1.ownsRow w.heap.size t sz v n xs) : ∀ g, v.ownBlock = some g → (cutO O w.heap.size g).1 ≠ e := fun g hg => by
  rw [cutO_ge (hv.lt g hg).1]
  show 0 ≠ e
  omega
theorem keepA {w : World} {g s j : Nat} {u : Value} (hn : g ≠ s) (h : w.cell? ⟨g, j, none⟩ = some u) (u0 u1 u2 u3 : Value) : ((((w.setCell ⟨s, 0, none⟩ u0).setCell ⟨s, 1, none⟩ u1).setCell ⟨s, 2, none⟩ u2).setCell ⟨s, 3, none⟩ u3).cell? ⟨g, j, none⟩ = some u := by
  rw [← h]
  exact World.cell?_of_block (w := w) (a := ⟨g, j, none⟩) (by rw [Below.heap_setCell _ _ _ _ hn, Below.heap_setCell _ _ _ _ hn, Below.heap_setCell _ _ _ _ hn, Below.heap_setCell _ _ _ _ hn])
theorem keepB {w : World} {g j : Nat} {u : Value} (hg : g < w.heap.size) (h : w.cell? ⟨g, j, none⟩ = some u) (o : Obj) : (w.alloc o).cell? ⟨g, j, none⟩ = some u := (World.cell?_alloc_lt _ _ _ hg).trans h
section
variable {w : World} {O : Tag} {e b : Nat} {r : RefS}
/-- What 'changes' answers. -/
def ChSpec (w : World) (O : Tag) (e b : Nat) (r : RefS) (x : Int) (T : List Int) : Prop :=
  ∀ (w1 : World) (v : Value), Still w w1 → w1.ownsRow w.heap.size 3 1 v (formS x T).length (numsRow (formS x T).length (fldW (chF (formS x T)) T)) →
    Calls Tryz.prog 91 #[.pointer (some ⟨b, 0, none⟩), .int .i64 x, v] w1 fun en w' => ∃ u, en = .returned u ∧ DoneR w1 (cutO O w.heap.size) e b (doT r (x :: T)) u (doR r (x :: T)) w'
theorem ch_1 (h : RefRep w O e b r) (hk : RefOk r) (he : 1 ≤ e) (T : List Int) : ChSpec w O e b r 1 T := by
  intro w1 v hs hv
  have eT : doT r (1 :: T) = createdR r (fB (1 :: T) 1) := by unfold doT; rw [fB_head]; rfl
  have eR : doR r (1 :: T) = ansB (createR r (fB (1 :: T) 1)) [loB (createA r (fB (1 :: T) 1)).1, hiB (createA r (fB (1 :: T) 1)).2, loB (createA r (fB (1 :: T) 1)).2] := by unfold doR; rw [fB_head]; rfl
  have e0 : fldW (chF (formS 1 T)) T 0 = fB (1 :: T) 1 := rfl
  have key := changes_1 (refRep_cut h hs) hk hv (Nat.le_refl _) (cut_out he hv)
  simp only [e0] at key
  rw [eT, eR]
  exact key
theorem ch_2 (h : RefRep w O e b r) (hk : RefOk r) (he : 1 ≤ e) (T : List Int) : ChSpec w O e b r 2 T := by
  intro w1 v hs hv
  have eT : doT r (2 :: T) = droppedS r (fB (2 :: T) 1) := by unfold doT; rw [fB_head]; rfl
  have eR : doR r (2 :: T) = ansB (dropR r (fB (2 :: T) 1)) [] := by unfold doR; rw [fB_head]; rfl
  have e0 : fldW (chF (formS 2 T)) T 0 = fB (2 :: T) 1 := rfl
  have key := changes_2 (refRep_cut h hs) hk hv (Nat.le_refl _) (cut_out he hv)
  simp only [e0] at key
  rw [eT, eR]
  exact key
theorem ch_3 (h : RefRep w O e b r) (hk : RefOk r) (he : 1 ≤ e) (T : List Int) : ChSpec w O e b r 3 T := by
  intro w1 v hs hv
  have eT : doT r (3 :: T) = derivedR r (fW (3 :: T) 1) (fB (3 :: T) 3) := by unfold doT; rw [fB_head]; rfl
  have eR : doR r (3 :: T) = ansB (deriveR r (fW (3 :: T) 1) (fB (3 :: T) 3)) [hiB (deriveA r (fW (3 :: T) 1) (fB (3 :: T) 3)), loB (deriveA r (fW (3 :: T) 1) (fB (3 :: T) 3))] := by unfold doR; rw [fB_head]; rfl
  have e0 : fldW (chF (formS 3 T)) T 0 = fW (3 :: T) 1 := rfl
  have e1 : fldW (chF (formS 3 T)) T 1 = fB (3 :: T) 3 := rfl
  have key := changes_3 (refRep_cut h hs) hk hv (Nat.le_refl _) (cut_out he hv)
  simp only [e0, e1] at key
  rw [eT, eR]
  exact key
theorem ch_4 (h : RefRep w O e b r) (hk : RefOk r) (he : 1 ≤ e) (T : List Int) : ChSpec w O e b r 4 T := by
  intro w1 v hs hv
  have eT : doT r (4 :: T) = revokedR r (fW (4 :: T) 1) (fW (4 :: T) 3) := by unfold doT; rw [fB_head]; rfl
  have eR : doR r (4 :: T) = ansB (revokeR r (fW (4 :: T) 1) (fW (4 :: T) 3)) [] := by unfold doR; rw [fB_head]; rfl
  have e0 : fldW (chF (formS 4 T)) T 0 = fW (4 :: T) 1 := rfl
  have e1 : fldW (chF (formS 4 T)) T 1 = fW (4 :: T) 3 := rfl
  have key := changes_4 (refRep_cut h hs) hk hv (Nat.le_refl _) (cut_out he hv)
  simp only [e0, e1] at key
  rw [eT, eR]
  exact key
theorem ch_5 (h : RefRep w O e b r) (hk : RefOk r) (he : 1 ≤ e) (T : List Int) : ChSpec w O e b r 5 T := by
  intro w1 v hs hv
  have eT : doT r (5 :: T) = insertedR r (fW (5 :: T) 1) (fW (5 :: T) 3) (fB (5 :: T) 5) (fB (5 :: T) 6) := by unfold doT; rw [fB_head]; rfl
  have eR : doR r (5 :: T) = ansB (insertR r (fW (5 :: T) 1) (fW (5 :: T) 3) (fB (5 :: T) 5) (fB (5 :: T) 6)) [] := by unfold doR; rw [fB_head]; rfl
  have e0 : fldW (chF (formS 5 T)) T 0 = fW (5 :: T) 1 := rfl
  have e1 : fldW (chF (formS 5 T)) T 1 = fW (5 :: T) 3 := rfl
  have e2 : fldW (chF (formS 5 T)) T 2 = fB (5 :: T) 5 := rfl
  have e3 : fldW (chF (formS 5 T)) T 3 = fB (5 :: T) 6 := rfl
  have key := changes_5 (refRep_cut h hs) hk hv (Nat.le_refl _) (cut_out he hv)
  simp only [e0, e1, e2, e3] at key
  rw [eT, eR]
  exact key
theorem ch_6 (h : RefRep w O e b r) (hk : RefOk r) (he : 1 ≤ e) (T : List Int) : ChSpec w O e b r 6 T := by
  intro w1 v hs hv
  have eT : doT r (6 :: T) = removedR r (fW (6 :: T) 1) (fW (6 :: T) 3) (fB (6 :: T) 5) := by unfold doT; rw [fB_head]; rfl
  have eR : doR r (6 :: T) = ansB (removeR r (fW (6 :: T) 1) (fW (6 :: T) 3) (fB (6 :: T) 5)) [] := by unfold doR; rw [fB_head]; rfl
  have e0 : fldW (chF (formS 6 T)) T 0 = fW (6 :: T) 1 := rfl
  have e1 : fldW (chF (formS 6 T)) T 1 = fW (6 :: T) 3 := rfl
  have e2 : fldW (chF (formS 6 T)) T 2 = fB (6 :: T) 5 := rfl
  have key := changes_6 (refRep_cut h hs) hk hv (Nat.le_refl _) (cut_out he hv)
  simp only [e0, e1, e2] at key
  rw [eT, eR]
  exact key
theorem ch_7 (h : RefRep w O e b r) (hk : RefOk r) (he : 1 ≤ e) (T : List Int) : ChSpec w O e b r 7 T := by
  intro w1 v hs hv
  have eT : doT r (7 :: T) = sharedR r (fW (7 :: T) 1) (fB (7 :: T) 3) (fB (7 :: T) 4) := by unfold doT; rw [fB_head]; rfl
  have eR : doR r (7 :: T) = ansB (shareR r (fW (7 :: T) 1) (fB (7 :: T) 3) (fB (7 :: T) 4)) [] := by unfold doR; rw [fB_head]; rfl
  have e0 : fldW (chF (formS 7 T)) T 0 = fW (7 :: T) 1 := rfl
  have e1 : fldW (chF (formS 7 T)) T 1 = fB (7 :: T) 3 := rfl
  have e2 : fldW (chF (formS 7 T)) T 2 = fB (7 :: T) 4 := rfl
  have key := changes_7 (refRep_cut h hs) hk hv (Nat.le_refl _) (cut_out he hv)
  simp only [e0, e1, e2] at key
  rw [eT, eR]
  exact key
theorem ch_8 (h : RefRep w O e b r) (hk : RefOk r) (he : 1 ≤ e) (T : List Int) (hT : okBytes T) : ChSpec w O e b r 8 T := by
  intro w1 v hs hv
  have hb := fB_ok hT 2
  obtain ⟨K, hK⟩ : ∃ m : Nat, fB T 2 = (m : Int) := ⟨(fB T 2).toNat, by omega⟩
  have ef : formS 8 T = spreadL K := by unfold formS; rw [if_pos rfl, hK]; rfl
  have eT : doT r (8 :: T) = filteredR r (fW (8 :: T) 1) (rulesB (8 :: T)) := by unfold doT; rw [fB_head]; rfl
  have eR : doR r (8 :: T) = ansB (filterR r (fW (8 :: T) 1) (rulesB (8 :: T))) [] := by unfold doR; rw [fB_head]; rfl
  have e0 : fldW (chF (formS 8 T)) T 0 = fW (8 :: T) 1 := by rw [ef, (sp_fld0 K T).1, fW_tail]
  have e1 : askTo (fldW (chF (formS 8 T)) T) K = rulesB (8 :: T) := by rw [ef]; exact ask_rules 8 T K hK
  have hn : (formS 8 T).length = 2 + 5 * K := by rw [ef, spreadL_len]
  have key := changes_8 (refRep_cut h hs) hk hv (by omega) (cut_out he hv) hn (by omega)
  simp only [e0, e1] at key
  rw [eT, eR]
  exact key
theorem ch_all (h : RefRep w O e b r) (hk : RefOk r) (he : 1 ≤ e) {x : Int} {T : List Int} (hT : okBytes T) (hx : 1 ≤ x ∧ x ≤ 8) : ChSpec w O e b r x T := by
  rcases (by omega : x = 1 ∨ x = 2 ∨ x = 3 ∨ x = 4 ∨ x = 5 ∨ x = 6 ∨ x = 7 ∨ x = 8) with rfl | rfl | rfl | rfl | rfl | rfl | rfl | rfl
  · exact ch_1 h hk he T
  · exact ch_2 h hk he T
  · exact ch_3 h hk he T
  · exact ch_4 h hk he T
  · exact ch_5 h hk he T
  · exact ch_6 h hk he T
  · exact ch_7 h hk he T
  · exact ch_8 h hk he T hT
/-- A request is read. -/
theorem read_yes {w : World} {a : Option Addr} {n c : Nat} {x : Int} {T : List Int} (ht : BytesIn w (.slice a n c) T) (hok : okBytes (x :: T)) (hq : isReq (x :: T) = true) : formOk x = true ∧
    Calls Tryz.prog 88 #[.string ⟨(formS x T).toArray⟩, .slice a n c] w fun en w' => ∃ v, en = .returned (.tuple #[v, .bool true]) ∧ w'.ownsRow w.heap.size 3 1 v (formS x T).length (numsRow (formS x T).length (fldW (chF (formS x T)) T)) ∧ Still w w' := by
  have hq2 := isReq_form x T hok
  rw [hq] at hq2
  have hq3 := Bool.and_eq_true_iff.1 hq2.symm
  refine ⟨hq3.1, (read_any (formIs_list (formS x T)) (formS_len ht.1) ht).mono ?_⟩
  rintro en w' ⟨v, rfl, hv, hs⟩
  exact ⟨v, by rw [hq3.2], hv hq3.2, hs⟩
set_option maxRecDepth 100000 in
set_option maxHeartbeats 2000000 in
theorem refDo_ch {bs off c : Nat} {x : Int} {T : List Int} (hc : w.cell? ⟨bs, off, none⟩ = some (.int .u8 x)) (hok : okBytes (x :: T)) (hl : T.length + 1 ≤ 140737488355328) (_hcap : T.length + 1 ≤ c) (hc1 : ¬ c = 1) (ht : BytesIn w (.slice (some ⟨bs, off + 1, none⟩) T.length (c - 1)) T) (hq : isReq (x :: T) = true) (hx : 1 ≤ x ∧ x ≤ 8) (hch : ChSpec w O e b r x T) : Calls Tryz.prog 46 #[.pointer (some ⟨b, 0, none⟩), .slice (some ⟨bs, off, none⟩) (T.length + 1) c] w fun en w' => ∃ u, en = .returned u ∧ DoneR w O e b (doS r (x :: T)) u (doB r (x :: T)) w' := by
  have eB : doB r (x :: T) = doR r (x :: T) := by unfold doB; rw [hq]; rfl
  have eS : doS r (x :: T) = doT r (x :: T) := by unfold doS; rw [hq]; rfl
  rw [eB, eS]
  obtain ⟨hfo, hrd⟩ := read_yes ht hok hq
  have HSP := hide (spread_any ht x)
  have HRD := hide hrd
  have HCH := hide hch
  have x0 : 0 ≤ x := by omega
  have x1 : x ≤ 255 := by omega
  have n9 : (x == 9) = false := by rw [beq_eq_false_iff_ne]; omega
  have n10 : (x == 10) = false := by rw [beq_eq_false_iff_ne]; omega
  have n11 : (x == 11) = false := by rw [beq_eq_false_iff_ne]; omega
  have n12 : (x == 12) = false := by rw [beq_eq_false_iff_ne]; omega
  clear ht hok hq hrd hch eB eS hx
  go_enter Tryz.func46, Tryz.ntmps46
  go_wp2_with fail
  refine (forms_any _ _).mono ?_
  rintro en w1 ⟨rfl, hw⟩
  replace hw := hw.symm
  subst hw
  go_wp2_with fail
  refine (unhide HSP).mono ?_
  rintro en w1 ⟨rfl, hw⟩
  replace hw := hw.symm
  subst hw
  go_wp2_with fail
  refine (unhide HRD).mono ?_
  rintro en w1 ⟨v, rfl, hv, hs1⟩
  have HC := hide (unhide HCH w1 v hs1 hv)
  have HS1 := hide hs1
  clear hv hs1
  go_wp2_with fail
  refine (unhide HC).mono ?_
  rintro en w2 ⟨u, rfl, hd⟩
  have HF := hide (hd.uncut (unhide HS1))
  clear hd HC
  go_wp2
  go_ret
  exact ⟨_, rfl, unhide HF⟩
set_option maxRecDepth 100000 in
set_option maxHeartbeats 4000000 in
theorem refDo_11 (h : RefRep w O e b r) (hk : RefOk r) {bs off c : Nat} {T : List Int} (hc : w.cell? ⟨bs, off, none⟩ = some (.int .u8 11)) (hok : okBytes (11 :: T)) (hl : T.length + 1 ≤ 140737488355328) (_hcap : T.length + 1 ≤ c) (hc1 : ¬ c = 1) (ht : BytesIn w (.slice (some ⟨bs, off + 1, none⟩) T.length (c - 1)) T) (hq : isReq (11 :: T) = true) : Calls Tryz.prog 46 #[.pointer (some ⟨b, 0, none⟩), .slice (some ⟨bs, off, none⟩) (T.length + 1) c] w fun en w' => ∃ u, en = .returned u ∧ DoneR w O e b (doS r (11 :: T)) u (doB r (11 :: T)) w' := by
  have eB : doB r (11 :: T) = ansB (mayI r (fW (11 :: T) 1) 1) (loB (tableL r (fW (11 :: T) 1)).length :: (tableL r (fW (11 :: T) 1)).flatMap routeB) := by unfold doB; rw [hq]; show doR r (11 :: T) = _; unfold doR; rw [fB_head]; rfl
  have eS : doS r (11 :: T) = r := by unfold doS; rw [hq]; show doT r (11 :: T) = _; unfold doT; rw [fB_head]; rfl
  rw [eB, eS]
  obtain ⟨hfo, hrd⟩ := read_yes ht hok hq
  have HSP := hide (spread_any ht 11)
  have HRD := hide hrd
  have HI := hide h
  have HK := hide hk
  have hlt := tableX_le hk (fW (11 :: T) 1)
  have hsm := flatN_small hk (fW (11 :: T) 1)
  have HCT := hide (fun (w1 : World) (hs : Still w w1) => refTable_fn (h.still hs) hk (fW (11 :: T) 1))
  clear h hk ht hok hq hrd eB eS
  generalize tableL r (fW (11 :: T) 1) = L at *
  generalize mayI r (fW (11 :: T) 1) 1 = er at *
  go_enter Tryz.func46, Tryz.ntmps46
  go_wp2_with fail
  refine (forms_any _ _).mono ?_
  rintro en w1 ⟨rfl, hw⟩
  replace hw := hw.symm
  subst hw
  go_wp2_with fail
  refine (unhide HSP).mono ?_
  rintro en w1 ⟨rfl, hw⟩
  replace hw := hw.symm
  subst hw
  go_wp2_with fail
  refine (unhide HRD).mono ?_
  rintro en w1 ⟨v, rfl, hv, hs1⟩
  obtain ⟨va, vc, rfl, hv1, hv2⟩ := ownsRow_slice hv
  obtain ⟨g, rfl, hg⟩ := ownsRow_some hv (by show 0 < 1; omega)
  have hgn : ∀ i, i < 1 → w1.cell? ⟨g, i, none⟩ = some (.int .i64 (fldW (chF (formS 11 T)) T i)) := fun i hi => by
    have := ownsRow_cell hv (fun _ _ => rfl) (i := i) hi (j := 0) (by omega)
    simpa using this
  have c0 : w1.cell? ⟨g, 0, none⟩ = some (.int .i64 (fW (11 :: T) 1)) := hgn 0 (by omega)
  have hn0 : (0 : Int) < ((formS 11 T).length : Int) := by show (0 : Int) < 1; omega
  have HC := hide (unhide HCT w1 hs1)
  have HS1 := hide hs1
  clear hv hgn hs1
  generalize (formS 11 T).length = NN at *
  go_wp2_with fail
  refine (unhide HC).mono ?_
  rintro en w2 ⟨u2, rfl, hr2, hs2⟩
  have HC2 := hide (flat_any hr2 hlt)
  have HS2 := hide (Kept.trans (unhide HS1) hs2)
  clear hr2 hs2 HC c0
  go_wp2_with fail
  refine (unhide HC2).mono ?_
  rintro en w3 ⟨u3, rfl, hr3, hs3⟩
  have hr3' : w3.ownsRow w2.heap.size 3 1 u3 (1 + 4 * L.length) (numsRow (1 + 4 * L.length) (fun i => (flatN L L.length).getD i 0)) := by
    rw [map_nums, flatN_len] at hr3
    exact hr3
  have HAH := hide (answered_any er (formIs_list (flatL L.length)) (n := 1 + 4 * L.length) (by rw [flatL_len]; omega) (by omega) (fun j hj => hsm j hj) hr3')
  have HS3 := hide (Kept.trans (unhide HS2) hs3)
  clear hr3 hr3' hs3 HC2
  go_wp2_with fail
  refine (unhide HAH).mono ?_
  rintro en w5 ⟨u5, rfl, hr5, hs5⟩
  rw [ansW_table] at hr5
  have hz := (unhide HS3).size
  have HF : Hid (DoneR w O e b r u5 _ w5) := ⟨ownsRow_base hr5 hz, changed_same (unhide HI) (Kept.trans (unhide HS3) hs5)⟩
  clear hr5 hs5 HAH
  go_wp2
  go_ret
  exact ⟨_, rfl, unhide HF⟩
set_option maxRecDepth 100000 in
set_option maxHeartbeats 4000000 in
theorem refDo_12 (h : RefRep w O e b r) (hk : RefOk r) {bs off c : Nat} {T : List Int} (hc : w.cell? ⟨bs, off, none⟩ = some (.int .u8 12)) (hok : okBytes (12 :: T)) (hl : T.length + 1 ≤ 140737488355328) (_hcap : T.length + 1 ≤ c) (hc1 : ¬ c = 1) (ht : BytesIn w (.slice (some ⟨bs, off + 1, none⟩) T.length (c - 1)) T) (hq : isReq (12 :: T) = true) : Calls Tryz.prog 46 #[.pointer (some ⟨b, 0, none⟩), .slice (some ⟨bs, off, none⟩) (T.length + 1) c] w fun en w' => ∃ u, en = .returned u ∧ DoneR w O e b (doS r (12 :: T)) u (doB r (12 :: T)) w' := by
  have eB : doB r (12 :: T) = ansB (mayI r (fW (12 :: T) 1) 1) (sumsB (countF r (fW (12 :: T) 1))) := by unfold doB; rw [hq]; show doR r (12 :: T) = _; unfold doR; rw [fB_head]; rfl
  have eS : doS r (12 :: T) = r := by unfold doS; rw [hq]; show doT r (12 :: T) = _; unfold doT; rw [fB_head]; rfl
  rw [eB, eS]
  obtain ⟨hfo, hrd⟩ := read_yes ht hok hq
  have HSP := hide (spread_any ht 12)
  have HRD := hide hrd
  have HI := hide h
  have HK := hide hk
  have hsm := countF_small hk (fW (12 :: T) 1)
  have HCT := hide (fun (w1 : World) (hs : Still w w1) => refCount_fn (h.still hs) hk (fW (12 :: T) 1))
  clear h hk ht hok hq hrd eB eS
  generalize countF r (fW (12 :: T) 1) = x at *
  generalize mayI r (fW (12 :: T) 1) 1 = er at *
  unfold sumsB
  go_enter Tryz.func46, Tryz.ntmps46
  go_wp2_with fail
  refine (forms_any _ _).mono ?_
  rintro en w1 ⟨rfl, hw⟩
  replace hw := hw.symm
  subst hw
  go_wp2_with fail
  refine (unhide HSP).mono ?_
  rintro en w1 ⟨rfl, hw⟩
  replace hw := hw.symm
  subst hw
  go_wp2_with fail
  refine (unhide HRD).mono ?_
  rintro en w1 ⟨v, rfl, hv, hs1⟩
  obtain ⟨va, vc, rfl, hv1, hv2⟩ := ownsRow_slice hv
  obtain ⟨g, rfl, hg⟩ := ownsRow_some hv (by show 0 < 1; omega)
  have hgn : ∀ i, i < 1 → w1.cell? ⟨g, i, none⟩ = some (.int .i64 (fldW (chF (formS 12 T)) T i)) := fun i hi => by
    have := ownsRow_cell hv (fun _ _ => rfl) (i := i) hi (j := 0) (by omega)
    simpa using this
  have c0 : w1.cell? ⟨g, 0, none⟩ = some (.int .i64 (fW (12 :: T) 1)) := hgn 0 (by omega)
  have hn0 : (0 : Int) < ((formS 12 T).length : Int) := by show (0 : Int) < 1; omega
  have HC := hide (unhide HCT w1 hs1)
  have HS1 := hide hs1
  clear hv hgn hs1
  generalize (formS 12 T).length = NN at *
  go_wp2_with fail
  refine (unhide HC).mono ?_
  rintro en w2 ⟨rfl, hs2⟩
  have HS2 := hide (Kept.alloc (Kept.trans (unhide HS1) hs2) (.cells #[.int .i64 x.own, .int .i64 x.taken, .int .i64 x.dropped, .int .i64 x.quota] 89))
  clear hs2 HC c0
  have hrw := intsNew (w2.alloc (.cells #[.int .i64 x.own, .int .i64 x.taken, .int .i64 x.dropped, .int .i64 x.quota] 89)) [x.own, x.taken, x.dropped, x.quota] (Nat.zero_le _) (by simp)
  rw [map_nums, World.size_alloc] at hrw
  have HAH := hide (answered_any (s := ⟨([98, 98, 119, 98] : List UInt8).toArray⟩) er (formIs_list [98, 98, 119, 98]) (n := 4) (Nat.le_refl _) (by omega) (l := fun i => [x.own, x.taken, x.dropped, x.quota].getD i 0) (fun j hj => by rcases (by omega : j = 0 ∨ j = 1 ∨ j = 2 ∨ j = 3) with rfl | rfl | rfl | rfl; (exact hsm.1); (exact hsm.2.1); (exact hsm.2.2.1); (exact hsm.2.2.2)) hrw)
  clear hrw
  go_wp2_with fail
  refine (unhide HAH).mono ?_
  rintro en w5 ⟨u5, rfl, hr5, hs5⟩
  rw [ansW_sums] at hr5
  have hz := (unhide HS2).size
  have HF : Hid (DoneR w O e b r u5 _ w5) := ⟨ownsRow_base hr5 (by simp at hz ⊢; omega), changed_same (unhide HI) (Kept.trans (Kept.alloc (unhide HS2) _) hs5)⟩
  clear hr5 hs5 HAH
  go_wp2
  go_ret
  exact ⟨_, rfl, unhide HF⟩
set_option maxRecDepth 100000 in
set_option maxHeartbeats 4000000 in
theorem refDo_9 (h : RefRep w O e b r) (hk : RefOk r) {bs off c : Nat} {T : List Int} (hc : w.cell? ⟨bs, off, none⟩ = some (.int .u8 9)) (hok : okBytes (9 :: T)) (hl : T.length + 1 ≤ 140737488355328) (_hcap : T.length + 1 ≤ c) (hc1 : ¬ c = 1) (ht : BytesIn w (.slice (some ⟨bs, off + 1, none⟩) T.length (c - 1)) T) (hq : isReq (9 :: T) = true) : Calls Tryz.prog 46 #[.pointer (some ⟨b, 0, none⟩), .slice (some ⟨bs, off, none⟩) (T.length + 1) c] w fun en w' => ∃ u, en = .returned u ∧ DoneR w O e b (doS r (9 :: T)) u (doB r (9 :: T)) w' := by
  have eB : doB r (9 :: T) = ansB (lookR r (fW (9 :: T) 1) (fW (9 :: T) 3)) (routeB (lookA r (fW (9 :: T) 1) (fW (9 :: T) 3))) := by unfold doB; rw [hq]; show doR r (9 :: T) = _; unfold doR; rw [fB_head]; rfl
  have eS : doS r (9 :: T) = r := by unfold doS; rw [hq]; show doT r (9 :: T) = _; unfold doT; rw [fB_head]; rfl
  rw [eB, eS]
  obtain ⟨hfo, hrd⟩ := read_yes ht hok hq
  have HSP := hide (spread_any ht 9)
  have HRD := hide hrd
  have HI := hide h
  have HK := hide hk
  have hsm := lookA_small hk (fW (9 :: T) 1) (fW (9 :: T) 3)
  have HCT := hide (fun (w1 : World) (hs : Still w w1) => refLookup_fn (h.still hs) hk (fW (9 :: T) 1) (fW (9 :: T) 3))
  clear h hk ht hok hq hrd eB eS
  generalize lookA r (fW (9 :: T) 1) (fW (9 :: T) 3) = x at *
  generalize lookR r (fW (9 :: T) 1) (fW (9 :: T) 3) = er at *
  unfold routeB
  go_enter Tryz.func46, Tryz.ntmps46
  go_wp2_with fail
  refine (forms_any _ _).mono ?_
  rintro en w1 ⟨rfl, hw⟩
  replace hw := hw.symm
  subst hw
  go_wp2_with fail
  refine (unhide HSP).mono ?_
  rintro en w1 ⟨rfl, hw⟩
  replace hw := hw.symm
  subst hw
  go_wp2_with fail
  refine (unhide HRD).mono ?_
  rintro en w1 ⟨v, rfl, hv, hs1⟩
  obtain ⟨va, vc, rfl, hv1, hv2⟩ := ownsRow_slice hv
  obtain ⟨g, rfl, hg⟩ := ownsRow_some hv (by show 0 < 2; omega)
  have hgn : ∀ i, i < 2 → w1.cell? ⟨g, i, none⟩ = some (.int .i64 (fldW (chF (formS 9 T)) T i)) := fun i hi => by
    have := ownsRow_cell hv (fun _ _ => rfl) (i := i) hi (j := 0) (by omega)
    simpa using this
  have c0 : w1.cell? ⟨g, 0, none⟩ = some (.int .i64 (fW (9 :: T) 1)) := hgn 0 (by omega)
  have c1 : w1.cell? ⟨g, 1, none⟩ = some (.int .i64 (fW (9 :: T) 3)) := hgn 1 (by omega)
  have hlen : (formS 9 T).length = 2 := rfl
  rw [hlen]
  have HC := hide (unhide HCT (w1.alloc (.cells #[.int .i64 0, .int .i64 0, .int .i64 0, .int .i64 0] 50)).drew (Kept.drew (Kept.alloc hs1 _)))
  have HS1 := hide hs1
  have HBX := hide (RtAt.new w1 0 0 0 0 50)
  have hz1 := hs1.size
  have gn : g ≠ w1.heap.size := Nat.ne_of_lt hg
  clear hv hgn hs1 hlen
  generalize fW (9 :: T) 1 = a0 at *
  generalize fW (9 :: T) 3 = a1 at *
  go_wp2_with fail
  have HCb := hide (unhide HCT w1.drew (unhide HS1).drew)
  have hga : g < (w1.alloc (.cells #[.int .i64 0, .int .i64 0, .int .i64 0, .int .i64 0] 50)).drew.heap.size := by show g < (w1.alloc _).heap.size; simp; omega
  have HGA := hide hga
  have HCA0 : Hid ((w1.alloc (.cells #[.int .i64 0, .int .i64 0, .int .i64 0, .int .i64 0] 50)).drew.cell? ⟨g, 0, none⟩ = some (.int .i64 a0)) := by
    show _ = _
    rw [World.cell?_drew, World.cell?_alloc_lt _ _ _ hg]; exact c0
  have HCA1 : Hid ((w1.alloc (.cells #[.int .i64 0, .int .i64 0, .int .i64 0, .int .i64 0] 50)).drew.cell? ⟨g, 1, none⟩ = some (.int .i64 a1)) := by
    show _ = _
    rw [World.cell?_drew, World.cell?_alloc_lt _ _ _ hg]; exact c1
  have HBD : Hid (RtAt (w1.alloc (.cells #[.int .i64 0, .int .i64 0, .int .i64 0, .int .i64 0] 50)).drew w1.heap.size 0 0 0 0) := (unhide HBX).kept ((Kept.refl (fun _ => False) _).drew) (fun q => q)
  clear hga
  go_region_held3 (fun w' => w'.cell? ⟨g, 0, none⟩ = some (.int .i64 a0) ∧ w'.cell? ⟨g, 1, none⟩ = some (.int .i64 a1)) (first | go_keep | (go_split_ands; exact ⟨cc0, cc1⟩) | (go_split_ands; exact ⟨kA0 _ _ _ _, kA1 _ _ _ _⟩) | (go_split_ands; exact ⟨kB0 _, kB1 _⟩)) ((first | (go_at_call 42; refine (unhide HC).mono ?_; rintro en w2 ⟨rfl, hsa⟩; have cc0 := (hsa.cell g 0 (unhide HGA)).trans (unhide HCA0); have cc1 := (hsa.cell g 1 (unhide HGA)).trans (unhide HCA1); have bx := (unhide HBD).kept hsa (fun q => q); have b0 := bx.c0; have b1 := bx.c1; have b2 := bx.c2; have b3 := bx.c3; have bl := bx.lt; have bf := bx.fz; have kA0 := keepA (j := 0) gn cc0; have kA1 := keepA (j := 1) gn cc1) | (go_at_call 42; refine (unhide HCb).mono ?_; rintro en w2 ⟨rfl, hsb⟩; have cc0 := (hsb.cell g 0 hg).trans c0; have cc1 := (hsb.cell g 1 hg).trans c1; have gn2 : g ≠ w2.heap.size := Nat.ne_of_lt (Nat.lt_of_lt_of_le hg hsb.size); have kB0 := keepB (j := 0) (Nat.lt_of_lt_of_le hg hsb.size) cc0; have kB1 := keepB (j := 1) (Nat.lt_of_lt_of_le hg hsb.size) cc1)))
  · have HS2 : Hid (Still w (w2.alloc (.cells #[.int .i64 x.addr, .int .i64 x.len, .int .i64 x.hop, .int .i64 x.from_] 50))) := Kept.alloc (Kept.trans ((unhide HS1).drew) hsb) _
    have bb := RtAt.new w2 x.addr x.len x.hop x.from_ 50
    have q0 := bb.c0
    have q1 := bb.c1
    have q2 := bb.c2
    have q3 := bb.c3
    have ql := bb.lt
    clear hsb HC HCb HCT c0 c1 cc0 cc1 bb HBX HBD HGA HCA0 HCA1 gn gn2 kB0 kB1
    generalize w2.alloc (.cells #[.int .i64 x.addr, .int .i64 x.len, .int .i64 x.hop, .int .i64 x.from_] 50) = V at *
    generalize w2.heap.size = s2 at *
    have hrw := intsNew V [x.addr, x.len, x.hop, x.from_] (Nat.zero_le _) (by simp)
    rw [map_nums] at hrw
    have HAH := hide (answered_any (s := ⟨([119, 98, 98, 98] : List UInt8).toArray⟩) er (formIs_list [119, 98, 98, 98]) (n := 4) (Nat.le_refl _) (by omega) (l := fun i => [x.addr, x.len, x.hop, x.from_].getD i 0) (fun j hj => by rcases (by omega : j = 0 ∨ j = 1 ∨ j = 2 ∨ j = 3) with rfl | rfl | rfl | rfl; (exact hsm.1); (exact hsm.2.1); (exact hsm.2.2.1); (exact hsm.2.2.2)) hrw)
    clear hrw
    go_wp2_with fail
    refine (unhide HAH).mono ?_
    rintro en w5 ⟨u5, rfl, hr5, hs5⟩
    rw [ansW_route] at hr5
    have hz := (unhide HS2).size
    have HF : Hid (DoneR w O e b r u5 _ w5) := ⟨ownsRow_base hr5 (by simp; omega), changed_same (unhide HI) (Kept.trans (Kept.alloc (unhide HS2) _) hs5)⟩
    clear hr5 hs5 HAH
    go_wp2
    go_ret
    exact ⟨_, rfl, unhide HF⟩
  · have HS2 : Hid (Still w ((((w2.setCell ⟨w1.heap.size, 0, none⟩ (.int .i64 x.addr)).setCell ⟨w1.heap.size, 1, none⟩ (.int .i64 x.len)).setCell ⟨w1.heap.size, 2, none⟩ (.int .i64 x.hop)).setCell ⟨w1.heap.size, 3, none⟩ (.int .i64 x.from_))) := Still.putR (Kept.trans (Kept.drew (Kept.alloc (unhide HS1) _)) hsa) hz1 _ _ _ _
    have bb := bx.put x.addr x.len x.hop x.from_
    have q0 := bb.c0
    have q1 := bb.c1
    have q2 := bb.c2
    have q3 := bb.c3
    have ql := bb.lt
    clear hsa HC HCb HCT c0 c1 cc0 cc1 bb bx b0 b1 b2 b3 bl bf HBX HBD HGA HCA0 HCA1 gn kA0 kA1
    generalize (((w2.setCell ⟨w1.heap.size, 0, none⟩ (.int .i64 x.addr)).setCell ⟨w1.heap.size, 1, none⟩ (.int .i64 x.len)).setCell ⟨w1.heap.size, 2, none⟩ (.int .i64 x.hop)).setCell ⟨w1.heap.size, 3, none⟩ (.int .i64 x.from_) = V at *
    generalize w1.heap.size = s2 at *
    have hrw := intsNew V [x.addr, x.len, x.hop, x.from_] (Nat.zero_le _) (by simp)
    rw [map_nums] at hrw
    have HAH := hide (answered_any (s := ⟨([119, 98, 98, 98] : List UInt8).toArray⟩) er (formIs_list [119, 98, 98, 98]) (n := 4) (Nat.le_refl _) (by omega) (l := fun i => [x.addr, x.len, x.hop, x.from_].getD i 0) (fun j hj => by rcases (by omega : j = 0 ∨ j = 1 ∨ j = 2 ∨ j = 3) with rfl | rfl | rfl | rfl; (exact hsm.1); (exact hsm.2.1); (exact hsm.2.2.1); (exact hsm.2.2.2)) hrw)
    clear hrw
    go_wp2_with fail
    refine (unhide HAH).mono ?_
    rintro en w5 ⟨u5, rfl, hr5, hs5⟩
    rw [ansW_route] at hr5
    have hz := (unhide HS2).size
    have HF : Hid (DoneR w O e b r u5 _ w5) := ⟨ownsRow_base hr5 (by simp; omega), changed_same (unhide HI) (Kept.trans (Kept.alloc (unhide HS2) _) hs5)⟩
    clear hr5 hs5 HAH
    go_wp2
    go_ret
    exact ⟨_, rfl, unhide HF⟩
set_option maxRecDepth 100000 in
set_option maxHeartbeats 4000000 in
theorem refDo_10 (h : RefRep w O e b r) (hk : RefOk r) {bs off c : Nat} {T : List Int} (hc : w.cell? ⟨bs, off, none⟩ = some (.int .u8 10)) (hok : okBytes (10 :: T)) (hl : T.length + 1 ≤ 140737488355328) (_hcap : T.length + 1 ≤ c) (hc1 : ¬ c = 1) (ht : BytesIn w (.slice (some ⟨bs, off + 1, none⟩) T.length (c - 1)) T) (hq : isReq (10 :: T) = true) : Calls Tryz.prog 46 #[.pointer (some ⟨b, 0, none⟩), .slice (some ⟨bs, off, none⟩) (T.length + 1) c] w fun en w' => ∃ u, en = .returned u ∧ DoneR w O e b (doS r (10 :: T)) u (doB r (10 :: T)) w' := by
  have eB : doB r (10 :: T) = ansB (passR r (fW (10 :: T) 1) (fW (10 :: T) 3) (fB (10 :: T) 5)) [boolB (passA r (fW (10 :: T) 1) (fW (10 :: T) 3) (fB (10 :: T) 5) (fB (10 :: T) 6 == 1))] := by unfold doB; rw [hq]; show doR r (10 :: T) = _; unfold doR; rw [fB_head]; rfl
  have eS : doS r (10 :: T) = r := by unfold doS; rw [hq]; show doT r (10 :: T) = _; unfold doT; rw [fB_head]; rfl
  rw [eB, eS]
  obtain ⟨hfo, hrd⟩ := read_yes ht hok hq
  have HSP := hide (spread_any ht 10)
  have HRD := hide hrd
  have HI := hide h
  have HK := hide hk
  have HCT := hide (fun (w1 : World) (hs : Still w w1) => refPass_fn (h.still hs) hk (fW (10 :: T) 1) (fW (10 :: T) 3) (fB (10 :: T) 5) (fB (10 :: T) 6 == 1))
  clear h hk ht hok hq hrd eB eS
  generalize passA r (fW (10 :: T) 1) (fW (10 :: T) 3) (fB (10 :: T) 5) (fB (10 :: T) 6 == 1) = x at *
  generalize passR r (fW (10 :: T) 1) (fW (10 :: T) 3) (fB (10 :: T) 5) = er at *
  go_enter Tryz.func46, Tryz.ntmps46
  go_wp2_with fail
  refine (forms_any _ _).mono ?_
  rintro en w1 ⟨rfl, hw⟩
  replace hw := hw.symm
  subst hw
  go_wp2_with fail
  refine (unhide HSP).mono ?_
  rintro en w1 ⟨rfl, hw⟩
  replace hw := hw.symm
  subst hw
  go_wp2_with fail
  refine (unhide HRD).mono ?_
  rintro en w1 ⟨v, rfl, hv, hs1⟩
  obtain ⟨va, vc, rfl, hv1, hv2⟩ := ownsRow_slice hv
  obtain ⟨g, rfl, hg⟩ := ownsRow_some hv (by show 0 < 4; omega)
  have hgn : ∀ i, i < 4 → w1.cell? ⟨g, i, none⟩ = some (.int .i64 (fldW (chF (formS 10 T)) T i)) := fun i hi => by
    have := ownsRow_cell hv (fun _ _ => rfl) (i := i) hi (j := 0) (by omega)
    simpa using this
  have c0 : w1.cell? ⟨g, 0, none⟩ = some (.int .i64 (fW (10 :: T) 1)) := hgn 0 (by omega)
  have c1 : w1.cell? ⟨g, 1, none⟩ = some (.int .i64 (fW (10 :: T) 3)) := hgn 1 (by omega)
  have c2 : w1.cell? ⟨g, 2, none⟩ = some (.int .i64 (fB (10 :: T) 5)) := hgn 2 (by omega)
  have c3 : w1.cell? ⟨g, 3, none⟩ = some (.int .i64 (fB (10 :: T) 6)) := hgn 3 (by omega)
  have hlen : (formS 10 T).length = 4 := rfl
  rw [hlen]
  have HC := hide (unhide HCT w1.drew (hs1.drew))
  have HS1 := hide hs1
  clear hv hgn hs1 hlen
  generalize fW (10 :: T) 1 = a0 at *
  generalize fW (10 :: T) 3 = a1 at *
  generalize fB (10 :: T) 5 = a2 at *
  generalize fB (10 :: T) 6 = a3 at *
  go_wp2_with fail
  go_region_held3 (fun w' => w'.cell? ⟨g, 0, none⟩ = some (.int .i64 a0) ∧ w'.cell? ⟨g, 1, none⟩ = some (.int .i64 a1) ∧ w'.cell? ⟨g, 2, none⟩ = some (.int .i64 a2) ∧ w'.cell? ⟨g, 3, none⟩ = some (.int .i64 a3)) (first | go_keep | (go_split_ands; exact ⟨by go_keep, by go_keep, by go_keep, by go_keep⟩)) ((go_at_call 44; refine (unhide HC).mono ?_; rintro en w2 ⟨rfl, hs2⟩; have cc0 := (hs2.cell g 0 hg).trans c0; have cc1 := (hs2.cell g 1 hg).trans c1; have cc2 := (hs2.cell g 2 hg).trans c2; have cc3 := (hs2.cell g 3 hg).trans c3))
  all_goals
    have HS2 : Hid (Still w w2) := Kept.trans ((unhide HS1).drew) hs2
    clear hs2 HC c0 c1 c2 c3 cc0 cc1 cc2 cc3
    have hrw := intsNew w2 [boolB x] (Nat.zero_le _) (by simp)
    rw [map_nums] at hrw
    have HAH := hide (answered_any (s := ⟨([98] : List UInt8).toArray⟩) er (formIs_list [98]) (n := 1) (Nat.le_refl _) (by omega) (l := fun i => [boolB x].getD i 0) (fun j hj => by obtain rfl : j = 0 := (by omega); (show 0 ≤ boolB x ∧ boolB x ≤ 2000000); (unfold boolB; split <;> omega)) hrw)
    have hlb : loB (boolB x) = boolB x := by cases x <;> rfl
    rw [ansW_bool, hlb] at HAH
    clear hrw hlb
    cases x
    all_goals
      go_wp2_with fail
      refine (unhide HAH).mono ?_
      rintro en w5 ⟨u5, rfl, hr5, hs5⟩
      have hz := (unhide HS2).size
      have HF : Hid (DoneR w O e b r u5 _ w5) := ⟨ownsRow_base hr5 (by simp; omega), changed_same (unhide HI) (Kept.trans (Kept.alloc (unhide HS2) _) hs5)⟩
      clear hr5 hs5 HAH
      go_wp2
      go_ret
      exact ⟨_, rfl, unhide HF⟩
theorem refDo_any (h : RefRep w O e b r) (hk : RefOk r) (he : 1 ≤ e) {a : Option Addr} {n c : Nat} {S : List Int} (hb : BytesIn w (.slice a n c) S) :
    Calls Tryz.prog 46 #[.pointer (some ⟨b, 0, none⟩), .slice a n c] w fun en w' => ∃ u, en = .returned u ∧ DoneR w O e b (doS r S) u (doB r S) w' := by
  cases S with
  | nil =>
    obtain ⟨a', c', e', _⟩ := hb.slice
    simp only [Value.slice.injEq, List.length_nil] at e'
    obtain ⟨rfl, rfl, rfl⟩ := e'
    exact refDo_nil h
  | cons x T =>
    have hok := hb.1
    obtain ⟨bs, off, rfl, rfl, hcap, hl, hc, ht, ht0⟩ := hb.tail
    have hx := hok x List.mem_cons_self
    by_cases hc1 : c = 1
    · subst hc1
      have hT : T = [] := List.eq_nil_of_length_eq_zero (by omega)
      subst hT
      exact refDo_one h hc hx.1 hx.2 (ht0 rfl)
    · cases hq : isReq (x :: T) with
      | false => exact refDo_not h hc hok hl hcap hc1 ht hq
      | true =>
        have hnum := isReq_num hq
        rw [fB_head] at hnum
        by_cases h8 : x ≤ 8
        · exact refDo_ch hc hok hl hcap hc1 ht hq (by omega) (ch_all h hk he ht.1 (by omega))
        · rcases (by omega : x = 9 ∨ x = 10 ∨ x = 11 ∨ x = 12) with rfl | rfl | rfl | rfl
          · exact refDo_9 h hk hc hok hl hcap hc1 ht hq
          · exact refDo_10 h hk hc hok hl hcap hc1 ht hq
          · exact refDo_11 h hk hc hok hl hcap hc1 ht hq
          · exact refDo_12 h hk hc hok hl hcap hc1 ht hq
end
end Go.Proofs.YtgndledehlilkaaGreat
