/-
  Walks: package wire: the bytes of a table; package district: Do, over any engine that answers as 'EngI' to 'EngI3' say.
-/
import Derived.Test.YtgndledehlilkabPrX2
import Derived.Test.YtgndledehlilkabInst2
namespace Go.Proofs.Ytgndledehlilkab
open Go.RowKit

theorem rowCellX {w : World} {base : Nat} {g cap n : Nat} {l : List RouteD} (h : w.ownsRow base 42 4 (.slice (some ⟨g, 0, none⟩) n cap) n (l.flatMap routeCells)) (hn : n = l.length) {i : Nat} (hi : i < l.length) :
    w.cell? ⟨g, i * 4, none⟩ = some (.int .i64 (l.getD i rt0).addr) ∧ w.cell? ⟨g, i * 4 + 1, none⟩ = some (.int .i64 (l.getD i rt0).len) ∧ w.cell? ⟨g, i * 4 + 2, none⟩ = some (.int .i64 (l.getD i rt0).hop) ∧ w.cell? ⟨g, i * 4 + 3, none⟩ = some (.int .i64 (l.getD i rt0).from_) := by
  subst hn
  rw [flat_enc l rt0] at h
  have hs : ∀ i, i < l.length → (routeCells (l.getD i rt0)).length = 4 := fun _ _ => rfl
  exact ⟨ownsRow_cell h hs hi (j := 0) (by omega), ownsRow_cell h hs hi (j := 1) (by omega), ownsRow_cell h hs hi (j := 2) (by omega), ownsRow_cell h hs hi (j := 3) (by omega)⟩
/-- The bytes of a table, as far as its first k routes. -/
def tabB (L : List RouteD) (k : Nat) : List Int := loB L.length :: (L.take k).flatMap routeB
theorem flatB_len (L : List RouteD) : (L.flatMap routeB).length = 5 * L.length := by
  induction L with
  | nil => rfl
  | cons x L ih => rw [List.flatMap_cons, List.length_append, ih]; simp [routeB]; omega
theorem tabB_len {L : List RouteD} {k : Nat} (h : k ≤ L.length) : (tabB L k).length = 1 + 5 * k := by
  unfold tabB
  rw [List.length_cons, flatB_len, List.length_take, Nat.min_eq_left h]
  omega
theorem tabB_succ {L : List RouteD} {k : Nat} (h : k < L.length) : tabB L (k + 1) = tabB L k ++ routeB (L.getD k rt0) := by
  unfold tabB
  have e : L.take (k + 1) = L.take k ++ [L.getD k rt0] := by
    rw [List.take_succ_eq_append_getElem h]
    simp [List.getD_eq_getElem?_getD, h]
  rw [e, List.flatMap_append]
  simp
theorem tabB_all (L : List RouteD) : tabB L L.length = loB L.length :: L.flatMap routeB := by unfold tabB; rw [List.take_length]
theorem ownsRow_base {w : World} {base base' : Nat} {e : TypeId} {size : Nat} {v : Value} {n : Nat} {xs : List Value} (h : w.ownsRow base e size v n xs) (hb : base' ≤ base) : w.ownsRow base' e size v n xs :=
  ⟨h.1, by
    rcases h.2 with q | ⟨g, cap, cur, q1, q3, q2⟩
    · exact .inl q
    · exact .inr ⟨g, cap, cur, q1, Nat.le_trans hb q3, q2⟩⟩
set_option maxHeartbeats 1000000 in
theorem routesB_any {w : World} {base : Nat} {v : Value} {L : List RouteD} (h : w.ownsRow base 42 4 v L.length (L.flatMap routeCells)) (hl : L.length ≤ 64) :
    Calls Try.prog 56 #[v] w fun en w' => ∃ u, en = .returned u ∧ w'.ownsRow w.heap.size 5 1 u (loB L.length :: L.flatMap routeB).length ((loB L.length :: L.flatMap routeB).map byteC) ∧ Still w w' := by
  obtain ⟨i0, hi0, hz0, hz1, hz2⟩ := info_parts infoByteX
  obtain ⟨va, vc, rfl, hv1, hv2⟩ := ownsRow_slice h
  unfold maxLen at hv2
  have hwe := wrap_lo (L.length : Int)
  rw [← tabB_all]
  have elen := tabB_len (L := L) (k := L.length) (Nat.le_refl _)
  simp only [elen]
  clear elen
  have HR := hide h
  have hS : Still w (w.alloc (.cells #[.int .u8 (loB L.length)] 5)) := (Kept.refl _ _).alloc _
  have HR1 : Hid ((w.alloc (.cells #[.int .u8 (loB L.length)] 5)).ownsRow w.heap.size 5 1 (.slice (some ⟨w.heap.size, 0, none⟩) 1 1) (1 + 5 * 0) ((tabB L 0).map byteC)) := bytesNew w [loB L.length] (Nat.le_refl _) (by simp)
  have HS := hide hS
  clear h hS
  go_enter Try.func56, Try.ntmps56
  go_wp2
  go_loopw [3, 4] (fun l i w' => ∃ k : Nat, k ≤ L.length ∧ i = .int .i64 k ∧ w'.ownsRow w.heap.size 5 1 l (1 + 5 * k) ((tabB L k).map byteC) ∧ Still w w') (fun _ i _ => L.length - (intOf i).toNat)
  case atStart => exact ⟨0, by omega, rfl, unhide HR1, unhide HS⟩
  case round =>
    obtain ⟨k, hk, rfl, hrow, hst⟩ := hrel
    obtain ⟨la, lc, rfl, hl1, hl2⟩ := ownsRow_slice hrow
    have HROW := hide hrow
    have HST := hide hst
    have HRW := hide (keptRowX (unhide HR) hst)
    have hsz := hst.size
    clear hrow hst
    by_cases hlt : k < L.length
    · obtain ⟨g, rfl, hg⟩ := ownsRow_some (unhide HRW) (by omega)
      obtain ⟨x0, x1, x2, x3⟩ := rowCellX (unhide HRW) rfl hlt
      have hstep := hide (tabB_succ hlt)
      have hk0 : (0 : Int) ≤ (k : Int) := by omega
      have hkl : (k : Int) < (L.length : Int) := by omega
      generalize L.getD k rt0 = x at *
      go_wp2_with fail
      refine (route_any _ _).mono ?_
      rintro en w1 ⟨u, rfl, hu, hs1⟩
      have HU := hide (ownsRow_base hu (Nat.zero_le _))
      have HROW2 := hide (keptRowX (unhide HROW) hs1)
      have HST2 := hide (Kept.trans (unhide HST) hs1)
      have hsz1 := hs1.size
      generalize tabB L k = cl at *
      clear HROW HST HRW hs1 hu x0 x1 x2 x3
      go_wp2_with (at_builtin; refine wpList_append_owned rfl _ _ _ rfl w.heap.size 5 i0 _ 1 1 Try.underlying29 hi0 hz0 hz1 hz2 rfl (by omega) (.slice la (1 + 5 * k) lc) (1 + 5 * k) _ rfl (unhide HROW2) u 5 _ rfl (unhide HU) (byteC_one _) (by unfold maxLen; omega) (by omega) (by omega) w1.heap.size rfl ?_; intro v4 w4 hown4 hgrow4 hat4)
      have hge : ∀ y, (Value.slice la (1 + 5 * k) lc).ownBlock = some y → w.heap.size ≤ y := fun y hy => ((unhide HROW2).lt y hy).1
      have hkg : Kept (fun y => (Value.slice la (1 + 5 * k) lc).ownBlock = some y) w1 w4 := Kept.grown (Kept.refl _ _) hgrow4 (fun y hy => .inl hy)
      have hst5 : Still w w4 := Kept.trans' (unhide HST2) hkg (fun i hi q => by have := hge i q; omega)
      have HO4 := hide hown4
      have HST5 := hide hst5
      clear hkg hst5 hown4 hgrow4 hat4 hge
      go_roundw
      case rel =>
        refine ⟨k + 1, by omega, by go_num, ?_, unhide HST5⟩
        rw [unhide hstep, List.map_append]
        exact unhide HO4
      case measure => simp [intOf]; omega
    · obtain rfl : k = L.length := by omega
      go_wp2
      go_ret
      exact ⟨_, rfl, unhide HROW, unhide HST⟩
/-- A call that answers bytes. -/
def DoneB (I : EngI) (w : World) (O : Tag) (e b : Nat) (r' : RefS) (v : Value) (F : List Int) (w' : World) : Prop :=
  w'.ownsRow w.heap.size 5 1 v F.length (F.map byteC) ∧ ∃ O' : Tag, (∀ k, k < w.heap.size → O' k = O k) ∧ I.Rep w' O' e b r' ∧ Kept (mineX O e) w w' ∧ ∀ g, v.ownBlock = some g → (O' g).1 ≠ e
theorem doneB_of {I : EngI} {w w1 w2 w3 : World} {O : Tag} {e b base : Nat} {r' : RefS} {v : Value} {F : List Int} (hst : Still w w1) (hd : doneX I.Rep w1 O e b r' w2) (hs : Still w2 w3) (hrow : w3.ownsRow base 5 1 v F.length (F.map byteC)) (hb : w2.heap.size ≤ base) : DoneB I w O e b r' v F w3 := by
  obtain ⟨O', h1, h2, h3⟩ := hd
  have z1 := hst.size
  have z2 := h3.size
  refine ⟨ownsRow_base hrow (by omega), fun k => if k < w2.heap.size then O' k else (e + 1, 0, 0), fun k hk => ?_, ?_, ?_, fun g hg => ?_⟩
  · show (if k < w2.heap.size then O' k else (e + 1, 0, 0)) = O k
    rw [if_pos (by omega)]
    exact h1 k (by omega)
  · exact I.frame h2 (fun k a _ => hs.heap a) (fun k a _ => if_pos a)
  · exact Kept.trans (Kept.trans (Still.kept hst _) h3) (Still.kept hs _)
  · have := (hrow.lt g hg).1
    show (if g < w2.heap.size then O' g else (e + 1, 0, 0)).1 ≠ e
    rw [if_neg (by omega)]
    show e + 1 ≠ e
    omega
theorem rep_still {I : EngI} {w w1 : World} {O : Tag} {e b : Nat} {r : RefS} (h : I.Rep w O e b r) (hs : Still w w1) : I.Rep w1 O e b r := I.frame h (fun _ a _ => hs.heap a) (fun _ _ _ => rfl)
theorem tableX_le {r : RefS} (hk : RefOk r) (n : Int) : (tableL r n).length ≤ 64 := by
  unfold tableL
  split
  · rename_i hm
    have hl := may_life hk hm
    have hq := hk.wf.quota _ hl
    exact (tableR_le hq.1 hq.2 (hk.tab.ownN _ hl)).2
  · simp
section
variable {I : EngI} {w : World} {O : Tag} {e b : Nat} {r : RefS} {a : Option Addr} {n c : Nat} {S : List Int}
set_option maxHeartbeats 1000000 in
theorem doCreate_any (h : I.Rep w O e b r) (hk : RefOk r) (hb : BytesIn w (.slice a n c) S) :
    Calls Try.prog 20 #[.pointer (some ⟨b, 0, none⟩), .slice a n c] w fun en w' => ∃ v, en = .returned v ∧ DoneB I w O e b (createdR r (fB S 1)) v (ansB (createR r (fB S 1)) [loB (createA r (fB S 1)).1, hiB (createA r (fB S 1)).2, loB (createA r (fB S 1)).2]) w' := by
  have H := hide hb
  have HC := hide (I.create h hk (fB S 1))
  have hlen : ([loB (createA r (fB S 1)).1, hiB (createA r (fB S 1)).2, loB (createA r (fB S 1)).2]).length ≤ 1000 := by simp
  clear h hk hb
  go_enter Try.func20, Try.ntmps20
  go_wp2_with (first | (go_at_call 19; refine (byte_any (unhide H) _ (by omega) (by omega)).mono ?_; rintro e w' ⟨rfl, hw⟩; replace hw := hw.symm; subst hw) | (go_at_call 51; refine (word_any (unhide H) _ (by omega) (by omega)).mono ?_; rintro e w' ⟨rfl, hw⟩; replace hw := hw.symm; subst hw) | (go_at_call 54; refine (flag_any (unhide H) _ (by omega) (by omega)).mono ?_; rintro e w' ⟨rfl, hw⟩; replace hw := hw.symm; subst hw))
  refine (unhide HC).mono ?_
  rintro en w2 ⟨rfl, hd⟩
  have HD := hide hd
  clear HC hd
  go_wp2_with fail
  refine (created_any _ _ _).mono ?_
  rintro en w4 ⟨v4, rfl, hr4, hs4⟩
  have HR4 := hide hr4
  have HS4 := hide hs4
  have hz4 := hs4.size
  clear hr4 hs4
  go_wp2_with fail
  refine (answer_any _ (unhide HR4) hlen).mono ?_
  rintro en w5 ⟨v5, rfl, hr5, hs5⟩
  have HF := hide (doneB_of (Kept.refl _ _) (unhide HD) (Kept.trans (unhide HS4) hs5) hr5 (by omega))
  clear hr5 hs5
  go_wp2
  go_ret
  exact ⟨_, rfl, unhide HF⟩
set_option maxHeartbeats 1000000 in
theorem doDerive_any (h : I.Rep w O e b r) (hk : RefOk r) (hb : BytesIn w (.slice a n c) S) :
    Calls Try.prog 21 #[.pointer (some ⟨b, 0, none⟩), .slice a n c] w fun en w' => ∃ v, en = .returned v ∧ DoneB I w O e b (derivedR r (fW S 1) (fB S 3)) v (ansB (deriveR r (fW S 1) (fB S 3)) [hiB (deriveA r (fW S 1) (fB S 3)), loB (deriveA r (fW S 1) (fB S 3))]) w' := by
  have H := hide hb
  have HC := hide (I.derive h hk (fW S 1) (fB S 3))
  have hlen : ([hiB (deriveA r (fW S 1) (fB S 3)), loB (deriveA r (fW S 1) (fB S 3))]).length ≤ 1000 := by simp
  clear h hk hb
  go_enter Try.func21, Try.ntmps21
  go_wp2_with (first | (go_at_call 19; refine (byte_any (unhide H) _ (by omega) (by omega)).mono ?_; rintro e w' ⟨rfl, hw⟩; replace hw := hw.symm; subst hw) | (go_at_call 51; refine (word_any (unhide H) _ (by omega) (by omega)).mono ?_; rintro e w' ⟨rfl, hw⟩; replace hw := hw.symm; subst hw) | (go_at_call 54; refine (flag_any (unhide H) _ (by omega) (by omega)).mono ?_; rintro e w' ⟨rfl, hw⟩; replace hw := hw.symm; subst hw))
  refine (unhide HC).mono ?_
  rintro en w2 ⟨rfl, hd⟩
  have HD := hide hd
  clear HC hd
  go_wp2_with fail
  refine (token_any _ _).mono ?_
  rintro en w4 ⟨v4, rfl, hr4, hs4⟩
  have HR4 := hide hr4
  have HS4 := hide hs4
  have hz4 := hs4.size
  clear hr4 hs4
  go_wp2_with fail
  refine (answer_any _ (unhide HR4) hlen).mono ?_
  rintro en w5 ⟨v5, rfl, hr5, hs5⟩
  have HF := hide (doneB_of (Kept.refl _ _) (unhide HD) (Kept.trans (unhide HS4) hs5) hr5 (by omega))
  clear hr5 hs5
  go_wp2
  go_ret
  exact ⟨_, rfl, unhide HF⟩
set_option maxHeartbeats 1000000 in
theorem doLookup_any (K : EngI3 I) (h : I.Rep w O e b r) (hk : RefOk r) (hb : BytesIn w (.slice a n c) S) :
    Calls Try.prog 22 #[.pointer (some ⟨b, 0, none⟩), .slice a n c] w fun en w' => ∃ v, en = .returned v ∧ DoneB I w O e b (r) v (ansB (lookR r (fW S 1) (fW S 3)) (routeB (lookA r (fW S 1) (fW S 3)))) w' := by
  have H := hide hb
  have HC := hide (K.lookup h hk (fW S 1) (fW S 3))
  have hlen : ((routeB (lookA r (fW S 1) (fW S 3)))).length ≤ 1000 := by simp [routeB]
  generalize lookA r (fW S 1) (fW S 3) = x at *
  clear h hk hb
  go_enter Try.func22, Try.ntmps22
  go_wp2_with (first | (go_at_call 19; refine (byte_any (unhide H) _ (by omega) (by omega)).mono ?_; rintro e w' ⟨rfl, hw⟩; replace hw := hw.symm; subst hw) | (go_at_call 51; refine (word_any (unhide H) _ (by omega) (by omega)).mono ?_; rintro e w' ⟨rfl, hw⟩; replace hw := hw.symm; subst hw) | (go_at_call 54; refine (flag_any (unhide H) _ (by omega) (by omega)).mono ?_; rintro e w' ⟨rfl, hw⟩; replace hw := hw.symm; subst hw))
  refine (unhide HC).mono ?_
  rintro en w2 ⟨rfl, hd⟩
  have HD := hide hd
  clear HC hd
  go_wp2_with fail
  refine (route_any _ _).mono ?_
  rintro en w4 ⟨v4, rfl, hr4, hs4⟩
  have HR4 := hide hr4
  have HS4 := hide hs4
  have hz4 := hs4.size
  clear hr4 hs4
  go_wp2_with fail
  refine (answer_any _ (unhide HR4) hlen).mono ?_
  rintro en w5 ⟨v5, rfl, hr5, hs5⟩
  have HF := hide (doneB_of (Kept.refl _ _) (unhide HD) (Kept.trans (Kept.trans ((Kept.refl _ _).alloc _) (unhide HS4)) hs5) hr5 (by simp at hz4; omega))
  clear hr5 hs5
  go_wp2
  go_ret
  exact ⟨_, rfl, unhide HF⟩
set_option maxHeartbeats 1000000 in
theorem doPass_any (K : EngI3 I) (h : I.Rep w O e b r) (hk : RefOk r) (hb : BytesIn w (.slice a n c) S) :
    Calls Try.prog 23 #[.pointer (some ⟨b, 0, none⟩), .slice a n c] w fun en w' => ∃ v, en = .returned v ∧ DoneB I w O e b (r) v (ansB (passR r (fW S 1) (fW S 3) (fB S 5)) [boolB (passA r (fW S 1) (fW S 3) (fB S 5) (fB S 6 == 1))]) w' := by
  have H := hide hb
  have HC := hide (K.pass h hk (fW S 1) (fW S 3) (fB S 5) (fB S 6 == 1))
  have hlen : ([boolB (passA r (fW S 1) (fW S 3) (fB S 5) (fB S 6 == 1))]).length ≤ 1000 := by simp
  generalize passA r (fW S 1) (fW S 3) (fB S 5) (fB S 6 == 1) = x at *
  clear h hk hb
  go_enter Try.func23, Try.ntmps23
  go_wp2_with (first | (go_at_call 19; refine (byte_any (unhide H) _ (by omega) (by omega)).mono ?_; rintro e w' ⟨rfl, hw⟩; replace hw := hw.symm; subst hw) | (go_at_call 51; refine (word_any (unhide H) _ (by omega) (by omega)).mono ?_; rintro e w' ⟨rfl, hw⟩; replace hw := hw.symm; subst hw) | (go_at_call 54; refine (flag_any (unhide H) _ (by omega) (by omega)).mono ?_; rintro e w' ⟨rfl, hw⟩; replace hw := hw.symm; subst hw))
  refine (unhide HC).mono ?_
  rintro en w2 ⟨rfl, hd⟩
  have HD := hide hd
  clear HC hd
  go_wp2_with fail
  refine (truth_any _ _).mono ?_
  rintro en w4 ⟨v4, rfl, hr4, hs4⟩
  have HR4 := hide hr4
  have HS4 := hide hs4
  have hz4 := hs4.size
  clear hr4 hs4
  go_wp2_with fail
  refine (answer_any _ (unhide HR4) hlen).mono ?_
  rintro en w5 ⟨v5, rfl, hr5, hs5⟩
  have HF := hide (doneB_of (Kept.refl _ _) (unhide HD) (Kept.trans (unhide HS4) hs5) hr5 (by omega))
  clear hr5 hs5
  go_wp2
  go_ret
  exact ⟨_, rfl, unhide HF⟩
set_option maxHeartbeats 1000000 in
theorem doCount_any (J : EngI2 I) (h : I.Rep w O e b r) (hk : RefOk r) (hb : BytesIn w (.slice a n c) S) :
    Calls Try.prog 25 #[.pointer (some ⟨b, 0, none⟩), .slice a n c] w fun en w' => ∃ v, en = .returned v ∧ DoneB I w O e b (r) v (ansB (mayI r (fW S 1) 1) (sumsB (countF r (fW S 1)))) w' := by
  have H := hide hb
  have HC := hide (J.count h hk (fW S 1))
  have hlen : ((sumsB (countF r (fW S 1)))).length ≤ 1000 := by simp [sumsB]
  generalize countF r (fW S 1) = x at *
  clear h hk hb
  go_enter Try.func25, Try.ntmps25
  go_wp2_with (first | (go_at_call 19; refine (byte_any (unhide H) _ (by omega) (by omega)).mono ?_; rintro e w' ⟨rfl, hw⟩; replace hw := hw.symm; subst hw) | (go_at_call 51; refine (word_any (unhide H) _ (by omega) (by omega)).mono ?_; rintro e w' ⟨rfl, hw⟩; replace hw := hw.symm; subst hw) | (go_at_call 54; refine (flag_any (unhide H) _ (by omega) (by omega)).mono ?_; rintro e w' ⟨rfl, hw⟩; replace hw := hw.symm; subst hw))
  refine (unhide HC).mono ?_
  rintro en w2 ⟨rfl, hd⟩
  have HD := hide hd
  clear HC hd
  go_wp2_with fail
  refine (sums_any _ _).mono ?_
  rintro en w4 ⟨v4, rfl, hr4, hs4⟩
  have HR4 := hide hr4
  have HS4 := hide hs4
  have hz4 := hs4.size
  clear hr4 hs4
  go_wp2_with fail
  refine (answer_any _ (unhide HR4) hlen).mono ?_
  rintro en w5 ⟨v5, rfl, hr5, hs5⟩
  have HF := hide (doneB_of (Kept.refl _ _) (unhide HD) (Kept.trans (Kept.trans ((Kept.refl _ _).alloc _) (unhide HS4)) hs5) hr5 (by simp at hz4; omega))
  clear hr5 hs5
  go_wp2
  go_ret
  exact ⟨_, rfl, unhide HF⟩
set_option maxHeartbeats 1000000 in
theorem doTable_any (J : EngI2 I) (h : I.Rep w O e b r) (hk : RefOk r) (hb : BytesIn w (.slice a n c) S) :
    Calls Try.prog 24 #[.pointer (some ⟨b, 0, none⟩), .slice a n c] w fun en w' => ∃ v, en = .returned v ∧ DoneB I w O e b (r) v (ansB (mayI r (fW S 1) 1) (loB (tableL r (fW S 1)).length :: (tableL r (fW S 1)).flatMap routeB)) w' := by
  have H := hide hb
  have HC := hide (J.table h hk (fW S 1))
  have hlen : ((loB (tableL r (fW S 1)).length :: (tableL r (fW S 1)).flatMap routeB)).length ≤ 1000 := by have := tableX_le hk (fW S 1); rw [List.length_cons, flatB_len]; omega
  have hlt := tableX_le hk (fW S 1)
  generalize tableL r (fW S 1) = L at *
  clear h hk hb
  go_enter Try.func24, Try.ntmps24
  go_wp2_with (first | (go_at_call 19; refine (byte_any (unhide H) _ (by omega) (by omega)).mono ?_; rintro e w' ⟨rfl, hw⟩; replace hw := hw.symm; subst hw) | (go_at_call 51; refine (word_any (unhide H) _ (by omega) (by omega)).mono ?_; rintro e w' ⟨rfl, hw⟩; replace hw := hw.symm; subst hw) | (go_at_call 54; refine (flag_any (unhide H) _ (by omega) (by omega)).mono ?_; rintro e w' ⟨rfl, hw⟩; replace hw := hw.symm; subst hw))
  refine (unhide HC).mono ?_
  rintro en w2 ⟨v, rfl, hrow, O1, q1, q2, q3, _⟩
  have hd : doneX I.Rep w O e b r w2 := ⟨O1, q1, q2, q3⟩
  have HROW := hide hrow
  clear hrow q1 q2 q3
  have HD := hide hd
  clear HC hd
  go_wp2_with fail
  refine (routesB_any (unhide HROW) hlt).mono ?_
  rintro en w4 ⟨v4, rfl, hr4, hs4⟩
  have HR4 := hide hr4
  have HS4 := hide hs4
  have hz4 := hs4.size
  clear hr4 hs4
  go_wp2_with fail
  refine (answer_any _ (unhide HR4) hlen).mono ?_
  rintro en w5 ⟨v5, rfl, hr5, hs5⟩
  have HF := hide (doneB_of (Kept.refl _ _) (unhide HD) (Kept.trans (unhide HS4) hs5) hr5 (by omega))
  clear hr5 hs5
  go_wp2
  go_ret
  exact ⟨_, rfl, unhide HF⟩
set_option maxRecDepth 100000 in
set_option maxHeartbeats 2000000 in
theorem change_any (J : EngI2 I) (h : I.Rep w O e b r) (hk : RefOk r) (hb : BytesIn w (.slice a n c) S) (hx : fB S 0 = 2 ∨ fB S 0 = 4 ∨ fB S 0 = 5 ∨ fB S 0 = 6 ∨ fB S 0 = 7 ∨ fB S 0 = 8) :
    Calls Try.prog 26 #[.pointer (some ⟨b, 0, none⟩), .slice a n c] w fun en w' => ∃ er w1, en = .returned (.int .i64 er) ∧ doR r S = ansB er [] ∧ Still w w1 ∧ doneX I.Rep w1 O e b (doT r S) w' := by
  have H := hide hb
  have HK := hide hk
  have HI := hide h
  have hw0 : Still w w := Kept.refl _ _
  rcases hx with hx | hx | hx | hx | hx | hx
  all_goals
    have eR : ∃ er, doR r S = ansB er [] := by
      unfold doR
      rw [hx]
      exact ⟨_, rfl⟩
    clear eR
  · have eT : doT r S = droppedS r (fB S 1) := by unfold doT; rw [hx]; rfl
    have eR : doR r S = ansB (dropR r (fB S 1)) [] := by unfold doR; rw [hx]; rfl
    rw [eT, eR]
    have HC := hide (I.drop h hk (fB S 1))
    clear h hk hb eT eR
    go_enter Try.func26, Try.ntmps26
    go_wp2_with (first | (go_at_call 19; refine (byte_any (unhide H) _ (by omega) (by omega)).mono ?_; rintro e w' ⟨rfl, hw⟩; replace hw := hw.symm; subst hw) | (go_at_call 51; refine (word_any (unhide H) _ (by omega) (by omega)).mono ?_; rintro e w' ⟨rfl, hw⟩; replace hw := hw.symm; subst hw) | (go_at_call 54; refine (flag_any (unhide H) _ (by omega) (by omega)).mono ?_; rintro e w' ⟨rfl, hw⟩; replace hw := hw.symm; subst hw))
    refine (unhide HC).mono ?_
    rintro en w2 ⟨rfl, hd⟩
    have HD := hide hd
    clear hd HC
    go_wp2
    go_ret
    exact ⟨_, w, rfl, rfl, hw0, unhide HD⟩
  · have eT : doT r S = revokedR r (fW S 1) (fW S 3) := by unfold doT; rw [hx]; rfl
    have eR : doR r S = ansB (revokeR r (fW S 1) (fW S 3)) [] := by unfold doR; rw [hx]; rfl
    rw [eT, eR]
    have HC := hide (I.revoke h hk (fW S 1) (fW S 3))
    clear h hk hb eT eR
    go_enter Try.func26, Try.ntmps26
    go_wp2_with (first | (go_at_call 19; refine (byte_any (unhide H) _ (by omega) (by omega)).mono ?_; rintro e w' ⟨rfl, hw⟩; replace hw := hw.symm; subst hw) | (go_at_call 51; refine (word_any (unhide H) _ (by omega) (by omega)).mono ?_; rintro e w' ⟨rfl, hw⟩; replace hw := hw.symm; subst hw) | (go_at_call 54; refine (flag_any (unhide H) _ (by omega) (by omega)).mono ?_; rintro e w' ⟨rfl, hw⟩; replace hw := hw.symm; subst hw))
    refine (unhide HC).mono ?_
    rintro en w2 ⟨rfl, hd⟩
    have HD := hide hd
    clear hd HC
    go_wp2
    go_ret
    exact ⟨_, w, rfl, rfl, hw0, unhide HD⟩
  · have eT : doT r S = insertedR r (fW S 1) (fW S 3) (fB S 5) (fB S 6) := by unfold doT; rw [hx]; rfl
    have eR : doR r S = ansB (insertR r (fW S 1) (fW S 3) (fB S 5) (fB S 6)) [] := by unfold doR; rw [hx]; rfl
    rw [eT, eR]
    have HC := hide (J.insert h hk (fW S 1) (fW S 3) (fB S 5) (fB S 6))
    clear h hk hb eT eR
    go_enter Try.func26, Try.ntmps26
    go_wp2_with (first | (go_at_call 19; refine (byte_any (unhide H) _ (by omega) (by omega)).mono ?_; rintro e w' ⟨rfl, hw⟩; replace hw := hw.symm; subst hw) | (go_at_call 51; refine (word_any (unhide H) _ (by omega) (by omega)).mono ?_; rintro e w' ⟨rfl, hw⟩; replace hw := hw.symm; subst hw) | (go_at_call 54; refine (flag_any (unhide H) _ (by omega) (by omega)).mono ?_; rintro e w' ⟨rfl, hw⟩; replace hw := hw.symm; subst hw))
    refine (unhide HC).mono ?_
    rintro en w2 ⟨rfl, hd⟩
    have HD := hide hd
    clear hd HC
    go_wp2
    go_ret
    exact ⟨_, w, rfl, rfl, hw0, unhide HD⟩
  · have eT : doT r S = removedR r (fW S 1) (fW S 3) (fB S 5) := by unfold doT; rw [hx]; rfl
    have eR : doR r S = ansB (removeR r (fW S 1) (fW S 3) (fB S 5)) [] := by unfold doR; rw [hx]; rfl
    rw [eT, eR]
    have HC := hide (J.remove h hk (fW S 1) (fW S 3) (fB S 5))
    clear h hk hb eT eR
    go_enter Try.func26, Try.ntmps26
    go_wp2_with (first | (go_at_call 19; refine (byte_any (unhide H) _ (by omega) (by omega)).mono ?_; rintro e w' ⟨rfl, hw⟩; replace hw := hw.symm; subst hw) | (go_at_call 51; refine (word_any (unhide H) _ (by omega) (by omega)).mono ?_; rintro e w' ⟨rfl, hw⟩; replace hw := hw.symm; subst hw) | (go_at_call 54; refine (flag_any (unhide H) _ (by omega) (by omega)).mono ?_; rintro e w' ⟨rfl, hw⟩; replace hw := hw.symm; subst hw))
    refine (unhide HC).mono ?_
    rintro en w2 ⟨rfl, hd⟩
    have HD := hide hd
    clear hd HC
    go_wp2
    go_ret
    exact ⟨_, w, rfl, rfl, hw0, unhide HD⟩
  · have eT : doT r S = sharedR r (fW S 1) (fB S 3) (fB S 4) := by unfold doT; rw [hx]; rfl
    have eR : doR r S = ansB (shareR r (fW S 1) (fB S 3) (fB S 4)) [] := by unfold doR; rw [hx]; rfl
    rw [eT, eR]
    have HC := hide (J.share h hk (fW S 1) (fB S 3) (fB S 4))
    clear h hk hb eT eR
    go_enter Try.func26, Try.ntmps26
    go_wp2_with (first | (go_at_call 19; refine (byte_any (unhide H) _ (by omega) (by omega)).mono ?_; rintro e w' ⟨rfl, hw⟩; replace hw := hw.symm; subst hw) | (go_at_call 51; refine (word_any (unhide H) _ (by omega) (by omega)).mono ?_; rintro e w' ⟨rfl, hw⟩; replace hw := hw.symm; subst hw) | (go_at_call 54; refine (flag_any (unhide H) _ (by omega) (by omega)).mono ?_; rintro e w' ⟨rfl, hw⟩; replace hw := hw.symm; subst hw))
    refine (unhide HC).mono ?_
    rintro en w2 ⟨rfl, hd⟩
    have HD := hide hd
    clear hd HC
    go_wp2
    go_ret
    exact ⟨_, w, rfl, rfl, hw0, unhide HD⟩
  · have eT : doT r S = filteredR r (fW S 1) (rulesB S) := by unfold doT; rw [hx]; rfl
    have eR : doR r S = ansB (filterR r (fW S 1) (rulesB S)) [] := by unfold doR; rw [hx]; rfl
    rw [eT, eR]
    have hrl : (rulesB S).length ≤ 1000 := by have := fB_ok hb.1 3; rw [rulesB_len]; omega
    clear h hk hb eT eR
    go_enter Try.func26, Try.ntmps26
    go_wp2_with (first | (go_at_call 19; refine (byte_any (unhide H) _ (by omega) (by omega)).mono ?_; rintro e w' ⟨rfl, hw⟩; replace hw := hw.symm; subst hw) | (go_at_call 51; refine (word_any (unhide H) _ (by omega) (by omega)).mono ?_; rintro e w' ⟨rfl, hw⟩; replace hw := hw.symm; subst hw) | (go_at_call 54; refine (flag_any (unhide H) _ (by omega) (by omega)).mono ?_; rintro e w' ⟨rfl, hw⟩; replace hw := hw.symm; subst hw))
    refine (rules_any (unhide H)).mono ?_
    rintro en w1 ⟨v, rfl, hrow, hs1⟩
    have HC := hide (J.filter (rep_still (unhide HI) hs1) (unhide HK) (fW S 1) v (rulesB S) (RulesIn.ofRow hrow hrl))
    have HS1 := hide hs1
    clear hrow hs1
    go_wp2_with fail
    refine (unhide HC).mono ?_
    rintro en w2 ⟨rfl, hd⟩
    have HD := hide hd
    clear hd HC
    go_wp2
    go_ret
    exact ⟨_, w1, rfl, rfl, unhide HS1, unhide HD⟩
set_option maxRecDepth 100000 in
set_option maxHeartbeats 2000000 in
theorem do_any (J : EngI2 I) (K : EngI3 I) (h : I.Rep w O e b r) (hk : RefOk r) (hb : BytesIn w (.slice a n c) S) :
    Calls Try.prog 6 #[.pointer (some ⟨b, 0, none⟩), .slice a n c] w fun en w' => ∃ v, en = .returned v ∧ DoneB I w O e b (doS r S) v (doB r S) w' := by
  have HQ := hide (isRequest_any hb)
  have hnil : w.ownsRow 0 5 1 (.slice none 0 0) ([] : List Int).length (([] : List Int).map byteC) := World.ownsRow_nil _ _ _ _
  cases hq : isReq S with
  | false =>
    have eB : doB r S = ansB 1 [] := by unfold doB; rw [hq]; rfl
    have eS : doS r S = r := by unfold doS; rw [hq]; rfl
    rw [eB, eS]
    rw [hq] at HQ
    have HA := hide (answer_any 1 hnil (by simp))
    have HD : Hid (doneX I.Rep w O e b r w) := ⟨O, fun _ _ => rfl, h, Kept.refl _ _⟩
    clear h hk hb eB eS hq hnil
    go_enter Try.func6, Try.ntmps6
    go_wp2_with fail
    refine (unhide HQ).mono ?_
    rintro en w1 ⟨rfl, hw⟩
    replace hw := hw.symm
    subst hw
    go_wp2_with fail
    refine (unhide HA).mono ?_
    rintro en w5 ⟨v5, rfl, hr5, hs5⟩
    have HF := hide (doneB_of (Kept.refl _ _) (unhide HD) hs5 hr5 (Nat.le_refl _))
    clear hr5 hs5
    go_wp2
    go_ret
    exact ⟨_, rfl, unhide HF⟩
  | true =>
    have hnum := isReq_num hq
    have eB : doB r S = doR r S := by unfold doB; rw [hq]; rfl
    have eS : doS r S = doT r S := by unfold doS; rw [hq]; rfl
    rw [eB, eS]
    rw [hq] at HQ
    clear eB eS hq
    have H := hide hb
    by_cases hch : fB S 0 = 2 ∨ fB S 0 = 4 ∨ fB S 0 = 5 ∨ fB S 0 = 6 ∨ fB S 0 = 7 ∨ fB S 0 = 8
    · have HC := hide (change_any J h hk hb hch)
      have n1 : (fB S 0 == 1) = false := by rw [beq_eq_false_iff_ne]; omega
      have n3 : (fB S 0 == 3) = false := by rw [beq_eq_false_iff_ne]; omega
      have n9 : (fB S 0 == 9) = false := by rw [beq_eq_false_iff_ne]; omega
      have n10 : (fB S 0 == 10) = false := by rw [beq_eq_false_iff_ne]; omega
      have n11 : (fB S 0 == 11) = false := by rw [beq_eq_false_iff_ne]; omega
      have n12 : (fB S 0 == 12) = false := by rw [beq_eq_false_iff_ne]; omega
      clear h hk hb hch hnum hnil
      go_enter Try.func6, Try.ntmps6
      go_wp2_with (first | (go_at_call 17; refine (unhide HQ).mono ?_; rintro e w' ⟨rfl, hw⟩; replace hw := hw.symm; subst hw) | (first | (go_at_call 19; refine (byte_any (unhide H) _ (by omega) (by omega)).mono ?_; rintro e w' ⟨rfl, hw⟩; replace hw := hw.symm; subst hw) | (go_at_call 51; refine (word_any (unhide H) _ (by omega) (by omega)).mono ?_; rintro e w' ⟨rfl, hw⟩; replace hw := hw.symm; subst hw) | (go_at_call 54; refine (flag_any (unhide H) _ (by omega) (by omega)).mono ?_; rintro e w' ⟨rfl, hw⟩; replace hw := hw.symm; subst hw)))
      refine (unhide HC).mono ?_
      rintro en w2 ⟨er, w1, rfl, hans, hs1, hd⟩
      have HA := hide (answer_any er (World.ownsRow_nil w2 0 _ _) (F := []) (by simp))
      have HE := hide hans
      have HS1 := hide hs1
      have HD := hide hd
      clear hans hs1 hd HC
      go_wp2_with fail
      refine (unhide HA).mono ?_
      rintro en w5 ⟨v5, rfl, hr5, hs5⟩
      have HF := hide (doneB_of (unhide HS1) (unhide HD) hs5 hr5 (Nat.le_refl _))
      clear hr5 hs5
      go_wp2
      go_ret
      exact ⟨_, rfl, by rw [unhide HE]; exact unhide HF⟩
    · rcases (by omega : fB S 0 = 1 ∨ fB S 0 = 3 ∨ fB S 0 = 9 ∨ fB S 0 = 10 ∨ fB S 0 = 11 ∨ fB S 0 = 12) with hx | hx | hx | hx | hx | hx
      · have eT : doT r S = createdR r (fB S 1) := by unfold doT; rw [hx]; rfl
        have eR : doR r S = ansB (createR r (fB S 1)) [loB (createA r (fB S 1)).1, hiB (createA r (fB S 1)).2, loB (createA r (fB S 1)).2] := by unfold doR; rw [hx]; rfl
        rw [eT, eR]
        have HC := hide (doCreate_any h hk hb)
        clear h hk hb hch hnum hnil eT eR
        go_enter Try.func6, Try.ntmps6
        go_wp2_with (first | (go_at_call 17; refine (unhide HQ).mono ?_; rintro e w' ⟨rfl, hw⟩; replace hw := hw.symm; subst hw) | (first | (go_at_call 19; refine (byte_any (unhide H) _ (by omega) (by omega)).mono ?_; rintro e w' ⟨rfl, hw⟩; replace hw := hw.symm; subst hw) | (go_at_call 51; refine (word_any (unhide H) _ (by omega) (by omega)).mono ?_; rintro e w' ⟨rfl, hw⟩; replace hw := hw.symm; subst hw) | (go_at_call 54; refine (flag_any (unhide H) _ (by omega) (by omega)).mono ?_; rintro e w' ⟨rfl, hw⟩; replace hw := hw.symm; subst hw)))
        refine (unhide HC).mono ?_
        rintro en w5 ⟨v5, rfl, hf⟩
        have HF := hide hf
        clear hf HC
        go_wp2
        go_ret
        exact ⟨_, rfl, unhide HF⟩
      · have eT : doT r S = derivedR r (fW S 1) (fB S 3) := by unfold doT; rw [hx]; rfl
        have eR : doR r S = ansB (deriveR r (fW S 1) (fB S 3)) [hiB (deriveA r (fW S 1) (fB S 3)), loB (deriveA r (fW S 1) (fB S 3))] := by unfold doR; rw [hx]; rfl
        rw [eT, eR]
        have HC := hide (doDerive_any h hk hb)
        clear h hk hb hch hnum hnil eT eR
        go_enter Try.func6, Try.ntmps6
        go_wp2_with (first | (go_at_call 17; refine (unhide HQ).mono ?_; rintro e w' ⟨rfl, hw⟩; replace hw := hw.symm; subst hw) | (first | (go_at_call 19; refine (byte_any (unhide H) _ (by omega) (by omega)).mono ?_; rintro e w' ⟨rfl, hw⟩; replace hw := hw.symm; subst hw) | (go_at_call 51; refine (word_any (unhide H) _ (by omega) (by omega)).mono ?_; rintro e w' ⟨rfl, hw⟩; replace hw := hw.symm; subst hw) | (go_at_call 54; refine (flag_any (unhide H) _ (by omega) (by omega)).mono ?_; rintro e w' ⟨rfl, hw⟩; replace hw := hw.symm; subst hw)))
        refine (unhide HC).mono ?_
        rintro en w5 ⟨v5, rfl, hf⟩
        have HF := hide hf
        clear hf HC
        go_wp2
        go_ret
        exact ⟨_, rfl, unhide HF⟩
      · have eT : doT r S = r := by unfold doT; rw [hx]; rfl
        have eR : doR r S = ansB (lookR r (fW S 1) (fW S 3)) (routeB (lookA r (fW S 1) (fW S 3))) := by unfold doR; rw [hx]; rfl
        rw [eT, eR]
        have HC := hide (doLookup_any K h hk hb)
        clear h hk hb hch hnum hnil eT eR
        go_enter Try.func6, Try.ntmps6
        go_wp2_with (first | (go_at_call 17; refine (unhide HQ).mono ?_; rintro e w' ⟨rfl, hw⟩; replace hw := hw.symm; subst hw) | (first | (go_at_call 19; refine (byte_any (unhide H) _ (by omega) (by omega)).mono ?_; rintro e w' ⟨rfl, hw⟩; replace hw := hw.symm; subst hw) | (go_at_call 51; refine (word_any (unhide H) _ (by omega) (by omega)).mono ?_; rintro e w' ⟨rfl, hw⟩; replace hw := hw.symm; subst hw) | (go_at_call 54; refine (flag_any (unhide H) _ (by omega) (by omega)).mono ?_; rintro e w' ⟨rfl, hw⟩; replace hw := hw.symm; subst hw)))
        refine (unhide HC).mono ?_
        rintro en w5 ⟨v5, rfl, hf⟩
        have HF := hide hf
        clear hf HC
        go_wp2
        go_ret
        exact ⟨_, rfl, unhide HF⟩
      · have eT : doT r S = r := by unfold doT; rw [hx]; rfl
        have eR : doR r S = ansB (passR r (fW S 1) (fW S 3) (fB S 5)) [boolB (passA r (fW S 1) (fW S 3) (fB S 5) (fB S 6 == 1))] := by unfold doR; rw [hx]; rfl
        rw [eT, eR]
        have HC := hide (doPass_any K h hk hb)
        clear h hk hb hch hnum hnil eT eR
        go_enter Try.func6, Try.ntmps6
        go_wp2_with (first | (go_at_call 17; refine (unhide HQ).mono ?_; rintro e w' ⟨rfl, hw⟩; replace hw := hw.symm; subst hw) | (first | (go_at_call 19; refine (byte_any (unhide H) _ (by omega) (by omega)).mono ?_; rintro e w' ⟨rfl, hw⟩; replace hw := hw.symm; subst hw) | (go_at_call 51; refine (word_any (unhide H) _ (by omega) (by omega)).mono ?_; rintro e w' ⟨rfl, hw⟩; replace hw := hw.symm; subst hw) | (go_at_call 54; refine (flag_any (unhide H) _ (by omega) (by omega)).mono ?_; rintro e w' ⟨rfl, hw⟩; replace hw := hw.symm; subst hw)))
        refine (unhide HC).mono ?_
        rintro en w5 ⟨v5, rfl, hf⟩
        have HF := hide hf
        clear hf HC
        go_wp2
        go_ret
        exact ⟨_, rfl, unhide HF⟩
      · have eT : doT r S = r := by unfold doT; rw [hx]; rfl
        have eR : doR r S = ansB (mayI r (fW S 1) 1) (loB (tableL r (fW S 1)).length :: (tableL r (fW S 1)).flatMap routeB) := by unfold doR; rw [hx]; rfl
        rw [eT, eR]
        have HC := hide (doTable_any J h hk hb)
        clear h hk hb hch hnum hnil eT eR
        go_enter Try.func6, Try.ntmps6
        go_wp2_with (first | (go_at_call 17; refine (unhide HQ).mono ?_; rintro e w' ⟨rfl, hw⟩; replace hw := hw.symm; subst hw) | (first | (go_at_call 19; refine (byte_any (unhide H) _ (by omega) (by omega)).mono ?_; rintro e w' ⟨rfl, hw⟩; replace hw := hw.symm; subst hw) | (go_at_call 51; refine (word_any (unhide H) _ (by omega) (by omega)).mono ?_; rintro e w' ⟨rfl, hw⟩; replace hw := hw.symm; subst hw) | (go_at_call 54; refine (flag_any (unhide H) _ (by omega) (by omega)).mono ?_; rintro e w' ⟨rfl, hw⟩; replace hw := hw.symm; subst hw)))
        refine (unhide HC).mono ?_
        rintro en w5 ⟨v5, rfl, hf⟩
        have HF := hide hf
        clear hf HC
        go_wp2
        go_ret
        exact ⟨_, rfl, unhide HF⟩
      · have eT : doT r S = r := by unfold doT; rw [hx]; rfl
        have eR : doR r S = ansB (mayI r (fW S 1) 1) (sumsB (countF r (fW S 1))) := by unfold doR; rw [hx]; rfl
        rw [eT, eR]
        have HC := hide (doCount_any J h hk hb)
        clear h hk hb hch hnum hnil eT eR
        go_enter Try.func6, Try.ntmps6
        go_wp2_with (first | (go_at_call 17; refine (unhide HQ).mono ?_; rintro e w' ⟨rfl, hw⟩; replace hw := hw.symm; subst hw) | (first | (go_at_call 19; refine (byte_any (unhide H) _ (by omega) (by omega)).mono ?_; rintro e w' ⟨rfl, hw⟩; replace hw := hw.symm; subst hw) | (go_at_call 51; refine (word_any (unhide H) _ (by omega) (by omega)).mono ?_; rintro e w' ⟨rfl, hw⟩; replace hw := hw.symm; subst hw) | (go_at_call 54; refine (flag_any (unhide H) _ (by omega) (by omega)).mono ?_; rintro e w' ⟨rfl, hw⟩; replace hw := hw.symm; subst hw)))
        refine (unhide HC).mono ?_
        rintro en w5 ⟨v5, rfl, hf⟩
        have HF := hide hf
        clear hf HC
        go_wp2
        go_ret
        exact ⟨_, rfl, unhide HF⟩
end
end Go.Proofs.Ytgndledehlilkab
