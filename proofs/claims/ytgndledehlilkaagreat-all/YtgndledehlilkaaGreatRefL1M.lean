import Derived.Test.YtgndledehlilkaaGreatRefT9M
namespace Go.Proofs.YtgndledehlilkaaGreat
open Go.RowKit

theorem rowCellL {w : World} {base : Nat} {g cap n : Nat} {l : List RouteD} (h : w.ownsRow base 50 4 (.slice (some ⟨g, 0, none⟩) n cap) n (l.flatMap routeCells)) (hn : n = l.length) {i : Nat} (hi : i < l.length) :
    w.cell? ⟨g, i * 4, none⟩ = some (.int .i64 (l.getD i rt0).addr) ∧ w.cell? ⟨g, i * 4 + 1, none⟩ = some (.int .i64 (l.getD i rt0).len) ∧ w.cell? ⟨g, i * 4 + 2, none⟩ = some (.int .i64 (l.getD i rt0).hop) ∧ w.cell? ⟨g, i * 4 + 3, none⟩ = some (.int .i64 (l.getD i rt0).from_) := by
  subst hn
  rw [flat_enc l rt0] at h
  have hs : ∀ i, i < l.length → (routeCells (l.getD i rt0)).length = 4 := fun _ _ => rfl
  exact ⟨ownsRow_cell h hs hi (j := 0) (by omega), ownsRow_cell h hs hi (j := 1) (by omega), ownsRow_cell h hs hi (j := 2) (by omega), ownsRow_cell h hs hi (j := 3) (by omega)⟩
theorem keptRowL {w w' : World} {base sz : Nat} {t : TypeId} {v : Value} {n : Nat} {xs : List Value} (h : w.ownsRow base t sz v n xs) (hk : Still w w') : w'.ownsRow base t sz v n xs :=
  ownsRow_of_block h fun g hg => hk.block g (ownsRow_lt h hg) (fun q => q)
def conTo (l : List RouteD) (a : Int) (k : Nat) : List RouteD := (l.take k).filter (inB a)
theorem conTo_step (l : List RouteD) (a : Int) {k : Nat} (h : k < l.length) : conTo l a (k + 1) = if inB a (l.getD k rt0) = true then conTo l a k ++ [l.getD k rt0] else conTo l a k := by
  unfold conTo
  have e : l.take (k + 1) = l.take k ++ [l.getD k rt0] := by
    rw [List.take_succ_eq_append_getElem h]
    simp [List.getD_eq_getElem?_getD, h]
  rw [e, List.filter_append]
  generalize l.getD k rt0 = x
  cases hp : inB a x with
  | true => rw [if_pos rfl]; simp only [List.filter_cons, hp, if_true, List.filter_nil]
  | false => rw [if_neg (by simp)]; simp [hp]
theorem conTo_len (l : List RouteD) (a : Int) (k : Nat) : (conTo l a k).length ≤ k := by
  unfold conTo
  have h1 := List.length_filter_le (inB a) (l.take k)
  have h2 := List.length_take_le k l
  omega
theorem route_snocL (L : List RouteD) (x : RouteD) : (L ++ [x]).flatMap routeCells = L.flatMap routeCells ++ routeCells x := by rw [List.flatMap_append]; simp
theorem infoRouteL : (Tryz.prog.info? 50).map (fun i => (i.zero, i.size, i.bytes)) = some (some (.agg #[.int .i64 0, .int .i64 0, .int .i64 0, .int .i64 0]), 4, 32) := by kernel_rfl
set_option maxRecDepth 20000 in
set_option maxHeartbeats 8000000 in
theorem containing_any {w : World} {base : Nat} {v : Value} {L : List RouteD} (h : w.ownsRow base 50 4 v L.length (L.flatMap routeCells)) (hl : L.length ≤ 1000000) (hok : ∀ y ∈ L, okRoute y) (a : Int) (a0 : 0 ≤ a) (a1 : a ≤ 65535) :
    Calls Tryz.prog 74 #[v, .int .i64 a] w fun en w' => ∃ u, en = .returned u ∧ w'.ownsRow w.heap.size 50 4 u (conTo L a L.length).length ((conTo L a L.length).flatMap routeCells) ∧ Still w w' := by
  obtain ⟨va, vc, rfl, hv1, hv2⟩ := ownsRow_slice h
  unfold maxLen at hv2
  obtain ⟨i0, hi0, hz0, hz1, hz2⟩ := info_parts infoRouteL
  have HR := hide h
  have HOK := hide hok
  clear h hok
  go_enter Tryz.func74, Tryz.ntmps74
  go_wp2
  go_loopw [5, 6, 7] (fun l i _ w' => ∃ k : Nat, k ≤ L.length ∧ i = .int .i64 k ∧ w'.ownsRow w.heap.size 50 4 l (conTo L a k).length ((conTo L a k).flatMap routeCells) ∧ Still w w') (fun _ i _ _ => L.length - (intOf i).toNat)
  case atStart => exact ⟨0, by omega, rfl, World.ownsRow_nil _ _ _ _, Kept.refl _ _⟩
  case round =>
    obtain ⟨k, hk, rfl, hrow, hst⟩ := hrel
    obtain ⟨la, lc, rfl, hl1, hl2⟩ := ownsRow_slice hrow
    have hcl := conTo_len L a k
    have HROW := hide hrow
    have HST := hide hst
    have HRW := hide (keptRowL (unhide HR) hst)
    have hsz := hst.size
    clear hrow hst
    by_cases hlt : k < L.length
    · obtain ⟨g, rfl, hg⟩ := ownsRow_some (unhide HRW) (by omega)
      obtain ⟨x0, x1, x2, x3⟩ := rowCellL (unhide HRW) rfl hlt
      have hx := unhide HOK (L.getD k rt0) (by simp [List.getD_eq_getElem?_getD, hlt])
      have hstep := conTo_step L a hlt
      have hk0 : (0 : Int) ≤ (k : Int) := by omega
      have hkl : (k : Int) < (L.length : Int) := by omega
      generalize L.getD k rt0 = x at *
      have q0 := hx.a0
      have q1 := hx.a1
      have q2 := hx.l0
      have q3 := hx.l1
      clear hx
      cases hin : inB a x with
      | false =>
        rw [hin, if_neg (by simp)] at hstep
        have HIN := hide hin
        have HSTP := hide hstep
        clear hin hstep
        go_wp2_with fail
        go_quiet ((go_at_call 108; exact Calls.quiet_of (contains_is _ _ _ _ false (unhide HIN) q0 q1 q2 q3 a0 a1)))
        go_wp2
        go_roundw
        case rel => exact ⟨k + 1, by omega, by go_num, by rw [unhide HSTP]; exact keptRowL (unhide HROW) ((Kept.refl _ _).drewN _), (unhide HST).drewN _⟩
        case measure => simp [intOf]; omega
      | true =>
        rw [hin, if_pos rfl] at hstep
        have HIN := hide hin
        have HSTP := hide hstep
        clear hin hstep
        go_wp2_with fail
        go_quiet ((go_at_call 108; exact Calls.quiet_of (contains_is _ _ _ _ true (unhide HIN) q0 q1 q2 q3 a0 a1)))
        have HROW2 := hide (keptRowL (unhide HROW) ((Kept.refl (fun _ => False) wr).drewN nq))
        have HST2 := hide ((unhide HST).drewN nq)
        have y0 : (wr.drewN nq).cell? ⟨g, k * 4, none⟩ = some (.int .i64 x.addr) := x0
        have y1 : (wr.drewN nq).cell? ⟨g, k * 4 + 1, none⟩ = some (.int .i64 x.len) := x1
        have y2 : (wr.drewN nq).cell? ⟨g, k * 4 + 2, none⟩ = some (.int .i64 x.hop) := x2
        have y3 : (wr.drewN nq).cell? ⟨g, k * 4 + 3, none⟩ = some (.int .i64 x.from_) := x3
        have hgW : g < (wr.drewN nq).heap.size := hg
        have hszW : w.heap.size ≤ (wr.drewN nq).heap.size := hsz
        clear x0 x1 x2 x3 HROW HST HRW hg hsz
        generalize wr.drewN nq = W at *
        generalize conTo L a k = cl at *
        go_wp2_with (at_builtin; refine wpList_append_lies _ rfl _ _ _ rfl w.heap.size 50 i0 _ 4 32 Tryz.underlying52 hi0 hz0 hz1 hz2 rfl (by omega) (.slice la cl.length lc) cl.length _ rfl ((unhide HROW2).alloc _) ⟨W.heap.size, 0, none⟩ 1 1 [.int .i64 x.addr, .int .i64 x.len, .int .i64 x.hop, .int .i64 x.from_] rfl rfl (World.news_of_block (cs := #[.int .i64 x.addr, .int .i64 x.len, .int .i64 x.hop, .int .i64 x.from_]) (t := 50) (fr := (0, 0)) (heap_alloc_new W _)) (by simp [Value.oneCell']) (by omega) (by unfold maxLen; omega) (by omega) (by simp; omega) (W.heap.size + 1) (by simp) ?_; intro g4 cap4 w4 hown4 hgrow4 hat4 hlt4)
        have hge : ∀ y, (Value.slice la cl.length lc).ownBlock = some y → w.heap.size ≤ y := fun y hy => ((unhide HROW2).lt y hy).1
        have hkg : Kept (fun y => (Value.slice la cl.length lc).ownBlock = some y) W w4 := Kept.grown ((Kept.refl _ _).alloc _) hgrow4 (fun y hy => .inl hy)
        have hst5 : Still w w4 := Kept.trans' (unhide HST2) hkg (fun i hi q => by have := hge i q; omega)
        have HO4 := hide hown4
        have HST5 := hide hst5
        clear hkg hst5 hown4 hgrow4 hat4 hge
        go_roundw
        case rel =>
          refine ⟨k + 1, by omega, by go_num, ?_, unhide HST5⟩
          rw [unhide HSTP, route_snocL, List.length_append]
          exact unhide HO4
        case measure => simp [intOf]; omega
    · obtain rfl : k = L.length := by omega
      go_wp2
      go_ret
      exact ⟨_, rfl, unhide HROW, unhide HST⟩

theorem pw_splitR {m n : Nat} (h : m ≤ n) : pw n = pw m * pw (n - m) := by
  unfold pw
  rw [← Int.pow_add]
  congr 1
  omega
theorem in_lenR {a : Int} {x y : RouteD} (hx : okRoute x) (hy : okRoute y) (ia : inB a x = true) (ib : inB a y = true) (hk : key x < key y) : x.len < y.len := by
  rcases Int.lt_or_le x.len y.len with h | hle
  · exact h
  exfalso
  have hxl := hx.l1
  have hyl := hy.l0
  unfold inB containsB at ia ib
  rw [beq_iff_eq] at ia ib
  have e1 := Int.mul_ediv_add_emod x.addr (pw (16 - x.len).toNat)
  have e2 := Int.mul_ediv_add_emod y.addr (pw (16 - y.len).toNat)
  rw [hx.pf, ia] at e1
  rw [hy.pf, ib] at e2
  have hmn : (16 - x.len).toNat ≤ (16 - y.len).toNat := by omega
  have hp := (pw_le (j := (16 - x.len).toNat) (by omega)).1
  have hd := (pw_le (j := (16 - y.len).toNat - (16 - x.len).toNat) (by omega)).1
  rw [pw_splitR hmn] at e2
  generalize pw (16 - x.len).toNat = p at *
  generalize pw ((16 - y.len).toNat - (16 - x.len).toNat) = d at *
  rw [← Int.ediv_ediv_of_nonneg (by omega), Int.mul_assoc] at e2
  have h3 : d * (a / p / d) ≤ a / p := Int.mul_ediv_self_le (by omega)
  have h4 : p * (d * (a / p / d)) ≤ p * (a / p) := Int.mul_le_mul_of_nonneg_left h3 (by omega)
  unfold key at hk
  omega
theorem long_last (l : List RouteD) (a : Int) : longL l a = (l.filter (inB a)).getLast? := by
  unfold longL
  rw [← List.head?_filter, List.filter_reverse, List.head?_reverse]
theorem conTo_all (l : List RouteD) (a : Int) : conTo l a l.length = l.filter (inB a) := by unfold conTo; rw [List.take_length]
theorem long_found {tb : List RouteD} {a : Int} (hs : Sorted tb) (hok : ∀ y ∈ tb, okRoute y) {l : List RouteD} (hl : tb.filter (inB a) = l) {i : Nat} (hi : i < l.length) (hmax : ∀ y ∈ l, y.len ≤ (l.getD i rt0).len) : longL tb a = some (l.getD i rt0) := by
  have hsl : Sorted l := by rw [← hl]; exact List.Pairwise.sublist List.filter_sublist hs
  have hmem : ∀ y ∈ l, y ∈ tb ∧ inB a y = true := fun y hy => by rw [← hl, List.mem_filter] at hy; exact hy
  have hg : l.getD i rt0 = l[i] := by simp [List.getD_eq_getElem?_getD, hi]
  rw [hg] at hmax ⊢
  rw [long_last, hl]
  have hn : i = l.length - 1 := by
    rcases Nat.lt_or_ge i (l.length - 1) with hlt | hge
    · exfalso
      have hj : l.length - 1 < l.length := by omega
      have hk := List.pairwise_iff_getElem.1 hsl i (l.length - 1) hi hj hlt
      have m1 := hmem _ (List.getElem_mem hi)
      have m2 := hmem _ (List.getElem_mem hj)
      have := in_lenR (hok _ m1.1) (hok _ m2.1) m1.2 m2.2 hk
      have := hmax _ (List.getElem_mem hj)
      omega
    · omega
  rw [List.getLast?_eq_getElem?, ← hn, List.getElem?_eq_getElem hi]
theorem long_missing {tb : List RouteD} {a : Int} (hok : ∀ y ∈ tb, okRoute y) {l : List RouteD} (hl : tb.filter (inB a) = l) (hmax : ∀ y ∈ l, y.len ≤ -1) : longL tb a = none := by
  have hnil : l = [] := by
    cases hc : l with
    | nil => rfl
    | cons y l' =>
      exfalso
      have hy : y ∈ l := by rw [hc]; simp
      have := hmax y hy
      rw [← hl, List.mem_filter] at hy
      have := (hok y hy.1).l0
      omega
  rw [long_last, hl, hnil]
  rfl
structure RtAt (w : World) (s : Nat) (a b c d : Int) : Prop where
  lt : s < w.heap.size
  fz : ∀ j, w.frozen? ⟨s, j, none⟩ = false
  c0 : w.cell? ⟨s, 0, none⟩ = some (.int .i64 a)
  c1 : w.cell? ⟨s, 1, none⟩ = some (.int .i64 b)
  c2 : w.cell? ⟨s, 2, none⟩ = some (.int .i64 c)
  c3 : w.cell? ⟨s, 3, none⟩ = some (.int .i64 d)
theorem RtAt.new (w : World) (a b c d : Int) (t : TypeId) : RtAt (w.alloc (.cells #[.int .i64 a, .int .i64 b, .int .i64 c, .int .i64 d] t)) w.heap.size a b c d := by
  refine ⟨by simp, fun j => World.frozen?_alloc_new _ _ _ _, ?_, ?_, ?_, ?_⟩ <;> rw [World.cell?_alloc_new] <;> rfl
theorem RtAt.kept {w w' : World} {s : Nat} {a b c d : Int} {P : Nat → Prop} (h : RtAt w s a b c d) (hk : Kept P w w') (hp : ¬ P s) : RtAt w' s a b c d :=
  ⟨Nat.lt_of_lt_of_le h.lt hk.size, fun j => (hk.frozen (p := ⟨s, j, none⟩) h.lt hp).trans (h.fz j), (hk.cell (p := ⟨s, 0, none⟩) h.lt hp).trans h.c0, (hk.cell (p := ⟨s, 1, none⟩) h.lt hp).trans h.c1, (hk.cell (p := ⟨s, 2, none⟩) h.lt hp).trans h.c2, (hk.cell (p := ⟨s, 3, none⟩) h.lt hp).trans h.c3⟩
theorem RtAt.range {w : World} {s : Nat} {a b c d : Int} (h : RtAt w s a b c d) : w.rangeAt s 0 [.int .i64 a, .int .i64 b, .int .i64 c, .int .i64 d] := by
  intro j v hv
  rw [Nat.zero_add]
  rcases j with _ | _ | _ | _ | j
  · simp at hv; rw [← hv]; exact h.c0
  · simp at hv; rw [← hv]; exact h.c1
  · simp at hv; rw [← hv]; exact h.c2
  · simp at hv; rw [← hv]; exact h.c3
  · simp at hv
theorem RtAt.put {w : World} {s : Nat} {a b c d : Int} (h : RtAt w s a b c d) (a' b' c' d' : Int) : RtAt ((((w.setCell ⟨s, 0, none⟩ (.int .i64 a')).setCell ⟨s, 1, none⟩ (.int .i64 b')).setCell ⟨s, 2, none⟩ (.int .i64 c')).setCell ⟨s, 3, none⟩ (.int .i64 d')) s a' b' c' d' := by
  have k0 := h.c0
  have k1 := h.c1
  have k2 := h.c2
  have k3 := h.c3
  have hl := h.lt
  refine ⟨by simpa using hl, fun j => by simp [h.fz j], ?_, ?_, ?_, ?_⟩
  · simp [World.cell?_setCell_same, World.cell?_setCell_other, k0]
  · simp [World.cell?_setCell_same, World.cell?_setCell_other, k1]
  · simp [World.cell?_setCell_same, World.cell?_setCell_other, k2]
  · simp [World.cell?_setCell_same, World.cell?_setCell_other, k3]
theorem Still.putR {a w : World} {s : Nat} (h : Still a w) (hs : a.heap.size ≤ s) (u0 u1 u2 u3 : Value) : Still a ((((w.setCell ⟨s, 0, none⟩ u0).setCell ⟨s, 1, none⟩ u1).setCell ⟨s, 2, none⟩ u2).setCell ⟨s, 3, none⟩ u3) :=
  (((h.setCell (p := ⟨s, 0, none⟩) (.inr hs) u0).setCell (p := ⟨s, 1, none⟩) (.inr hs) u1).setCell (p := ⟨s, 2, none⟩) (.inr hs) u2).setCell (p := ⟨s, 3, none⟩) (.inr hs) u3
theorem infoRoute4R : (Tryz.prog.info? 50).map (·.size) = some 4 := by kernel_rfl
theorem results_range2R {P : Program} {fn : Func} {p u : Tmp} {ty : TypeId} (h : fn.results = #[.cell p ty, .tmp u]) (tmps : Array Value) (w : World) (b o : Nat) (cs : List Value) (d : TypeDesc)
    (hp : tmps.getD p undef = .pointer (some ⟨b, o, none⟩)) (hc : w.rangeAt b o cs) (hu : P.underlying ty = some d) (hd : d.isRow = true) (hi : (P.info? ty).map (·.size) = some cs.length) :
    (results fn tmps).run P w = .ok (.tuple #[.agg cs.toArray, tmps.getD u undef]) w := by
  have hl := run_loadVar_mid (P := P) w b o ty cs d hc hu hd hi
  rw [results_cell_tmp h, hp]
  simp [asAddr, hl, Result.andThen]
section
variable {w : World} {O : Nat → Nat × Nat × Nat} {e b : Nat} {r : RefS}
set_option maxHeartbeats 2000000 in
theorem refLookup_no (h : RefRep w O e b r) (hf : RefWf r) (n a : Int) {c : Int} (hm : mayI r n 1 = c) (hc : c ≠ 0) :
    Calls Tryz.prog 42 #[.pointer (some ⟨b, 0, none⟩), .int .i64 n, .int .i64 a] w fun en w' => en = .returned (.tuple #[.agg #[.int .i64 0, .int .i64 0, .int .i64 0, .int .i64 0], .int .i64 c]) ∧ Still w w' := by
  have hne : (c != 0) = true := by simpa using hc
  have hS1 : Still w (w.alloc (.cells #[.int .i64 0, .int .i64 0, .int .i64 0, .int .i64 0] 50)) := (Kept.refl _ _).alloc _
  have HX1 := hide (h.still hS1)
  have HSM := hide (RtAt.new w 0 0 0 0 50)
  have HS1 := hide hS1
  have HM := hide hm
  clear h hm hS1
  go_enter Tryz.func42, Tryz.ntmps42
  go_wp2_with fail
  generalize hs0 : w.heap.size = s0 at *
  generalize w.alloc (.cells #[.int .i64 0, .int .i64 0, .int .i64 0, .int .i64 0] 50) = W0 at *
  refine (may_any (unhide HX1) hf _ _ (by omega) (by omega)).mono ?_
  rintro en w1 ⟨rfl, hw⟩
  rw [unhide HM]
  have sm := (unhide HSM).kept hw (fun q => q)
  have z0 := sm.c0
  have z1 := sm.c1
  have z2 := sm.c2
  have z3 := sm.c3
  have f0 := sm.fz 0
  have f1 := sm.fz 1
  have f2 := sm.fz 2
  have f3 := sm.fz 3
  have zl := sm.lt
  have HSM1 := hide sm
  have HST : Hid (Still w w1) := (unhide HS1).trans hw
  clear sm hw
  go_wp2
  have hfin := (unhide HSM1).put 0 0 0 0
  refine bodyPost_ret (results_range2R rfl _ _ _ _ _ _ rfl hfin.range Tryz.underlying50 rfl infoRoute4R) rfl ?_
  exact ⟨rfl, Still.putR (unhide HST) (by omega) _ _ _ _⟩
set_option maxHeartbeats 2000000 in
theorem refLookup_arg (h : RefRep w O e b r) (hf : RefWf r) (n a : Int) (hm : mayI r n 1 = 0) (ha : okAddr a = false) :
    Calls Tryz.prog 42 #[.pointer (some ⟨b, 0, none⟩), .int .i64 n, .int .i64 a] w fun en w' => en = .returned (.tuple #[.agg #[.int .i64 0, .int .i64 0, .int .i64 0, .int .i64 0], .int .i64 2]) ∧ Still w w' := by
  have ha' : a < 0 ∨ 65535 < a := by
    by_cases q : 0 ≤ a ∧ a ≤ 65535
    · rw [(okAddr_iff a).2 q] at ha; cases ha
    · omega
  have HA := hide ha'
  clear ha ha'
  have hS1 : Still w (w.alloc (.cells #[.int .i64 0, .int .i64 0, .int .i64 0, .int .i64 0] 50)) := (Kept.refl _ _).alloc _
  have HX1 := hide (h.still hS1)
  have HSM := hide (RtAt.new w 0 0 0 0 50)
  have HS1 := hide hS1
  have HM := hide hm
  clear h hm hS1
  go_enter Tryz.func42, Tryz.ntmps42
  go_wp2_with fail
  generalize hs0 : w.heap.size = s0 at *
  generalize w.alloc (.cells #[.int .i64 0, .int .i64 0, .int .i64 0, .int .i64 0] 50) = W0 at *
  refine (may_any (unhide HX1) hf _ _ (by omega) (by omega)).mono ?_
  rintro en w1 ⟨rfl, hw⟩
  rw [unhide HM]
  have sm := (unhide HSM).kept hw (fun q => q)
  have z0 := sm.c0
  have z1 := sm.c1
  have z2 := sm.c2
  have z3 := sm.c3
  have f0 := sm.fz 0
  have f1 := sm.fz 1
  have f2 := sm.fz 2
  have f3 := sm.fz 3
  have zl := sm.lt
  have HSM1 := hide sm
  have HST : Hid (Still w w1) := (unhide HS1).trans hw
  clear sm hw
  go_wp2_with (go_at_call 20; refine (between_no _ _ _ _ (unhide HA)).mono ?_; rintro e w' ⟨rfl, hw⟩; replace hw := hw.symm; subst hw)
  have hfin := (unhide HSM1).put 0 0 0 0
  refine bodyPost_ret (results_range2R rfl _ _ _ _ _ _ rfl hfin.range Tryz.underlying50 rfl infoRoute4R) rfl ?_
  exact ⟨rfl, Still.putR (unhide HST) (by omega) _ _ _ _⟩
set_option maxRecDepth 20000 in
set_option maxHeartbeats 8000000 in
theorem refLookup_yes (h : RefRep w O e b r) (hk : RefOk r) (n a : Int) (hm : mayI r n 1 = 0) (ha : okAddr a = true) :
    Calls Tryz.prog 42 #[.pointer (some ⟨b, 0, none⟩), .int .i64 n, .int .i64 a] w fun en w' => en = .returned (.tuple #[.agg #[.int .i64 (longA (tableL r n) a).addr, .int .i64 (longA (tableL r n) a).len, .int .i64 (longA (tableL r n) a).hop, .int .i64 (longA (tableL r n) a).from_], .int .i64 (longE (tableL r n) a)]) ∧ Still w w' := by
  obtain ⟨a0, a1⟩ := (okAddr_iff a).1 ha
  obtain ⟨_, hn1, hn2⟩ := mayI_zero hm
  have htb : tableL r n = tabF r (lifeOf r n) := by unfold tableL; rw [if_pos hm]
  have hlf0 := may_life hk hm
  obtain ⟨hs, hmem⟩ := tabF_is hk.tab hk.own hlf0
  have hgood : ∀ y ∈ tableL r n, okRoute y := fun y hy => by
    rw [htb] at hy
    rcases (hmem y).1 hy with q | q
    · exact hk.tab.own _ hlf0 y q
    · exact (((offF_is hk.tab hk.own _).2 y).1 (List.mem_of_mem_take q)).1.ok hk.tab
  have hsort : Sorted (tableL r n) := by rw [htb]; exact hs
  have hq := hk.wf.quota _ hlf0
  have hl64 : (tableL r n).length ≤ 64 := by rw [htb]; exact (tableR_le hq.1 hq.2 (hk.tab.ownN _ hlf0)).2
  have htbl : ∀ off, Chain r (lifeOf r n) (nxAll r (lifeOf r n) rt0 true r.nl) off → tableR (r.life (lifeOf r n)) off = tableL r n := fun off hc => by rw [htb, chain_is hk.tab hk.own hc]; rfl
  have HTB := hide htbl
  have HGD := hide hgood
  have HSO := hide hsort
  have hf := hk.wf
  have hnt := hf.nt
  obtain ⟨k, rfl⟩ : ∃ k : Nat, n = (k : Int) + 1 := ⟨(n - 1).toNat, by omega⟩
  have hkn : k < r.nt := by omega
  have hlf : lifeOf r ((k : Int) + 1) = (r.tok k).life := by unfold lifeOf; rw [show ((k : Int) + 1 - 1).toNat = k from by omega]
  rw [hlf] at HTB
  have hnl := hf.life k hkn
  generalize tableL r ((k : Int) + 1) = tb at *
  clear ha hlf hs hmem hgood hsort htb htbl hlf0 hq
  have hS1 : Still w (w.alloc (.cells #[.int .i64 0, .int .i64 0, .int .i64 0, .int .i64 0] 50)) := (Kept.refl _ _).alloc _
  have HSM := hide (RtAt.new w 0 0 0 0 50)
  have HS1 := hide hS1
  have HM := hide hm
  have h1 := h.still hS1
  obtain ⟨lv, tv, ov, rv, ln, ht⟩ := h1
  obtain ⟨ta, cap, rfl, q1, q2, q3⟩ := ht.toksAt
  obtain ⟨g, rfl⟩ := q3 k hkn
  unfold maxLen at q2
  have HT := hide ht
  have HKO := hide hk
  clear h hm hS1 ht q3 hk
  go_enter Tryz.func42, Tryz.ntmps42
  go_wp2_with fail
  generalize hs0 : w.heap.size = s0 at *
  generalize w.alloc (.cells #[.int .i64 0, .int .i64 0, .int .i64 0, .int .i64 0] 50) = W0 at *
  refine (may_any ⟨_, _, _, _, _, unhide HT⟩ hf _ _ (by omega) (by omega)).mono ?_
  rintro en w1 ⟨rfl, hw⟩
  rw [unhide HM]
  have ht1 := (unhide HT).still hw
  obtain ⟨_, _, c2, _⟩ := ht1.cells
  have t0 : w1.cell? ⟨g, k * 4, none⟩ = some (.int .i64 ((r.tok k).life : Int)) := ht1.tokCell hkn 0 (by omega)
  have HT1 := hide ht1
  have HSM1 := hide ((unhide HSM).kept hw (fun q => q))
  have HST1 : Hid (Still w w1) := (unhide HS1).trans hw
  clear ht1 hw HT HSM HS1
  go_wp2_with fail
  refine (between_yes _ _ _ _ a0 a1).mono ?_
  rintro e w' ⟨rfl, hw⟩
  replace hw := hw.symm
  subst hw
  go_wp2_with fail
  refine (whole_any ⟨_, _, _, _, _, unhide HT1⟩ hf (unhide HKO).tab _ hnl).mono ?_
  rintro en w2 ⟨off, v, hch, hlo, rfl, how, hs2⟩
  rw [unhide HTB off hch] at how
  obtain ⟨va, vc, rfl, _, _⟩ := ownsRow_slice how
  have HROW := hide how
  have HSM2 := hide ((unhide HSM1).kept hs2 (fun q => q))
  have HST2 : Hid (Still w w2) := (unhide HST1).trans hs2
  generalize droppedR (r.life (r.tok k).life) off = dl at *
  clear hch how hs2 HT1 HSM1 HST1 c2 t0
  go_wp2_with fail
  refine (containing_any (unhide HROW) (by omega) (unhide HGD) a a0 a1).mono ?_
  rintro en w3 ⟨u, rfl, hu, hs3⟩
  have hfl := conTo_all tb a
  have hcl := conTo_len tb a tb.length
  generalize conTo tb a tb.length = l at *
  obtain ⟨la, lc, rfl, _, _⟩ := ownsRow_slice hu
  have HU := hide hu
  have HFL := hide hfl.symm
  have HSM3 := hide ((unhide HSM2).kept hs3 (fun q => q))
  have HST3 : Hid (Still w w3) := (unhide HST2).trans hs3
  have hmax0 : ∀ y ∈ l, y.len ≤ ((17 : Nat) : Int) - 1 := fun y hy => by
    rw [hfl, List.mem_filter] at hy
    have := (unhide HGD y hy.1).l1
    omega
  have HMX := hide hmax0
  clear hu hs3 hfl HSM2 HST2 HROW hmax0
  generalize w2.heap.size = s2 at *
  go_wp2
  go_loopw [13, 14] (fun s _ w' => ∃ m : Nat, m ≤ 17 ∧ s = .int .i64 ((m : Int) - 1) ∧ (∀ y ∈ l, y.len ≤ (m : Int) - 1) ∧ w' = w3) (fun s _ _ => (intOf s + 1).toNat)
  case atStart => exact ⟨17, by omega, rfl, unhide HMX, rfl⟩
  case round =>
    obtain ⟨m, hm17, rfl, hmx, rfl⟩ := hrel
    have HMX2 := hide hmx
    clear hmx HMX
    by_cases hm1 : 1 ≤ m
    · have hge : decide ((0 : Int) ≤ (m : Int) - 1) = true := decide_eq_true (by omega)
      have hm0 : (0 : Int) ≤ (m : Int) - 1 := by omega
      obtain ⟨q, hq⟩ : ∃ q : Int, (m : Int) - 1 = q := ⟨_, rfl⟩
      have HQ := hide hq
      rw [hq] at hge hm0 HMX2 ⊢
      have hq17 : q ≤ 16 := by omega
      clear hq
      go_wp2
      go_loopw [14] (fun s w' => ∃ j : Nat, j ≤ l.length ∧ s = .int .i64 (j : Int) ∧ (∀ i, i < j → (l.getD i rt0).len ≠ q) ∧ w' = wr) (fun s _ => l.length - (intOf s).toNat)
      case atStart => exact ⟨0, by omega, rfl, fun i hi => by omega, rfl⟩
      case round =>
        obtain ⟨j, hj, rfl, hall, rfl⟩ := hrel
        have HALL := hide hall
        clear hall
        by_cases hjl : j < l.length
        · obtain ⟨gl, rfl, hgl⟩ := ownsRow_some (unhide HU) (by omega)
          obtain ⟨x0, x1, x2, x3⟩ := rowCellL (unhide HU) rfl hjl
          have hj0 : (0 : Int) ≤ (j : Int) := by omega
          have hjl' : (j : Int) < (l.length : Int) := by omega
          have hlong : (l.getD j rt0).len = q → longL tb a = some (l.getD j rt0) := fun hh => long_found (unhide HSO) (unhide HGD) (unhide HFL) hjl (fun y hy => by rw [hh]; exact unhide HMX2 y hy)
          have hnext : (l.getD j rt0).len ≠ q → ∀ i, i < j + 1 → (l.getD i rt0).len ≠ q := fun hh i hi => by
            by_cases e : i = j
            · rw [e]; exact hh
            · exact unhide HALL i (by omega)
          generalize l.getD j rt0 = x at *
          by_cases hxq : x.len = q
          · have hlo := hlong hxq
            have HLO := hide hlo
            rw [hxq] at x1
            have HXQ := hide hxq
            clear hlong hnext hlo hxq
            have sm := unhide HSM3
            have z0 := sm.c0
            have z1 := sm.c1
            have z2 := sm.c2
            have z3 := sm.c3
            have f0 := sm.fz 0
            have f1 := sm.fz 1
            have f2 := sm.fz 2
            have f3 := sm.fz 3
            have zl := sm.lt
            clear sm
            go_wp2
            have hfin := (unhide HSM3).put x.addr q x.hop x.from_
            refine bodyPost_ret (results_range2R rfl _ _ _ _ _ _ rfl hfin.range Tryz.underlying50 rfl infoRoute4R) rfl ?_
            refine ⟨?_, Still.putR (unhide HST3) (by omega) _ _ _ _⟩
            unfold longA longE
            rw [unhide HLO, ← unhide HXQ]
            rfl
          · have hxq' : (x.len == q) = false := by simpa using hxq
            have HNX := hide (hnext hxq)
            clear hlong hnext hxq
            go_wp2
            go_roundw
            case rel => exact ⟨j + 1, by omega, by go_num, unhide HNX, trivial⟩
            case measure => simp [intOf]; omega
        · obtain rfl : j = l.length := by omega
          have hmx2 : ∀ y ∈ l, y.len ≤ ((m - 1 : Nat) : Int) - 1 := fun y hy => by
            obtain ⟨i, hi, rfl⟩ := List.mem_iff_getElem.1 hy
            have h1 := unhide HALL i hi
            have h2 := unhide HMX2 _ hy
            have h3 := unhide HQ
            rw [show l.getD i rt0 = l[i] from by simp [List.getD_eq_getElem?_getD, hi]] at h1
            omega
          have HMX3 := hide hmx2
          clear hmx2
          go_wp2
          go_roundw
          case rel => exact ⟨m - 1, by omega, by rw [← unhide HQ]; congr 1; omega, unhide HMX3, trivial⟩
          case measure => simp [intOf]; have := unhide HQ; omega
    · obtain rfl : m = 0 := by omega
      have hlo := long_missing (unhide HGD) (unhide HFL) (fun y hy => by have := unhide HMX2 y hy; omega)
      have HLO := hide hlo
      clear hlo
      have sm := unhide HSM3
      have z0 := sm.c0
      have z1 := sm.c1
      have z2 := sm.c2
      have z3 := sm.c3
      have f0 := sm.fz 0
      have f1 := sm.fz 1
      have f2 := sm.fz 2
      have f3 := sm.fz 3
      have zl := sm.lt
      clear sm
      go_wp2
      have hfin := (unhide HSM3).put 0 0 0 0
      refine bodyPost_ret (results_range2R rfl _ _ _ _ _ _ rfl hfin.range Tryz.underlying50 rfl infoRoute4R) rfl ?_
      refine ⟨?_, Still.putR (unhide HST3) (by omega) _ _ _ _⟩
      unfold longA longE
      rw [unhide HLO]
      rfl
end

section
variable {w : World} {O : Nat → Nat × Nat × Nat} {e b : Nat} {r : RefS}
theorem refLookup_fn (h : RefRep w O e b r) (hk : RefOk r) (n a : Int) :
    Calls Tryz.prog 42 #[.pointer (some ⟨b, 0, none⟩), .int .i64 n, .int .i64 a] w fun en w' => en = .returned (.tuple #[.agg #[.int .i64 (lookA r n a).addr, .int .i64 (lookA r n a).len, .int .i64 (lookA r n a).hop, .int .i64 (lookA r n a).from_], .int .i64 (lookR r n a)]) ∧ Still w w' := by
  unfold lookA lookR
  by_cases hm : mayI r n 1 = 0
  · rw [if_pos hm, if_pos hm]
    cases ha : okAddr a with
    | true => exact refLookup_yes h hk n a hm ha
    | false => exact refLookup_arg h hk.wf n a hm ha
  · rw [if_neg hm, if_neg hm]
    exact refLookup_no h hk.wf n a rfl hm
theorem leads_filter (tb : List RouteD) (a : Int) : leadsL tb a = (tb.filter (inB a)).any fun x => x.hop != 0 := by
  unfold leadsL
  rw [List.any_filter]
  congr 1
  funext x
  exact Bool.and_comm _ _
set_option maxHeartbeats 2000000 in
theorem refPass_no (h : RefRep w O e b r) (hf : RefWf r) (n a hop : Int) (st : Bool) {c : Int} (hm : mayI r n 1 = c) (hc : c ≠ 0) :
    Calls Tryz.prog 44 #[.pointer (some ⟨b, 0, none⟩), .int .i64 n, .int .i64 a, .int .i64 hop, .bool st] w fun en w' => en = .returned (.tuple #[.bool false, .int .i64 c]) ∧ Still w w' := by
  have hne : (c != 0) = true := by simpa using hc
  have HM := hide hm
  clear hm
  go_enter Tryz.func44, Tryz.ntmps44
  go_wp2_with fail
  refine (may_any h hf _ _ (by omega) (by omega)).mono ?_
  rintro en w1 ⟨rfl, hw⟩
  rw [unhide HM]
  have HST := hide hw
  clear hw
  go_wp2
  go_ret2
  exact ⟨rfl, unhide HST⟩
set_option maxHeartbeats 2000000 in
theorem refPass_arg (h : RefRep w O e b r) (hf : RefWf r) (n a hop : Int) (st : Bool) (hm : mayI r n 1 = 0) (ha : (okAddr a && okMask hop) = false) :
    Calls Tryz.prog 44 #[.pointer (some ⟨b, 0, none⟩), .int .i64 n, .int .i64 a, .int .i64 hop, .bool st] w fun en w' => en = .returned (.tuple #[.bool false, .int .i64 2]) ∧ Still w w' := by
  have HM := hide hm
  clear hm
  by_cases qa : 0 ≤ a ∧ a ≤ 65535
  · have qh : ¬ (0 ≤ hop ∧ hop ≤ 255) := fun q => by
      rw [(okAddr_iff a).2 qa, (okMask_iff hop).2 q] at ha
      cases ha
    have YA := hide qa
    have NH : Hid (hop < 0 ∨ 255 < hop) := by show hop < 0 ∨ 255 < hop; omega
    clear ha qa qh
    go_enter Tryz.func44, Tryz.ntmps44
    go_wp2_with fail
    refine (may_any h hf _ _ (by omega) (by omega)).mono ?_
    rintro en w1 ⟨rfl, hw⟩
    rw [unhide HM]
    have HST := hide hw
    clear hw
    go_wp2_with fail
    refine (between_yes _ _ _ _ (unhide YA).1 (unhide YA).2).mono ?_
    rintro en w' ⟨rfl, hw⟩
    replace hw := hw.symm
    subst hw
    go_wp2_with fail
    refine (between_no _ _ _ _ (unhide NH)).mono ?_
    rintro en w' ⟨rfl, hw⟩
    replace hw := hw.symm
    subst hw
    go_wp2
    go_ret2
    exact ⟨rfl, unhide HST⟩
  · have NA : Hid (a < 0 ∨ 65535 < a) := by show a < 0 ∨ 65535 < a; omega
    by_cases qh : 0 ≤ hop ∧ hop ≤ 255
    · have YH := hide qh
      clear ha qa qh
      go_enter Tryz.func44, Tryz.ntmps44
      go_wp2_with fail
      refine (may_any h hf _ _ (by omega) (by omega)).mono ?_
      rintro en w1 ⟨rfl, hw⟩
      rw [unhide HM]
      have HST := hide hw
      clear hw
      go_wp2_with fail
      refine (between_no _ _ _ _ (unhide NA)).mono ?_
      rintro en w' ⟨rfl, hw⟩
      replace hw := hw.symm
      subst hw
      go_wp2_with fail
      refine (between_yes _ _ _ _ (unhide YH).1 (unhide YH).2).mono ?_
      rintro en w' ⟨rfl, hw⟩
      replace hw := hw.symm
      subst hw
      go_wp2
      go_ret2
      exact ⟨rfl, unhide HST⟩
    · have NH : Hid (hop < 0 ∨ 255 < hop) := by show hop < 0 ∨ 255 < hop; omega
      clear ha qa qh
      go_enter Tryz.func44, Tryz.ntmps44
      go_wp2_with fail
      refine (may_any h hf _ _ (by omega) (by omega)).mono ?_
      rintro en w1 ⟨rfl, hw⟩
      rw [unhide HM]
      have HST := hide hw
      clear hw
      go_wp2_with fail
      refine (between_no _ _ _ _ (unhide NA)).mono ?_
      rintro en w' ⟨rfl, hw⟩
      replace hw := hw.symm
      subst hw
      go_wp2_with fail
      refine (between_no _ _ _ _ (unhide NH)).mono ?_
      rintro en w' ⟨rfl, hw⟩
      replace hw := hw.symm
      subst hw
      go_wp2
      go_ret2
      exact ⟨rfl, unhide HST⟩
set_option maxHeartbeats 4000000 in
theorem refPass_strict (h : RefRep w O e b r) (hk : RefOk r) (n a hop : Int) (hm : mayI r n 1 = 0) (ha : okAddr a = true) (hh : okMask hop = true) :
    Calls Tryz.prog 44 #[.pointer (some ⟨b, 0, none⟩), .int .i64 n, .int .i64 a, .int .i64 hop, .bool true] w fun en w' => en = .returned (.tuple #[.bool (passB (tableL r n) a hop true), .int .i64 0]) ∧ Still w w' := by
  obtain ⟨a0, a1⟩ := (okAddr_iff a).1 ha
  obtain ⟨p0, p1⟩ := (okMask_iff hop).1 hh
  have l1 : lookR r n a = longE (tableL r n) a := by unfold lookR; rw [if_pos hm, if_pos ha]
  have l2 : lookA r n a = longA (tableL r n) a := by unfold lookA; rw [if_pos hm, if_pos ha]
  have hp : passB (tableL r n) a hop true = (hop != 0 && (longA (tableL r n) a).hop == hop) := rfl
  have hz : longE (tableL r n) a ≠ 0 → (longA (tableL r n) a).hop = 0 ∧ longE (tableL r n) a = 9 := fun q => by
    unfold longE longA at *
    cases hl : longL (tableL r n) a with
    | none => exact ⟨rfl, rfl⟩
    | some x => rw [hl] at q; exact absurd rfl q
  have HP := hide hp
  have HZ := hide hz
  have L1 := hide l1
  have L2 := hide l2
  have HM := hide hm
  have HK := hide hk
  have hf := hk.wf
  have HR := hide h
  clear hp hz l1 l2 hm ha hh hk h
  go_enter Tryz.func44, Tryz.ntmps44
  go_wp2_with fail
  refine (may_any (unhide HR) hf _ _ (by omega) (by omega)).mono ?_
  rintro en w1 ⟨rfl, hw⟩
  rw [unhide HM]
  have HST := hide hw
  have HR1 := hide ((unhide HR).still hw)
  clear hw HR
  go_wp2_with fail
  refine (between_yes _ _ _ _ a0 a1).mono ?_
  rintro en w' ⟨rfl, hw⟩
  replace hw := hw.symm
  subst hw
  go_wp2_with fail
  refine (between_yes _ _ _ _ p0 p1).mono ?_
  rintro en w' ⟨rfl, hw⟩
  replace hw := hw.symm
  subst hw
  go_wp2_with fail
  refine (refLookup_fn (unhide HR1) (unhide HK) n a).mono ?_
  rintro en w2 ⟨rfl, hs2⟩
  rw [unhide L1, unhide L2]
  have hz := unhide HZ
  have hp := unhide HP
  generalize longE (tableL r n) a = le at *
  generalize longA (tableL r n) a = x at *
  have HPP := hide hp
  have HF := hide ((Kept.trans (unhide HST) hs2).alloc (.cells #[.int .i64 x.addr, .int .i64 x.len, .int .i64 x.hop, .int .i64 x.from_] 50))
  clear hs2 L1 L2 HZ HP hp HR1
  by_cases h0 : le = 0
  · subst h0
    clear hz
    by_cases hx : x.hop = hop
    · by_cases hg : 0 < hop
      · have hd : decide (0 < hop) = true := decide_eq_true hg
        have he : (hop != 0 && x.hop == hop) = true := by rw [hx]; simp; omega
        rw [he] at HPP
        have hxe : (x.hop == hop) = true := by simpa using hx
        clear he hx
        go_wp2
        go_ret2
        exact ⟨by rw [unhide HPP]; rfl, unhide HF⟩
      · have hd : decide (0 < hop) = false := decide_eq_false hg
        have he : (hop != 0 && x.hop == hop) = false := by rw [show hop = 0 by omega]; rfl
        rw [he] at HPP
        have hxe : (x.hop == hop) = true := by simpa using hx
        clear he hx
        go_wp2
        go_ret2
        exact ⟨by rw [unhide HPP]; rfl, unhide HF⟩
    · have hxe : (x.hop == hop) = false := by simpa using hx
      have he : (hop != 0 && x.hop == hop) = false := by rw [hxe, Bool.and_false]
      rw [he] at HPP
      clear he
      go_wp2
      go_ret2
      exact ⟨by rw [unhide HPP]; rfl, unhide HF⟩
  · obtain ⟨hx, h9⟩ := hz h0
    subst h9
    have he : (hop != 0 && x.hop == hop) = false := by
      rw [hx]
      by_cases e : hop = 0
      · rw [e]; rfl
      · have : ((0 : Int) == hop) = false := by simpa using fun q => e q.symm
        rw [this, Bool.and_false]
    rw [he] at HPP
    clear he hx hz h0
    go_wp2
    go_ret2
    exact ⟨by rw [unhide HPP]; rfl, unhide HF⟩
set_option maxRecDepth 20000 in
set_option maxHeartbeats 8000000 in
theorem refPass_loose (h : RefRep w O e b r) (hk : RefOk r) (n a hop : Int) (hm : mayI r n 1 = 0) (ha : okAddr a = true) (hh : okMask hop = true) :
    Calls Tryz.prog 44 #[.pointer (some ⟨b, 0, none⟩), .int .i64 n, .int .i64 a, .int .i64 hop, .bool false] w fun en w' => en = .returned (.tuple #[.bool (passB (tableL r n) a hop false), .int .i64 0]) ∧ Still w w' := by
  obtain ⟨p0, p1⟩ := (okMask_iff hop).1 hh
  have hpb : passB (tableL r n) a hop false = ((tableL r n).filter (inB a)).any fun x => x.hop != 0 := leads_filter _ _
  obtain ⟨a0, a1⟩ := (okAddr_iff a).1 ha
  obtain ⟨_, hn1, hn2⟩ := mayI_zero hm
  have htb : tableL r n = tabF r (lifeOf r n) := by unfold tableL; rw [if_pos hm]
  have hlf0 := may_life hk hm
  obtain ⟨hs, hmem⟩ := tabF_is hk.tab hk.own hlf0
  have hgood : ∀ y ∈ tableL r n, okRoute y := fun y hy => by
    rw [htb] at hy
    rcases (hmem y).1 hy with q | q
    · exact hk.tab.own _ hlf0 y q
    · exact (((offF_is hk.tab hk.own _).2 y).1 (List.mem_of_mem_take q)).1.ok hk.tab
  have hsort : Sorted (tableL r n) := by rw [htb]; exact hs
  have hq := hk.wf.quota _ hlf0
  have hl64 : (tableL r n).length ≤ 64 := by rw [htb]; exact (tableR_le hq.1 hq.2 (hk.tab.ownN _ hlf0)).2
  have htbl : ∀ off, Chain r (lifeOf r n) (nxAll r (lifeOf r n) rt0 true r.nl) off → tableR (r.life (lifeOf r n)) off = tableL r n := fun off hc => by rw [htb, chain_is hk.tab hk.own hc]; rfl
  have HTB := hide htbl
  have HGD := hide hgood
  have HSO := hide hsort
  have hf := hk.wf
  have hnt := hf.nt
  obtain ⟨k, rfl⟩ : ∃ k : Nat, n = (k : Int) + 1 := ⟨(n - 1).toNat, by omega⟩
  have hkn : k < r.nt := by omega
  have hlf : lifeOf r ((k : Int) + 1) = (r.tok k).life := by unfold lifeOf; rw [show ((k : Int) + 1 - 1).toNat = k from by omega]
  rw [hlf] at HTB
  have hnl := hf.life k hkn
  generalize tableL r ((k : Int) + 1) = tb at *
  clear ha hlf hs hmem hgood hsort htb htbl hlf0 hq
  have HPB := hide hpb
  have HM := hide hm
  obtain ⟨lv, tv, ov, rv, ln, ht⟩ := h
  obtain ⟨ta, cap, rfl, q1, q2, q3⟩ := ht.toksAt
  obtain ⟨g, rfl⟩ := q3 k hkn
  unfold maxLen at q2
  have HT := hide ht
  have HKO := hide hk
  clear hm ht q3 hk hh hpb
  go_enter Tryz.func44, Tryz.ntmps44
  go_wp2_with fail
  refine (may_any ⟨_, _, _, _, _, unhide HT⟩ hf _ _ (by omega) (by omega)).mono ?_
  rintro en w1 ⟨rfl, hw⟩
  rw [unhide HM]
  have ht1 := (unhide HT).still hw
  obtain ⟨_, _, c2, _⟩ := ht1.cells
  have t0 : w1.cell? ⟨g, k * 4, none⟩ = some (.int .i64 ((r.tok k).life : Int)) := ht1.tokCell hkn 0 (by omega)
  have HT1 := hide ht1
  have HST1 : Hid (Still w w1) := hw
  clear ht1 hw HT
  go_wp2_with fail
  refine (between_yes _ _ _ _ a0 a1).mono ?_
  rintro e w' ⟨rfl, hw⟩
  replace hw := hw.symm
  subst hw
  go_wp2_with fail
  refine (between_yes _ _ _ _ p0 p1).mono ?_
  rintro en w' ⟨rfl, hw⟩
  replace hw := hw.symm
  subst hw
  go_wp2_with fail
  refine (whole_any ⟨_, _, _, _, _, unhide HT1⟩ hf (unhide HKO).tab _ hnl).mono ?_
  rintro en w2 ⟨off, v, hch, hlo, rfl, how, hs2⟩
  rw [unhide HTB off hch] at how
  obtain ⟨va, vc, rfl, _, _⟩ := ownsRow_slice how
  have HROW := hide how
  have HST2 : Hid (Still w w2) := (unhide HST1).trans hs2
  generalize droppedR (r.life (r.tok k).life) off = dl at *
  clear hch how hs2 HT1 HST1 c2 t0
  go_wp2_with fail
  refine (containing_any (unhide HROW) (by omega) (unhide HGD) a a0 a1).mono ?_
  rintro en w3 ⟨u, rfl, hu, hs3⟩
  have hfl := conTo_all tb a
  have hcl := conTo_len tb a tb.length
  generalize conTo tb a tb.length = l at *
  obtain ⟨la, lc, rfl, _, _⟩ := ownsRow_slice hu
  have HU := hide hu
  have HST3 : Hid (Still w w3) := (unhide HST2).trans hs3
  have hpos : ∀ y ∈ l, 0 ≤ y.hop := fun y hy => by
    rw [hfl, List.mem_filter] at hy
    exact (unhide HGD y hy.1).h0
  have hpb := unhide HPB
  rw [← hfl] at hpb
  have HPL := hide hpb
  have HPOS := hide hpos
  clear hu hs3 hfl HST2 HROW hpos hpb HPB
  generalize w2.heap.size = s2 at *
  go_wp2
  go_loopw [20] (fun s w' => ∃ j : Nat, j ≤ l.length ∧ s = .int .i64 (j : Int) ∧ (∀ i, i < j → ((l.getD i rt0).hop != 0) = false) ∧ w' = w3) (fun s _ => l.length - (intOf s).toNat)
  case atStart => exact ⟨0, by omega, rfl, fun i hi => by omega, rfl⟩
  case round =>
    obtain ⟨j, hj, rfl, hall, rfl⟩ := hrel
    have HALL := hide hall
    clear hall
    by_cases hjl : j < l.length
    · obtain ⟨gl, rfl, hgl⟩ := ownsRow_some (unhide HU) (by omega)
      obtain ⟨_, _, x2, _⟩ := rowCellL (unhide HU) rfl hjl
      have hj0 : (0 : Int) ≤ (j : Int) := by omega
      have hjl' : (j : Int) < (l.length : Int) := by omega
      have hmem : l.getD j rt0 ∈ l := by simp [List.getD_eq_getElem?_getD, hjl]
      have hx0 := unhide HPOS _ hmem
      have hnext : ((l.getD j rt0).hop != 0) = false → ∀ i, i < j + 1 → ((l.getD i rt0).hop != 0) = false := fun hh i hi => by
        by_cases e : i = j
        · rw [e]; exact hh
        · exact unhide HALL i (by omega)
      generalize l.getD j rt0 = x at *
      by_cases hg : 0 < x.hop
      · have hd : decide (0 < x.hop) = true := decide_eq_true hg
        have hany : (l.any fun x => x.hop != 0) = true := by
          rw [List.any_eq_true]
          exact ⟨x, hmem, by simp; omega⟩
        have HANY := hide hany
        clear hany hnext hmem
        go_wp2
        go_ret2
        exact ⟨by rw [unhide HPL, unhide HANY]; rfl, unhide HST3⟩
      · have hd : decide (0 < x.hop) = false := decide_eq_false hg
        have HNX := hide (hnext (by have : x.hop = 0 := by omega
                                    rw [this]; rfl))
        clear hnext hmem
        go_wp2
        go_roundw
        case rel => exact ⟨j + 1, by omega, by go_num, unhide HNX, trivial⟩
        case measure => simp [intOf]; omega
    · obtain rfl : j = l.length := by omega
      have hno : (l.any fun x => x.hop != 0) = false := by
        rw [List.any_eq_false]
        intro y hy
        obtain ⟨i, hi, rfl⟩ := List.mem_iff_getElem.1 hy
        have h1 := unhide HALL i hi
        rw [show l.getD i rt0 = l[i] from by simp [List.getD_eq_getElem?_getD, hi]] at h1
        rw [h1]
        simp
      have HNO := hide hno
      clear hno
      go_wp2
      go_ret2
      exact ⟨by rw [unhide HPL, unhide HNO]; rfl, unhide HST3⟩
theorem refPass_fn (h : RefRep w O e b r) (hk : RefOk r) (n a hop : Int) (st : Bool) :
    Calls Tryz.prog 44 #[.pointer (some ⟨b, 0, none⟩), .int .i64 n, .int .i64 a, .int .i64 hop, .bool st] w fun en w' => en = .returned (.tuple #[.bool (passA r n a hop st), .int .i64 (passR r n a hop)]) ∧ Still w w' := by
  unfold passA passR
  by_cases hm : mayI r n 1 = 0
  · rw [if_pos hm, if_pos hm]
    cases ha : (okAddr a && okMask hop) with
    | false => exact refPass_arg h hk.wf n a hop st hm ha
    | true =>
      rw [Bool.and_eq_true] at ha
      cases st with
      | true => exact refPass_strict h hk n a hop hm ha.1 ha.2
      | false => exact refPass_loose h hk n a hop hm ha.1 ha.2
  · rw [if_neg hm, if_neg hm]
    exact refPass_no h hk.wf n a hop st rfl hm
end
end Go.Proofs.YtgndledehlilkaaGreat
