import Derived.Test.YtgndledehlilkaaGreatPrKM
import Derived.Test.YtgndledehlilkaaGreatPrOM
namespace Go.Proofs.YtgndledehlilkaaGreat
open Go.RowKit

theorem find_reverse_none {l : List RouteD} {p : RouteD → Bool} (h : ∀ y ∈ l, p y = false) : l.reverse.find? p = none := by
  rw [List.find?_eq_none]
  intro y hy
  rw [h y (List.mem_reverse.1 hy)]
  simp
theorem find_reverse_at {l : List RouteD} {p : RouteD → Bool} {k : Nat} (hk : k < l.length) (hp : p l[k] = true) (h : ∀ j (hj : j < l.length), k < j → p l[j] = false) : l.reverse.find? p = some l[k] := by
  have e : l = l.take k ++ l[k] :: l.drop (k + 1) := by
    rw [List.getElem_cons_drop, List.take_append_drop]
  have h2 : ∀ y ∈ l.drop (k + 1), p y = false := fun y hy => by
    obtain ⟨j, hj, rfl⟩ := List.mem_iff_getElem.1 hy
    rw [List.getElem_drop]
    rw [List.length_drop] at hj
    exact h _ (by omega) (by omega)
  generalize l[k] = x at *
  rw [e, List.reverse_append, List.reverse_cons, List.append_assoc, List.find?_append, find_reverse_none h2]
  simp [hp]
theorem SumAt.put {w : World} {s : Nat} {a b c d : Int} (h : SumAt w s a b c d) (a' b' c' d' : Int) : SumAt ((((w.setCell ⟨s, 0, none⟩ (.int .i64 a')).setCell ⟨s, 1, none⟩ (.int .i64 b')).setCell ⟨s, 2, none⟩ (.int .i64 c')).setCell ⟨s, 3, none⟩ (.int .i64 d')) s a' b' c' d' := by
  have k0 := h.c0
  have k1 := h.c1
  have k2 := h.c2
  have k3 := h.c3
  have hl := h.lt
  refine ⟨by simpa using hl, fun j => by simp [h.fz j], ?_, ?_, ?_, ?_⟩
  · simp [World.cell?_setCell_same, World.cell?_setCell_other, k0]
  · simp [World.cell?_setCell_same, World.cell?_setCell_other, k1]
  · simp [World.cell?_setCell_same, World.cell?_setCell_other, k2]
  · simp [World.cell?_setCell_same, World.cell?_setCell_other, k3]
theorem Still.put {a w : World} {s : Nat} (h : Still a w) (hs : a.heap.size ≤ s) (u0 u1 u2 u3 : Value) : Still a ((((w.setCell ⟨s, 0, none⟩ u0).setCell ⟨s, 1, none⟩ u1).setCell ⟨s, 2, none⟩ u2).setCell ⟨s, 3, none⟩ u3) :=
  (((h.setCell (p := ⟨s, 0, none⟩) (.inr hs) u0).setCell (p := ⟨s, 1, none⟩) (.inr hs) u1).setCell (p := ⟨s, 2, none⟩) (.inr hs) u2).setCell (p := ⟨s, 3, none⟩) (.inr hs) u3
theorem infoRoute4 : (Tryz.prog.info? 50).map (·.size) = some 4 := by kernel_rfl
def inF (a : Int) (l : List RouteD) (k : Nat) : Prop := ∀ j, k ≤ j → j < l.length → inB a (pad l j) = false
set_option maxHeartbeats 4000000 in
theorem longest_any {w : World} {b o : Nat} {l : List RouteD} (h : LAt w b o l.length (pad l)) (hl : ∀ y ∈ l, okRoute y) {a : Int} (ha : 0 ≤ a ∧ a ≤ 65535) :
    Calls Tryz.prog 73 #[.pointer (some ⟨b, o, none⟩), .int .i64 a] w fun en w' => en = .returned (.tuple #[.agg #[.int .i64 (longA l a).addr, .int .i64 (longA l a).len, .int .i64 (longA l a).hop, .int .i64 (longA l a).from_], .int .i64 (longE l a)]) ∧ Still w w' := by
  have hm := h.most
  have hb := h.lt
  have c := h.cnt
  have hS1 : Still w (w.alloc (.cells #[.int .i64 0, .int .i64 0, .int .i64 0, .int .i64 0] 50)) := (Kept.refl _ _).alloc _
  have HX := hide (h.still hS1)
  have hbx := SumAt.new w 0 0 0 0 50
  have HBX := hide hbx
  have c' := (hS1.cell b _ hb).trans c
  have HS1 := hide hS1
  have HL := hide hl
  clear hS1 h hl c hbx
  go_enter Tryz.func73, Tryz.ntmps73
  go_wp2_with fail
  generalize hs0 : w.heap.size = s0 at *
  generalize w.alloc (.cells #[.int .i64 0, .int .i64 0, .int .i64 0, .int .i64 0] 50) = W at *
  go_loopw [6] (fun i w' => ∃ k : Nat, k ≤ l.length ∧ i = .int .i64 ((k : Int) - 1) ∧ inF a l k ∧ Still W w') (fun i _ => (intOf i + 1).toNat)
  case atStart => exact ⟨l.length, Nat.le_refl _, by go_num, fun j h1 h2 => by omega, Kept.refl _ _⟩
  case round =>
    obtain ⟨k, hk, rfl, hall, hw⟩ := hrel
    have hx := (unhide HX).still hw
    have hbr : b < wr.heap.size := hx.lt
    have hbw := (unhide HBX).kept hw (fun q => q)
    have z0 := hbw.c0
    have z1 := hbw.c1
    have z2 := hbw.c2
    have z3 := hbw.c3
    have f0 := hbw.fz 0
    have f1 := hbw.fz 1
    have f2 := hbw.fz 2
    have f3 := hbw.fz 3
    have zl : s0 < wr.heap.size := hbw.lt
    have HBW := hide hbw
    clear hbw
    have HA := hide hall
    have HW := hide hw
    clear hall hw
    by_cases hlt : 1 ≤ k
    · obtain ⟨i, rfl⟩ : ∃ i, k = i + 1 := ⟨k - 1, by omega⟩
      have c0 := hx.addr i (by omega)
      have c1 := hx.len i (by omega)
      have c2 := hx.hop i (by omega)
      have c3 := hx.frm i (by omega)
      have hp : isPfx (pad l i).addr (pad l i).len = true := by
        rw [pad_lt (show i < l.length by omega)]
        exact (unhide HL _ (List.getElem_mem _)).pfx
      have hid : pad l i = l[i] := pad_lt (show i < l.length by omega)
      have HID := hide hid
      have HP := hide hp
      have HA2 := hide ha
      have e0 : (((i + 1 : Nat) : Int) - 1) = (i : Int) := by omega
      rw [e0]
      have hi0 : (0 : Int) ≤ (i : Int) := by omega
      have hi64 : (i : Int) < 64 := by omega
      clear hx hp e0 hid
      cases hin : inB a (pad l i) with
      | true =>
        have HI := hide hin
        clear hin
        go_wp2_with fail
        go_quiet ((go_at_call 107; exact Calls.quiet_of_same (contains_any _ _ _ _ (unhide HP) (unhide HA2))))
        have hcb : containsB (pad l i).addr (pad l i).len a = true := unhide HI
        rw [hcb]
        clear hcb
        go_wp2
        have hbw := ((unhide HBW).kept ((Kept.refl (fun _ => False) wr).drewN nq) (fun q => q)).put (pad l i).addr (pad l i).len (pad l i).hop (pad l i).from_
        refine bodyPost_ret (results_range2 rfl _ _ _ _ _ _ rfl hbw.range Tryz.underlying50 rfl infoRoute4) rfl ?_
        have hlo : longL l a = some (pad l i) := by
          rw [unhide HID]
          refine find_reverse_at (by omega) ?_ fun j hj hij => ?_
          · rw [← unhide HID]; exact unhide HI
          · rw [← pad_lt hj]; exact unhide HA j (by omega) hj
        refine ⟨?_, ?_⟩
        · unfold longA longE
          rw [hlo]
          rfl
        · exact Still.put (((unhide HS1).trans (unhide HW)).drewN nq) (by omega) _ _ _ _
      | false =>
        have HI := hide hin
        clear hin
        go_wp2_with fail
        go_quiet ((go_at_call 107; exact Calls.quiet_of_same (contains_any _ _ _ _ (unhide HP) (unhide HA2))))
        have hcb : containsB (pad l i).addr (pad l i).len a = false := unhide HI
        rw [hcb]
        clear hcb
        go_wp2
        go_roundw
        case rel => exact ⟨i, by omega, rfl, fun j h1 h2 => by
          by_cases ej : j = i
          · subst ej; exact unhide HI
          · exact unhide HA j (by omega) h2, (unhide HW).drewN _⟩
        case measure => simp [intOf]
    · obtain rfl : k = 0 := by omega
      clear hx
      go_wp2
      have hbw := (unhide HBW).put 0 0 0 0
      refine bodyPost_ret (results_range2 rfl _ _ _ _ _ _ rfl hbw.range Tryz.underlying50 rfl infoRoute4) rfl ?_
      have hlo : longL l a = none := by
        refine find_reverse_none fun y hy => ?_
        obtain ⟨j, hj, rfl⟩ := List.mem_iff_getElem.1 hy
        rw [← pad_lt hj]
        exact unhide HA j (by omega) hj
      refine ⟨?_, ?_⟩
      · unfold longA longE
        rw [hlo]
        rfl
      · exact Still.put ((unhide HS1).trans (unhide HW)) (by omega) _ _ _ _
def ldF (a : Int) (l : List RouteD) (k : Nat) : Prop := ∀ j, j < k → ((pad l j).hop != 0 && inB a (pad l j)) = false
set_option maxHeartbeats 4000000 in
theorem leads_any {w : World} {b o : Nat} {l : List RouteD} (h : LAt w b o l.length (pad l)) (hl : ∀ y ∈ l, okRoute y) {a : Int} (ha : 0 ≤ a ∧ a ≤ 65535) :
    Calls Tryz.prog 75 #[.pointer (some ⟨b, o, none⟩), .int .i64 a] w fun en w' => en = .returned (.bool (leadsL l a)) ∧ Still w w' := by
  have hm := h.most
  have hb := h.lt
  have HX := hide h
  have HL := hide hl
  clear h hl
  go_enter Tryz.func75, Tryz.ntmps75
  go_wp2
  go_loopw [5] (fun i w' => ∃ k : Nat, k ≤ l.length ∧ i = .int .i64 (k : Int) ∧ ldF a l k ∧ Still w w') (fun i _ => l.length - (intOf i).toNat)
  case atStart => exact ⟨0, by omega, rfl, fun j h1 => by omega, Kept.refl _ _⟩
  case round =>
    obtain ⟨k, hk, rfl, hall, hw⟩ := hrel
    have hx := (unhide HX).still hw
    have hbr : b < wr.heap.size := hx.lt
    have c := hx.cnt
    have HA := hide hall
    have HW := hide hw
    clear hall hw
    by_cases hlt : k < l.length
    · have c0 := hx.addr k (by omega)
      have c1 := hx.len k (by omega)
      have c2 := hx.hop k (by omega)
      have hp : isPfx (pad l k).addr (pad l k).len = true := by
        rw [pad_lt hlt]
        exact (unhide HL _ (List.getElem_mem _)).pfx
      have hid : pad l k = l[k] := pad_lt hlt
      have HID := hide hid
      have HP := hide hp
      have HA2 := hide ha
      have hi0 : (0 : Int) ≤ (k : Int) := by omega
      have hi64 : (k : Int) < 64 := by omega
      have hil : (k : Int) < (l.length : Int) := by omega
      clear hx hp hid
      by_cases hh : (pad l k).hop = 0
      · have HH := hide hh
        rw [hh] at c2
        clear hh
        go_wp2_with fail
        go_quiet (fail)
        go_wp2
        go_roundw
        case rel => exact ⟨k + 1, by omega, by go_num, fun j h1 => by
          by_cases ej : j = k
          · subst ej; rw [unhide HH]; rfl
          · exact unhide HA j (by omega), (unhide HW).drewN _⟩
        case measure => simp [intOf]; omega
      · have hb' : ((pad l k).hop != 0) = true := by simpa using hh
        have HH := hide hb'
        cases hin : inB a (pad l k) with
        | true =>
          have HI := hide hin
          clear hin
          go_wp2_with fail
          go_quiet ((go_at_call 107; exact Calls.quiet_of_same (contains_any _ _ _ _ (unhide HP) (unhide HA2))))
          have hcb : containsB (pad l k).addr (pad l k).len a = true := unhide HI
          rw [hcb]
          clear hcb
          go_wp2
          go_ret
          refine ⟨?_, (unhide HW).drewN _⟩
          have : leadsL l a = true := by
            unfold leadsL
            rw [List.any_eq_true]
            refine ⟨l[k], List.getElem_mem _, ?_⟩
            rw [← unhide HID, unhide HH, unhide HI]
            rfl
          rw [this]
          rfl
        | false =>
          have HI := hide hin
          clear hin
          go_wp2_with fail
          go_quiet ((go_at_call 107; exact Calls.quiet_of_same (contains_any _ _ _ _ (unhide HP) (unhide HA2))))
          have hcb : containsB (pad l k).addr (pad l k).len a = false := unhide HI
          rw [hcb]
          clear hcb
          go_wp2
          go_roundw
          case rel => exact ⟨k + 1, by omega, by go_num, fun j h1 => by
            by_cases ej : j = k
            · subst ej; rw [unhide HI, Bool.and_false]
            · exact unhide HA j (by omega), (unhide HW).drewN _⟩
          case measure => simp [intOf]; omega
    · obtain rfl : k = l.length := by omega
      clear hx
      go_wp2
      go_ret
      refine ⟨?_, unhide HW⟩
      have : leadsL l a = false := by
        unfold leadsL
        rw [List.any_eq_false]
        intro y hy
        obtain ⟨j, hj, rfl⟩ := List.mem_iff_getElem.1 hy
        have h0 := unhide HA j hj
        rw [pad_lt hj] at h0
        rw [h0]
        simp
      rw [this]
      rfl

/-- The program's table is in order. -/
theorem tabX_good {p : ProgS} (hk : ProgOk p) {t : Nat} (ht : t < 8) : Good (tabX p t) := Good.tab ⟨hk.sorted t ht, hk.route t ht⟩ (Good.off hk t 8 (Nat.le_refl _)) _ (Nat.le_refl _)
section
variable {w : World} {b : Nat} {p : ProgS}
set_option maxHeartbeats 1000000 in
theorem lookup_no (h : XAt w b p) (hf : ProgWf p) {n c : Int} (addr : Int) (hc : checkX p n 1 = c) (hc0 : c ≠ 0) :
    Calls Tryz.prog 41 #[.pointer (some ⟨b, 0, none⟩), .int .i64 n, .int .i64 addr] w fun en w' => en = .returned (.tuple #[.agg #[.int .i64 0, .int .i64 0, .int .i64 0, .int .i64 0], .int .i64 c]) ∧ Still w w' := by
  have hne : (c != 0) = true := by simpa using hc0
  have HC := hide hc
  have HC0 := hide hc0
  have hS1 : Still w (w.alloc (.cells #[.int .i64 0, .int .i64 0, .int .i64 0, .int .i64 0] 50)) := (Kept.refl _ _).alloc _
  have HX1 := hide (h.still hS1)
  have hsm := SumAt.new w 0 0 0 0 50
  have HSM := hide hsm
  have HS1 := hide hS1
  clear hc hc0 hS1 hsm
  go_enter Tryz.func41, Tryz.ntmps41
  go_wp2_with (go_at_call 59; refine (check_no (unhide HX1) hf (unhide HC) (unhide HC0)).mono ?_; rintro e w' ⟨rfl, hww⟩; replace hww := hww.symm; subst hww)
  refine bodyPost_ret (results_range2 rfl _ _ _ _ _ _ rfl (unhide HSM).range Tryz.underlying50 rfl infoRoute4) rfl ?_
  exact ⟨rfl, unhide HS1⟩
set_option maxHeartbeats 1000000 in
theorem lookup_arg (h : XAt w b p) (hf : ProgWf p) {n : Int} (addr : Int) (hc : checkX p n 1 = 0) (ha : okAddr addr = false) :
    Calls Tryz.prog 41 #[.pointer (some ⟨b, 0, none⟩), .int .i64 n, .int .i64 addr] w fun en w' => en = .returned (.tuple #[.agg #[.int .i64 0, .int .i64 0, .int .i64 0, .int .i64 0], .int .i64 2]) ∧ Still w w' := by
  have HC := hide hc
  have HA := hide ha
  have hS1 : Still w (w.alloc (.cells #[.int .i64 0, .int .i64 0, .int .i64 0, .int .i64 0] 50)) := (Kept.refl _ _).alloc _
  have HX1 := hide (h.still hS1)
  have hsm := SumAt.new w 0 0 0 0 50
  have HSM := hide hsm
  have HS1 := hide hS1
  clear hc hS1 hsm ha
  go_enter Tryz.func41, Tryz.ntmps41
  go_wp2_with fail
  refine (check_yes (unhide HX1) hf (unhide HC)).mono ?_
  rintro e w' ⟨rfl, hww⟩
  replace hww := hww.symm
  subst hww
  go_wp2_with fail
  refine (isAddr_any _ _).mono ?_
  rintro e w' ⟨rfl, hww⟩
  replace hww := hww.symm
  subst hww
  rw [unhide HA]
  go_wp2
  refine bodyPost_ret (results_range2 rfl _ _ _ _ _ _ rfl (unhide HSM).range Tryz.underlying50 rfl infoRoute4) rfl ?_
  exact ⟨rfl, unhide HS1⟩
set_option maxHeartbeats 4000000 in
theorem lookup_yes (h : XAt w b p) (hf : ProgWf p) (hk : ProgOk p) {n : Int} {t : Nat} (addr : Int) (hc : checkX p n 1 = 0) (htn : p.tenant (n - 1).toNat = (t : Int)) (ht : t < 8) (ha : okAddr addr = true) :
    Calls Tryz.prog 41 #[.pointer (some ⟨b, 0, none⟩), .int .i64 n, .int .i64 addr] w fun en w' => en = .returned (.tuple #[.agg #[.int .i64 (longA (tabX p t) addr).addr, .int .i64 (longA (tabX p t) addr).len, .int .i64 (longA (tabX p t) addr).hop, .int .i64 (longA (tabX p t) addr).from_], .int .i64 (longE (tabX p t) addr)]) ∧ Still w w' := by
  have HC := hide hc
  have HTN := hide htn
  have HA := hide ha
  have hS0 : Still w (w.alloc (.cells #[.int .i64 0, .int .i64 0, .int .i64 0, .int .i64 0] 50)) := (Kept.refl _ _).alloc _
  have HX := hide (h.still hS0)
  have hsm := SumAt.new w 0 0 0 0 50
  have HSM0 := hide hsm
  have HS0 := hide hS0
  clear hc htn hS0 h hsm ha
  go_enter Tryz.func41, Tryz.ntmps41
  go_wp2_with fail
  generalize hs0 : w.heap.size = s0 at *
  generalize w.alloc (.cells #[.int .i64 0, .int .i64 0, .int .i64 0, .int .i64 0] 50) = W0 at *
  refine (check_yes (unhide HX) hf (unhide HC)).mono ?_
  rintro e w' ⟨rfl, hww⟩
  replace hww := hww.symm
  subst hww
  rw [unhide HTN]
  go_wp2_with fail
  refine (isAddr_any _ _).mono ?_
  rintro e w' ⟨rfl, hww⟩
  replace hww := hww.symm
  subst hww
  rw [unhide HA]
  go_wp2_with fail
  refine (table_fn (unhide HX) hk ht).mono ?_
  rintro e w3 ⟨rfl, h64, hs3⟩
  have HG := hide (tabX_good hk ht)
  generalize hl : tabX p t = l at *
  have HLL := hide hl
  clear hl
  have hz := LAt.zero w3
  have hz1 := hz.still ((Kept.refl _ (w3.alloc (.cells Tryz.zeroCells61 61))).alloc (.cells #[.int .i64 0, .int .i64 0, .int .i64 0, .int .i64 0] 89))
  have hsz : (w3.alloc (.cells Tryz.zeroCells61 61)).heap.size = w3.heap.size + 1 := by simp
  have hsm0 := SumAt.new (w3.alloc (.cells Tryz.zeroCells61 61)) 0 0 0 0 89
  rw [hsz] at hsm0
  have hS1 : Still W0 ((w3.alloc (.cells Tryz.zeroCells61 61)).alloc (.cells #[.int .i64 0, .int .i64 0, .int .i64 0, .int .i64 0] 89)) := (hs3.alloc _).alloc _
  have h1 := hz1.stored h64 (pad l)
  have hth := hz1.there l.length (pad l)
  have hk1 := Kept.setCells (Kept.refl (· = w3.heap.size) ((w3.alloc (.cells Tryz.zeroCells61 61)).alloc (.cells #[.int .i64 0, .int .i64 0, .int .i64 0, .int .i64 0] 89))) (.inl rfl) (listCells l.length (pad l)).toArray.toList 0
  have hsm1 := hsm0.kept hk1 (by omega)
  have hb3 := hs3.size
  have hi2 := infoList'' l.length (pad l)
  have ho := listCells_one l.length (pad l)
  have HTH := hide hth
  have H1 := hide h1
  have HSM1 := hide hsm1
  have HS1 := hide hS1
  have HK1 := hide hk1
  clear hz hz1 hsm0 hS1 h1 hth hk1 hsm1 hs3 hsz
  generalize hcs : listCells l.length (pad l) = cs at *
  go_wp2_with (refine wpList_store_mid rfl 61 _ _ rfl _ _ cs.toArray rfl rfl (unhide HTH) hi2 ho (unhide ?_))
  refine hide ?_
  generalize hs : w3.heap.size = s at *
  have hS2 : Still W0 (((w3.alloc (.cells Tryz.zeroCells61 61)).alloc (.cells #[.int .i64 0, .int .i64 0, .int .i64 0, .int .i64 0] 89)).setCells s 0 cs.toArray.toList) := Kept.trans' (unhide HS1) (unhide HK1) (fun i hi q => by omega)
  have HS2 := hide hS2
  clear hS2 HK1 HTH HS1
  generalize ((w3.alloc (.cells Tryz.zeroCells61 61)).alloc (.cells #[.int .i64 0, .int .i64 0, .int .i64 0, .int .i64 0] 89)).setCells s 0 cs.toArray.toList = Y at *
  have hth5 := (unhide HSM1).there
  have hk5 := Kept.setCells (Kept.refl (· = s + 1) Y) (.inl rfl) ([.int .i64 ((p.own t).length : Int), .int .i64 (takX p t : Int), .int .i64 (droX p t : Int), .int .i64 (p.quota t)] : List Value).toArray.toList 0
  have hls := infoSums' ((p.own t).length : Int) (takX p t : Int) (droX p t : Int) (p.quota t)
  have hos : ([.int .i64 ((p.own t).length : Int), .int .i64 (takX p t : Int), .int .i64 (droX p t : Int), .int .i64 (p.quota t)] : List Value).toArray.all (·.oneCell') = true := by simp [Value.oneCell']
  have hth5' : Y.there (s + 1) 0 ([.int .i64 ((p.own t).length : Int), .int .i64 (takX p t : Int), .int .i64 (droX p t : Int), .int .i64 (p.quota t)] : List Value).toArray.size := hth5
  generalize ([.int .i64 ((p.own t).length : Int), .int .i64 (takX p t : Int), .int .i64 (droX p t : Int), .int .i64 (p.quota t)] : List Value) = ss at *
  have h5 : LAt (Y.setCells (s + 1) 0 ss.toArray.toList) s 0 l.length (pad l) := (unhide H1).frame (Nat.lt_of_lt_of_le (unhide H1).lt hk5.size) (hk5.block s (unhide H1).lt (by omega))
  have hS5 : Still W0 (Y.setCells (s + 1) 0 ss.toArray.toList) := Kept.trans' (unhide HS2) hk5 (fun i hi q => by omega)
  have hz5 := hk5.size
  have hzY := (unhide HS2).size
  have H5 := hide h5
  have HS5 := hide hS5
  have HTH5 := hide hth5'
  clear hk5 h5 hS5 hth5 hth5'
  go_wp2_with (refine wpList_store_mid rfl 89 _ _ rfl _ _ ss.toArray rfl rfl (unhide HTH5) hls hos (unhide ?_))
  refine hide ?_
  generalize Y.setCells (s + 1) 0 ss.toArray.toList = Z at *
  go_wp2_with fail
  refine (longest_any (unhide H5) (unhide HG).route ((okAddr_iff addr).1 (unhide HA))).mono ?_
  rintro e w9 ⟨rfl, hs9⟩
  have hst : Still W0 w9 := (unhide HS5).trans hs9
  have hsm9 := (unhide HSM0).kept hst (fun q => q)
  have z0 := hsm9.c0
  have z1 := hsm9.c1
  have z2 := hsm9.c2
  have z3 := hsm9.c3
  have f0 := hsm9.fz 0
  have f1 := hsm9.fz 1
  have f2 := hsm9.fz 2
  have f3 := hsm9.fz 3
  have zl := hsm9.lt
  have HSM9 := hide hsm9
  have HST := hide hst
  clear hsm9 hst hs9
  generalize hxe : longA l addr = x at *
  have HXE := hide hxe
  clear hxe
  go_wp2
  have hfin := (unhide HSM9).put x.addr x.len x.hop x.from_
  refine bodyPost_ret (results_range2 rfl _ _ _ _ _ _ rfl hfin.range Tryz.underlying50 rfl infoRoute4) rfl ?_
  rw [unhide HLL, unhide HXE]
  exact ⟨rfl, Still.put ((unhide HS0).trans (unhide HST)) (by omega) _ _ _ _⟩
set_option maxHeartbeats 1000000 in
theorem pass_no (h : XAt w b p) (hf : ProgWf p) {n c : Int} (addr hop : Int) (strict : Bool) (hc : checkX p n 1 = c) (hc0 : c ≠ 0) :
    Calls Tryz.prog 43 #[.pointer (some ⟨b, 0, none⟩), .int .i64 n, .int .i64 addr, .int .i64 hop, .bool strict] w fun en w' => en = .returned (.tuple #[.bool false, .int .i64 c]) ∧ w' = w := by
  have hne : (c != 0) = true := by simpa using hc0
  have HC := hide hc
  have HC0 := hide hc0
  clear hc hc0
  go_enter Tryz.func43, Tryz.ntmps43
  go_wp2_with (go_at_call 59; refine (check_no h hf (unhide HC) (unhide HC0)).mono ?_; rintro e w' ⟨rfl, hww⟩; replace hww := hww.symm; subst hww)
  go_ret2
  exact ⟨rfl, rfl⟩
set_option maxHeartbeats 1000000 in
theorem pass_arg (h : XAt w b p) (hf : ProgWf p) {n : Int} (addr hop : Int) (strict : Bool) (hc : checkX p n 1 = 0) (ha : (okAddr addr && okMask hop) = false) :
    Calls Tryz.prog 43 #[.pointer (some ⟨b, 0, none⟩), .int .i64 n, .int .i64 addr, .int .i64 hop, .bool strict] w fun en w' => en = .returned (.tuple #[.bool false, .int .i64 2]) ∧ w' = w := by
  have HC := hide hc
  clear hc
  cases h1 : okAddr addr with
  | false =>
    have HA := hide h1
    clear ha h1
    go_enter Tryz.func43, Tryz.ntmps43
    go_wp2_with fail
    refine (check_yes h hf (unhide HC)).mono ?_
    rintro e w' ⟨rfl, hww⟩
    replace hww := hww.symm
    subst hww
    go_wp2_with fail
    refine (isAddr_any _ _).mono ?_
    rintro e w' ⟨rfl, hww⟩
    replace hww := hww.symm
    subst hww
    rw [unhide HA]
    go_wp2
    go_ret2
    exact ⟨rfl, rfl⟩
  | true =>
    have h2 : okMask hop = false := by rw [h1, Bool.true_and] at ha; exact ha
    have HA := hide h1
    have HM := hide h2
    clear ha h1 h2
    go_enter Tryz.func43, Tryz.ntmps43
    go_wp2_with fail
    refine (check_yes h hf (unhide HC)).mono ?_
    rintro e w' ⟨rfl, hww⟩
    replace hww := hww.symm
    subst hww
    go_wp2_with fail
    refine (isAddr_any _ _).mono ?_
    rintro e w' ⟨rfl, hww⟩
    replace hww := hww.symm
    subst hww
    rw [unhide HA]
    go_wp2_with fail
    refine (isHop_any _ _).mono ?_
    rintro e w' ⟨rfl, hww⟩
    replace hww := hww.symm
    subst hww
    rw [unhide HM]
    go_wp2
    go_ret2
    exact ⟨rfl, rfl⟩
set_option maxHeartbeats 4000000 in
theorem pass_loose (h : XAt w b p) (hf : ProgWf p) (hk : ProgOk p) {n : Int} {t : Nat} (addr hop : Int) (hc : checkX p n 1 = 0) (htn : p.tenant (n - 1).toNat = (t : Int)) (ht : t < 8) (ha : okAddr addr = true) (hh : okMask hop = true) :
    Calls Tryz.prog 43 #[.pointer (some ⟨b, 0, none⟩), .int .i64 n, .int .i64 addr, .int .i64 hop, .bool false] w fun en w' => en = .returned (.tuple #[.bool (passB (tabX p t) addr hop false), .int .i64 0]) ∧ Still w w' := by
  have HC := hide hc
  have HTN := hide htn
  have HA := hide ha
  have HM := hide hh
  have HX := hide h
  clear hc htn h ha hh
  obtain ⟨W0, hW0⟩ : ∃ W0, W0 = w := ⟨w, rfl⟩
  rw [← hW0] at HX ⊢
  clear hW0
  go_enter Tryz.func43, Tryz.ntmps43
  go_wp2_with fail
  refine (check_yes (unhide HX) hf (unhide HC)).mono ?_
  rintro e w' ⟨rfl, hww⟩
  replace hww := hww.symm
  subst hww
  rw [unhide HTN]
  go_wp2_with fail
  refine (isAddr_any _ _).mono ?_
  rintro e w' ⟨rfl, hww⟩
  replace hww := hww.symm
  subst hww
  rw [unhide HA]
  go_wp2_with fail
  refine (isHop_any _ _).mono ?_
  rintro e w' ⟨rfl, hww⟩
  replace hww := hww.symm
  subst hww
  rw [unhide HM]
  go_wp2_with fail
  refine (table_fn (unhide HX) hk ht).mono ?_
  rintro e w3 ⟨rfl, h64, hs3⟩
  have HG := hide (tabX_good hk ht)
  generalize hl : tabX p t = l at *
  have HLL := hide hl
  clear hl
  have hz := LAt.zero w3
  have hz1 := hz.still ((Kept.refl _ (w3.alloc (.cells Tryz.zeroCells61 61))).alloc (.cells #[.int .i64 0, .int .i64 0, .int .i64 0, .int .i64 0] 89))
  have hsz : (w3.alloc (.cells Tryz.zeroCells61 61)).heap.size = w3.heap.size + 1 := by simp
  have hsm0 := SumAt.new (w3.alloc (.cells Tryz.zeroCells61 61)) 0 0 0 0 89
  rw [hsz] at hsm0
  have hS1 : Still W0 ((w3.alloc (.cells Tryz.zeroCells61 61)).alloc (.cells #[.int .i64 0, .int .i64 0, .int .i64 0, .int .i64 0] 89)) := (hs3.alloc _).alloc _
  have h1 := hz1.stored h64 (pad l)
  have hth := hz1.there l.length (pad l)
  have hk1 := Kept.setCells (Kept.refl (· = w3.heap.size) ((w3.alloc (.cells Tryz.zeroCells61 61)).alloc (.cells #[.int .i64 0, .int .i64 0, .int .i64 0, .int .i64 0] 89))) (.inl rfl) (listCells l.length (pad l)).toArray.toList 0
  have hsm1 := hsm0.kept hk1 (by omega)
  have hb3 := hs3.size
  have hi2 := infoList'' l.length (pad l)
  have ho := listCells_one l.length (pad l)
  have HTH := hide hth
  have H1 := hide h1
  have HSM1 := hide hsm1
  have HS1 := hide hS1
  have HK1 := hide hk1
  clear hz hz1 hsm0 hS1 h1 hth hk1 hsm1 hs3 hsz
  generalize hcs : listCells l.length (pad l) = cs at *
  go_wp2_with (refine wpList_store_mid rfl 61 _ _ rfl _ _ cs.toArray rfl rfl (unhide HTH) hi2 ho (unhide ?_))
  refine hide ?_
  generalize hs : w3.heap.size = s at *
  have hS2 : Still W0 (((w3.alloc (.cells Tryz.zeroCells61 61)).alloc (.cells #[.int .i64 0, .int .i64 0, .int .i64 0, .int .i64 0] 89)).setCells s 0 cs.toArray.toList) := Kept.trans' (unhide HS1) (unhide HK1) (fun i hi q => by omega)
  have HS2 := hide hS2
  clear hS2 HK1 HTH HS1
  generalize ((w3.alloc (.cells Tryz.zeroCells61 61)).alloc (.cells #[.int .i64 0, .int .i64 0, .int .i64 0, .int .i64 0] 89)).setCells s 0 cs.toArray.toList = Y at *
  have hth5 := (unhide HSM1).there
  have hk5 := Kept.setCells (Kept.refl (· = s + 1) Y) (.inl rfl) ([.int .i64 ((p.own t).length : Int), .int .i64 (takX p t : Int), .int .i64 (droX p t : Int), .int .i64 (p.quota t)] : List Value).toArray.toList 0
  have hls := infoSums' ((p.own t).length : Int) (takX p t : Int) (droX p t : Int) (p.quota t)
  have hos : ([.int .i64 ((p.own t).length : Int), .int .i64 (takX p t : Int), .int .i64 (droX p t : Int), .int .i64 (p.quota t)] : List Value).toArray.all (·.oneCell') = true := by simp [Value.oneCell']
  have hth5' : Y.there (s + 1) 0 ([.int .i64 ((p.own t).length : Int), .int .i64 (takX p t : Int), .int .i64 (droX p t : Int), .int .i64 (p.quota t)] : List Value).toArray.size := hth5
  generalize ([.int .i64 ((p.own t).length : Int), .int .i64 (takX p t : Int), .int .i64 (droX p t : Int), .int .i64 (p.quota t)] : List Value) = ss at *
  have h5 : LAt (Y.setCells (s + 1) 0 ss.toArray.toList) s 0 l.length (pad l) := (unhide H1).frame (Nat.lt_of_lt_of_le (unhide H1).lt hk5.size) (hk5.block s (unhide H1).lt (by omega))
  have hS5 : Still W0 (Y.setCells (s + 1) 0 ss.toArray.toList) := Kept.trans' (unhide HS2) hk5 (fun i hi q => by omega)
  have hz5 := hk5.size
  have hzY := (unhide HS2).size
  have H5 := hide h5
  have HS5 := hide hS5
  have HTH5 := hide hth5'
  clear hk5 h5 hS5 hth5 hth5'
  go_wp2_with (refine wpList_store_mid rfl 89 _ _ rfl _ _ ss.toArray rfl rfl (unhide HTH5) hls hos (unhide ?_))
  refine hide ?_
  generalize Y.setCells (s + 1) 0 ss.toArray.toList = Z at *
  go_wp2_with fail
  refine (leads_any (unhide H5) (unhide HG).route ((okAddr_iff addr).1 (unhide HA))).mono ?_
  rintro e w9 ⟨rfl, hs9⟩
  go_wp2
  go_ret2
  rw [unhide HLL]
  exact ⟨rfl, (unhide HS5).trans hs9⟩
set_option maxHeartbeats 4000000 in
theorem pass_strict (h : XAt w b p) (hf : ProgWf p) (hk : ProgOk p) {n : Int} {t : Nat} (addr hop : Int) (hc : checkX p n 1 = 0) (htn : p.tenant (n - 1).toNat = (t : Int)) (ht : t < 8) (ha : okAddr addr = true) (hh : okMask hop = true) :
    Calls Tryz.prog 43 #[.pointer (some ⟨b, 0, none⟩), .int .i64 n, .int .i64 addr, .int .i64 hop, .bool true] w fun en w' => en = .returned (.tuple #[.bool (passB (tabX p t) addr hop true), .int .i64 0]) ∧ Still w w' := by
  have HC := hide hc
  have HTN := hide htn
  have HA := hide ha
  have HM := hide hh
  have HX := hide h
  clear hc htn h ha hh
  obtain ⟨W0, hW0⟩ : ∃ W0, W0 = w := ⟨w, rfl⟩
  rw [← hW0] at HX ⊢
  clear hW0
  go_enter Tryz.func43, Tryz.ntmps43
  go_wp2_with fail
  refine (check_yes (unhide HX) hf (unhide HC)).mono ?_
  rintro e w' ⟨rfl, hww⟩
  replace hww := hww.symm
  subst hww
  rw [unhide HTN]
  go_wp2_with fail
  refine (isAddr_any _ _).mono ?_
  rintro e w' ⟨rfl, hww⟩
  replace hww := hww.symm
  subst hww
  rw [unhide HA]
  go_wp2_with fail
  refine (isHop_any _ _).mono ?_
  rintro e w' ⟨rfl, hww⟩
  replace hww := hww.symm
  subst hww
  rw [unhide HM]
  go_wp2_with fail
  refine (table_fn (unhide HX) hk ht).mono ?_
  rintro e w3 ⟨rfl, h64, hs3⟩
  have HG := hide (tabX_good hk ht)
  generalize hl : tabX p t = l at *
  have HLL := hide hl
  clear hl
  have hz := LAt.zero w3
  have hz1 := hz.still ((Kept.refl _ (w3.alloc (.cells Tryz.zeroCells61 61))).alloc (.cells #[.int .i64 0, .int .i64 0, .int .i64 0, .int .i64 0] 89))
  have hsz : (w3.alloc (.cells Tryz.zeroCells61 61)).heap.size = w3.heap.size + 1 := by simp
  have hsm0 := SumAt.new (w3.alloc (.cells Tryz.zeroCells61 61)) 0 0 0 0 89
  rw [hsz] at hsm0
  have hS1 : Still W0 ((w3.alloc (.cells Tryz.zeroCells61 61)).alloc (.cells #[.int .i64 0, .int .i64 0, .int .i64 0, .int .i64 0] 89)) := (hs3.alloc _).alloc _
  have h1 := hz1.stored h64 (pad l)
  have hth := hz1.there l.length (pad l)
  have hk1 := Kept.setCells (Kept.refl (· = w3.heap.size) ((w3.alloc (.cells Tryz.zeroCells61 61)).alloc (.cells #[.int .i64 0, .int .i64 0, .int .i64 0, .int .i64 0] 89))) (.inl rfl) (listCells l.length (pad l)).toArray.toList 0
  have hsm1 := hsm0.kept hk1 (by omega)
  have hb3 := hs3.size
  have hi2 := infoList'' l.length (pad l)
  have ho := listCells_one l.length (pad l)
  have HTH := hide hth
  have H1 := hide h1
  have HSM1 := hide hsm1
  have HS1 := hide hS1
  have HK1 := hide hk1
  clear hz hz1 hsm0 hS1 h1 hth hk1 hsm1 hs3 hsz
  generalize hcs : listCells l.length (pad l) = cs at *
  go_wp2_with (refine wpList_store_mid rfl 61 _ _ rfl _ _ cs.toArray rfl rfl (unhide HTH) hi2 ho (unhide ?_))
  refine hide ?_
  generalize hs : w3.heap.size = s at *
  have hS2 : Still W0 (((w3.alloc (.cells Tryz.zeroCells61 61)).alloc (.cells #[.int .i64 0, .int .i64 0, .int .i64 0, .int .i64 0] 89)).setCells s 0 cs.toArray.toList) := Kept.trans' (unhide HS1) (unhide HK1) (fun i hi q => by omega)
  have HS2 := hide hS2
  clear hS2 HK1 HTH HS1
  generalize ((w3.alloc (.cells Tryz.zeroCells61 61)).alloc (.cells #[.int .i64 0, .int .i64 0, .int .i64 0, .int .i64 0] 89)).setCells s 0 cs.toArray.toList = Y at *
  have hth5 := (unhide HSM1).there
  have hk5 := Kept.setCells (Kept.refl (· = s + 1) Y) (.inl rfl) ([.int .i64 ((p.own t).length : Int), .int .i64 (takX p t : Int), .int .i64 (droX p t : Int), .int .i64 (p.quota t)] : List Value).toArray.toList 0
  have hls := infoSums' ((p.own t).length : Int) (takX p t : Int) (droX p t : Int) (p.quota t)
  have hos : ([.int .i64 ((p.own t).length : Int), .int .i64 (takX p t : Int), .int .i64 (droX p t : Int), .int .i64 (p.quota t)] : List Value).toArray.all (·.oneCell') = true := by simp [Value.oneCell']
  have hth5' : Y.there (s + 1) 0 ([.int .i64 ((p.own t).length : Int), .int .i64 (takX p t : Int), .int .i64 (droX p t : Int), .int .i64 (p.quota t)] : List Value).toArray.size := hth5
  generalize ([.int .i64 ((p.own t).length : Int), .int .i64 (takX p t : Int), .int .i64 (droX p t : Int), .int .i64 (p.quota t)] : List Value) = ss at *
  have h5 : LAt (Y.setCells (s + 1) 0 ss.toArray.toList) s 0 l.length (pad l) := (unhide H1).frame (Nat.lt_of_lt_of_le (unhide H1).lt hk5.size) (hk5.block s (unhide H1).lt (by omega))
  have hS5 : Still W0 (Y.setCells (s + 1) 0 ss.toArray.toList) := Kept.trans' (unhide HS2) hk5 (fun i hi q => by omega)
  have hz5 := hk5.size
  have hzY := (unhide HS2).size
  have H5 := hide h5
  have HS5 := hide hS5
  have HTH5 := hide hth5'
  clear hk5 h5 hS5 hth5 hth5'
  go_wp2_with (refine wpList_store_mid rfl 89 _ _ rfl _ _ ss.toArray rfl rfl (unhide HTH5) hls hos (unhide ?_))
  refine hide ?_
  generalize Y.setCells (s + 1) 0 ss.toArray.toList = Z at *
  go_wp2_with fail
  refine (longest_any (unhide H5) (unhide HG).route ((okAddr_iff addr).1 (unhide HA))).mono ?_
  rintro e w9 ⟨rfl, hs9⟩
  have hst : Still W0 w9 := (unhide HS5).trans hs9
  have HST := hide (hst.alloc (.cells #[.int .i64 (longA l addr).addr, .int .i64 (longA l addr).len, .int .i64 (longA l addr).hop, .int .i64 (longA l addr).from_] 50))
  have hp : ∀ x, longA l addr = x → passB l addr hop true = (hop != 0 && x.hop == hop) := fun x hx => by unfold passB; rw [if_pos rfl, hx]
  have HP := hide (hp _ rfl)
  clear hst hs9 hp
  generalize longA l addr = x at *
  by_cases h0 : hop = 0
  · have e0 : passB l addr hop true = false := by rw [unhide HP, h0]; rfl
    have E0 := hide e0
    clear e0
    subst h0
    go_wp2
    go_ret2
    rw [unhide HLL, unhide E0]
    exact ⟨rfl, unhide HST⟩
  · have d0 : (hop != 0) = true := by simpa using h0
    have e0 : passB l addr hop true = (x.hop == hop) := by rw [unhide HP, d0]; rfl
    have E0 := hide e0
    clear e0
    go_wp2
    go_ret2
    rw [unhide HLL, unhide E0]
    exact ⟨rfl, unhide HST⟩
end
end Go.Proofs.YtgndledehlilkaaGreat
