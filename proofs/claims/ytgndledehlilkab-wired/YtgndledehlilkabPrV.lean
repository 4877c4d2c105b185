/-
  Walks: routes: Longest, Leads.
-/
import Derived.Test.YtgndledehlilkabPrKM
namespace Go.Proofs.Ytgndledehlilkab
open Go.RowKit

theorem find_reverse_none {l : List RouteD} {p : RouteD → Bool} (h : ∀ y ∈ l, p y = false) : l.reverse.find? p = none := by
  rw [List.find?_eq_none]
  intro y hy
  rw [h y (List.mem_reverse.1 hy)]
  simp
theorem find_reverse_at {l : List RouteD} {p : RouteD → Bool} {k : Nat} (hk : k < l.length) (hp : p l[k] = true) (h : ∀ j (hj : j < l.length), k < j → p l[j] = false) : l.reverse.find? p = some l[k] := by
  have e : l = l.take k ++ l[k] :: l.drop (k + 1) := by
    rw [List.getElem_cons_drop, List.take_append_drop]
  have h2 : ∀ y ∈ l.drop (k + 1), p y = false := fun y hy => by
    obtain ⟨j, hj, rfl⟩ := List.mem_iff_getElem.1 hy
    rw [List.getElem_drop]
    rw [List.length_drop] at hj
    exact h _ (by omega) (by omega)
  generalize l[k] = x at *
  rw [e, List.reverse_append, List.reverse_cons, List.append_assoc, List.find?_append, find_reverse_none h2]
  simp [hp]
theorem SumAt.put {w : World} {s : Nat} {a b c d : Int} (h : SumAt w s a b c d) (a' b' c' d' : Int) : SumAt ((((w.setCell ⟨s, 0, none⟩ (.int .i64 a')).setCell ⟨s, 1, none⟩ (.int .i64 b')).setCell ⟨s, 2, none⟩ (.int .i64 c')).setCell ⟨s, 3, none⟩ (.int .i64 d')) s a' b' c' d' := by
  have k0 := h.c0
  have k1 := h.c1
  have k2 := h.c2
  have k3 := h.c3
  have hl := h.lt
  refine ⟨by simpa using hl, fun j => by simp [h.fz j], ?_, ?_, ?_, ?_⟩
  · simp [World.cell?_setCell_same, World.cell?_setCell_other, k0]
  · simp [World.cell?_setCell_same, World.cell?_setCell_other, k1]
  · simp [World.cell?_setCell_same, World.cell?_setCell_other, k2]
  · simp [World.cell?_setCell_same, World.cell?_setCell_other, k3]
theorem Still.put {a w : World} {s : Nat} (h : Still a w) (hs : a.heap.size ≤ s) (u0 u1 u2 u3 : Value) : Still a ((((w.setCell ⟨s, 0, none⟩ u0).setCell ⟨s, 1, none⟩ u1).setCell ⟨s, 2, none⟩ u2).setCell ⟨s, 3, none⟩ u3) :=
  (((h.setCell (p := ⟨s, 0, none⟩) (.inr hs) u0).setCell (p := ⟨s, 1, none⟩) (.inr hs) u1).setCell (p := ⟨s, 2, none⟩) (.inr hs) u2).setCell (p := ⟨s, 3, none⟩) (.inr hs) u3
theorem infoRoute4 : (Try.prog.info? 42).map (·.size) = some 4 := by kernel_rfl
def inF (a : Int) (l : List RouteD) (k : Nat) : Prop := ∀ j, k ≤ j → j < l.length → inB a (pad l j) = false
set_option maxHeartbeats 4000000 in
theorem longest_any {w : World} {b o : Nat} {l : List RouteD} (h : LAt w b o l.length (pad l)) (hl : ∀ y ∈ l, okRoute y) {a : Int} (ha : 0 ≤ a ∧ a ≤ 65535) :
    Calls Try.prog 68 #[.pointer (some ⟨b, o, none⟩), .int .i64 a] w fun en w' => en = .returned (.tuple #[.agg #[.int .i64 (longA l a).addr, .int .i64 (longA l a).len, .int .i64 (longA l a).hop, .int .i64 (longA l a).from_], .int .i64 (longE l a)]) ∧ Still w w' := by
  have hm := h.most
  have hb := h.lt
  have c := h.cnt
  have hS1 : Still w (w.alloc (.cells #[.int .i64 0, .int .i64 0, .int .i64 0, .int .i64 0] 42)) := (Kept.refl _ _).alloc _
  have HX := hide (h.still hS1)
  have hbx := SumAt.new w 0 0 0 0 42
  have HBX := hide hbx
  have c' := (hS1.cell b _ hb).trans c
  have HS1 := hide hS1
  have HL := hide hl
  clear hS1 h hl c hbx
  go_enter Try.func68, Try.ntmps68
  go_wp2_with fail
  generalize hs0 : w.heap.size = s0 at *
  generalize w.alloc (.cells #[.int .i64 0, .int .i64 0, .int .i64 0, .int .i64 0] 42) = W at *
  go_loopw [6] (fun i w' => ∃ k : Nat, k ≤ l.length ∧ i = .int .i64 ((k : Int) - 1) ∧ inF a l k ∧ Still W w') (fun i _ => (intOf i + 1).toNat)
  case atStart => exact ⟨l.length, Nat.le_refl _, by go_num, fun j h1 h2 => by omega, Kept.refl _ _⟩
  case round =>
    obtain ⟨k, hk, rfl, hall, hw⟩ := hrel
    have hx := (unhide HX).still hw
    have hbr : b < wr.heap.size := hx.lt
    have hbw := (unhide HBX).kept hw (fun q => q)
    have z0 := hbw.c0
    have z1 := hbw.c1
    have z2 := hbw.c2
    have z3 := hbw.c3
    have f0 := hbw.fz 0
    have f1 := hbw.fz 1
    have f2 := hbw.fz 2
    have f3 := hbw.fz 3
    have zl : s0 < wr.heap.size := hbw.lt
    have HBW := hide hbw
    clear hbw
    have HA := hide hall
    have HW := hide hw
    clear hall hw
    by_cases hlt : 1 ≤ k
    · obtain ⟨i, rfl⟩ : ∃ i, k = i + 1 := ⟨k - 1, by omega⟩
      have c0 := hx.addr i (by omega)
      have c1 := hx.len i (by omega)
      have c2 := hx.hop i (by omega)
      have c3 := hx.frm i (by omega)
      have hp : isPfx (pad l i).addr (pad l i).len = true := by
        rw [pad_lt (show i < l.length by omega)]
        exact (unhide HL _ (List.getElem_mem _)).pfx
      have hid : pad l i = l[i] := pad_lt (show i < l.length by omega)
      have HID := hide hid
      have HP := hide hp
      have HA2 := hide ha
      have e0 : (((i + 1 : Nat) : Int) - 1) = (i : Int) := by omega
      rw [e0]
      have hi0 : (0 : Int) ≤ (i : Int) := by omega
      have hi64 : (i : Int) < 64 := by omega
      clear hx hp e0 hid
      cases hin : inB a (pad l i) with
      | true =>
        have HI := hide hin
        clear hin
        go_wp2_with fail
        go_quiet ((go_at_call 82; exact Calls.quiet_of_same (contains_any _ _ _ _ (unhide HP) (unhide HA2))))
        have hcb : containsB (pad l i).addr (pad l i).len a = true := unhide HI
        rw [hcb]
        clear hcb
        go_wp2
        have hbw := ((unhide HBW).kept ((Kept.refl (fun _ => False) wr).drewN nq) (fun q => q)).put (pad l i).addr (pad l i).len (pad l i).hop (pad l i).from_
        refine bodyPost_ret (results_range2 rfl _ _ _ _ _ _ rfl hbw.range Try.underlying42 rfl infoRoute4) rfl ?_
        have hlo : longL l a = some (pad l i) := by
          rw [unhide HID]
          refine find_reverse_at (by omega) ?_ fun j hj hij => ?_
          · rw [← unhide HID]; exact unhide HI
          · rw [← pad_lt hj]; exact unhide HA j (by omega) hj
        refine ⟨?_, ?_⟩
        · unfold longA longE
          rw [hlo]
          rfl
        · exact Still.put (((unhide HS1).trans (unhide HW)).drewN nq) (by omega) _ _ _ _
      | false =>
        have HI := hide hin
        clear hin
        go_wp2_with fail
        go_quiet ((go_at_call 82; exact Calls.quiet_of_same (contains_any _ _ _ _ (unhide HP) (unhide HA2))))
        have hcb : containsB (pad l i).addr (pad l i).len a = false := unhide HI
        rw [hcb]
        clear hcb
        go_wp2
        go_roundw
        case rel => exact ⟨i, by omega, rfl, fun j h1 h2 => by
          by_cases ej : j = i
          · subst ej; exact unhide HI
          · exact unhide HA j (by omega) h2, (unhide HW).drewN _⟩
        case measure => simp [intOf]
    · obtain rfl : k = 0 := by omega
      clear hx
      go_wp2
      have hbw := (unhide HBW).put 0 0 0 0
      refine bodyPost_ret (results_range2 rfl _ _ _ _ _ _ rfl hbw.range Try.underlying42 rfl infoRoute4) rfl ?_
      have hlo : longL l a = none := by
        refine find_reverse_none fun y hy => ?_
        obtain ⟨j, hj, rfl⟩ := List.mem_iff_getElem.1 hy
        rw [← pad_lt hj]
        exact unhide HA j (by omega) hj
      refine ⟨?_, ?_⟩
      · unfold longA longE
        rw [hlo]
        rfl
      · exact Still.put ((unhide HS1).trans (unhide HW)) (by omega) _ _ _ _
def ldF (a : Int) (l : List RouteD) (k : Nat) : Prop := ∀ j, j < k → ((pad l j).hop != 0 && inB a (pad l j)) = false
set_option maxHeartbeats 4000000 in
theorem leads_any {w : World} {b o : Nat} {l : List RouteD} (h : LAt w b o l.length (pad l)) (hl : ∀ y ∈ l, okRoute y) {a : Int} (ha : 0 ≤ a ∧ a ≤ 65535) :
    Calls Try.prog 69 #[.pointer (some ⟨b, o, none⟩), .int .i64 a] w fun en w' => en = .returned (.bool (leadsL l a)) ∧ Still w w' := by
  have hm := h.most
  have hb := h.lt
  have HX := hide h
  have HL := hide hl
  clear h hl
  go_enter Try.func69, Try.ntmps69
  go_wp2
  go_loopw [5] (fun i w' => ∃ k : Nat, k ≤ l.length ∧ i = .int .i64 (k : Int) ∧ ldF a l k ∧ Still w w') (fun i _ => l.length - (intOf i).toNat)
  case atStart => exact ⟨0, by omega, rfl, fun j h1 => by omega, Kept.refl _ _⟩
  case round =>
    obtain ⟨k, hk, rfl, hall, hw⟩ := hrel
    have hx := (unhide HX).still hw
    have hbr : b < wr.heap.size := hx.lt
    have c := hx.cnt
    have HA := hide hall
    have HW := hide hw
    clear hall hw
    by_cases hlt : k < l.length
    · have c0 := hx.addr k (by omega)
      have c1 := hx.len k (by omega)
      have c2 := hx.hop k (by omega)
      have hp : isPfx (pad l k).addr (pad l k).len = true := by
        rw [pad_lt hlt]
        exact (unhide HL _ (List.getElem_mem _)).pfx
      have hid : pad l k = l[k] := pad_lt hlt
      have HID := hide hid
      have HP := hide hp
      have HA2 := hide ha
      have hi0 : (0 : Int) ≤ (k : Int) := by omega
      have hi64 : (k : Int) < 64 := by omega
      have hil : (k : Int) < (l.length : Int) := by omega
      clear hx hp hid
      by_cases hh : (pad l k).hop = 0
      · have HH := hide hh
        rw [hh] at c2
        clear hh
        go_wp2_with fail
        go_quiet (fail)
        go_wp2
        go_roundw
        case rel => exact ⟨k + 1, by omega, by go_num, fun j h1 => by
          by_cases ej : j = k
          · subst ej; rw [unhide HH]; rfl
          · exact unhide HA j (by omega), (unhide HW).drewN _⟩
        case measure => simp [intOf]; omega
      · have hb' : ((pad l k).hop != 0) = true := by simpa using hh
        have HH := hide hb'
        cases hin : inB a (pad l k) with
        | true =>
          have HI := hide hin
          clear hin
          go_wp2_with fail
          go_quiet ((go_at_call 82; exact Calls.quiet_of_same (contains_any _ _ _ _ (unhide HP) (unhide HA2))))
          have hcb : containsB (pad l k).addr (pad l k).len a = true := unhide HI
          rw [hcb]
          clear hcb
          go_wp2
          go_ret
          refine ⟨?_, (unhide HW).drewN _⟩
          have : leadsL l a = true := by
            unfold leadsL
            rw [List.any_eq_true]
            refine ⟨l[k], List.getElem_mem _, ?_⟩
            rw [← unhide HID, unhide HH, unhide HI]
            rfl
          rw [this]
          rfl
        | false =>
          have HI := hide hin
          clear hin
          go_wp2_with fail
          go_quiet ((go_at_call 82; exact Calls.quiet_of_same (contains_any _ _ _ _ (unhide HP) (unhide HA2))))
          have hcb : containsB (pad l k).addr (pad l k).len a = false := unhide HI
          rw [hcb]
          clear hcb
          go_wp2
          go_roundw
          case rel => exact ⟨k + 1, by omega, by go_num, fun j h1 => by
            by_cases ej : j = k
            · subst ej; rw [unhide HI, Bool.and_false]
            · exact unhide HA j (by omega), (unhide HW).drewN _⟩
          case measure => simp [intOf]; omega
    · obtain rfl : k = l.length := by omega
      clear hx
      go_wp2
      go_ret
      refine ⟨?_, unhide HW⟩
      have : leadsL l a = false := by
        unfold leadsL
        rw [List.any_eq_false]
        intro y hy
        obtain ⟨j, hj, rfl⟩ := List.mem_iff_getElem.1 hy
        have h0 := unhide HA j hj
        rw [pad_lt hj] at h0
        rw [h0]
        simp
      rw [this]
      rfl
end Go.Proofs.Ytgndledehlilkab
