import Derived.Test.YtgndledehlilkabPrT1M
import Derived.Test.YtgndledehlilkabAppend
namespace Go.Proofs.Ytgndledehlilkab
open Go.RowKit

def headF (addr len : Int) : Int := addr / pw (16 - len).toNat * pw (16 - len).toNat
set_option maxHeartbeats 400000 in
theorem head_any (addr len : Int) (w : World) (ha : 0 ≤ addr ∧ addr ≤ 65535) (hl : 0 ≤ len ∧ len ≤ 16) :
    Calls Try.prog 78 #[.int .i64 addr, .int .i64 len] w fun e w' => e = .returned (.int .i64 (headF addr len)) ∧ w' = w := by
  obtain ⟨a1, a2⟩ := ha
  obtain ⟨l1, l2⟩ := hl
  have hp := pw_le (j := (16 - len).toNat) (by omega)
  have e1 : wrap64 (addr / pw (16 - len).toNat * pw (16 - len).toNat) = headF addr len := by
    unfold headF
    generalize pw (16 - len).toNat = p at *
    have h1 : addr / p * p ≤ addr := by have := Int.mul_ediv_add_emod addr p; have := Int.emod_nonneg addr (b := p) (by omega); rw [Int.mul_comm]; omega
    have h2 : 0 ≤ addr / p * p := Int.mul_nonneg (Int.ediv_nonneg a1 (by omega)) (by omega)
    unfold wrap64
    omega
  have E1 := hide e1
  have h16 : (0 : Int) ≤ 16 - len := by omega
  have h64 : 16 - len ≤ 64 := by omega
  unfold pw at *
  clear e1
  go_enter Try.func78, Try.ntmps78
  go_wp2
  go_ret
  exact ⟨by rw [← unhide E1]; rfl, rfl⟩
theorem head_eq {addr len : Int} : (headF addr len == addr) = (addr % pw (16 - len).toNat == 0) := by
  unfold headF
  have := Int.mul_ediv_add_emod addr (pw (16 - len).toNat)
  rw [Int.mul_comm] at this
  rw [Bool.eq_iff_iff, beq_iff_eq, beq_iff_eq]
  omega
set_option maxHeartbeats 400000 in
theorem isAddr_any (a : Int) (w : World) :
    Calls Try.prog 67 #[.int .i64 a] w fun e w' => e = .returned (.bool (okAddr a)) ∧ w' = w := by
  by_cases h1 : 0 ≤ a
  · by_cases h2 : a ≤ 65535
    · have e1 : okAddr a = true := (okAddr_iff a).2 ⟨h1, h2⟩
      rw [e1]
      have d1 : decide (0 ≤ a) = true := by simpa using h1
      have d2 : decide (a ≤ 65535) = true := by simpa using h2
      clear e1
      go_enter Try.func67, Try.ntmps67
      go_wp2
      go_ret
      exact ⟨by simp [*], rfl⟩
    · have e1 : okAddr a = false := by rw [← Bool.not_eq_true, okAddr_iff]; omega
      rw [e1]
      have d1 : decide (0 ≤ a) = true := by simpa using h1
      have d2 : decide (a ≤ 65535) = false := by simpa using h2
      clear e1
      go_enter Try.func67, Try.ntmps67
      go_wp2
      go_ret
      exact ⟨by simp [*], rfl⟩
  · have e1 : okAddr a = false := by rw [← Bool.not_eq_true, okAddr_iff]; omega
    rw [e1]
    have d1 : decide (0 ≤ a) = false := by simpa using h1
    clear e1
    go_enter Try.func67, Try.ntmps67
    go_wp2
    go_ret
    exact ⟨by simp [*], rfl⟩
theorem isPfx_not {addr len : Int} (h : ¬ (0 ≤ addr ∧ addr ≤ 65535 ∧ 0 ≤ len ∧ len ≤ 16)) : isPfx addr len = false := by
  unfold isPfx
  rw [show decide (0 ≤ addr ∧ addr ≤ 65535 ∧ 0 ≤ len ∧ len ≤ 16) = false from by simpa using h]
  rfl
set_option maxHeartbeats 400000 in
theorem is_any (addr len : Int) (w : World) :
    Calls Try.prog 62 #[.int .i64 addr, .int .i64 len] w fun e w' => e = .returned (.bool (isPfx addr len)) ∧ w' = w := by
  by_cases ha : 0 ≤ addr ∧ addr ≤ 65535
  · have HK := hide ((okAddr_iff addr).2 ha)
    by_cases hl : 0 ≤ len ∧ len ≤ 16
    · have e1 : isPfx addr len = (headF addr len == addr) := by
        rw [head_eq]
        unfold isPfx
        rw [show decide (0 ≤ addr ∧ addr ≤ 65535 ∧ 0 ≤ len ∧ len ≤ 16) = true from by simp; omega]
        rfl
      rw [e1]
      have E := hide e1
      have HA := hide ha
      have HL := hide hl
      have d3 : ¬ len < 0 := by omega
      have d4 : decide (16 < len) = false := by simp; omega
      clear e1 ha hl
      go_enter Try.func62, Try.ntmps62
      go_wp2_with fail
      refine (isAddr_any _ _).mono ?_
      rintro e w' ⟨rfl, hw⟩
      replace hw := hw.symm
      subst hw
      rw [unhide HK]
      go_wp2_with (go_at_call 78; refine (head_any _ _ _ (unhide HA) (unhide HL)).mono ?_; rintro e w' ⟨rfl, hw⟩; replace hw := hw.symm; subst hw)
      go_ret
      exact ⟨rfl, rfl⟩
    · rw [isPfx_not (by omega)]
      by_cases h3 : len < 0
      · clear ha hl
        go_enter Try.func62, Try.ntmps62
        go_wp2_with fail
        refine (isAddr_any _ _).mono ?_
        rintro e w' ⟨rfl, hw⟩
        replace hw := hw.symm
        subst hw
        rw [unhide HK]
        go_wp2
        go_ret
        exact ⟨rfl, rfl⟩
      · have d4 : decide (16 < len) = true := by simp; omega
        clear ha hl
        go_enter Try.func62, Try.ntmps62
        go_wp2_with fail
        refine (isAddr_any _ _).mono ?_
        rintro e w' ⟨rfl, hw⟩
        replace hw := hw.symm
        subst hw
        rw [unhide HK]
        go_wp2
        go_ret
        exact ⟨rfl, rfl⟩
  · rw [isPfx_not (by omega)]
    have hk : okAddr addr = false := by rw [← Bool.not_eq_true, okAddr_iff]; exact ha
    have HK := hide hk
    clear ha hk
    go_enter Try.func62, Try.ntmps62
    go_wp2_with fail
    refine (isAddr_any _ _).mono ?_
    rintro e w' ⟨rfl, hw⟩
    replace hw := hw.symm
    subst hw
    rw [unhide HK]
    go_wp2
    go_ret
    exact ⟨rfl, rfl⟩
theorem head_contains {addr len a : Int} (h : isPfx addr len = true) : (headF a len == addr) = containsB addr len a := by
  unfold isPfx at h
  rw [Bool.and_eq_true, decide_eq_true_eq, beq_iff_eq] at h
  unfold headF containsB
  have hp := pw_le (j := (16 - len).toNat) (by omega)
  have h2 := h.2
  generalize pw (16 - len).toNat = p at *
  have h1 := Int.mul_ediv_add_emod addr p
  rw [h2, Int.mul_comm] at h1
  rw [Bool.eq_iff_iff, beq_iff_eq, beq_iff_eq]
  constructor
  · intro e
    rw [← e, Int.mul_ediv_cancel _ (by omega)]
  · intro e
    rw [← e]
    omega
set_option maxHeartbeats 400000 in
theorem contains_any (addr len a : Int) (w : World) (hp : isPfx addr len = true) (ha : 0 ≤ a ∧ a ≤ 65535) :
    Calls Try.prog 82 #[.int .i64 addr, .int .i64 len, .int .i64 a] w fun e w' => e = .returned (.bool (containsB addr len a)) ∧ w' = w := by
  have e1 := head_contains (a := a) hp
  rw [← e1]
  have hl : 0 ≤ len ∧ len ≤ 16 := by obtain ⟨_, _, c, d⟩ := isPfx_ok hp; exact ⟨c, d⟩
  have HP := hide hp
  have HA := hide ha
  have HL := hide hl
  clear e1 hp ha hl
  go_enter Try.func82, Try.ntmps82
  go_wp2_with fail
  refine (is_any _ _ _).mono ?_
  rintro e w' ⟨rfl, hw⟩
  replace hw := hw.symm
  subst hw
  rw [unhide HP]
  go_wp2_with (go_at_call 78; refine (head_any _ _ _ (unhide HA) (unhide HL)).mono ?_; rintro e w' ⟨rfl, hw⟩; replace hw := hw.symm; subst hw)
  go_ret
  exact ⟨rfl, rfl⟩
def befB (x : RouteD) (addr len : Int) : Bool := if x.addr = addr then decide (x.len < len) else decide (x.addr < addr)
set_option maxHeartbeats 400000 in
theorem before_any (x : RouteD) (addr len : Int) (w : World) :
    Calls Try.prog 84 #[.int .i64 x.addr, .int .i64 x.len, .int .i64 addr, .int .i64 len] w fun e w' => e = .returned (.bool (befB x addr len)) ∧ w' = w := by
  obtain ⟨a, l, hop, fr⟩ := x
  by_cases h : a = addr
  · have e1 : befB ⟨a, l, hop, fr⟩ addr len = decide (l < len) := by unfold befB; rw [if_pos h]
    rw [e1]
    have d1 : (a != addr) = false := by simpa using h
    clear e1 h
    go_enter Try.func84, Try.ntmps84
    go_wp2
    go_ret
    exact ⟨rfl, rfl⟩
  · have e1 : befB ⟨a, l, hop, fr⟩ addr len = decide (a < addr) := by unfold befB; rw [if_neg h]
    rw [e1]
    have d1 : (a != addr) = true := by simpa using h
    clear e1 h
    go_enter Try.func84, Try.ntmps84
    go_wp2
    go_ret
    exact ⟨rfl, rfl⟩

section
variable {w : World} {b o n : Nat} {f : Nat → RouteD}
set_option maxHeartbeats 400000 in
theorem len_any (h : LAt w b o n f) : Calls Try.prog 71 #[.pointer (some ⟨b, o, none⟩)] w fun e w' => e = .returned (.int .i64 (n : Int)) ∧ w' = w := by
  have c := h.cnt
  clear h
  go_enter Try.func71, Try.ntmps71
  go_wp2
  go_ret
  exact ⟨rfl, rfl⟩
set_option maxHeartbeats 400000 in
theorem at_any (h : LAt w b o n f) {k : Nat} (hk : k < n) :
    Calls Try.prog 73 #[.pointer (some ⟨b, o, none⟩), .int .i64 (k : Int)] w fun e w' => e = .returned (.agg #[.int .i64 (f k).addr, .int .i64 (f k).len, .int .i64 (f k).hop, .int .i64 (f k).from_]) ∧ Still w w' := by
  have hm := h.most
  have c := h.cnt
  have c0 := h.addr k (by omega)
  have c1 := h.len k (by omega)
  have c2 := h.hop k (by omega)
  have c3 := h.frm k (by omega)
  have hb := h.lt
  have d1 : decide ((n : Int) ≤ (k : Int)) = false := by simp; omega
  clear h
  generalize f k = x at *
  go_enter Try.func73, Try.ntmps73
  go_wp2
  refine bodyPost_ret (v := .agg #[.int .i64 x.addr, .int .i64 x.len, .int .i64 x.hop, .int .i64 x.from_]) ?_ rfl ?_
  · simp [results, Try.results73, go_sem]
  · exact ⟨rfl, (Kept.refl _ _).alloc _⟩
/-- The place of a prefix. -/
def IsPl (f : Nat → RouteD) (n : Nat) (addr len : Int) (i : Nat) : Prop := i ≤ n ∧ (∀ j, j < i → befB (f j) addr len = true) ∧ (i < n → befB (f i) addr len = false)
set_option maxHeartbeats 1000000 in
theorem place_any (h : LAt w b o n f) (addr len : Int) :
    Calls Try.prog 79 #[.pointer (some ⟨b, o, none⟩), .int .i64 addr, .int .i64 len] w fun e w' => ∃ i : Nat, IsPl f n addr len i ∧ e = .returned (.int .i64 (i : Int)) ∧ Still w w' := by
  have hm := h.most
  have HX := hide h
  have hb := h.lt
  clear h
  go_enter Try.func79, Try.ntmps79
  go_wp2
  go_loopw [7] (fun s w' => ∃ k : Nat, k ≤ n ∧ s = .int .i64 k ∧ (∀ j, j < k → befB (f j) addr len = true) ∧ Still w w') (fun s _ => n - (intOf s).toNat)
  case atStart => exact ⟨0, Nat.zero_le _, rfl, fun j hj => absurd hj (Nat.not_lt_zero _), Kept.refl _ _⟩
  case round =>
    obtain ⟨k, hk, rfl, hall, hw⟩ := hrel
    have hx := (unhide HX).still hw
    have hbr : b < wr.heap.size := hx.lt
    have c := hx.cnt
    have HA := hide hall
    have HW := hide hw
    clear hall hw
    by_cases hlt : k < n
    · have c0 := hx.addr k (by omega)
      have c1 := hx.len k (by omega)
      clear hx
      have d1 : decide ((k : Int) < (n : Int)) = true := by simp; omega
      cases hbf : befB (f k) addr len with
      | true =>
        have HB := hide hbf
        clear hbf
        go_wp2_with fail
        go_quiet ((go_at_call 84; exact Calls.quiet_of_same (before_any _ _ _ _)))
        rw [unhide HB]
        go_wp2
        go_roundw
        case rel => exact ⟨k + 1, by omega, by go_num, fun j hj => by
          by_cases ej : j = k
          · subst ej; exact unhide HB
          · exact unhide HA j (by omega), (unhide HW).drewN _⟩
        case measure => simp [intOf]; omega
      | false =>
        have HB := hide hbf
        clear hbf
        go_wp2_with fail
        go_quiet ((go_at_call 84; exact Calls.quiet_of_same (before_any _ _ _ _)))
        rw [unhide HB]
        go_wp2
        go_ret
        exact ⟨k, ⟨hk, unhide HA, fun _ => unhide HB⟩, rfl, (unhide HW).drewN _⟩
    · clear hx
      have d1 : decide ((k : Int) < (n : Int)) = false := by simp; omega
      go_wp2_with fail
      go_quiet (fail)
      go_wp2
      go_ret
      exact ⟨k, ⟨hk, unhide HA, fun hh => absurd hh hlt⟩, rfl, (unhide HW).drewN _⟩
def stB (f : Nat → RouteD) (n k : Nat) (addr len : Int) : Bool := decide (k < n) && ((f k).addr == addr && (f k).len == len)
set_option maxHeartbeats 1000000 in
theorem stands_any (h : LAt w b o n f) (k : Nat) (addr len : Int) :
    Calls Try.prog 80 #[.pointer (some ⟨b, o, none⟩), .int .i64 (k : Int), .int .i64 addr, .int .i64 len] w fun e w' => e = .returned (.bool (stB f n k addr len)) ∧ w' = w := by
  have hm := h.most
  have c := h.cnt
  by_cases hlt : k < n
  · have c0 := h.addr k (by omega)
    have c1 := h.len k (by omega)
    have e1 : stB f n k addr len = ((f k).addr == addr && (f k).len == len) := by unfold stB; rw [show decide (k < n) = true from by simpa using hlt]; rfl
    rw [e1]
    have d1 : decide ((k : Int) < (n : Int)) = true := by simp; omega
    clear h e1
    generalize f k = x at *
    cases ha : ((x.addr == addr) : Bool) with
    | true =>
      go_enter Try.func80, Try.ntmps80
      go_wp2
      go_ret
      exact ⟨rfl, rfl⟩
    | false =>
      go_enter Try.func80, Try.ntmps80
      go_wp2
      go_ret
      exact ⟨rfl, rfl⟩
  · have e1 : stB f n k addr len = false := by unfold stB; rw [show decide (k < n) = false from by simpa using hlt]; rfl
    rw [e1]
    have d1 : decide ((k : Int) < (n : Int)) = false := by simp; omega
    clear h e1
    go_enter Try.func80, Try.ntmps80
    go_wp2
    go_ret
    exact ⟨rfl, rfl⟩
set_option maxHeartbeats 1000000 in
theorem hasL_any (h : LAt w b o n f) (addr len : Int) :
    Calls Try.prog 85 #[.pointer (some ⟨b, o, none⟩), .int .i64 addr, .int .i64 len] w fun e w' => ∃ i : Nat, IsPl f n addr len i ∧ e = .returned (.bool (stB f n i addr len)) ∧ Still w w' := by
  have HX := hide h
  go_enter Try.func85, Try.ntmps85
  go_wp2_with fail
  refine (place_any h _ _).mono ?_
  rintro e w1 ⟨i, hi, rfl, hs⟩
  clear h
  have HI := hide hi
  have HS := hide hs
  clear hi hs
  go_wp2_with (go_at_call 80; refine (stands_any ((unhide HX).still (unhide HS)) _ _ _).mono ?_; rintro e w' ⟨rfl, hw⟩; replace hw := hw.symm; subst hw)
  go_ret
  exact ⟨i, unhide HI, rfl, unhide HS⟩
end

/-- A route in a block of its own. -/
structure BoxX (w : World) (s : Nat) (x : RouteD) : Prop where
  lt : s < w.heap.size
  c0 : w.cell? ⟨s, 0, none⟩ = some (.int .i64 x.addr)
  c1 : w.cell? ⟨s, 1, none⟩ = some (.int .i64 x.len)
  c2 : w.cell? ⟨s, 2, none⟩ = some (.int .i64 x.hop)
  c3 : w.cell? ⟨s, 3, none⟩ = some (.int .i64 x.from_)
theorem BoxX.new (w : World) (x : RouteD) (t : TypeId) : BoxX (w.alloc (.cells #[.int .i64 x.addr, .int .i64 x.len, .int .i64 x.hop, .int .i64 x.from_] t)) w.heap.size x := by
  refine ⟨by simp, ?_, ?_, ?_, ?_⟩ <;> rw [World.cell?_alloc_new] <;> rfl
theorem BoxX.kept {w w' : World} {s : Nat} {x : RouteD} {P : Nat → Prop} (h : BoxX w s x) (hk : Kept P w w') (hp : ¬ P s) : BoxX w' s x :=
  ⟨Nat.lt_of_lt_of_le h.lt hk.size, (hk.cell (p := ⟨s, 0, none⟩) h.lt hp).trans h.c0, (hk.cell (p := ⟨s, 1, none⟩) h.lt hp).trans h.c1, (hk.cell (p := ⟨s, 2, none⟩) h.lt hp).trans h.c2, (hk.cell (p := ⟨s, 3, none⟩) h.lt hp).trans h.c3⟩
def shF (f : Nat → RouteD) (n m : Nat) : Nat → RouteD := fun j => if m < j ∧ j ≤ n then f (j - 1) else f j
def insAt (f : Nat → RouteD) (n i : Nat) (x : RouteD) : Nat → RouteD := fun j => if j < i then f j else if j = i then x else if j ≤ n then f (j - 1) else f j
theorem shF_top (f : Nat → RouteD) (n : Nat) : shF f n n = f := by
  funext j
  unfold shF
  rw [if_neg (by omega)]
theorem shF_low (f : Nat → RouteD) (n : Nat) {m : Nat} (h : 1 ≤ m) : shF f n m (m - 1) = f (m - 1) := by
  unfold shF
  rw [if_neg (by omega)]
theorem shF_step (f : Nat → RouteD) {n m : Nat} (h1 : m + 1 ≤ n) : upd (shF f n (m + 1)) (m + 1) (f m) = shF f n m := by
  funext j
  unfold upd shF
  by_cases e : j = m + 1
  · subst e; rw [if_pos rfl, if_pos (by omega), Nat.add_sub_cancel]
  · rw [if_neg e]
    by_cases h : m + 1 < j ∧ j ≤ n
    · rw [if_pos h, if_pos (by omega)]
    · rw [if_neg h, if_neg (by omega)]
theorem shF_end (f : Nat → RouteD) {n i : Nat} (x : RouteD) : upd (shF f n i) i x = insAt f n i x := by
  funext j
  unfold upd shF insAt
  by_cases e : j = i
  · subst e; rw [if_pos rfl, if_neg (by omega), if_pos rfl]
  · rw [if_neg e]
    by_cases h : j < i
    · rw [if_neg (by omega), if_pos h]
    · rw [if_neg h, if_neg e]
      by_cases h2 : j ≤ n
      · rw [if_pos (by omega), if_pos h2]
      · rw [if_neg (by omega), if_neg h2]
def PutPost (w : World) (b o n : Nat) (f : Nat → RouteD) (x : RouteD) (most : Int) (en : Ending) (w' : World) : Prop :=
  ∃ i : Nat, IsPl f n x.addr x.len i ∧ Within b o 257 w w' ∧
    ((stB f n i x.addr x.len = true ∧ en = .returned (.int .i64 0) ∧ LAt w' b o n (upd f i x)) ∨
     (stB f n i x.addr x.len = false ∧ (most ≤ n ∨ 64 ≤ n) ∧ en = .returned (.int .i64 8) ∧ LAt w' b o n f) ∨
     (stB f n i x.addr x.len = false ∧ (n : Int) < most ∧ n < 64 ∧ en = .returned (.int .i64 0) ∧ LAt w' b o (n + 1) (insAt f n i x)))
theorem within_put {b o : Nat} {w w' : World} (h : Within b o 257 w w') {k : Nat} (hk : k < 64) (x : RouteD) :
    Within b o 257 w ((((w'.setCell ⟨b, o + 1 + k * 4, none⟩ (.int .i64 x.addr)).setCell ⟨b, o + 1 + k * 4 + 1, none⟩ (.int .i64 x.len)).setCell ⟨b, o + 1 + k * 4 + 2, none⟩ (.int .i64 x.hop)).setCell ⟨b, o + 1 + k * 4 + 3, none⟩ (.int .i64 x.from_)) :=
  (((h.setCell (by omega) _).setCell (by omega) _).setCell (by omega) _).setCell (by omega) _
set_option maxHeartbeats 4000000 in
theorem put_any {w : World} {b o n : Nat} {f : Nat → RouteD} (h : LAt w b o n f) (x : RouteD) (most : Int) :
    Calls Try.prog 63 #[.pointer (some ⟨b, o, none⟩), .agg #[.int .i64 x.addr, .int .i64 x.len, .int .i64 x.hop, .int .i64 x.from_], .int .i64 most] w fun en w' => PutPost w b o n f x most en w' := by
  have hm := h.most
  have hb := h.lt
  have hbx := BoxX.new w x 42
  have hW : Still w (w.alloc (.cells #[.int .i64 x.addr, .int .i64 x.len, .int .i64 x.hop, .int .i64 x.from_] 42)) := (Kept.refl _ _).alloc _
  have HX := hide (h.still hW)
  have HBX := hide hbx
  have HW := hide hW
  clear h hbx hW
  go_enter Try.func63, Try.ntmps63
  go_wp2_with fail
  refine (place_any (unhide HX) _ _).mono ?_
  rintro e w1 ⟨i, hi, rfl, hs⟩
  have hl1 := (unhide HX).still hs
  have hb1 := (unhide HBX).kept hs (fun q => q)
  have hw1 : Within b o 257 w w1 := Within.of_still hb ((unhide HW).trans hs)
  have hne : w.heap.size ≠ b := by omega
  have hi1 := hi.1
  have HI := hide hi
  have HW1 := hide hw1
  have HB1 := hide hb1
  have HL1 := hide hl1
  have b1l := hb1.lt
  have q0 := hb1.c0
  have q1 := hb1.c1
  have q2 := hb1.c2
  have q3 := hb1.c3
  clear hi hs hw1 hb1 hl1 HX HBX HW
  generalize w.heap.size = s at *
  cases hst : stB f n i x.addr x.len with
  | true =>
    have hlt : i < n := by
      unfold stB at hst
      simp only [Bool.and_eq_true, decide_eq_true_eq] at hst
      exact hst.1
    have l0 := (unhide HL1).addr i (by omega)
    have l1 := (unhide HL1).len i (by omega)
    have l2 := (unhide HL1).hop i (by omega)
    have l3 := (unhide HL1).frm i (by omega)
    have fz := (unhide HL1).fz
    have lb := (unhide HL1).lt
    have HST := hide hst
    clear hst
    go_wp2_with fail
    refine (stands_any (unhide HL1) _ _ _).mono ?_
    rintro e w' ⟨rfl, hw⟩
    replace hw := hw.symm
    subst hw
    rw [unhide HST]
    go_wp2
    go_region
    go_wp2
    go_ret
    refine ⟨i, unhide HI, ?_, Or.inl ⟨unhide HST, rfl, ?_⟩⟩
    · exact (within_put (unhide HW1) (by omega) x).still (by simpa using lb) ((Kept.refl _ _).drew)
    · exact ((unhide HL1).put (by omega) x).still ((Kept.refl _ _).drew)
  | false =>
    have HST := hide hst
    have cn := (unhide HL1).cnt
    have lb := (unhide HL1).lt
    clear hst
    by_cases hq : most ≤ (n : Int) ∨ 64 ≤ n
    · have HQ := hide hq
      by_cases hq1 : most ≤ (n : Int)
      · have d1 : decide (most ≤ (n : Int)) = true := by simpa using hq1
        clear hq
        go_wp2_with fail
        refine (stands_any (unhide HL1) _ _ _).mono ?_
        rintro e w' ⟨rfl, hw⟩
        replace hw := hw.symm
        subst hw
        rw [unhide HST]
        go_wp2
        go_ret
        exact ⟨i, unhide HI, unhide HW1, Or.inr (Or.inl ⟨unhide HST, unhide HQ, rfl, unhide HL1⟩)⟩
      · have d1 : decide (most ≤ (n : Int)) = false := by simpa using hq1
        have d2 : decide ((64 : Int) ≤ (n : Int)) = true := by simp; omega
        clear hq
        go_wp2_with fail
        refine (stands_any (unhide HL1) _ _ _).mono ?_
        rintro e w' ⟨rfl, hw⟩
        replace hw := hw.symm
        subst hw
        rw [unhide HST]
        go_wp2
        go_ret
        exact ⟨i, unhide HI, unhide HW1, Or.inr (Or.inl ⟨unhide HST, unhide HQ, rfl, unhide HL1⟩)⟩
    · have d1 : decide (most ≤ (n : Int)) = false := by simp; omega
      have d2 : decide ((64 : Int) ≤ (n : Int)) = false := by simp; omega
      have hn64 : n < 64 := by omega
      have hnm : (n : Int) < most := by omega
      have HNM := hide hnm
      clear hq hnm
      go_wp2_with fail
      refine (stands_any (unhide HL1) _ _ _).mono ?_
      rintro e w' ⟨rfl, hw⟩
      replace hw := hw.symm
      subst hw
      rw [unhide HST]
      go_wp2
      go_loopw [8] (fun t w' => ∃ m : Nat, i ≤ m ∧ m ≤ n ∧ t = .int .i64 m ∧ LAt w' b o n (shF f n m) ∧ Within b o 257 w1 w') (fun t _ => (intOf t).toNat)
      case atStart => exact ⟨n, hi1, Nat.le_refl _, rfl, by rw [shF_top]; exact unhide HL1, Within.refl _ _ _ _⟩
      case round =>
        obtain ⟨m, hm1, hm2, rfl, hx, hwi⟩ := hrel
        have hbr := (unhide HB1).kept hwi.kept hne
        have p0 := hbr.c0
        have p1 := hbr.c1
        have p2 := hbr.c2
        have p3 := hbr.c3
        have fzr := hx.fz
        have lbr := hx.lt
        have cnr := hx.cnt
        have HXR := hide hx
        have HWR := hide hwi
        by_cases hlt : i < m
        · obtain ⟨m, rfl⟩ : ∃ m' : Nat, m = m' + 1 := ⟨m - 1, by omega⟩
          have l0 := hx.addr (m + 1) (by omega)
          have l1 := hx.len (m + 1) (by omega)
          have l2 := hx.hop (m + 1) (by omega)
          have l3 := hx.frm (m + 1) (by omega)
          have e0 : shF f n (m + 1) m = f m := by have := shF_low f n (m := m + 1) (by omega); simpa using this
          have k0 := hx.addr m (by omega)
          have k1 := hx.len m (by omega)
          have k2 := hx.hop m (by omega)
          have k3 := hx.frm m (by omega)
          rw [e0] at k0 k1 k2 k3
          have hc : ((m + 1 : Nat) : Int) = (m : Int) + 1 := by omega
          rw [hc]
          have d3 : decide ((i : Int) < (m : Int) + 1) = true := by simp; omega
          clear hx hwi hbr e0 p0 p1 p2 p3
          go_wp2
          go_region
          go_wp2
          go_roundw
          case rel => exact ⟨m, by omega, by omega, by go_num, by rw [← shF_step f (by omega)]; exact ((unhide HXR).put (by omega) (f m)).still ((Kept.refl _ _).drew), (within_put (unhide HWR) (by omega) (f m)).still (by simpa using lbr) ((Kept.refl _ _).drew)⟩
          case measure => simp [intOf]
        · obtain rfl : m = i := by omega
          have l0 := hx.addr m (by omega)
          have l1 := hx.len m (by omega)
          have l2 := hx.hop m (by omega)
          have l3 := hx.frm m (by omega)
          clear hx hwi hbr
          go_wp2
          go_region
          go_wp2
          go_ret
          refine ⟨m, unhide HI, ?_, Or.inr (Or.inr ⟨unhide HST, unhide HNM, hn64, rfl, ?_⟩)⟩
          · have x1 := (within_put (unhide HWR) (k := m) (by omega) x).still (by simpa using lbr) ((Kept.refl _ _).drew)
            exact ((unhide HW1).trans x1).setCell (j := o) (by omega) _
          · have x1 := ((unhide HXR).put (k := m) (by omega) x).still ((Kept.refl _ _).drew)
            rw [shF_end] at x1
            have x2 := x1.setCnt (m := n + 1) (by omega)
            rw [show ((n + 1 : Nat) : Int) = (n : Int) + 1 from by omega] at x2
            exact x2

def dnF (f : Nat → RouteD) (i m : Nat) : Nat → RouteD := fun j => if i ≤ j ∧ j < m then f (j + 1) else f j
def delAt (f : Nat → RouteD) (c i : Nat) : Nat → RouteD := fun j => if j < i then f j else if j < c then f (j + 1) else if j = c then rt0 else f j
theorem dnF_start (f : Nat → RouteD) (i : Nat) : dnF f i i = f := by
  funext j
  unfold dnF
  rw [if_neg (by omega)]
theorem dnF_high (f : Nat → RouteD) (i m : Nat) : dnF f i m (m + 1) = f (m + 1) := by
  unfold dnF
  rw [if_neg (by omega)]
theorem dnF_step (f : Nat → RouteD) {i m : Nat} (h : i ≤ m) : upd (dnF f i m) m (f (m + 1)) = dnF f i (m + 1) := by
  funext j
  unfold upd dnF
  by_cases e : j = m
  · subst e; rw [if_pos rfl, if_pos (by omega)]
  · rw [if_neg e]
    by_cases h2 : i ≤ j ∧ j < m
    · rw [if_pos h2, if_pos (by omega)]
    · rw [if_neg h2, if_neg (by omega)]
theorem dnF_end (f : Nat → RouteD) {i c : Nat} (h : i ≤ c) : upd (dnF f i c) c rt0 = delAt f c i := by
  funext j
  unfold upd dnF delAt
  by_cases e : j = c
  · subst e; rw [if_pos rfl, if_neg (by omega), if_neg (by omega), if_pos rfl]
  · rw [if_neg e]
    by_cases h1 : j < i
    · rw [if_neg (by omega), if_pos h1]
    · rw [if_neg h1]
      by_cases h2 : j < c
      · rw [if_pos (by omega), if_pos h2]
      · rw [if_neg (by omega), if_neg h2, if_neg e]
def RemPost (w : World) (b o n : Nat) (f : Nat → RouteD) (addr len : Int) (en : Ending) (w' : World) : Prop :=
  ∃ i : Nat, IsPl f n addr len i ∧ Within b o 257 w w' ∧
    ((stB f n i addr len = false ∧ en = .returned (.int .i64 9) ∧ LAt w' b o n f) ∨
     (stB f n i addr len = true ∧ en = .returned (.int .i64 0) ∧ LAt w' b o (n - 1) (delAt f (n - 1) i)))
set_option maxHeartbeats 4000000 in
theorem removeL_any {w : World} {b o n : Nat} {f : Nat → RouteD} (h : LAt w b o n f) (addr len : Int) :
    Calls Try.prog 64 #[.pointer (some ⟨b, o, none⟩), .int .i64 addr, .int .i64 len] w fun en w' => RemPost w b o n f addr len en w' := by
  have hm := h.most
  have hb := h.lt
  have HX := hide h
  clear h
  go_enter Try.func64, Try.ntmps64
  go_wp2_with fail
  refine (place_any (unhide HX) _ _).mono ?_
  rintro e w1 ⟨i, hi, rfl, hs⟩
  have hl1 := (unhide HX).still hs
  have hw1 : Within b o 257 w w1 := Within.of_still hb hs
  have hi1 := hi.1
  have HI := hide hi
  have HW1 := hide hw1
  have HL1 := hide hl1
  have cn := hl1.cnt
  have lb := hl1.lt
  have fz := hl1.fz
  clear hi hs hw1 hl1 HX
  cases hst : stB f n i addr len with
  | false =>
    have HST := hide hst
    clear hst
    go_wp2_with fail
    refine (stands_any (unhide HL1) _ _ _).mono ?_
    rintro e w' ⟨rfl, hw⟩
    replace hw := hw.symm
    subst hw
    rw [unhide HST]
    go_wp2
    go_ret
    exact ⟨i, unhide HI, unhide HW1, Or.inl ⟨unhide HST, rfl, unhide HL1⟩⟩
  | true =>
    have hlt : i < n := by
      unfold stB at hst
      simp only [Bool.and_eq_true, decide_eq_true_eq] at hst
      exact hst.1
    obtain ⟨c, rfl⟩ : ∃ c, n = c + 1 := ⟨n - 1, by omega⟩
    have HST := hide hst
    have HLC : Hid (LAt (w1.setCell ⟨b, o, none⟩ (.int .i64 (c : Int))) b o c f) := (unhide HL1).setCnt (by omega)
    have HWC : Hid (Within b o 257 w (w1.setCell ⟨b, o, none⟩ (.int .i64 (c : Int)))) := (unhide HW1).setCell (j := o) (by omega) _
    have hc1 : ((c + 1 : Nat) : Int) = (c : Int) + 1 := by omega
    rw [hc1] at cn
    clear hst
    go_wp2_with fail
    refine (stands_any (unhide HL1) _ _ _).mono ?_
    rintro e w' ⟨rfl, hw⟩
    replace hw := hw.symm
    subst hw
    rw [unhide HST]
    go_wp2
    generalize w1.setCell ⟨b, o, none⟩ (.int .i64 (c : Int)) = w2 at *
    go_loopw [8] (fun t w' => ∃ m : Nat, i ≤ m ∧ m ≤ c ∧ t = .int .i64 m ∧ LAt w' b o c (dnF f i m) ∧ Within b o 257 w2 w') (fun t _ => c - (intOf t).toNat)
    case atStart => exact ⟨i, Nat.le_refl _, by omega, rfl, by rw [dnF_start]; exact unhide HLC, Within.refl _ _ _ _⟩
    case round =>
      obtain ⟨m, hm1, hm2, rfl, hx, hwi⟩ := hrel
      have fzr := hx.fz
      have lbr := hx.lt
      have cnr := hx.cnt
      have HXR := hide hx
      have HWR := hide hwi
      have l0 := hx.addr m (by omega)
      have l1 := hx.len m (by omega)
      have l2 := hx.hop m (by omega)
      have l3 := hx.frm m (by omega)
      by_cases hltm : m < c
      · have k0 := hx.addr (m + 1) (by omega)
        have k1 := hx.len (m + 1) (by omega)
        have k2 := hx.hop (m + 1) (by omega)
        have k3 := hx.frm (m + 1) (by omega)
        rw [dnF_high] at k0 k1 k2 k3
        have d3 : decide ((m : Int) < (c : Int)) = true := by simp; omega
        clear hx hwi cn fz lb
        go_wp2
        go_region
        go_wp2
        go_roundw
        case rel => exact ⟨m + 1, by omega, by omega, by go_num, by rw [← dnF_step f (by omega)]; exact ((unhide HXR).put (k := m) (by omega) (f (m + 1))).still ((Kept.refl _ _).drew), (within_put (unhide HWR) (k := m) (by omega) (f (m + 1))).still (by simpa using lbr) ((Kept.refl _ _).drew)⟩
        case measure => simp [intOf]; omega
      · obtain rfl : m = c := by omega
        have d3 : decide ((m : Int) < (m : Int)) = false := by simp
        clear hx hwi cn fz lb
        go_wp2
        go_region
        go_wp2
        go_ret
        refine ⟨i, unhide HI, ?_, Or.inr ⟨unhide HST, rfl, ?_⟩⟩
        · exact (unhide HWC).trans ((within_put (unhide HWR) (k := m) (by omega) rt0).still (by simpa using lbr) ((Kept.refl _ _).drew))
        · have x1 := ((unhide HXR).put (k := m) (by omega) rt0).still ((Kept.refl _ _).drew)
          rw [dnF_end _ (by omega)] at x1
          exact x1

theorem infoRouteX : (Try.prog.info? 42).map (fun i => (i.zero, i.size, i.bytes)) = some (some (.agg #[.int .i64 0, .int .i64 0, .int .i64 0, .int .i64 0]), 4, 32) := by kernel_rfl
def listOf (f : Nat → RouteD) (n : Nat) : List RouteD := (List.range n).map f
theorem listOf_succ (f : Nat → RouteD) (n : Nat) : listOf f (n + 1) = listOf f n ++ [f n] := by simp [listOf, List.range_succ]
theorem listOf_len (f : Nat → RouteD) (n : Nat) : (listOf f n).length = n := by simp [listOf]
theorem listOf_pad (l : List RouteD) : listOf (pad l) l.length = l := by
  apply List.ext_getElem
  · simp [listOf]
  · intro i h1 h2
    simp [listOf, pad, List.getD_eq_getElem?_getD, h2]
set_option maxHeartbeats 2000000 in
theorem all_any {w : World} {b o n : Nat} {f : Nat → RouteD} (h : LAt w b o n f) :
    Calls Try.prog 66 #[.pointer (some ⟨b, o, none⟩)] w fun en w' => ∃ v, en = .returned v ∧ w'.ownsRow w.heap.size 42 4 v n ((listOf f n).flatMap routeCells) ∧ Still w w' := by
  have hm := h.most
  have hb := h.lt
  have HX := hide h
  clear h
  obtain ⟨i0, hi0, hz0, hz1, hz2⟩ := info_parts infoRouteX
  go_enter Try.func66, Try.ntmps66
  go_wp2
  go_loopw [3, 4] (fun s i w' => ∃ k : Nat, k ≤ n ∧ i = .int .i64 k ∧ w'.ownsRow w.heap.size 42 4 s k ((listOf f k).flatMap routeCells) ∧ Still w w') (fun _ i _ => n - (intOf i).toNat)
  case atStart => exact ⟨0, Nat.zero_le _, rfl, World.ownsRow_nil _ _ _ _, Kept.refl _ _⟩
  case round =>
    obtain ⟨k, hk, rfl, hko, hks⟩ := hrel
    obtain ⟨ka, kc, rfl, hk1, hk2⟩ := ownsRow_slice hko
    unfold maxLen at hk2
    have hx := (unhide HX).still hks
    have cn := hx.cnt
    have hbr := hx.lt
    have hzk := hks.size
    have HKO := hide hko
    have HKS := hide hks
    clear hko hks
    by_cases hlt : k < n
    · have x0 := hx.addr k (by omega)
      have x1 := hx.len k (by omega)
      have x2 := hx.hop k (by omega)
      have x3 := hx.frm k (by omega)
      have E := hide (listOf_succ f k)
      clear hx
      generalize f k = x at *
      go_wp2_with (at_builtin; refine wpList_append_lies _ rfl _ _ _ rfl w.heap.size 42 i0 _ 4 32 Try.underlying38 hi0 hz0 hz1 hz2 rfl (by omega) (.slice ka k kc) k _ rfl ((unhide HKO).alloc _) ⟨wr.heap.size, 0, none⟩ 1 1 [.int .i64 x.addr, .int .i64 x.len, .int .i64 x.hop, .int .i64 x.from_] rfl rfl (World.news_of_block (cs := #[.int .i64 x.addr, .int .i64 x.len, .int .i64 x.hop, .int .i64 x.from_]) (t := 42) (fr := (0, 0)) (heap_alloc_new wr _)) (by simp [Value.oneCell']) (by omega) (by unfold maxLen; omega) (by omega) (by simp; omega) (wr.heap.size + 1) (by simp) ?_; intro g4 cap4 w4 hown4 hgrow4 hat4 hlt4)
      have hks4 : Still w w4 := Kept.grown (Kept.alloc (unhide HKS) _) hgrow4 (fun z hz => .inr ((unhide HKO).lt z hz).1)
      go_roundw
      case rel =>
        refine ⟨k + 1, by omega, by go_num, ?_, hks4⟩
        rw [unhide E, flat_snoc]
        exact hown4
      case measure => simp [intOf]; omega
    · obtain rfl : k = n := by omega
      clear hx
      go_wp2
      go_ret
      exact ⟨_, rfl, unhide HKO, unhide HKS⟩
end Go.Proofs.Ytgndledehlilkab
