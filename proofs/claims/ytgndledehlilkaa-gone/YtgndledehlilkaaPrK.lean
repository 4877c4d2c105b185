/-
  Lists of the program's as plain lists: Has, Put, Remove; the walk of wants.
-/
import Derived.Test.YtgndledehlilkaaPrJ
import Derived.Deep.RegionHeld3
namespace Go.Proofs.Ytgndledehlilkaa
open Go.RowKit

section
variable {w : World} {b o : Nat} {l : List RouteD} {x : RouteD}
theorem hasL_fn (h : LAt w b o l.length (pad l)) (hs : Sorted l) (hl : ∀ y ∈ l, okRoute y) (hx : okRoute x) :
    Calls Try.prog 68 #[.pointer (some ⟨b, o, none⟩), .int .i64 x.addr, .int .i64 x.len] w fun e w' => e = .returned (.bool (hasP l x)) ∧ Still w w' := by
  refine (hasL_any h _ _).mono ?_
  rintro e w' ⟨i, hi, rfl, hst⟩
  rw [stands_has hs hl hx hi]
  exact ⟨rfl, hst⟩
def PutL (w : World) (b o : Nat) (l : List RouteD) (x : RouteD) (most : Int) (en : Ending) (w' : World) : Prop := Within b o 257 w w' ∧
  ((hasP l x = true ∧ en = .returned (.int .i64 0) ∧ LAt w' b o (putL l x).length (pad (putL l x)) ∧ (putL l x).length = l.length) ∨
   (hasP l x = false ∧ (most ≤ l.length ∨ 64 ≤ l.length) ∧ en = .returned (.int .i64 8) ∧ LAt w' b o l.length (pad l)) ∨
   (hasP l x = false ∧ (l.length : Int) < most ∧ l.length < 64 ∧ en = .returned (.int .i64 0) ∧ LAt w' b o (putL l x).length (pad (putL l x)) ∧ (putL l x).length = l.length + 1))
theorem put_fn (h : LAt w b o l.length (pad l)) (hs : Sorted l) (hl : ∀ y ∈ l, okRoute y) (hx : okRoute x) (most : Int) :
    Calls Try.prog 42 #[.pointer (some ⟨b, o, none⟩), .agg #[.int .i64 x.addr, .int .i64 x.len, .int .i64 x.hop, .int .i64 x.from_], .int .i64 most] w fun en w' => PutL w b o l x most en w' := by
  refine (put_any h x most).mono ?_
  rintro e w' ⟨i, hi, hw, hc⟩
  have hst := stands_has hs hl hx hi
  refine ⟨hw, ?_⟩
  rw [hst] at hc
  rcases hc with ⟨h1, rfl, h3⟩ | ⟨h1, h2, rfl, h3⟩ | ⟨h1, h2, h3, rfl, h4⟩
  · have hi3 : i < l.length := by
      rw [h1] at hst
      unfold stB at hst
      rw [Bool.and_eq_true, decide_eq_true_eq] at hst
      exact hst.1
    have hsm : sameB l[i] x = true := by
      rw [h1] at hst
      unfold stB at hst
      rw [Bool.and_eq_true, decide_eq_true_eq, pad_lt hi3] at hst
      exact hst.2
    have e := put_set hs hl hx hi3 hsm
    refine .inl ⟨h1, rfl, ?_, by rw [e, List.length_set]⟩
    rw [e, List.length_set, pad_set hi3]
    exact h3
  · exact .inr (.inl ⟨h1, h2, rfl, h3⟩)
  · have e := put_ins hs hl hx hi h1
    have hlen : (putL l x).length = l.length + 1 := by rw [e]; exact insI_len hi.1
    refine .inr (.inr ⟨h1, h2, h3, rfl, ?_, hlen⟩)
    rw [hlen, e]
    exact h4.congr fun j _ => (pad_ins hi.1 j).symm
theorem removeL_fn (h : LAt w b o l.length (pad l)) (hs : Sorted l) (hl : ∀ y ∈ l, okRoute y) (hx : okRoute x) :
    Calls Try.prog 43 #[.pointer (some ⟨b, o, none⟩), .int .i64 x.addr, .int .i64 x.len] w fun en w' => Within b o 257 w w' ∧
      ((hasP l x = false ∧ en = .returned (.int .i64 9) ∧ LAt w' b o l.length (pad l)) ∨ (hasP l x = true ∧ en = .returned (.int .i64 0) ∧ LAt w' b o (delL l x).length (pad (delL l x)))) := by
  refine (removeL_any h _ _).mono ?_
  rintro e w' ⟨i, hi, hw, hc⟩
  have hst := stands_has hs hl hx hi
  refine ⟨hw, ?_⟩
  rw [hst] at hc
  rcases hc with ⟨h1, rfl, h3⟩ | ⟨h1, rfl, h3⟩
  · exact .inl ⟨h1, rfl, h3⟩
  · have hi3 : i < l.length := by
      rw [h1] at hst
      unfold stB at hst
      rw [Bool.and_eq_true, decide_eq_true_eq] at hst
      exact hst.1
    have hsm : sameB l[i] x = true := by
      rw [h1] at hst
      unfold stB at hst
      rw [Bool.and_eq_true, decide_eq_true_eq, pad_lt hi3] at hst
      exact hst.2
    have e := del_erase hs hl hx hi3 hsm
    refine .inr ⟨h1, rfl, ?_⟩
    have hlen : (delL l x).length = l.length - 1 := by rw [e, List.length_eraseIdx, if_pos hi3]
    rw [hlen, e]
    exact h3.congr fun j _ => (pad_erase hi3 j).symm
end
/-- What the program's lists and rules keep to. -/
structure ProgOk (p : ProgS) : Prop where
  sorted : ∀ i, i < 8 → Sorted (p.own i)
  route : ∀ i, i < 8 → ∀ y ∈ p.own i, okRoute y
  rule : ∀ i, i < 8 → ∀ u ∈ p.rules i, ruleB u = true
/-- Does t want x? -/
def wantB (p : ProgS) (t : Nat) (x : RouteD) : Bool := !hasP (p.own t) x && letsB (p.rules t) x
set_option maxHeartbeats 1000000 in
theorem wants_any {w : World} {b : Nat} {p : ProgS} (h : XAt w b p) (hk : ProgOk p) {t : Nat} (ht : t < 8) {x : RouteD} (hx : okRoute x) :
    Calls Try.prog 69 #[.pointer (some ⟨b, 0, none⟩), .int .i64 (t : Int), .agg #[.int .i64 x.addr, .int .i64 x.len, .int .i64 x.hop, .int .i64 x.from_]] w fun en w' => en = .returned (.bool (wantB p t x)) ∧ Still w w' := by
  have hS : Still w (w.alloc (.cells #[.int .i64 x.addr, .int .i64 x.len, .int .i64 x.hop, .int .i64 x.from_] 34)) := (Kept.refl _ _).alloc _
  have hb := h.lt
  have HX := hide (h.still hS)
  have HB := hide (BoxX.new w x 34)
  have HS := hide hS
  have hxa : 0 ≤ x.addr ∧ x.addr ≤ 65535 := ⟨hx.a0, hx.a1⟩
  have HXA := hide hxa
  have ht0 : (0 : Int) ≤ (t : Int) := by omega
  have ht8 : (t : Int) < 8 := by omega
  clear h hS hxa
  have bx := unhide HB
  have q0 := bx.c0
  have q1 := bx.c1
  have ql := bx.lt
  clear bx HB
  go_enter Try.func69, Try.ntmps69
  go_wp2_with fail
  generalize w.heap.size = s0 at *
  generalize w.alloc (.cells #[.int .i64 x.addr, .int .i64 x.len, .int .i64 x.hop, .int .i64 x.from_] 34) = V at *
  have HL : Hid (LAt V.drew b (1 + t * 281 + 24) (p.own t).length (pad (p.own t))) := ((unhide HX).ow t ht).still ((Kept.refl _ _).drew)
  go_region_held3 (fun w' => w'.cell? ⟨s0, 0, none⟩ = some (.int .i64 x.addr) ∧ w'.cell? ⟨s0, 1, none⟩ = some (.int .i64 x.len)) (first | go_keep | (go_split_ands; exact ⟨(hw3.cell _ _ ql).trans q0, (hw3.cell _ _ ql).trans q1⟩)) ((go_at_call 68; refine (hasL_fn (unhide HL) (hk.sorted t ht) (hk.route t ht) hx).mono ?_; rintro e w3 ⟨rfl, hw3⟩))
  have hw3' : Still V w3 := Kept.trans ((Kept.refl _ _).drew) hw3
  have q0' := (hw3'.cell _ 0 ql).trans q0
  have q1' := (hw3'.cell _ 1 ql).trans q1
  have ql' : s0 < w3.heap.size := Nat.lt_of_lt_of_le ql hw3'.size
  have HW3 : Hid (Still w w3) := (unhide HS).trans hw3'
  have HL3 : Hid (RAt w3.drew b (1 + t * 281 + 3) (p.rules t).length (padR (p.rules t))) := ((unhide HX).rl t ht).still hw3'.drew
  clear hw3 hw3' HL q0 q1 ql
  cases hh : hasP (p.own t) x with
  | true =>
    have HH : Hid (wantB p t x = false) := by show wantB p t x = false; unfold wantB; rw [hh]; rfl
    clear hh
    go_wp2
    go_ret
    exact ⟨by rw [unhide HH]; rfl, unhide HW3⟩
  | false =>
    have HH : Hid (wantB p t x = letsB (p.rules t) x) := by show wantB p t x = _; unfold wantB; rw [hh]; rfl
    clear hh
    go_wp2_with fail
    go_region_held3 (fun w' => w'.cell? ⟨s0, 0, none⟩ = some (.int .i64 x.addr) ∧ w'.cell? ⟨s0, 1, none⟩ = some (.int .i64 x.len)) (first | go_keep | (go_split_ands; exact ⟨(hw4.cell _ _ ql').trans q0', (hw4.cell _ _ ql').trans q1'⟩)) ((go_at_call 70; refine (letsIn_any (unhide HL3) (hk.rule t ht) x (unhide HXA)).mono ?_; rintro e w4 ⟨rfl, hw4⟩))
    go_wp2
    go_ret
    exact ⟨by rw [unhide HH]; rfl, (unhide HW3).drew.trans hw4⟩
end Go.Proofs.Ytgndledehlilkaa
