import Derived.Test.YtgndledehlilkabPrGM
import Derived.Deep.RegionHeld3
namespace Go.Proofs.Ytgndledehlilkab
open Go.RowKit

section
variable {w : World} {b o : Nat} {l : List RouteD} {x : RouteD}
theorem hasL_fn (h : LAt w b o l.length (pad l)) (hs : Sorted l) (hl : ∀ y ∈ l, okRoute y) (hx : okRoute x) :
    Calls Try.prog 85 #[.pointer (some ⟨b, o, none⟩), .int .i64 x.addr, .int .i64 x.len] w fun e w' => e = .returned (.bool (hasP l x)) ∧ Still w w' := by
  refine (hasL_any h _ _).mono ?_
  rintro e w' ⟨i, hi, rfl, hst⟩
  rw [stands_has hs hl hx hi]
  exact ⟨rfl, hst⟩
def PutL (w : World) (b o : Nat) (l : List RouteD) (x : RouteD) (most : Int) (en : Ending) (w' : World) : Prop := Within b o 257 w w' ∧
  ((hasP l x = true ∧ en = .returned (.int .i64 0) ∧ LAt w' b o (putL l x).length (pad (putL l x)) ∧ (putL l x).length = l.length) ∨
   (hasP l x = false ∧ (most ≤ l.length ∨ 64 ≤ l.length) ∧ en = .returned (.int .i64 8) ∧ LAt w' b o l.length (pad l)) ∨
   (hasP l x = false ∧ (l.length : Int) < most ∧ l.length < 64 ∧ en = .returned (.int .i64 0) ∧ LAt w' b o (putL l x).length (pad (putL l x)) ∧ (putL l x).length = l.length + 1))
theorem put_fn (h : LAt w b o l.length (pad l)) (hs : Sorted l) (hl : ∀ y ∈ l, okRoute y) (hx : okRoute x) (most : Int) :
    Calls Try.prog 63 #[.pointer (some ⟨b, o, none⟩), .agg #[.int .i64 x.addr, .int .i64 x.len, .int .i64 x.hop, .int .i64 x.from_], .int .i64 most] w fun en w' => PutL w b o l x most en w' := by
  refine (put_any h x most).mono ?_
  rintro e w' ⟨i, hi, hw, hc⟩
  have hst := stands_has hs hl hx hi
  refine ⟨hw, ?_⟩
  rw [hst] at hc
  rcases hc with ⟨h1, rfl, h3⟩ | ⟨h1, h2, rfl, h3⟩ | ⟨h1, h2, h3, rfl, h4⟩
  · have hi3 : i < l.length := by
      rw [h1] at hst
      unfold stB at hst
      rw [Bool.and_eq_true, decide_eq_true_eq] at hst
      exact hst.1
    have hsm : sameB l[i] x = true := by
      rw [h1] at hst
      unfold stB at hst
      rw [Bool.and_eq_true, decide_eq_true_eq, pad_lt hi3] at hst
      exact hst.2
    have e := put_set hs hl hx hi3 hsm
    refine .inl ⟨h1, rfl, ?_, by rw [e, List.length_set]⟩
    rw [e, List.length_set, pad_set hi3]
    exact h3
  · exact .inr (.inl ⟨h1, h2, rfl, h3⟩)
  · have e := put_ins hs hl hx hi h1
    have hlen : (putL l x).length = l.length + 1 := by rw [e]; exact insI_len hi.1
    refine .inr (.inr ⟨h1, h2, h3, rfl, ?_, hlen⟩)
    rw [hlen, e]
    exact h4.congr fun j _ => (pad_ins hi.1 j).symm
theorem removeL_fn (h : LAt w b o l.length (pad l)) (hs : Sorted l) (hl : ∀ y ∈ l, okRoute y) (hx : okRoute x) :
    Calls Try.prog 64 #[.pointer (some ⟨b, o, none⟩), .int .i64 x.addr, .int .i64 x.len] w fun en w' => Within b o 257 w w' ∧
      ((hasP l x = false ∧ en = .returned (.int .i64 9) ∧ LAt w' b o l.length (pad l)) ∨ (hasP l x = true ∧ en = .returned (.int .i64 0) ∧ LAt w' b o (delL l x).length (pad (delL l x)))) := by
  refine (removeL_any h _ _).mono ?_
  rintro e w' ⟨i, hi, hw, hc⟩
  have hst := stands_has hs hl hx hi
  refine ⟨hw, ?_⟩
  rw [hst] at hc
  rcases hc with ⟨h1, rfl, h3⟩ | ⟨h1, rfl, h3⟩
  · exact .inl ⟨h1, rfl, h3⟩
  · have hi3 : i < l.length := by
      rw [h1] at hst
      unfold stB at hst
      rw [Bool.and_eq_true, decide_eq_true_eq] at hst
      exact hst.1
    have hsm : sameB l[i] x = true := by
      rw [h1] at hst
      unfold stB at hst
      rw [Bool.and_eq_true, decide_eq_true_eq, pad_lt hi3] at hst
      exact hst.2
    have e := del_erase hs hl hx hi3 hsm
    refine .inr ⟨h1, rfl, ?_⟩
    have hlen : (delL l x).length = l.length - 1 := by rw [e, List.length_eraseIdx, if_pos hi3]
    rw [hlen, e]
    exact h3.congr fun j _ => (pad_erase hi3 j).symm
end
/-- What the program's lists and rules keep to. -/
structure ProgOk (p : ProgS) : Prop where
  sorted : ∀ i, i < 8 → Sorted (p.own i)
  route : ∀ i, i < 8 → ∀ y ∈ p.own i, okRoute y
  rule : ∀ i, i < 8 → ∀ u ∈ p.rules i, ruleB u = true
/-- Does t want x? -/
def wantB (p : ProgS) (t : Nat) (x : RouteD) : Bool := !hasP (p.own t) x && letsB (p.rules t) x
set_option maxHeartbeats 1000000 in
theorem wants_any {w : World} {b : Nat} {p : ProgS} (h : XAt w b p) (hk : ProgOk p) {t : Nat} (ht : t < 8) {x : RouteD} (hx : okRoute x) :
    Calls Try.prog 86 #[.pointer (some ⟨b, 0, none⟩), .int .i64 (t : Int), .agg #[.int .i64 x.addr, .int .i64 x.len, .int .i64 x.hop, .int .i64 x.from_]] w fun en w' => en = .returned (.bool (wantB p t x)) ∧ Still w w' := by
  have hS : Still w (w.alloc (.cells #[.int .i64 x.addr, .int .i64 x.len, .int .i64 x.hop, .int .i64 x.from_] 42)) := (Kept.refl _ _).alloc _
  have hb := h.lt
  have HX := hide (h.still hS)
  have HB := hide (BoxX.new w x 42)
  have HS := hide hS
  have hxa : 0 ≤ x.addr ∧ x.addr ≤ 65535 := ⟨hx.a0, hx.a1⟩
  have HXA := hide hxa
  have ht0 : (0 : Int) ≤ (t : Int) := by omega
  have ht8 : (t : Int) < 8 := by omega
  clear h hS hxa
  have bx := unhide HB
  have q0 := bx.c0
  have q1 := bx.c1
  have ql := bx.lt
  clear bx HB
  go_enter Try.func86, Try.ntmps86
  go_wp2_with fail
  generalize w.heap.size = s0 at *
  generalize w.alloc (.cells #[.int .i64 x.addr, .int .i64 x.len, .int .i64 x.hop, .int .i64 x.from_] 42) = V at *
  have HL : Hid (LAt V.drew b (1 + t * 281 + 24) (p.own t).length (pad (p.own t))) := ((unhide HX).ow t ht).still ((Kept.refl _ _).drew)
  go_region_held3 (fun w' => w'.cell? ⟨s0, 0, none⟩ = some (.int .i64 x.addr) ∧ w'.cell? ⟨s0, 1, none⟩ = some (.int .i64 x.len)) (first | go_keep | (go_split_ands; exact ⟨(hw3.cell _ _ ql).trans q0, (hw3.cell _ _ ql).trans q1⟩)) ((go_at_call 85; refine (hasL_fn (unhide HL) (hk.sorted t ht) (hk.route t ht) hx).mono ?_; rintro e w3 ⟨rfl, hw3⟩))
  have hw3' : Still V w3 := Kept.trans ((Kept.refl _ _).drew) hw3
  have q0' := (hw3'.cell _ 0 ql).trans q0
  have q1' := (hw3'.cell _ 1 ql).trans q1
  have ql' : s0 < w3.heap.size := Nat.lt_of_lt_of_le ql hw3'.size
  have HW3 : Hid (Still w w3) := (unhide HS).trans hw3'
  have HL3 : Hid (RAt w3.drew b (1 + t * 281 + 3) (p.rules t).length (padR (p.rules t))) := ((unhide HX).rl t ht).still hw3'.drew
  clear hw3 hw3' HL q0 q1 ql
  cases hh : hasP (p.own t) x with
  | true =>
    have HH : Hid (wantB p t x = false) := by show wantB p t x = false; unfold wantB; rw [hh]; rfl
    clear hh
    go_wp2
    go_ret
    exact ⟨by rw [unhide HH]; rfl, unhide HW3⟩
  | false =>
    have HH : Hid (wantB p t x = letsB (p.rules t) x) := by show wantB p t x = _; unfold wantB; rw [hh]; rfl
    clear hh
    go_wp2_with fail
    go_region_held3 (fun w' => w'.cell? ⟨s0, 0, none⟩ = some (.int .i64 x.addr) ∧ w'.cell? ⟨s0, 1, none⟩ = some (.int .i64 x.len)) (first | go_keep | (go_split_ands; exact ⟨(hw4.cell _ _ ql').trans q0', (hw4.cell _ _ ql').trans q1'⟩)) ((go_at_call 87; refine (letsIn_any (unhide HL3) (hk.rule t ht) x (unhide HXA)).mono ?_; rintro e w4 ⟨rfl, hw4⟩))
    go_wp2
    go_ret
    exact ⟨by rw [unhide HH]; rfl, (unhide HW3).drew.trans hw4⟩

/-- One route of a giver's. -/
def gst (p : ProgS) (t : Nat) (q : List RouteD) (x : RouteD) : List RouteD := if (!hasP q x && wantB p t x) = true then (if q.length < 64 then putL q x else q) else q
def gto (p : ProgS) (t : Nat) (q l : List RouteD) (k : Nat) : List RouteD := (l.take k).foldl (gst p t) q
theorem gto_zero (p : ProgS) (t : Nat) (q l : List RouteD) : gto p t q l 0 = q := by simp [gto]
theorem gto_succ (p : ProgS) (t : Nat) (q l : List RouteD) {k : Nat} (h : k < l.length) : gto p t q l (k + 1) = gst p t (gto p t q l k) (pad l k) := by
  unfold gto
  rw [List.take_add_one, List.getElem?_eq_getElem h, List.foldl_append, pad_lt h]
  rfl
/-- Sorted, and of routes that may be. -/
structure Good (q : List RouteD) : Prop where
  sorted : Sorted q
  route : ∀ y ∈ q, okRoute y
theorem Good.put {q : List RouteD} {x : RouteD} (h : Good q) (hx : okRoute x) : Good (putL q x) := ⟨(putL_ok h.sorted h.route hx).1, putL_okr h.sorted h.route hx⟩
theorem Good.gst {p : ProgS} {t : Nat} {q : List RouteD} {x : RouteD} (h : Good q) (hx : okRoute x) : Good (gst p t q x) := by
  unfold Go.Proofs.Ytgndledehlilkab.gst
  split
  · split
    · exact h.put hx
    · exact h
  · exact h
theorem Good.gto {p : ProgS} {t : Nat} {q l : List RouteD} (h : Good q) (hl : ∀ y ∈ l, okRoute y) : ∀ k, k ≤ l.length → Good (gto p t q l k)
  | 0, _ => by rw [gto_zero]; exact h
  | k + 1, hk => by
    rw [gto_succ _ _ _ _ (by omega)]
    exact (Good.gto h hl k (by omega)).gst (by rw [pad_lt (by omega)]; exact hl _ (List.getElem_mem _))
set_option maxHeartbeats 4000000 in
theorem gather_any {w : World} {b c : Nat} {p : ProgS} (h : XAt w b p) (hk : ProgOk p) {t g : Nat} (ht : t < 8) (hg : g < 8) {q : List RouteD} (hq : LAt w c 0 q.length (pad q)) (hgq : Good q) (hne : b ≠ c) :
    Calls Try.prog 83 #[.pointer (some ⟨b, 0, none⟩), .int .i64 (t : Int), .int .i64 (g : Int), .pointer (some ⟨c, 0, none⟩)] w fun en w' =>
      en = .returned (.tuple #[]) ∧ LAt w' c 0 (gto p t q (p.own g) (p.own g).length).length (pad (gto p t q (p.own g) (p.own g).length)) ∧ Kept (· = c) w w' := by
  have hb := h.lt
  have hc := hq.lt
  have HX := hide h
  have HQ := hide hq
  have HG := hide hgq
  have HK := hide hk
  have ht0 : (0 : Int) ≤ (t : Int) := by omega
  have ht8 : (t : Int) < 8 := by omega
  have hg0 : (0 : Int) ≤ (g : Int) := by omega
  have hg8 : (g : Int) < 8 := by omega
  clear h hq hgq hk
  go_enter Try.func83, Try.ntmps83
  go_wp2
  go_loopw [8] (fun s w' => ∃ k : Nat, k ≤ (p.own g).length ∧ s = .int .i64 k ∧ LAt w' c 0 (gto p t q (p.own g) k).length (pad (gto p t q (p.own g) k)) ∧ Kept (· = c) w w') (fun s _ => (p.own g).length - (intOf s).toNat)
  case atStart => exact ⟨0, Nat.zero_le _, rfl, by rw [gto_zero]; exact unhide HQ, Kept.refl _ _⟩
  case round =>
    obtain ⟨k, hkl, rfl, hqk, hkp⟩ := hrel
    have hx := (unhide HX).frame (hkp.block b hb hne)
    have HXR := hide hx
    have HQK := hide hqk
    have HKP := hide hkp
    have hbr := hx.lt
    have hcr := hqk.lt
    have hm := (hx.ow g hg).most
    clear hx hqk hkp
    by_cases hlt : k < (p.own g).length
    · have hok : okRoute (pad (p.own g) k) := by rw [pad_lt hlt]; exact (unhide HK).route g hg _ (List.getElem_mem _)
      have HGK := hide ((unhide HG).gto (p := p) (t := t) ((unhide HK).route g hg) k hkl)
      have HE := hide (gto_succ p t q (p.own g) hlt)
      have HOK := hide hok
      clear hok
      go_wp2_with fail
      refine (len_any ((unhide HXR).ow g hg)).mono ?_
      rintro e w1 ⟨rfl, hw1⟩
      replace hw1 := hw1.symm
      subst hw1
      go_wp2_with fail
      refine (at_any ((unhide HXR).ow g hg) hlt).mono ?_
      rintro e w1 ⟨rfl, hs1⟩
      generalize hxx : pad (p.own g) k = x at *
      have HXX := hide hxx
      clear hxx
      generalize hqq : gto p t q (p.own g) k = qk at *
      have HQQ := hide hqq
      clear hqq
      have hSV : Still wr (w1.alloc (.cells #[.int .i64 x.addr, .int .i64 x.len, .int .i64 x.hop, .int .i64 x.from_] 42)) := Kept.alloc hs1 _
      have hBV := BoxX.new w1 x 42
      have HSV := hide hSV
      have HBV := hide hBV
      clear hSV hBV hs1
      go_wp2_with fail
      generalize w1.heap.size = s0 at *
      generalize w1.alloc (.cells #[.int .i64 x.addr, .int .i64 x.len, .int .i64 x.hop, .int .i64 x.from_] 42) = V at *
      refine (hasL_fn ((unhide HQK).still (unhide HSV)) (unhide HGK).sorted (unhide HGK).route (unhide HOK)).mono ?_
      rintro e w2 ⟨rfl, hs2⟩
      have hS2 : Still wr w2 := (unhide HSV).trans hs2
      have b2 := (unhide HBV).kept hs2 (fun q => q)
      have q0 := b2.c0
      have q1 := b2.c1
      have q2 := b2.c2
      have q3 := b2.c3
      have ql := b2.lt
      have HS2 := hide hS2
      have HB2 := hide b2
      clear hs2 hS2 b2
      cases hh : hasP qk x with
      | true =>
        have hgs : gst p t qk x = qk := by unfold gst; rw [hh]; rfl
        have HGS := hide hgs
        clear hh hgs
        go_wp2
        go_roundw
        case rel => exact ⟨k + 1, by omega, by go_num, by rw [unhide HE, unhide HGS]; exact (unhide HQK).still (unhide HS2), (unhide HKP).trans (Still.kept (unhide HS2) _)⟩
        case measure => simp [intOf]; omega
      | false =>
        have HH := hide hh
        clear hh
        go_wp2_with fail
        refine (wants_any ((unhide HXR).still (unhide HS2)) (unhide HK) ht (unhide HOK)).mono ?_
        rintro e w3 ⟨rfl, hs3⟩
        have hS3 : Still wr w3 := (unhide HS2).trans hs3
        have b3 := (unhide HB2).kept hs3 (fun q => q)
        have q0' := b3.c0
        have q1' := b3.c1
        have q2' := b3.c2
        have q3' := b3.c3
        have ql' := b3.lt
        have HS3 := hide hS3
        clear hs3 hS3 b3 q0 q1 q2 q3 ql
        cases hw : wantB p t x with
        | false =>
          have hgs : gst p t qk x = qk := by unfold gst; rw [unhide HH, hw]; rfl
          have HGS := hide hgs
          clear hw hgs
          go_wp2
          go_roundw
          case rel => exact ⟨k + 1, by omega, by go_num, by rw [unhide HE, unhide HGS]; exact (unhide HQK).still (unhide HS3), (unhide HKP).trans (Still.kept (unhide HS3) _)⟩
          case measure => simp [intOf]; omega
        | true =>
          have hgs : gst p t qk x = if qk.length < 64 then putL qk x else qk := by unfold gst; rw [unhide HH, hw]; rfl
          have HGS := hide hgs
          clear hw hgs
          go_wp2_with fail
          refine (put_fn ((unhide HQK).still (unhide HS3)) (unhide HGK).sorted (unhide HGK).route (unhide HOK) 64).mono ?_
          rintro e w4 ⟨hwi, hc4⟩
          have hK4 : Kept (· = c) w w4 := ((unhide HKP).trans (Still.kept (unhide HS3) _)).trans hwi.kept
          have hq4 : LAt w4 c 0 (gst p t qk x).length (pad (gst p t qk x)) ∧ ∃ n : Int, e = .returned (.int .i64 n) := by
            rw [unhide HGS]
            rcases hc4 with ⟨h1, rfl, h3, h4⟩ | ⟨h1, h2, rfl, h3⟩ | ⟨h1, h2, h3, rfl, h4, h5⟩
            · rw [unhide HH] at h1; simp at h1
            · rw [if_neg (by omega)]; exact ⟨h3, _, rfl⟩
            · rw [if_pos h3]; exact ⟨h4, _, rfl⟩
          obtain ⟨hq5, n, rfl⟩ := hq4
          have HQ5 := hide hq5
          have HK4 := hide hK4
          clear hq5 hK4 hwi hc4 HGS
          go_wp2
          go_roundw
          case rel => exact ⟨k + 1, by omega, by go_num, by rw [unhide HE]; exact unhide HQ5, unhide HK4⟩
          case measure => simp [intOf]; omega
    · obtain rfl : k = (p.own g).length := by omega
      go_wp2_with (go_at_call 71; refine (len_any ((unhide HXR).ow g hg)).mono ?_; rintro e w1 ⟨rfl, hw1⟩; replace hw1 := hw1.symm; subst hw1)
      go_end0
      exact ⟨rfl, unhide HQK, unhide HKP⟩

def comP (a b : Int) : Bool := bits BinOp.and IntKind.i64 a b != 0
def givesB (p : ProgS) (t g : Nat) : Bool := !((g : Int) == (t : Int)) && comP (p.gives g) (p.takes t)
/-- What is on offer, of the givers below G. -/
def offTo (p : ProgS) (t : Nat) : Nat → List RouteD
  | 0 => []
  | G + 1 => if givesB p t G = true then gto p t (offTo p t G) (p.own G) (p.own G).length else offTo p t G
theorem Good.nil : Good [] := ⟨by simp [Sorted], by simp⟩
theorem Good.off {p : ProgS} (hk : ProgOk p) (t : Nat) : ∀ G, G ≤ 8 → Good (offTo p t G)
  | 0, _ => Good.nil
  | G + 1, h => by
    unfold offTo
    split
    · exact (Good.off hk t G (by omega)).gto (hk.route G (by omega)) _ (Nat.le_refl _)
    · exact Good.off hk t G (by omega)
theorem zeroList : Try.zeroCells61 = (listCells 0 (fun _ => rt0)).toArray := by kernel_rfl
theorem LAt.zero (w : World) : LAt (w.alloc (.cells Try.zeroCells61 61)) w.heap.size 0 0 (pad []) := by
  refine LAt.ofRange (by simp) (fun j => World.frozen?_alloc_new _ _ _ _) (Nat.zero_le _) ?_
  intro j v hv
  have e : pad [] = fun _ => rt0 := by funext j; simp [pad]
  rw [e] at hv
  rw [World.cell?_alloc_new, zeroList]
  simpa using hv
theorem LAt.there {w : World} {b o n : Nat} {f : Nat → RouteD} (h : LAt w b o n f) (m : Nat) (g : Nat → RouteD) : w.there b o (listCells m g).toArray.size := by
  intro j hj
  refine ⟨h.range.isSome j ?_, h.fz _⟩
  rw [listCells_len]
  rw [List.size_toArray, listCells_len] at hj
  exact hj
theorem LAt.stored {w : World} {b o n : Nat} {f : Nat → RouteD} (h : LAt w b o n f) {m : Nat} (hm : m ≤ 64) (g : Nat → RouteD) : LAt (w.setCells b o (listCells m g).toArray.toList) b o m g := by
  have ht : w.there b o (listCells m g).length := by have := h.there m g; rw [List.size_toArray] at this; exact this
  have hr := World.rangeAt_setCells_same w b o (listCells m g) ht
  have hl := (Kept.setCells (Kept.refl (· = b) w) (.inl rfl) (listCells m g) o).size
  have hf : ∀ j, (w.setCells b o (listCells m g)).frozen? ⟨b, j, none⟩ = false := fun j => by rw [World.frozen?_setCells]; exact h.fz j
  have h0 := h.lt
  rw [List.toList_toArray]
  generalize w.setCells b o (listCells m g) = w' at *
  exact LAt.ofRange (by omega) hf hm hr
theorem infoList' (n : Nat) (f : Nat → RouteD) : (Try.prog.info? 61).map (·.size) = some (listCells n f).length := by rw [listCells_len]; exact infoList
theorem infoList'' (n : Nat) (f : Nat → RouteD) : (Try.prog.info? 61).map (·.size) = some (listCells n f).toArray.size := by rw [List.size_toArray, listCells_len]; exact infoList
set_option maxHeartbeats 4000000 in
theorem offers_any {w : World} {b : Nat} {p : ProgS} (h : XAt w b p) (hk : ProgOk p) {t : Nat} (ht : t < 8) :
    Calls Try.prog 72 #[.pointer (some ⟨b, 0, none⟩), .int .i64 (t : Int)] w fun en w' =>
      en = .returned (.agg (listCells (offTo p t 8).length (pad (offTo p t 8))).toArray) ∧ (offTo p t 8).length ≤ 64 ∧ Still w w' := by
  have hb := h.lt
  have hS2 : Still w ((w.alloc (.cells Try.zeroCells61 61)).alloc (.cells Try.zeroCells61 61)) := ((Kept.refl _ _).alloc _).alloc _
  have hn2 := LAt.zero (w.alloc (.cells Try.zeroCells61 61))
  have hz1 : (w.alloc (.cells Try.zeroCells61 61)).heap.size = w.heap.size + 1 := by simp
  have hn1 := (LAt.zero w).still ((Kept.refl _ (w.alloc (.cells Try.zeroCells61 61))).alloc (.cells Try.zeroCells61 61))
  rw [hz1] at hn2
  have HX := hide (h.still hS2)
  have HS2 := hide hS2
  have HN2 := hide hn2
  have HN1 := hide hn1
  have HK := hide hk
  have ht0 : (0 : Int) ≤ (t : Int) := by omega
  have ht8 : (t : Int) < 8 := by omega
  clear h hk hS2 hn2 hn1 hz1
  go_enter Try.func72, Try.ntmps72
  go_wp2
  generalize hsz : w.heap.size = s at *
  generalize (w.alloc (.cells Try.zeroCells61 61)).alloc (.cells Try.zeroCells61 61) = W2 at *
  go_loopw [6] (fun i w' => ∃ G : Nat, G ≤ 8 ∧ i = .int .i64 G ∧ LAt w' (s + 1) 0 (offTo p t G).length (pad (offTo p t G)) ∧ Kept (· = s + 1) W2 w') (fun i _ => 8 - (intOf i).toNat)
  case atStart => exact ⟨0, Nat.zero_le _, rfl, unhide HN2, Kept.refl _ _⟩
  case round =>
    obtain ⟨G, hG, rfl, hq, hkp⟩ := hrel
    have hbW := (unhide HX).lt
    have hx := (unhide HX).frame (hkp.block b hbW (by omega))
    have hst : Still w wr := Kept.trans' (unhide HS2) hkp (fun i hi q => by omega)
    have h1 : LAt wr s 0 0 (pad []) := (unhide HN1).frame (Nat.lt_of_lt_of_le (unhide HN1).lt hkp.size) (hkp.block s (unhide HN1).lt (by omega))
    have HQ := hide hq
    have HKP := hide hkp
    have HXR := hide hx
    have HST := hide hst
    have H1 := hide h1
    have hbr := hx.lt
    clear hq hkp hst h1
    by_cases hlt : G < 8
    · have c1 := hx.gives G hlt
      have c2 := hx.takes t ht
      clear hx
      have e1 : offTo p t (G + 1) = if givesB p t G = true then gto p t (offTo p t G) (p.own G) (p.own G).length else offTo p t G := rfl
      have hG0 : (0 : Int) ≤ (G : Int) := by omega
      have hG8 : (G : Int) < 8 := by omega
      cases hne : ((G : Int) != (t : Int)) with
      | false =>
        have hgb : givesB p t G = false := by
          unfold givesB
          have : ((G : Int) == (t : Int)) = true := by simpa using hne
          rw [this]; rfl
        rw [hgb, if_neg (by simp)] at e1
        have E1 := hide e1
        clear e1 hgb
        go_wp2_with fail
        go_quiet (fail)
        go_wp2
        go_roundw
        case rel => exact ⟨G + 1, by omega, by go_num, by rw [unhide E1]; exact (unhide HQ).still ((Kept.refl _ _).drewN _), (unhide HKP).drewN _⟩
        case measure => simp [intOf]; omega
      | true =>
        have hgb : givesB p t G = comP (p.gives G) (p.takes t) := by
          unfold givesB
          have : ((G : Int) == (t : Int)) = false := by simpa using hne
          rw [this]; rfl
        cases hcm : (bits BinOp.and IntKind.i64 (p.gives G) (p.takes t) != 0) with
        | false =>
          have hcm' : comP (p.gives G) (p.takes t) = false := hcm
          rw [hgb, hcm', if_neg (by simp)] at e1
          have E1 := hide e1
          clear e1 hgb hcm'
          go_wp2_with fail
          go_quiet (fail)
          go_wp2
          go_roundw
          case rel => exact ⟨G + 1, by omega, by go_num, by rw [unhide E1]; exact (unhide HQ).still ((Kept.refl _ _).drewN _), (unhide HKP).drewN _⟩
          case measure => simp [intOf]; omega
        | true =>
          have hcm' : comP (p.gives G) (p.takes t) = true := hcm
          rw [hgb, hcm', if_pos rfl] at e1
          have E1 := hide e1
          clear e1 hgb hcm'
          go_wp2_with fail
          go_quiet (fail)
          go_wp2_with fail
          refine (gather_any ((unhide HXR).still ((Kept.refl _ _).drewN _)) (unhide HK) ht hlt ((unhide HQ).still ((Kept.refl _ _).drewN _)) (Good.off (unhide HK) t G hG) (by omega)).mono ?_
          rintro e w3 ⟨rfl, hq3, hk3⟩
          have HQ3 := hide hq3
          have HK3 : Hid (Kept (· = s + 1) W2 w3) := ((unhide HKP).drewN _).trans hk3
          clear hq3 hk3
          go_wp2
          go_roundw
          case rel => exact ⟨G + 1, by omega, by go_num, by rw [unhide E1]; exact unhide HQ3, unhide HK3⟩
          case measure => simp [intOf]; omega
    · obtain rfl : G = 8 := by omega
      have hmost := (unhide HQ).most
      clear hx
      go_wp2_with (first | (refine wpList_load_mid rfl 61 _ rfl _ _ rfl (listCells (offTo p t 8).length (pad (offTo p t 8))) _ (unhide HQ).range Try.underlying61 rfl (infoList' _ _) ?_) | (refine wpList_store_mid rfl 61 _ _ rfl _ _ (listCells (offTo p t 8).length (pad (offTo p t 8))).toArray rfl rfl ((unhide H1).there _ _) (infoList'' _ _) (listCells_one _ _) ?_))
      refine bodyPost_ret (results_range1 rfl _ _ _ _ _ _ rfl ((unhide H1).stored hmost _).range Try.underlying61 rfl (infoList' _ _)) rfl ?_
      exact ⟨rfl, hmost, Kept.setCells (unhide HST) (.inr (by omega)) _ _⟩

/-- The table behind k offers, how many were taken, how many found no room. -/
def tabTo (own off : List RouteD) (quota : Int) : Nat → List RouteD × Nat × Nat
  | 0 => (own, 0, 0)
  | k + 1 => if hasP (tabTo own off quota k).1 (pad off k) = true ∨ (((tabTo own off quota k).1.length : Int) < quota ∧ (tabTo own off quota k).1.length < 64) then (putL (tabTo own off quota k).1 (pad off k), (tabTo own off quota k).2.1 + 1, (tabTo own off quota k).2.2)
    else ((tabTo own off quota k).1, (tabTo own off quota k).2.1, (tabTo own off quota k).2.2 + 1)
theorem Good.tab {own off : List RouteD} {quota : Int} (h1 : Good own) (h2 : Good off) : ∀ k, k ≤ off.length → Good (tabTo own off quota k).1
  | 0, _ => h1
  | k + 1, h => by
    unfold tabTo
    split
    · exact (Good.tab h1 h2 k (by omega)).put (by rw [pad_lt (by omega)]; exact h2.route _ (List.getElem_mem _))
    · exact Good.tab h1 h2 k (by omega)
theorem tabTo_sum (own off : List RouteD) (quota : Int) : ∀ k, (tabTo own off quota k).2.1 + (tabTo own off quota k).2.2 = k
  | 0 => rfl
  | k + 1 => by
    have := tabTo_sum own off quota k
    unfold tabTo
    split
    · show (tabTo own off quota k).2.1 + 1 + (tabTo own off quota k).2.2 = k + 1; omega
    · show (tabTo own off quota k).2.1 + ((tabTo own off quota k).2.2 + 1) = k + 1; omega
/-- Sums in a block of their own. -/
structure SumAt (w : World) (s : Nat) (a b c d : Int) : Prop where
  lt : s < w.heap.size
  fz : ∀ j, w.frozen? ⟨s, j, none⟩ = false
  c0 : w.cell? ⟨s, 0, none⟩ = some (.int .i64 a)
  c1 : w.cell? ⟨s, 1, none⟩ = some (.int .i64 b)
  c2 : w.cell? ⟨s, 2, none⟩ = some (.int .i64 c)
  c3 : w.cell? ⟨s, 3, none⟩ = some (.int .i64 d)
theorem SumAt.new (w : World) (a b c d : Int) (t : TypeId) : SumAt (w.alloc (.cells #[.int .i64 a, .int .i64 b, .int .i64 c, .int .i64 d] t)) w.heap.size a b c d := by
  refine ⟨by simp, fun j => World.frozen?_alloc_new _ _ _ _, ?_, ?_, ?_, ?_⟩ <;> rw [World.cell?_alloc_new] <;> rfl
theorem SumAt.kept {w w' : World} {s : Nat} {a b c d : Int} {P : Nat → Prop} (h : SumAt w s a b c d) (hk : Kept P w w') (hp : ¬ P s) : SumAt w' s a b c d :=
  ⟨Nat.lt_of_lt_of_le h.lt hk.size, fun j => (hk.frozen (p := ⟨s, j, none⟩) h.lt hp).trans (h.fz j), (hk.cell (p := ⟨s, 0, none⟩) h.lt hp).trans h.c0, (hk.cell (p := ⟨s, 1, none⟩) h.lt hp).trans h.c1, (hk.cell (p := ⟨s, 2, none⟩) h.lt hp).trans h.c2, (hk.cell (p := ⟨s, 3, none⟩) h.lt hp).trans h.c3⟩
theorem SumAt.set1 {w : World} {s : Nat} {a b c d : Int} (h : SumAt w s a b c d) (v : Int) : SumAt (w.setCell ⟨s, 1, none⟩ (.int .i64 v)) s a v c d :=
  ⟨by simpa using h.lt, fun j => by simpa using h.fz j, by rw [off_cell _ _ _ (by omega)]; exact h.c0, World.cell?_setCell_same _ _ _ h.c1, by rw [off_cell _ _ _ (by omega)]; exact h.c2, by rw [off_cell _ _ _ (by omega)]; exact h.c3⟩
theorem SumAt.set2 {w : World} {s : Nat} {a b c d : Int} (h : SumAt w s a b c d) (v : Int) : SumAt (w.setCell ⟨s, 2, none⟩ (.int .i64 v)) s a b v d :=
  ⟨by simpa using h.lt, fun j => by simpa using h.fz j, by rw [off_cell _ _ _ (by omega)]; exact h.c0, by rw [off_cell _ _ _ (by omega)]; exact h.c1, World.cell?_setCell_same _ _ _ h.c2, by rw [off_cell _ _ _ (by omega)]; exact h.c3⟩
theorem SumAt.range {w : World} {s : Nat} {a b c d : Int} (h : SumAt w s a b c d) : w.rangeAt s 0 [.int .i64 a, .int .i64 b, .int .i64 c, .int .i64 d] := by
  intro j v hv
  rw [Nat.zero_add]
  rcases j with _ | _ | _ | _ | j
  · simp at hv; rw [← hv]; exact h.c0
  · simp at hv; rw [← hv]; exact h.c1
  · simp at hv; rw [← hv]; exact h.c2
  · simp at hv; rw [← hv]; exact h.c3
  · simp at hv
theorem listCells_mem (n : Nat) (f : Nat → RouteD) : ∀ v ∈ listCells n f, v.oneCell' = true := fun v hv => (Array.all_eq_true_iff_forall_mem.1 (listCells_one n f)) v (by simpa using hv)
set_option maxRecDepth 100000 in
set_option maxHeartbeats 4000000 in
theorem table_any {w : World} {b : Nat} {p : ProgS} (h : XAt w b p) (hk : ProgOk p) {t : Nat} (ht : t < 8) :
    Calls Try.prog 44 #[.pointer (some ⟨b, 0, none⟩), .int .i64 (t : Int)] w fun en w' =>
      en = .returned (.tuple #[.agg (listCells (tabTo (p.own t) (offTo p t 8) (p.quota t) (offTo p t 8).length).1.length (pad (tabTo (p.own t) (offTo p t 8) (p.quota t) (offTo p t 8).length).1)).toArray,
        .agg #[.int .i64 ((p.own t).length : Int), .int .i64 ((tabTo (p.own t) (offTo p t 8) (p.quota t) (offTo p t 8).length).2.1 : Int), .int .i64 ((tabTo (p.own t) (offTo p t 8) (p.quota t) (offTo p t 8).length).2.2 : Int), .int .i64 (p.quota t)]]) ∧ (tabTo (p.own t) (offTo p t 8) (p.quota t) (offTo p t 8).length).1.length ≤ 64 ∧ Still w w' := by
  have hb := h.lt
  have hS1 : Still w ((w.alloc (.cells Try.zeroCells61 61)).alloc (.cells #[.int .i64 0, .int .i64 0, .int .i64 0, .int .i64 0] 40)) := ((Kept.refl _ _).alloc _).alloc _
  have HX := hide (h.still hS1)
  have ht0 : (0 : Int) ≤ (t : Int) := by omega
  have ht8 : (t : Int) < 8 := by omega
  have HS1 := hide hS1
  have HZ4 := hide ((LAt.zero w).still ((Kept.refl _ (w.alloc (.cells Try.zeroCells61 61))).alloc (.cells #[.int .i64 0, .int .i64 0, .int .i64 0, .int .i64 0] 40)))
  have HZ5 := hide (SumAt.new (w.alloc (.cells Try.zeroCells61 61)) 0 0 0 0 40)
  have HK := hide hk
  clear h hS1 hk
  go_enter Try.func44, Try.ntmps44
  go_wp2_with (refine wpList_load_mid rfl 61 _ rfl _ _ rfl (listCells (p.own t).length (pad (p.own t))) _ ((unhide HX).ow t ht).range Try.underlying61 rfl (infoList' _ _) (unhide ?_))
  refine hide ?_
  have hz5 : SumAt ((w.alloc (.cells Try.zeroCells61 61)).alloc (.cells #[.int .i64 0, .int .i64 0, .int .i64 0, .int .i64 0] 40)) (w.heap.size + 1) 0 0 0 0 := by
    have h5 := unhide HZ5
    rw [show (w.alloc (.cells Try.zeroCells61 61)).heap.size = w.heap.size + 1 from by simp] at h5
    exact h5
  have H5 := hide hz5
  clear HZ5 hz5
  generalize hsz : w.heap.size = s at *
  generalize (w.alloc (.cells Try.zeroCells61 61)).alloc (.cells #[.int .i64 0, .int .i64 0, .int .i64 0, .int .i64 0] 40) = V at *
  have hZV := LAt.zero V
  have hmo := ((unhide HX).ow t ht).most
  have HLV := hide (hZV.stored hmo (pad (p.own t)))
  have HSV : Hid (Still V ((V.alloc (.cells Try.zeroCells61 61)).setCells V.heap.size 0 (listCells (p.own t).length (pad (p.own t))).toArray.toList)) := Kept.setCells ((Kept.refl _ _).alloc _) (.inr (Nat.le_refl _)) _ _
  have HZV := hide hZV
  clear hZV
  go_wp2_with (refine wpList_store_mid rfl 61 _ _ rfl _ _ (listCells (p.own t).length (pad (p.own t))).toArray rfl rfl ((unhide HZV).there _ _) (infoList'' _ _) (listCells_one _ _) (unhide ?_))
  refine hide ?_
  have b5 := (unhide H5).lt
  have v5 : V.heap.size = V.heap.size := rfl
  generalize hs6 : V.heap.size = s6 at *
  generalize (V.alloc (.cells Try.zeroCells61 61)).setCells s6 0 (listCells (p.own t).length (pad (p.own t))).toArray.toList = W at *
  have hxW := (unhide HX).still (unhide HSV)
  have cq := hxW.quota t ht
  have hbW := hxW.lt
  have hlW : LAt W.drew s6 0 (p.own t).length (pad (p.own t)) := (unhide HLV).still ((Kept.refl _ _).drew)
  have HXW := hide hxW
  have HLW := hide hlW
  clear hxW hlW v5
  have HLW2 : Hid (LAt (W.alloc (.cells #[.int .i64 0, .int .i64 0, .int .i64 0, .int .i64 0] 40)).drew s6 0 (p.own t).length (pad (p.own t))) := (unhide HLV).still ((Kept.refl _ _).alloc _).drew
  go_wp2_with fail
  go_region_held3 (fun w' => w'.cell? ⟨b, 1 + t * 281, none⟩ = some (.int .i64 (p.quota t))) (first | go_keep) ((go_at_call 71; refine (len_any (by first | exact unhide HLW | exact unhide HLW2)).mono ?_; rintro e w3 ⟨rfl, hw3⟩; replace hw3 := hw3.symm; subst hw3))
  all_goals
    have hs3 : Still W (W.alloc (.cells #[.int .i64 ((p.own t).length : Int), .int .i64 0, .int .i64 0, .int .i64 (p.quota t)] 40)).drew := ((Kept.refl _ _).alloc _).drew
    have hsm3 := (SumAt.new W ((p.own t).length : Int) 0 0 (p.quota t) 40).kept (P := fun _ => False) ((Kept.refl _ _).drew) (fun q => q)
    have hx3 := (unhide HXW).still hs3
    have hl3 := (unhide HLV).still hs3
    have b6 := (unhide HLV).lt
    generalize hs7 : W.heap.size = s7 at *
    generalize (W.alloc (.cells #[.int .i64 ((p.own t).length : Int), .int .i64 0, .int .i64 0, .int .i64 (p.quota t)] 40)).drew = X3 at *
    have HS3 := hide hs3
    have HSM3 := hide hsm3
    have HX3 := hide hx3
    have HL3 := hide hl3
    clear hs3 hsm3 hx3 hl3 HLW HLW2 HXW HLV
    go_wp2_with fail
    refine (offers_any (unhide HX3) (unhide HK) ht).mono ?_
    rintro e w4 ⟨rfl, ho64, hs4⟩
    have HGO := hide (Good.off (unhide HK) t 8 (Nat.le_refl _))
    generalize hoff : offTo p t 8 = off at *
    have HOFF := hide hoff
    clear hoff
    have hz8 := LAt.zero w4
    have HS8 : Hid (Still X3 ((w4.alloc (.cells Try.zeroCells61 61)).setCells w4.heap.size 0 (listCells off.length (pad off)).toArray.toList)) := hs4.trans (Kept.setCells ((Kept.refl _ _).alloc _) (.inr (Nat.le_refl _)) _ _)
    have HL8 := hide (hz8.stored ho64 (pad off))
    have HZ8 := hide hz8
    have b4 := hs4.size
    have b7 := (unhide HSM3).lt
    clear hs4 hz8
    go_wp2_with (refine wpList_store_mid rfl 61 _ _ rfl _ _ (listCells off.length (pad off)).toArray rfl rfl ((unhide HZ8).there _ _) (infoList'' _ _) (listCells_one _ _) (unhide ?_))
    refine hide ?_
    generalize hs8 : w4.heap.size = s8 at *
    generalize (w4.alloc (.cells Try.zeroCells61 61)).setCells s8 0 (listCells off.length (pad off)).toArray.toList = X8 at *
    have HL68 := hide ((unhide HL3).still (unhide HS8))
    have HSM8 := hide ((unhide HSM3).kept (unhide HS8) (fun q => q))
    clear HL3 HSM3 HZ8
    have HGW : Hid (Good (p.own t)) := ⟨(unhide HK).sorted t ht, (unhide HK).route t ht⟩
    generalize hown : p.own t = own at *
    generalize hqt : p.quota t = quota at *
    have HOWN := hide hown
    have HQT := hide hqt
    clear hown hqt
    have hne67 : s6 ≠ s7 := by omega
    have hne68 : s6 ≠ s8 := by omega
    have hne78 : s7 ≠ s8 := by omega
    have hS8w : Still w X8 := (((unhide HS1).trans (unhide HSV)).trans (unhide HS3)).trans (unhide HS8)
    have hz4 := (((unhide HZ4).still (unhide HSV)).still (unhide HS3)).still (unhide HS8)
    have hb5 := (((unhide H5).kept (unhide HSV) (fun q => q)).kept (unhide HS3) (fun q => q)).kept (unhide HS8) (fun q => q)
    have HS8W := hide hS8w
    have HZ4' := hide hz4
    have H5' := hide hb5
    clear hS8w hz4 hb5 HZ4 H5
    go_wp2
    go_loopw [9] (fun i w' => ∃ k : Nat, k ≤ off.length ∧ i = .int .i64 k ∧ LAt w' s6 0 (tabTo own off quota k).1.length (pad (tabTo own off quota k).1) ∧ SumAt w' s7 (own.length : Int) ((tabTo own off quota k).2.1 : Int) ((tabTo own off quota k).2.2 : Int) quota ∧ LAt w' s8 0 off.length (pad off) ∧ Kept (fun x => x = s6 ∨ x = s7) X8 w') (fun i _ => off.length - (intOf i).toNat)
    case atStart => exact ⟨0, Nat.zero_le _, rfl, unhide HL68, unhide HSM8, unhide HL8, Kept.refl _ _⟩
    case round =>
      obtain ⟨k, hk, rfl, hlk, hsk, h8k, hkp⟩ := hrel
      have HLK := hide hlk
      have HSK := hide hsk
      have H8K := hide h8k
      have HKP := hide hkp
      have z6 := hlk.lt
      have z7 := hsk.lt
      have hsum := tabTo_sum own off quota k
      clear hlk hsk h8k hkp
      by_cases hlt : k < off.length
      · have hok : okRoute (pad off k) := by rw [pad_lt hlt]; exact (unhide HGO).route _ (List.getElem_mem _)
        have HOK := hide hok
        have HGT := hide ((unhide HGW).tab (quota := quota) (unhide HGO) k hk)
        have hstep : tabTo own off quota (k + 1) = if hasP (tabTo own off quota k).1 (pad off k) = true ∨ (((tabTo own off quota k).1.length : Int) < quota ∧ (tabTo own off quota k).1.length < 64) then (putL (tabTo own off quota k).1 (pad off k), (tabTo own off quota k).2.1 + 1, (tabTo own off quota k).2.2)
          else ((tabTo own off quota k).1, (tabTo own off quota k).2.1, (tabTo own off quota k).2.2 + 1) := rfl
        have HST := hide hstep
        clear hok hstep
        go_wp2_with fail
        refine (len_any (unhide H8K)).mono ?_
        rintro e w1 ⟨rfl, hw1⟩
        replace hw1 := hw1.symm
        subst hw1
        go_wp2_with fail
        refine (at_any (unhide H8K) hlt).mono ?_
        rintro e w1 ⟨rfl, hs1⟩
        generalize hxx : pad off k = x at *
        have HXX := hide hxx
        clear hxx
        generalize htt : tabTo own off quota k = tk at *
        have HTT := hide htt
        clear htt
        obtain ⟨tb, tkn, drp⟩ := tk
        simp only at HLK HSK hsum HGT HST
        have hSV : Still wr (w1.alloc (.cells #[.int .i64 x.addr, .int .i64 x.len, .int .i64 x.hop, .int .i64 x.from_] 42)) := Kept.alloc hs1 _
        have hBV := BoxX.new w1 x 42
        have hsv := (unhide HSK).kept hSV (fun q => q)
        have c3 := hsv.c3
        have l7 := hsv.lt
        have HSV' := hide hSV
        clear hSV hs1
        go_wp2_with fail
        clear hBV c3 l7
        generalize w1.alloc (.cells #[.int .i64 x.addr, .int .i64 x.len, .int .i64 x.hop, .int .i64 x.from_] 42) = Y at *
        refine (put_fn ((unhide HLK).still (unhide HSV')) (unhide HGT).sorted (unhide HGT).route (unhide HOK) quota).mono ?_
        rintro e w5 ⟨hwi, hc5⟩
        have hs5 := hsv.kept hwi.kept (by show ¬ s7 = s6; omega)
        have d1 := hs5.c1
        have d2 := hs5.c2
        have fz7 := hs5.fz
        have l75 := hs5.lt
        have h85 : LAt w5 s8 0 off.length (pad off) := ((unhide H8K).still (unhide HSV')).frame (Nat.lt_of_lt_of_le ((unhide H8K).still (unhide HSV')).lt hwi.kept.size) (hwi.kept.block s8 ((unhide H8K).still (unhide HSV')).lt (by omega))
        have hk5 : Kept (fun x => x = s6 ∨ x = s7) X8 w5 := ((unhide HKP).trans (Still.kept (unhide HSV') _)).trans (Kept.mono hwi.kept (fun i _ q => .inl q))
        have H85 := hide h85
        have HK5 := hide hk5
        have HS5 := hide hs5
        clear hs5 h85 hk5 hwi hsv
        have hcase : (e = .returned (.int .i64 0) ∧ LAt w5 s6 0 (putL tb x).length (pad (putL tb x)) ∧ tabTo own off quota (k + 1) = (putL tb x, tkn + 1, drp)) ∨ (e = .returned (.int .i64 8) ∧ LAt w5 s6 0 tb.length (pad tb) ∧ tabTo own off quota (k + 1) = (tb, tkn, drp + 1)) := by
          rw [unhide HST]
          rcases hc5 with ⟨h1, rfl, h3, h4⟩ | ⟨h1, h2, rfl, h3⟩ | ⟨h1, h2, h3, rfl, h4, h5⟩
          · exact .inl ⟨rfl, h3, if_pos (.inl h1)⟩
          · refine .inr ⟨rfl, h3, if_neg ?_⟩
            rw [h1]
            simp
            omega
          · exact .inl ⟨rfl, h4, if_pos (.inr ⟨h2, h3⟩)⟩
        clear hc5 HST
        rcases hcase with ⟨rfl, hq6, het⟩ | ⟨rfl, hq6, het⟩
        · have HQ6 := hide hq6
          have HET := hide het
          clear hq6 het
          go_wp2
          go_roundw
          case rel =>
            refine ⟨k + 1, by omega, by go_num, ?_, ?_, ?_, ?_⟩
            · rw [unhide HET]
              exact (unhide HQ6).frame (by simpa using (unhide HQ6).lt) (Below.heap_setCell _ _ _ _ (by show s6 ≠ s7; omega))
            · rw [unhide HET]
              have := (unhide HS5).set1 ((tkn : Int) + 1)
              rw [show ((tkn + 1 : Nat) : Int) = (tkn : Int) + 1 from by omega]
              exact this
            · exact (unhide H85).frame (by simpa using (unhide H85).lt) (Below.heap_setCell _ _ _ _ (by show s8 ≠ s7; omega))
            · exact Kept.setCell (unhide HK5) (p := ⟨s7, 1, none⟩) (.inl (.inr rfl)) _
          case measure => simp [intOf]; omega
        · have HQ6 := hide hq6
          have HET := hide het
          clear hq6 het
          go_wp2
          go_roundw
          case rel =>
            refine ⟨k + 1, by omega, by go_num, ?_, ?_, ?_, ?_⟩
            · rw [unhide HET]
              exact (unhide HQ6).frame (by simpa using (unhide HQ6).lt) (Below.heap_setCell _ _ _ _ (by show s6 ≠ s7; omega))
            · rw [unhide HET]
              have := (unhide HS5).set2 ((drp : Int) + 1)
              rw [show ((drp + 1 : Nat) : Int) = (drp : Int) + 1 from by omega]
              exact this
            · exact (unhide H85).frame (by simpa using (unhide H85).lt) (Below.heap_setCell _ _ _ _ (by show s8 ≠ s7; omega))
            · exact Kept.setCell (unhide HK5) (p := ⟨s7, 2, none⟩) (.inl (.inr rfl)) _
          case measure => simp [intOf]; omega
      · obtain rfl : k = off.length := by omega
        have hkp := unhide HKP
        have b84 := (unhide HZ4').lt
        have b85 := (unhide H5').lt
        have hz4 : LAt wr s 0 0 (pad []) := (unhide HZ4').frame (Nat.lt_of_lt_of_le (unhide HZ4').lt hkp.size) (hkp.block s (unhide HZ4').lt (by omega))
        have hb5 := (unhide H5').kept hkp (by omega)
        have hfz5 := hb5.fz
        have r6 := (unhide HLK).range
        have r7 := (unhide HSK).range
        have t4 : wr.there s 0 257 := by
          have := hz4.there 0 (pad [])
          rw [List.size_toArray, listCells_len] at this
          exact this
        have t5 : wr.there (s + 1) 0 4 := by
          intro j hj
          refine ⟨?_, hfz5 _⟩
          rw [Nat.zero_add]
          rcases j with _ | _ | _ | _ | j
          · rw [hb5.c0]; rfl
          · rw [hb5.c1]; rfl
          · rw [hb5.c2]; rfl
          · rw [hb5.c3]; rfl
          · omega
        have hmost := (unhide HLK).most
        have hl6 := listCells_len (tabTo own off quota off.length).1.length (pad (tabTo own off quota off.length).1)
        have ho6 : ∀ v ∈ listCells (tabTo own off quota off.length).1.length (pad (tabTo own off quota off.length).1), v.oneCell' = true := listCells_mem _ _
        have hu := Try.underlying61
        have hu5 := Try.underlying40
        have hi : (Try.prog.info? 61).map (·.size) = some (listCells (tabTo own off quota off.length).1.length (pad (tabTo own off quota off.length).1)).length := infoList' _ _
        generalize hcs : listCells (tabTo own off quota off.length).1.length (pad (tabTo own off quota off.length).1) = cs at *
        have ho7 : ∀ v ∈ ([.int .i64 (own.length : Int), .int .i64 ((tabTo own off quota off.length).2.1 : Int), .int .i64 ((tabTo own off quota off.length).2.2 : Int), .int .i64 quota] : List Value), v.oneCell' = true := by simp [Value.oneCell']
        have hl7 : ([.int .i64 (own.length : Int), .int .i64 ((tabTo own off quota off.length).2.1 : Int), .int .i64 ((tabTo own off quota off.length).2.2 : Int), .int .i64 quota] : List Value).length = 4 := rfl
        have hi7 : (Try.prog.info? 40).map (·.size) = some ([.int .i64 (own.length : Int), .int .i64 ((tabTo own off quota off.length).2.1 : Int), .int .i64 ((tabTo own off quota off.length).2.2 : Int), .int .i64 quota] : List Value).length := infoSums
        generalize hss : ([.int .i64 (own.length : Int), .int .i64 ((tabTo own off quota off.length).2.1 : Int), .int .i64 ((tabTo own off quota off.length).2.2 : Int), .int .i64 quota] : List Value) = ss at *
        have HCS := hide hcs
        have HSS := hide hss
        clear hcs hss hkp hz4 hb5
        go_wp2_with (go_at_call 71; refine (len_any (unhide H8K)).mono ?_; rintro e w1 ⟨rfl, hw1⟩; replace hw1 := hw1.symm; subst hw1)
        clear HX HS1 HZV HSV HS3 HX3 HGO HS8 HL8 HL68 HGW HSM8 HLK HSK H8K
        have hSd : (fun w' : World => w'.rangeAt s6 0 cs ∧ w'.there s 0 257 ∧ w'.rangeAt s7 0 ss ∧ w'.there (s + 1) 0 4) wr.drew := ⟨by simpa using r6, by simpa using t4, by simpa using r7, by simpa using t5⟩
        refine wp_region_held_drew (S := fun w' : World => w'.rangeAt s6 0 cs ∧ w'.there s 0 257 ∧ w'.rangeAt s7 0 ss ∧ w'.there (s + 1) 0 4) (by kernel_rfl) hSd (fun hHeld => ?_)
        refine wpAnyH_take (i := 0) (v := .agg cs.toArray) rfl (by kernel_rfl) (by kernel_rfl) (by kernel_rfl) (fun _ _ _ h => h) (yieldsIf_load_mid (by rfl) 61 _ rfl s6 0 rfl cs _ (fun w h => h.1) hu rfl hi) hHeld ?_
        refine wpAnyH_take (i := 1) (v := .agg ss.toArray) rfl (by kernel_rfl) (by kernel_rfl) (by kernel_rfl) (fun _ _ _ h => h) (yieldsIf_load_mid (by rfl) 40 _ rfl s7 0 rfl ss _ (fun w h => h.2.2.1) hu5 rfl hi7) hHeld ?_
        refine wpAnyH_ready (rs := [2]) (by kernel_rfl) (by simp) ?_
        refine AllReadyH.cons rfl (fun K hK => ?_) AllReadyH.nil
        rw [if_pos (by rfl)]
        refine wp_store_mid _ _ _ rfl s 0 cs.toArray rfl rfl (by rw [List.size_toArray, hl6]; exact hHeld.2.1) (by rw [List.size_toArray]; exact hi) (all_oneCell_toArray ho6) ?_
        have hS2 : (fun w' : World => w'.rangeAt s6 0 cs ∧ w'.there s 0 257 ∧ w'.rangeAt s7 0 ss ∧ w'.there (s + 1) 0 4) (wr.drew.setCells s 0 cs.toArray.toList) :=
          ⟨World.rangeAt_setCells_apart hHeld.1 _ _ _ (.inl (by omega)), World.there_setCells hHeld.2.1 _ _ _, World.rangeAt_setCells_apart hHeld.2.2.1 _ _ _ (.inl (by omega)), World.there_setCells hHeld.2.2.2 _ _ _⟩
        refine hK.out _ _ hS2 (fun hHeld2 => ?_)
        refine wpAnyH_ready (rs := [3]) (by kernel_rfl) (by simp) ?_
        refine AllReadyH.cons rfl (fun K2 hK2 => ?_) AllReadyH.nil
        rw [if_pos (by rfl)]
        refine wp_store_mid _ _ _ rfl (s + 1) 0 ss.toArray rfl rfl (by rw [List.size_toArray, hl7]; exact hHeld2.2.2.2) (by rw [List.size_toArray]; exact hi7) (all_oneCell_toArray ho7) ?_
        have hS3 : (fun w' : World => w'.rangeAt s6 0 cs ∧ w'.there s 0 257 ∧ w'.rangeAt s7 0 ss ∧ w'.there (s + 1) 0 4) ((wr.drew.setCells s 0 cs.toArray.toList).setCells (s + 1) 0 ss.toArray.toList) :=
          ⟨World.rangeAt_setCells_apart hHeld2.1 _ _ _ (.inl (by omega)), World.there_setCells hHeld2.2.1 _ _ _, World.rangeAt_setCells_apart hHeld2.2.2.1 _ _ _ (.inl (by omega)), World.there_setCells hHeld2.2.2.2 _ _ _⟩
        refine hK2.out _ _ hS3 (fun _ => ?_)
        refine wpAnyH_done (by kernel_rfl) ?_ _
        have hrc : ((wr.drew.setCells s 0 cs.toArray.toList).setCells (s + 1) 0 ss.toArray.toList).rangeAt s 0 cs := by
          refine World.rangeAt_setCells_apart ?_ _ _ _ (.inl (by omega))
          have := World.rangeAt_setCells_same wr.drew s 0 cs (by rw [hl6]; exact hHeld.2.1)
          simpa using this
        have hrs : ((wr.drew.setCells s 0 cs.toArray.toList).setCells (s + 1) 0 ss.toArray.toList).rangeAt (s + 1) 0 ss := by
          have := World.rangeAt_setCells_same (wr.drew.setCells s 0 cs.toArray.toList) (s + 1) 0 ss (by rw [hl7]; exact hHeld2.2.2.2)
          simpa using this
        have hkf : Still w ((wr.drew.setCells s 0 cs.toArray.toList).setCells (s + 1) 0 ss.toArray.toList) := by
          have h0 : Still w wr := Kept.trans' (unhide HS8W) (unhide HKP) (fun i hi q => by omega)
          exact Kept.setCells (Kept.setCells h0.drew (.inr (by omega)) _ _) (.inr (by omega)) _ _
        have HRC := hide hrc
        have HRS := hide hrs
        have HKF := hide hkf
        clear hK hK2 hHeld hHeld2 hS2 hS3 hSd hrc hrs hkf r6 r7 t4 t5
        generalize (wr.drew.setCells s 0 cs.toArray.toList).setCells (s + 1) 0 ss.toArray.toList = Z at *
        go_wp2
        refine bodyPost_ret (results_range3 rfl _ _ s 0 (s + 1) 0 cs ss _ _ rfl (unhide HRC) hu rfl hi rfl (unhide HRS) hu5 rfl hi7) rfl ?_
        rw [unhide HOFF, unhide HOWN, unhide HQT]
        exact ⟨by rw [← unhide HCS, ← unhide HSS], hmost, unhide HKF⟩
end Go.Proofs.Ytgndledehlilkab
