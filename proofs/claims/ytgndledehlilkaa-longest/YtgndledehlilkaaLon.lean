/-
  Longest: the longest of a table's routes, as plain data; within, found; what is found at the end.
-/
import Derived.Test.YtgndledehlilkaaKeep4
import Derived.Test.YtgndledehlilkaaPrV
import Derived.Test.YtgndledehlilkaaKeepL
import Derived.Test.YtgndledehlilkaaOrd5
namespace Go.Proofs.Ytgndledehlilkaa
open Go.RowKit

theorem pw_split {m n : Nat} (h : m ≤ n) : pw n = pw m * pw (n - m) := by
  unfold pw
  rw [← Int.pow_add]
  congr 1
  omega
theorem in_len {a : Int} {x y : RouteD} (hx : okRoute x) (hy : okRoute y) (ia : inB a x = true) (ib : inB a y = true) (hk : key x < key y) : x.len < y.len := by
  rcases Int.lt_or_le x.len y.len with h | hle
  · exact h
  exfalso
  have hxl := hx.l1
  have hyl := hy.l0
  unfold inB containsB at ia ib
  rw [beq_iff_eq] at ia ib
  have e1 := Int.mul_ediv_add_emod x.addr (pw (16 - x.len).toNat)
  have e2 := Int.mul_ediv_add_emod y.addr (pw (16 - y.len).toNat)
  rw [hx.pf, ia] at e1
  rw [hy.pf, ib] at e2
  have hmn : (16 - x.len).toNat ≤ (16 - y.len).toNat := by omega
  have hp := (pw_le (j := (16 - x.len).toNat) (by omega)).1
  have hd := (pw_le (j := (16 - y.len).toNat - (16 - x.len).toNat) (by omega)).1
  rw [pw_split hmn] at e2
  generalize pw (16 - x.len).toNat = p at *
  generalize pw ((16 - y.len).toNat - (16 - x.len).toNat) = d at *
  rw [← Int.ediv_ediv_of_nonneg (by omega), Int.mul_assoc] at e2
  have h3 : d * (a / p / d) ≤ a / p := Int.mul_ediv_self_le (by omega)
  have h4 : p * (d * (a / p / d)) ≤ p * (a / p) := Int.mul_le_mul_of_nonneg_left h3 (by omega)
  unfold key at hk
  omega
/-- The last of the first k routes that contains an address. -/
def lastI (l : List RouteD) (a : Int) : Nat → Int
  | 0 => -1
  | k + 1 => if inB a (l.getD k rt0) = true then (k : Int) else lastI l a k
theorem lastI_is (l : List RouteD) (a : Int) : ∀ k, (lastI l a k = -1 ∧ ∀ j, j < k → inB a (l.getD j rt0) = false) ∨ (∃ i : Nat, i < k ∧ lastI l a k = (i : Int) ∧ inB a (l.getD i rt0) = true ∧ ∀ j, i < j → j < k → inB a (l.getD j rt0) = false)
  | 0 => .inl ⟨rfl, fun j hj => by omega⟩
  | k + 1 => by
    show ((if inB a (l.getD k rt0) = true then (k : Int) else lastI l a k) = -1 ∧ _) ∨ _
    by_cases h : inB a (l.getD k rt0) = true
    · refine .inr ⟨k, by omega, ?_, h, fun j h1 h2 => by omega⟩
      show (if inB a (l.getD k rt0) = true then (k : Int) else lastI l a k) = _
      rw [if_pos h]
    · have hf : inB a (l.getD k rt0) = false := by simpa using h
      rcases lastI_is l a k with ⟨h1, h2⟩ | ⟨i, h1, h2, h3, h4⟩
      · refine .inl ⟨by rw [if_neg h]; exact h1, fun j hj => ?_⟩
        by_cases e : j = k
        · rw [e]; exact hf
        · exact h2 j (by omega)
      · refine .inr ⟨i, by omega, ?_, h3, fun j h5 h6 => ?_⟩
        · show (if inB a (l.getD k rt0) = true then (k : Int) else lastI l a k) = _
          rw [if_neg h]; exact h2
        · by_cases e : j = k
          · rw [e]; exact hf
          · exact h4 j h5 (by omega)
theorem getD_lt {l : List RouteD} {j : Nat} (h : j < l.length) : l.getD j rt0 = l[j] := by simp [List.getD_eq_getElem?_getD, h]
theorem long_none {l : List RouteD} {a : Int} (h : ∀ j, j < l.length → inB a (l.getD j rt0) = false) : longL l a = none := by
  unfold longL
  refine find_reverse_none fun y hy => ?_
  obtain ⟨j, hj, rfl⟩ := List.mem_iff_getElem.1 hy
  have := h j hj
  rw [getD_lt hj] at this
  exact this
theorem long_some {l : List RouteD} {a : Int} {i : Nat} (hi : i < l.length) (h1 : inB a (l.getD i rt0) = true) (h : ∀ j, i < j → j < l.length → inB a (l.getD j rt0) = false) : longL l a = some (l.getD i rt0) := by
  unfold longL
  rw [getD_lt hi] at h1 ⊢
  exact find_reverse_at hi h1 fun j hj hij => by
    have := h j hij hj
    rw [getD_lt hj] at this
    exact this
def leadsTo (l : List RouteD) (a : Int) : Nat → Bool
  | 0 => false
  | k + 1 => leadsTo l a k || (inB a (l.getD k rt0) && (l.getD k rt0).hop != 0)
theorem leadsTo_is (l : List RouteD) (a : Int) : leadsTo l a l.length = leadsL l a := by
  have key : ∀ k, k ≤ l.length → leadsTo l a k = leadsL (l.take k) a := by
    intro k
    induction k with
    | zero => intro _; rfl
    | succ k ih =>
      intro hk
      show (leadsTo l a k || (inB a (l.getD k rt0) && (l.getD k rt0).hop != 0)) = _
      rw [ih (by omega)]
      have e : l.take (k + 1) = l.take k ++ [l.getD k rt0] := by rw [getD_lt (show k < l.length by omega), List.take_succ_eq_append_getElem]
      unfold leadsL
      rw [e, List.any_append]
      simp [Bool.and_comm]
  rw [key _ (Nat.le_refl _), List.take_length]
/-- A route for the address alone is the longest. -/
theorem long_of {l : List RouteD} (hs : Sorted l) (hl : ∀ y ∈ l, okRoute y) {x : RouteD} (hx : x ∈ l) {a : Int} (h1 : x.addr = a) (h2 : x.len = 16) : longL l a = some x := by
  obtain ⟨i, hi, rfl⟩ := List.mem_iff_getElem.1 hx
  have hin : inB a l[i] = true := by unfold inB containsB; rw [h1]; simp
  have := long_some (l := l) (a := a) hi (by rw [getD_lt hi]; exact hin) fun j hij hj => by
    rw [getD_lt hj]
    cases hb : inB a l[j] with
    | false => rfl
    | true =>
      have h3 := in_len (hl _ hx) (hl _ (List.getElem_mem hj)) hin hb (sorted_get hs hi hj hij)
      have h4 := (hl _ (List.getElem_mem hj)).l1
      omega
  rw [this, getD_lt hi]
theorem tab_good {r : RefS} (hk : RefOk r) {t : Nat} (ht : t < r.nl) : Sorted (tabF r t) ∧ ∀ y ∈ tabF r t, okRoute y := by
  obtain ⟨s, m⟩ := tabF_is hk.tab hk.own ht
  refine ⟨s, fun y hy => ?_⟩
  rcases (m y).1 hy with h | h
  · exact hk.tab.own t ht y h
  · have h2 : y ∈ offF r t := List.mem_of_mem_take h
    exact (((offF_is hk.tab hk.own t).2 y).1 h2).1.ok hk.tab
theorem mem_insOwn (own : List RouteD) (x : RouteD) : x ∈ insOwn own x := by
  unfold insOwn
  split
  · rename_i h
    have := (findI_ge h).1
    rw [List.mem_iff_getElem]
    exact ⟨(findI own x).toNat, by simpa using this, by simp⟩
  · simp
/-- Of the table's routes that contain an address the one behind is the longer. -/
theorem best_step {l : List RouteD} (hs : Sorted l) (hl : ∀ y ∈ l, okRoute y) {a : Int} {i k : Nat} (hik : i < k) (hk : k < l.length) (h1 : inB a (l.getD i rt0) = true) (h2 : inB a (l.getD k rt0) = true) : (l.getD i rt0).len < (l.getD k rt0).len := by
  have hi : i < l.length := by omega
  rw [getD_lt hi] at h1 ⊢
  rw [getD_lt hk] at h2 ⊢
  exact in_len (hl _ (List.getElem_mem hi)) (hl _ (List.getElem_mem hk)) h1 h2 (sorted_get hs hi hk hik)

set_option maxHeartbeats 1000000 in
theorem withinK (x : RouteD) (a : Int) (w : World) (hl0 : 0 ≤ x.len) (hl1 : x.len ≤ 16) :
    Calls Try.prog 44 #[.agg #[.int .i64 x.addr, .int .i64 x.len, .int .i64 x.hop, .int .i64 x.from_], .int .i64 a] w fun e w' => e = .returned (.bool (inB a x)) ∧ Still w w' := by
  have hS : Still w (w.alloc (.cells #[.int .i64 x.addr, .int .i64 x.len, .int .i64 x.hop, .int .i64 x.from_] 34)) := (Kept.refl _ _).alloc _
  have hbx := BoxX.new w x 34
  have q0 := hbx.c0
  have q1 := hbx.c1
  have ql := hbx.lt
  have HS := hide hS
  have e1 : inB a x = (x.addr / pw (16 - x.len).toNat == a / pw (16 - x.len).toNat) := rfl
  have E1 := hide e1
  have h16 : (0 : Int) ≤ 16 - x.len := by omega
  have h64 : 16 - x.len ≤ 64 := by omega
  have hw : IntKind.i64.wrap (16 - x.len) = 16 - x.len := wrap_small (by omega) (by omega)
  unfold pw at *
  clear hS hbx e1
  go_enter Try.func44, Try.ntmps44
  go_wp2_with fail
  generalize w.heap.size = s0 at *
  generalize w.alloc (.cells #[.int .i64 x.addr, .int .i64 x.len, .int .i64 x.hop, .int .i64 x.from_] 34) = V at *
  go_quiet (fail)
  go_wp2
  go_ret
  exact ⟨by rw [unhide E1]; rfl, (unhide HS).drewN _⟩
section
variable {w0 w w' : World} {b base : Nat} {r r' : RefS} {v : Value} {L : List RouteD}
theorem On.step (_h : On w0 w (oneTag b) 1 b r) (hn : Now w0 w (oneTag b) 1 b r' w') : On w0 w' (oneTag b) 1 b r' ∧ Kept (· = b) w w' := by
  obtain ⟨O', _, h2, h3, _⟩ := hn
  exact ⟨h2.alone, h3.mono fun i _ q => (oneTag_mine b i).1 q⟩
/-- A table beside the engine. -/
structure TabBy (w : World) (b base : Nat) (v : Value) (L : List RouteD) : Prop where
  row : w.ownsRow base 34 4 v L.length (L.flatMap routeCells)
  off : ∀ g, v.ownBlock = some g → g ≠ b
theorem TabBy.step (h : TabBy w b base v L) (hk : Kept (· = b) w w') : TabBy w' b base v L := ⟨kept_row h.row hk (fun g hg => h.off g hg), h.off⟩
theorem TabBy.again (h : TabBy w b base v L) (hk : Still w w') : TabBy w' b base v L := ⟨kept_row h.row hk (fun _ _ q => q), h.off⟩
end
theorem lastI_yes {L : List RouteD} {a : Int} {k : Nat} (h : inB a (L.getD k rt0) = true) : lastI L a (k + 1) = (k : Int) := by
  show (if inB a (L.getD k rt0) = true then (k : Int) else lastI L a k) = _
  rw [if_pos h]
theorem lastI_no {L : List RouteD} {a : Int} {k : Nat} (h : inB a (L.getD k rt0) = false) : lastI L a (k + 1) = lastI L a k := by
  show (if inB a (L.getD k rt0) = true then (k : Int) else lastI L a k) = _
  rw [if_neg (by rw [h]; simp)]
theorem leadsTo_next (L : List RouteD) (a : Int) (k : Nat) : leadsTo L a (k + 1) = (leadsTo L a k || (inB a (L.getD k rt0) && (L.getD k rt0).hop != 0)) := rfl
set_option maxHeartbeats 8000000 in
theorem foundK {w0 w : World} {b base : Nat} {r : RefS} {v : Value} {L : List RouteD} (h : On w0 w (oneTag b) 1 b r) (hL : TabBy w b base v L) (hmay : mayI r 1 1 = 0) (htab : tableL r 1 = L) (hso : Sorted L) (hok : ∀ y ∈ L, okRoute y) (hlen : L.length ≤ 1000000)
    {a hop : Int} (ha0 : 0 ≤ a) (ha1 : a ≤ 65535) (hh0 : 0 ≤ hop) (hh1 : hop ≤ 255) :
    Calls Try.prog 24 #[.pointer (some ⟨b, 0, none⟩), v, .int .i64 a, .int .i64 hop] w fun en w' => en = .returned (.bool true) ∧ On w0 w' (oneTag b) 1 b r ∧ Kept (· = b) w w' := by
  obtain ⟨va, vc, rfl, hv1, hv2⟩ := ownsRow_slice hL.row
  unfold maxLen at hv2
  have l1 : lookR r 1 a = longE L a := by unfold lookR; rw [if_pos hmay, if_pos ((okAddr_iff a).2 ⟨ha0, ha1⟩), htab]
  have l2 : lookA r 1 a = longA L a := by unfold lookA; rw [if_pos hmay, if_pos ((okAddr_iff a).2 ⟨ha0, ha1⟩), htab]
  have hb2 : (okAddr a && okMask hop) = true := by rw [(okAddr_iff a).2 ⟨ha0, ha1⟩, (okMask_iff hop).2 ⟨hh0, hh1⟩]; rfl
  have l3 : passR r 1 a hop = 0 := by unfold passR; rw [if_pos hmay, if_pos hb2]
  have l4 : ∀ s, passA r 1 a hop s = passB L a hop s := fun s => by unfold passA; rw [if_pos hmay, if_pos hb2, htab]
  have L1 := hide l1
  have L2 := hide l2
  have L3 := hide l3
  have L4 := hide l4
  have HON := hide h
  have HT := hide hL
  have HSO := hide hso
  have HOK := hide hok
  clear h hL hso hok l1 l2 l3 l4 hmay htab hb2
  go_enter Try.func24, Try.ntmps24
  go_wp2
  go_loopw [9, 10, 11, 12] (fun be so i _ w' => ∃ k : Nat, k ≤ L.length ∧ i = .int .i64 k ∧ be = .int .i64 (lastI L a k) ∧ so = .bool (leadsTo L a k) ∧ Still w w') (fun _ _ i _ _ => L.length - (intOf i).toNat)
  case atStart => exact ⟨0, Nat.zero_le _, rfl, rfl, rfl, Kept.refl _ _⟩
  case round =>
    obtain ⟨k, hk, rfl, rfl, rfl, hw⟩ := hrel
    have ht := (unhide HT).again hw
    have HW := hide hw
    have HTR := hide ht
    clear hw ht
    by_cases hlt : k < L.length
    · obtain ⟨g, rfl, hg⟩ := ownsRow_some (unhide HTR).row (by omega)
      obtain ⟨x0, x1, x2, x3⟩ := rowCell (unhide HTR).row rfl hlt
      have hx := unhide HOK (L.getD k rt0) (by simp [List.getD_eq_getElem?_getD, hlt])
      obtain ⟨ln, hln⟩ : ∃ ln, lastI L a k = ln := ⟨_, rfl⟩
      have hk0 : (0 : Int) ≤ (k : Int) := by omega
      have hkl : (k : Int) < (L.length : Int) := by omega
      have hlx0 := hx.l0
      have hlx1 := hx.l1
      have LN := hide hln
      rw [hln]
      clear hln hx
      generalize hxe : L.getD k rt0 = x at *
      have HXE := hide hxe
      obtain ⟨lt, hlt'⟩ : ∃ lt, leadsTo L a k = lt := ⟨_, rfl⟩
      have HLT := hide hlt'
      rw [hlt']
      clear hxe hlt'
      go_wp2_with fail
      refine (withinK x a _ hlx0 hlx1).mono ?_
      rintro e w2 ⟨rfl, hs2⟩
      have y0 := (hs2.cell _ _ hg).trans x0
      have y1 := (hs2.cell _ _ hg).trans x1
      have y2 := (hs2.cell _ _ hg).trans x2
      have y3 := (hs2.cell _ _ hg).trans x3
      have hg2 : g < w2.heap.size := Nat.lt_of_lt_of_le hg hs2.size
      have HW2 := hide ((unhide HW).trans hs2)
      have HT2 := hide ((unhide HTR).again hs2)
      clear x0 x1 x2 x3 hs2 HTR
      cases hin : inB a x with
      | false =>
        have f1 : lastI L a (k + 1) = ln := (lastI_no (k := k) (by rw [unhide HXE]; exact hin)).trans (unhide LN)
        have f2 : leadsTo L a (k + 1) = lt := by rw [leadsTo_next, unhide HXE, hin, unhide HLT]; simp
        have F1 := hide f1
        have F2 := hide f2
        clear f1 f2 hin
        cases lt with
        | true =>
          go_wp2_with fail
          go_quiet (fail)
          go_wp2
          go_roundw
          case rel => exact ⟨k + 1, by omega, by go_num, by rw [unhide F1], by rw [unhide F2], (unhide HW2).drewN _⟩
          case measure => simp [intOf]; omega
        | false =>
          go_wp2_with fail
          go_quiet (fail)
          go_wp2
          go_roundw
          case rel => exact ⟨k + 1, by omega, by go_num, by rw [unhide F1], by rw [unhide F2], (unhide HW2).drewN _⟩
          case measure => simp [intOf]; omega
      | true =>
        have f1 : lastI L a (k + 1) = (k : Int) := lastI_yes (k := k) (by rw [unhide HXE]; exact hin)
        have f2 : leadsTo L a (k + 1) = (lt || x.hop != 0) := by rw [leadsTo_next, unhide HXE, hin, unhide HLT]; simp
        have F1 := hide f1
        have F2 := hide f2
        rcases lastI_is L a k with ⟨hl1, _⟩ | ⟨i, hik, hl1, hii, _⟩
        · rw [unhide LN] at hl1
          subst hl1
          clear f1 f2 hin
          cases lt with
          | true =>
            go_wp2_with fail
            go_quiet (fail)
            go_wp2
            go_roundw
            case rel => exact ⟨k + 1, by omega, by go_num, by rw [unhide F1], by rw [unhide F2]; rfl, (unhide HW2).drewN _⟩
            case measure => simp [intOf]; omega
          | false =>
            go_wp2_with fail
            go_quiet (fail)
            go_wp2
            go_roundw
            case rel => exact ⟨k + 1, by omega, by go_num, by rw [unhide F1], by rw [unhide F2]; rfl, (unhide HW2).drewN _⟩
            case measure => simp [intOf]; omega
        · have hle := best_step (unhide HSO) (unhide HOK) hik hlt hii (by rw [unhide HXE]; exact hin)
          rw [unhide HXE] at hle
          rw [unhide LN] at hl1
          subst hl1
          obtain ⟨_, z1, _, _⟩ := rowCell (unhide HT2).row rfl (show i < L.length by omega)
          generalize L.getD i rt0 = z at *
          have hi0 : (0 : Int) ≤ (i : Int) := by omega
          have hil : (i : Int) < (L.length : Int) := by omega
          have hin0 : ¬ (i : Int) < 0 := by omega
          clear f1 f2 hin hii
          cases lt with
          | true =>
            go_wp2_with fail
            go_quiet (fail)
            go_wp2
            go_roundw
            case rel => exact ⟨k + 1, by omega, by go_num, by rw [unhide F1], by rw [unhide F2]; rfl, (unhide HW2).drewN _⟩
            case measure => simp [intOf]; omega
          | false =>
            go_wp2_with fail
            go_quiet (fail)
            go_wp2
            go_roundw
            case rel => exact ⟨k + 1, by omega, by go_num, by rw [unhide F1], by rw [unhide F2]; rfl, (unhide HW2).drewN _⟩
            case measure => simp [intOf]; omega
    · obtain rfl : k = L.length := by omega
      have hlI := lastI_is L a L.length
      have hlt2 := leadsTo_is L a
      obtain ⟨ln, hln⟩ : ∃ ln, lastI L a L.length = ln := ⟨_, rfl⟩
      rw [hln] at hlI
      rw [hln, hlt2]
      have HON2 := hide ((unhide HON).again (unhide HW))
      have HTR2 := hide (unhide HTR)
      have e1 := unhide L1
      have e2 := unhide L2
      have e4 := unhide L4
      obtain ⟨le, hle⟩ : ∃ le, longE L a = le := ⟨_, rfl⟩
      obtain ⟨la, hla⟩ : ∃ la, longA L a = la := ⟨_, rfl⟩
      obtain ⟨pt, hpt⟩ : ∃ pt, passB L a hop true = pt := ⟨_, rfl⟩
      have hpf : passB L a hop false = leadsL L a := rfl
      obtain ⟨lb, hlb⟩ : ∃ lb, leadsL L a = lb := ⟨_, rfl⟩
      have hcase : (ln < 0 ∧ le = 9 ∧ la = rt0 ∧ pt = false) ∨ (∃ i : Nat, i < L.length ∧ ln = (i : Int) ∧ le = 0 ∧ la = L.getD i rt0 ∧ pt = (hop != 0 && la.hop == hop)) := by
        rcases hlI with ⟨h1, h2⟩ | ⟨i, h1, h2, h3, h4⟩
        · have hl := long_none h2
          refine .inl ⟨by omega, ?_, ?_, ?_⟩
          · rw [← hle]; unfold longE; rw [hl]; rfl
          · rw [← hla]; unfold longA; rw [hl]; rfl
          · rw [← hpt]; unfold passB longA; rw [if_pos rfl, hl]
            show (hop != 0 && (0 : Int) == hop) = false
            by_cases e : hop = 0
            · simp [e]
            · have : ((0 : Int) == hop) = false := by simpa using fun q => e q.symm
              rw [this, Bool.and_false]
        · have hl := long_some h1 h3 h4
          refine .inr ⟨i, h1, h2, ?_, ?_, ?_⟩
          · rw [← hle]; unfold longE; rw [hl]; rfl
          · rw [← hla]; unfold longA; rw [hl]; rfl
          · rw [← hpt]; unfold passB; rw [if_pos rfl, hla]
      rw [hle] at e1
      rw [hla] at e2
      rw [hlb]
      have E1 := hide e1
      have E2 := hide e2
      have E3 : Hid (passA r 1 a hop true = pt) := (e4 true).trans hpt
      have E4 : Hid (passA r 1 a hop false = lb) := ((e4 false).trans hpf).trans hlb
      have HC := hide hcase
      clear e1 e2 e4 hlI hlt2 hln hle hla hpt hpf hlb hcase HTR
      go_wp2_with fail
      refine (on_lookup0 (unhide HON2) (unhide E1) (unhide E2)).mono ?_
      rintro en w3 ⟨rfl, hn3⟩
      obtain ⟨o3, k3⟩ := (unhide HON2).step hn3
      have hSA : Still w3 (w3.alloc (.cells #[.int .i64 la.addr, .int .i64 la.len, .int .i64 la.hop, .int .i64 la.from_] 34)) := (Kept.refl _ _).alloc _
      have HBX := hide (BoxX.new w3 la 34)
      have HO3 := hide (o3.again hSA)
      have HT3 := hide (((unhide HTR2).step k3).again hSA)
      have HK3 := hide (((unhide HW).kept (· = b)).trans (k3.trans (hSA.kept (· = b))))
      have hbw : b < w3.heap.size := o3.lt
      clear hn3 o3 k3 hSA HTR2 HON2
      go_wp2_with fail
      generalize hs5 : w3.heap.size = s5 at *
      generalize w3.alloc (.cells #[.int .i64 la.addr, .int .i64 la.len, .int .i64 la.hop, .int .i64 la.from_] 34) = U at *
      refine (on_pass0 (unhide HO3) (unhide L3) (unhide E3)).mono ?_
      rintro en w4 ⟨rfl, hn4⟩
      obtain ⟨o4, k4⟩ := (unhide HO3).step hn4
      have HO4 := hide o4
      have HT4 := hide ((unhide HT3).step k4)
      have HB4 := hide ((unhide HBX).kept k4 (by omega))
      have HK4 := hide ((unhide HK3).trans k4)
      clear hn4 o4 k4 HO3 HT3 HBX HK3
      go_wp2_with fail
      refine (on_pass0 (unhide HO4) (unhide L3) (unhide E4)).mono ?_
      rintro en w6 ⟨rfl, hn6⟩
      obtain ⟨o6, k6⟩ := (unhide HO4).step hn6
      have HO6 := hide o6
      have HT6 := hide ((unhide HT4).step k6)
      have hb6 := (unhide HB4).kept k6 (by omega)
      have HK6 := hide ((unhide HK4).trans k6)
      have q0 := hb6.c0
      have q1 := hb6.c1
      have q2 := hb6.c2
      have q3 := hb6.c3
      have ql := hb6.lt
      clear hn6 o6 k6 HO4 HT4 HB4 HK4 hb6
      rcases unhide HC with ⟨hn0, rfl, rfl, rfl⟩ | ⟨i, hi, rfl, rfl, hxl, hpt⟩
      · have hE : ∀ w, (binOp .eql 34 (.agg #[.int .i64 0, .int .i64 0, .int .i64 0, .int .i64 0]) (.agg #[.int .i64 0, .int .i64 0, .int .i64 0, .int .i64 0])).run Try.prog w = .ok (.bool true) w := fun w => eqRoute rt0 rt0 w
        have q0' : w6.cell? ⟨s5, 0, none⟩ = some (.int .i64 0) := q0
        have q1' : w6.cell? ⟨s5, 1, none⟩ = some (.int .i64 0) := q1
        have q2' : w6.cell? ⟨s5, 2, none⟩ = some (.int .i64 0) := q2
        have q3' : w6.cell? ⟨s5, 3, none⟩ = some (.int .i64 0) := q3
        clear q0 q1 q2 q3
        cases lb with
        | true =>
          go_wp2
          go_ret
          exact ⟨rfl, unhide HO6, unhide HK6⟩
        | false =>
          go_wp2
          go_ret
          exact ⟨rfl, unhide HO6, unhide HK6⟩
      · obtain ⟨g, rfl, hg⟩ := ownsRow_some (unhide HT6).row (by omega)
        obtain ⟨z0, z1, z2, z3⟩ := rowCell (unhide HT6).row rfl hi
        rw [← hxl] at z0 z1 z2 z3
        have hE : ∀ w, (binOp .eql 34 (.agg #[.int .i64 la.addr, .int .i64 la.len, .int .i64 la.hop, .int .i64 la.from_]) (.agg #[.int .i64 la.addr, .int .i64 la.len, .int .i64 la.hop, .int .i64 la.from_])).run Try.prog w = .ok (.bool true) w := fun w => by
          rw [eqRoute, (eqR_iff la la).2 rfl]
        have hi0 : (0 : Int) ≤ (i : Int) := by omega
        have hil : (i : Int) < (L.length : Int) := by omega
        have hin0 : ¬ (i : Int) < 0 := by omega
        clear hxl
        by_cases h0 : hop = 0
        · have hpt' : pt = false := by rw [hpt, h0]; rfl
          subst hpt'
          subst h0
          clear hpt
          cases lb with
          | true =>
            go_wp2_with fail
            go_quiet (fail)
            go_wp2
            go_ret
            exact ⟨rfl, (unhide HO6).again ((Kept.refl _ _).drewN _), (unhide HK6).drewN _⟩
          | false =>
            go_wp2_with fail
            go_quiet (fail)
            go_wp2
            go_ret
            exact ⟨rfl, (unhide HO6).again ((Kept.refl _ _).drewN _), (unhide HK6).drewN _⟩
        · have d0 : (hop != 0) = true := by simpa using h0
          rw [d0, Bool.true_and] at hpt
          cases hq : (la.hop == hop) with
          | true =>
            rw [hq] at hpt
            subst hpt
            cases lb with
            | true =>
              go_wp2_with fail
              go_quiet (fail)
              go_wp2
              go_ret
              exact ⟨rfl, (unhide HO6).again ((Kept.refl _ _).drewN _), (unhide HK6).drewN _⟩
            | false =>
              go_wp2_with fail
              go_quiet (fail)
              go_wp2
              go_ret
              exact ⟨rfl, (unhide HO6).again ((Kept.refl _ _).drewN _), (unhide HK6).drewN _⟩
          | false =>
            rw [hq] at hpt
            subst hpt
            cases lb with
            | true =>
              go_wp2_with fail
              go_quiet (fail)
              go_wp2
              go_ret
              exact ⟨rfl, (unhide HO6).again ((Kept.refl _ _).drewN _), (unhide HK6).drewN _⟩
            | false =>
              go_wp2_with fail
              go_quiet (fail)
              go_wp2
              go_ret
              exact ⟨rfl, (unhide HO6).again ((Kept.refl _ _).drewN _), (unhide HK6).drewN _⟩

theorem quota3_ge {t : Nat} (h : t < 3) : 10 ≤ quota3 11 10 10 t := by
  have : t = 0 ∨ t = 1 ∨ t = 2 := by omega
  rcases this with rfl | rfl | rfl <;> decide
/-- What Table tells. -/
theorem lon_table {G T : Nat → Int} {L : List RouteD} (hk : RefOk (sR (quota3 11 10 10) G T L)) : mayI (sR (quota3 11 10 10) G T L) 1 1 = 0 ∧ Sorted (tableL (sR (quota3 11 10 10) G T L) 1) ∧ (∀ y ∈ tableL (sR (quota3 11 10 10) G T L) 1, okRoute y) ∧ (tableL (sR (quota3 11 10 10) G T L) 1).length ≤ 1000000 := by
  obtain ⟨h1, h2⟩ := (sR_firsts (quota3 11 10 10) G T L).table (i := 0) (by omega)
  have e : ((0 : Nat) : Int) + 1 = 1 := rfl
  rw [e] at h1 h2
  rw [h2]
  have hn : 0 < (sR (quota3 11 10 10) G T L).nl := by show 0 < 3; omega
  obtain ⟨g1, g2⟩ := tab_good hk hn
  refine ⟨h1, g1, g2, ?_⟩
  unfold tabF
  rw [tableR_len]
  have h3 := hk.tab.ownN 0 hn
  have hq : ((sR (quota3 11 10 10) G T L).life 0).quota = 11 := rfl
  rw [hq] at h3
  unfold spare
  rw [hq]
  have := List.length_take_le (((11 : Int) - ((sR (quota3 11 10 10) G T L).life 0).own.length).toNat) (offF (sR (quota3 11 10 10) G T L) 0)
  omega
/-- A route for the address alone is set, and found. -/
theorem lon_last {G T : Nat → Int} {L : List RouteD} (hk : RefOk (sR (quota3 11 10 10) G T L)) (hL : OkOnes L) {a : Int} (ha0 : 0 ≤ a) (ha1 : a ≤ 65535) :
    insertR (sR (quota3 11 10 10) G T L) 1 a 16 201 = 0 ∧ lookR (insertedR (sR (quota3 11 10 10) G T L) 1 a 16 201) 1 a = 0 ∧ lookA (insertedR (sR (quota3 11 10 10) G T L) 1 a 16 201) 1 a = ⟨a, 16, 201, 0⟩ := by
  have hF := sR_firsts (quota3 11 10 10) G T L
  obtain ⟨m1, m2⟩ := hF.may (i := 0) (by omega) (right := 2) (by decide)
  have e : ((0 : Nat) : Int) + 1 = 1 := rfl
  rw [e] at m1 m2
  have hp : isPfx a 16 = true := by
    unfold isPfx
    rw [Bool.and_eq_true, decide_eq_true_eq, beq_iff_eq]
    refine ⟨⟨ha0, ha1, by omega, by omega⟩, ?_⟩
    show a % pw 0 = 0
    unfold pw
    omega
  have hn : newRoute (sR (quota3 11 10 10) G T L) 1 a 16 201 = ⟨a, 16, 201, 0⟩ := by unfold newRoute; rw [m2]; rfl
  have hlen : ((ofT L 0).length : Int) < 11 := by
    have h1 := hL.few 0
    have h2 : (ofT L 0).length = cnt L 0 := rfl
    omega
  have hi : insIn ((sR (quota3 11 10 10) G T L).life 0) ⟨a, 16, 201, 0⟩ = 0 := by
    unfold insIn
    split
    · rfl
    · exact if_neg (show ¬ (11 : Int) ≤ ((ofT L 0).length : Int) by omega)
  have e0 : insertR (sR (quota3 11 10 10) G T L) 1 a 16 201 = 0 := by
    unfold insertR
    rw [if_pos m1, hp, m2, hn, hi]
    decide
  have hk' := hk.inserted 1 a 16 201
  have e1 : insertedR (sR (quota3 11 10 10) G T L) 1 a 16 201 = ownS (sR (quota3 11 10 10) G T L) 0 (insOwn ((sR (quota3 11 10 10) G T L).life 0).own ⟨a, 16, 201, 0⟩) := by
    unfold insertedR
    rw [if_pos e0, m2, hn]
  rw [e1] at hk' ⊢
  have hF' : Firsts (ownS (sR (quota3 11 10 10) G T L) 0 (insOwn ((sR (quota3 11 10 10) G T L).life 0).own ⟨a, 16, 201, 0⟩)) 3 := hF.life (hF.live 0 (by omega))
  have hmem : (⟨a, 16, 201, 0⟩ : RouteD) ∈ ((ownS (sR (quota3 11 10 10) G T L) 0 (insOwn ((sR (quota3 11 10 10) G T L).life 0).own ⟨a, 16, 201, 0⟩)).life 0).own := by
    have he : ((ownS (sR (quota3 11 10 10) G T L) 0 (insOwn ((sR (quota3 11 10 10) G T L).life 0).own ⟨a, 16, 201, 0⟩)).life 0).own = insOwn ((sR (quota3 11 10 10) G T L).life 0).own ⟨a, 16, 201, 0⟩ := by
      unfold ownS
      simp only
      rw [upd_same]
    rw [he]
    exact mem_insOwn _ _
  have hnl : 0 < (ownS (sR (quota3 11 10 10) G T L) 0 (insOwn ((sR (quota3 11 10 10) G T L).life 0).own ⟨a, 16, 201, 0⟩)).nl := by show 0 < 3; omega
  generalize ownS (sR (quota3 11 10 10) G T L) 0 (insOwn ((sR (quota3 11 10 10) G T L).life 0).own ⟨a, 16, 201, 0⟩) = r' at *
  obtain ⟨t1, t2⟩ := hF'.table (i := 0) (by omega)
  rw [e] at t1 t2
  obtain ⟨g1, g2⟩ := tab_good hk' hnl
  have hlo : longL (tableL r' 1) a = some ⟨a, 16, 201, 0⟩ := by
    rw [t2]
    exact long_of g1 g2 (((tabF_is hk'.tab hk'.own hnl).2 _).2 (.inl hmem)) rfl rfl
  refine ⟨e0, ?_, ?_⟩
  · unfold lookR longE
    rw [if_pos t1, if_pos ((okAddr_iff a).2 ⟨ha0, ha1⟩), hlo]
    rfl
  · unfold lookA longA
    rw [if_pos t1, if_pos ((okAddr_iff a).2 ⟨ha0, ha1⟩), hlo]
    rfl
end Go.Proofs.Ytgndledehlilkaa
