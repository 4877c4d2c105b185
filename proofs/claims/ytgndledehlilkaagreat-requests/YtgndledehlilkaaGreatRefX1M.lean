import Derived.Test.YtgndledehlilkaaGreatDoP
import Derived.Test.YtgndledehlilkaaGreatPrX1M
import Derived.Test.YtgndledehlilkaaGreatRefOps
import Derived.Laws.Concat
namespace Go.Proofs.YtgndledehlilkaaGreat
open Go.RowKit

/-- A string is a form of n signs. -/
def FormIs (s : ByteArray) (n : Nat) (f : Nat → Nat) : Prop := s.size = n ∧ ∀ i (h : i < s.size), (s[i]'h).toNat = f i
/-- Where the i-th field stands, and what it is. -/
def offW (f : Nat → Nat) : Nat → Nat
  | 0 => 0
  | i + 1 => offW f i + (if f i = 119 then 2 else 1)
def fldW (f : Nat → Nat) (S : List Int) (i : Nat) : Int := if f i = 119 then fW S (offW f i) else fB S (offW f i)
/-- The flags among the first k fields are 0 or 1. -/
def flagW (f : Nat → Nat) (S : List Int) (k : Nat) : Bool := (List.range k).all fun j => decide (f j = 102 → fldW f S j ≤ 1)
def okW (f : Nat → Nat) (n : Nat) (S : List Int) : Bool := decide (offW f n = S.length) && flagW f S n
theorem flagW_succ (f : Nat → Nat) (S : List Int) (k : Nat) : flagW f S (k + 1) = (flagW f S k && decide (f k = 102 → fldW f S k ≤ 1)) := by unfold flagW; rw [List.range_succ, List.all_append]; simp
theorem flagW_mono {f : Nat → Nat} {S : List Int} {k m : Nat} (h : k ≤ m) (hf : flagW f S k = false) : flagW f S m = false := by
  induction m with
  | zero => obtain rfl : k = 0 := by omega
            exact hf
  | succ m ih =>
    rcases Nat.lt_or_ge m k with h1 | h1
    · obtain rfl : k = m + 1 := by omega
      exact hf
    · rw [flagW_succ, ih h1]; rfl
theorem offW_mono (f : Nat → Nat) {k m : Nat} (h : k ≤ m) : offW f k ≤ offW f m := by
  induction m with
  | zero => obtain rfl : k = 0 := by omega
            exact Nat.le_refl _
  | succ m ih =>
    rcases Nat.lt_or_ge m k with h1 | h1
    · obtain rfl : k = m + 1 := by omega
      exact Nat.le_refl _
    · have := ih h1
      show _ ≤ offW f m + _
      omega
theorem offW_le (f : Nat → Nat) (m : Nat) : offW f m ≤ 2 * m := by
  induction m with
  | zero => exact Nat.le_refl _
  | succ m ih =>
    show offW f m + (if f m = 119 then 2 else 1) ≤ _
    split <;> omega
theorem infoIntX : (Tryz.prog.info? 3).map (fun i => (i.zero, i.size, i.bytes)) = some (some (.int .i64 0), 1, 8) := by kernel_rfl
set_option maxRecDepth 100000 in
set_option maxHeartbeats 4000000 in
theorem read_any {w : World} {s : ByteArray} {n : Nat} {f : Nat → Nat} (hf : FormIs s n f) (hn : n ≤ 5000) {a : Option Addr} {bn bc : Nat} {S : List Int} (h : BytesIn w (.slice a bn bc) S) :
    Calls Tryz.prog 88 #[.string s, .slice a bn bc] w fun en w' => ∃ v, en = .returned (.tuple #[v, .bool (okW f n S)]) ∧ (okW f n S = true → w'.ownsRow w.heap.size 3 1 v n (enc n fun j => [.int .i64 (fldW f S j)])) ∧ Still w w' := by
  obtain ⟨i0, hi0, hz0, hz1, hz2⟩ := info_parts infoIntX
  obtain ⟨a', c', e, hl⟩ := h.slice
  simp only [Value.slice.injEq] at e
  obtain ⟨rfl, rfl, rfl⟩ := e
  obtain ⟨hsz, hch⟩ := hf
  have H := hide h
  have HCH := hide hch
  clear h hch
  go_enter Tryz.func88, Tryz.ntmps88
  go_wp2
  go_loopw [6, 7, 8, 9, 10] (fun l t i _ _ w' => ∃ k : Nat, k ≤ n ∧ i = .int .i64 k ∧ t = .int .i64 (offW f k : Nat) ∧ offW f k ≤ S.length ∧ flagW f S k = true ∧ w'.ownsRow w.heap.size 3 1 l k (enc k fun j => [.int .i64 (fldW f S j)]) ∧ Still w w') (fun _ _ i _ _ _ => n - (intOf i).toNat)
  case atStart => exact ⟨0, by omega, rfl, rfl, Nat.zero_le _, rfl, World.ownsRow_nil _ _ _ _, Kept.refl _ _⟩
  case round =>
    obtain ⟨k, hk, rfl, rfl, hoff, hfl, hrow, hst⟩ := hrel
    obtain ⟨la, lc, rfl, hl1, hl2⟩ := ownsRow_slice hrow
    have HW := hide ((unhide H).still hst)
    have HROW := hide hrow
    have HST := hide hst
    have HFL := hide hfl
    have hwz := hst.size
    have ho2 := offW_le f k
    clear hrow hst hfl
    by_cases hlt : k < n
    · have hks : k < s.size := by omega
      have hc := unhide HCH k hks
      have hk0 : (0 : Int) ≤ (k : Int) := by omega
      have hk1 : (k : Int) < (s.size : Int) := by omega
      have hsu := hide (flagW_succ f S k)
      have hm := offW_mono f (k := k + 1) (m := n) (by omega)
      have e1 : offW f (k + 1) = offW f k + (if f k = 119 then 2 else 1) := rfl
      have eF : fldW f S k = if f k = 119 then fW S (offW f k) else fB S (offW f k) := rfl
      by_cases h119 : f k = 119
      · rw [if_pos h119] at e1 eF
        have HE1 := hide e1
        have HEF := hide eF
        rw [h119] at hc
        by_cases hfit : offW f k + 2 ≤ S.length
        · obtain ⟨bs, off, rfl, _, q0⟩ := (unhide HW).at (k := offW f k) (by omega)
          obtain ⟨bs', off', ee, _, q1⟩ := (unhide HW).at (k := offW f k + 1) (by omega)
          simp only [Option.some.injEq, Addr.mk.injEq, and_true] at ee
          obtain ⟨rfl, rfl⟩ := ee
          obtain ⟨r0, r1⟩ := fB_ok (unhide HW).1 (offW f k)
          obtain ⟨r2, r3⟩ := fB_ok (unhide HW).1 (offW f k + 1)
          have eW : fW S (offW f k) = 256 * fB S (offW f k) + fB S (offW f k + 1) := rfl
          have HEW := hide eW
          have hq0' : (0 : Int) ≤ (offW f k : Int) := by omega
          clear e1 eF eW
          generalize fB S (offW f k) = x at *
          generalize fB S (offW f k + 1) = y at *
          have H119 := hide h119
          clear h119
          generalize hO : offW f k = o at *
          have HO := hide hO
          clear hO
          go_wp2_with (at_builtin; refine wpList_append_lies _ rfl _ _ _ rfl w.heap.size 3 i0 _ 1 8 Tryz.underlying24 hi0 hz0 hz1 hz2 rfl (by omega) (.slice la k lc) k _ rfl ((unhide HROW).alloc _) ⟨wr.heap.size, 0, none⟩ 1 1 [.int .i64 (256 * x + y)] rfl rfl (World.news_of_block (cs := #[.int .i64 (256 * x + y)]) (t := 3) (fr := (0, 0)) (heap_alloc_new wr _)) (by simp [Value.oneCell']) (by omega) (by unfold maxLen; omega) (by omega) (by simp; omega) (wr.heap.size + 1) (by simp) ?_; intro g4 cap4 w4 hown4 hgrow4 hat4 hlt4)
          have hge : ∀ y, (Value.slice la k lc).ownBlock = some y → w.heap.size ≤ y := fun y hy => ((unhide HROW).lt y hy).1
          have hkg : Kept (fun y => (Value.slice la k lc).ownBlock = some y) wr w4 := Kept.grown ((Kept.refl _ _).alloc _) hgrow4 (fun y hy => .inl hy)
          have hst5 : Still w w4 := Kept.trans' (unhide HST) hkg (fun i hi q => by have := hge i q; omega)
          have HO4 := hide hown4
          have HST5 := hide hst5
          clear hkg hst5 hown4 hgrow4 hat4 hge
          go_roundw
          case rel =>
            refine ⟨k + 1, by omega, by go_num, by rw [unhide HE1]; go_num, by rw [unhide HE1]; omega, ?_, ?_, unhide HST5⟩
            · rw [unhide hsu, unhide HFL]
              rw [unhide H119]; simp
            · rw [enc_succ, unhide HEF]
              rw [unhide HEW]; exact unhide HO4
          case measure => simp [intOf]; omega
        · have hbad : okW f n S = false := by
            unfold okW
            rw [decide_eq_false (by omega)]
            rfl
          have HBAD := hide hbad
          have hq : (S.length : Int) < (offW f k : Int) + 2 := by omega
          clear e1 eF hbad
          go_wp2
          go_ret2
          exact ⟨_, (by rw [unhide HBAD]; rfl), (fun hq => absurd ((unhide HBAD).symm.trans hq) (by decide)), unhide HST⟩
      · rw [if_neg h119] at e1 eF
        have HE1 := hide e1
        have HEF := hide eF
        have n119 : ((f k : Int) == 119) = false := by rw [beq_eq_false_iff_ne]; omega
        by_cases hfit : offW f k + 1 ≤ S.length
        · obtain ⟨bs, off, rfl, _, q0⟩ := (unhide HW).at (k := offW f k) (by omega)
          obtain ⟨r0, r1⟩ := fB_ok (unhide HW).1 (offW f k)
          have hq0' : (0 : Int) ≤ (offW f k : Int) := by omega
          by_cases h102 : f k = 102
          · by_cases hx1 : fB S (offW f k) ≤ 1
            · clear e1 eF
              have HX1 := hide hx1
              generalize fB S (offW f k) = x at *
              rw [h102] at hc n119
              have H102 := hide h102
              clear h102 h119
              generalize hO : offW f k = o at *
              have HO := hide hO
              clear hO
              go_wp2_with (at_builtin; refine wpList_append_lies _ rfl _ _ _ rfl w.heap.size 3 i0 _ 1 8 Tryz.underlying24 hi0 hz0 hz1 hz2 rfl (by omega) (.slice la k lc) k _ rfl ((unhide HROW).alloc _) ⟨wr.heap.size, 0, none⟩ 1 1 [.int .i64 x] rfl rfl (World.news_of_block (cs := #[.int .i64 x]) (t := 3) (fr := (0, 0)) (heap_alloc_new wr _)) (by simp [Value.oneCell']) (by omega) (by unfold maxLen; omega) (by omega) (by simp; omega) (wr.heap.size + 1) (by simp) ?_; intro g4 cap4 w4 hown4 hgrow4 hat4 hlt4)
              have hge : ∀ y, (Value.slice la k lc).ownBlock = some y → w.heap.size ≤ y := fun y hy => ((unhide HROW).lt y hy).1
              have hkg : Kept (fun y => (Value.slice la k lc).ownBlock = some y) wr w4 := Kept.grown ((Kept.refl _ _).alloc _) hgrow4 (fun y hy => .inl hy)
              have hst5 : Still w w4 := Kept.trans' (unhide HST) hkg (fun i hi q => by have := hge i q; omega)
              have HO4 := hide hown4
              have HST5 := hide hst5
              clear hkg hst5 hown4 hgrow4 hat4 hge
              go_roundw
              case rel =>
                refine ⟨k + 1, by omega, by go_num, by rw [unhide HE1]; go_num, by rw [unhide HE1]; omega, ?_, ?_, unhide HST5⟩
                · rw [unhide hsu, unhide HFL]
                  rw [unhide HEF, decide_eq_true (fun _ => unhide HX1)]; rfl
                · rw [enc_succ, unhide HEF]
                  exact unhide HO4
              case measure => simp [intOf]; omega
            · have hbad : okW f n S = false := by
                unfold okW
                rw [flagW_mono (k := k + 1) (by omega) (by rw [unhide hsu, unhide HFL, eF, decide_eq_false (by rw [h102]; simpa using hx1)]; rfl)]
                simp
              have HBAD := hide hbad
              clear e1 eF hbad
              generalize fB S (offW f k) = x at *
              rw [h102] at hc n119
              clear h102 h119
              generalize hO : offW f k = o at *
              have HO := hide hO
              clear hO
              go_wp2
              go_ret2
              exact ⟨_, (by rw [unhide HBAD]; rfl), (fun hq => absurd ((unhide HBAD).symm.trans hq) (by decide)), unhide HST⟩
          · have n102 : ((f k : Int) == 102) = false := by rw [beq_eq_false_iff_ne]; omega
            clear e1 eF
            generalize fB S (offW f k) = x at *
            have H102 := hide h102
            clear h102 h119
            generalize hO : offW f k = o at *
            have HO := hide hO
            clear hO
            go_wp2_with (at_builtin; refine wpList_append_lies _ rfl _ _ _ rfl w.heap.size 3 i0 _ 1 8 Tryz.underlying24 hi0 hz0 hz1 hz2 rfl (by omega) (.slice la k lc) k _ rfl ((unhide HROW).alloc _) ⟨wr.heap.size, 0, none⟩ 1 1 [.int .i64 x] rfl rfl (World.news_of_block (cs := #[.int .i64 x]) (t := 3) (fr := (0, 0)) (heap_alloc_new wr _)) (by simp [Value.oneCell']) (by omega) (by unfold maxLen; omega) (by omega) (by simp; omega) (wr.heap.size + 1) (by simp) ?_; intro g4 cap4 w4 hown4 hgrow4 hat4 hlt4)
            have hge : ∀ y, (Value.slice la k lc).ownBlock = some y → w.heap.size ≤ y := fun y hy => ((unhide HROW).lt y hy).1
            have hkg : Kept (fun y => (Value.slice la k lc).ownBlock = some y) wr w4 := Kept.grown ((Kept.refl _ _).alloc _) hgrow4 (fun y hy => .inl hy)
            have hst5 : Still w w4 := Kept.trans' (unhide HST) hkg (fun i hi q => by have := hge i q; omega)
            have HO4 := hide hown4
            have HST5 := hide hst5
            clear hkg hst5 hown4 hgrow4 hat4 hge
            go_roundw
            case rel =>
              refine ⟨k + 1, by omega, by go_num, by rw [unhide HE1]; go_num, by rw [unhide HE1]; omega, ?_, ?_, unhide HST5⟩
              · rw [unhide hsu, unhide HFL]
                rw [decide_eq_true (fun q => absurd q (unhide H102))]; rfl
              · rw [enc_succ, unhide HEF]
                exact unhide HO4
            case measure => simp [intOf]; omega
        · have hbad : okW f n S = false := by
            unfold okW
            rw [decide_eq_false (by omega)]
            rfl
          have HBAD := hide hbad
          have hq : (S.length : Int) < (offW f k : Int) + 1 := by omega
          clear e1 eF hbad
          go_wp2
          go_ret2
          exact ⟨_, (by rw [unhide HBAD]; rfl), (fun hq => absurd ((unhide HBAD).symm.trans hq) (by decide)), unhide HST⟩
    · obtain rfl : k = n := by omega
      cases hok : decide (offW f k = S.length)
      · have e2 : okW f k S = false := by unfold okW; rw [hok]; rfl
        have e3 : ((offW f k : Int) == (S.length : Int)) = false := by rw [beq_eq_false_iff_ne]; have := of_decide_eq_false hok; omega
        have HE2 := hide e2
        clear e2 hok
        generalize hO : offW f k = o at *
        have HO := hide hO
        clear hO
        go_wp2
        go_ret2
        exact ⟨_, (by rw [unhide HE2]; rfl), (fun hq => absurd ((unhide HE2).symm.trans hq) (by decide)), unhide HST⟩
      · have e2 : okW f k S = true := by unfold okW; rw [hok, unhide HFL]; rfl
        have e3 : ((offW f k : Int) == (S.length : Int)) = true := by rw [beq_iff_eq]; have := of_decide_eq_true hok; omega
        have HE2 := hide e2
        clear e2 hok
        generalize hO : offW f k = o at *
        have HO := hide hO
        clear hO
        go_wp2
        go_ret2
        exact ⟨_, (by rw [unhide HE2]; rfl), (fun _ => unhide HROW), unhide HST⟩

/-- The form of a request. -/
def formL (n : Int) : List UInt8 :=
  if n = 1 ∨ n = 2 then [98] else if n = 3 then [119, 98] else if n = 4 ∨ n = 9 then [119, 119] else if n = 5 then [119, 119, 98, 98] else if n = 6 then [119, 119, 98] else if n = 7 then [119, 98, 98] else if n = 8 then [119, 42] else if n = 10 then [119, 119, 98, 102] else if n = 11 ∨ n = 12 then [119] else []
def formOk (n : Int) : Bool := decide (1 ≤ n ∧ n ≤ 12)
set_option maxHeartbeats 1000000 in
theorem forms_any (x : Int) (w : World) :
    Calls Tryz.prog 86 #[.int .i64 x] w fun en w' => en = .returned (.tuple #[.string ⟨(formL x).toArray⟩, .bool (formOk x)]) ∧ w' = w := by
  unfold formL formOk
  rcases (by omega : x = 1 ∨ x = 2 ∨ x = 3 ∨ x = 4 ∨ x = 5 ∨ x = 6 ∨ x = 7 ∨ x = 8 ∨ x = 9 ∨ x = 10 ∨ x = 11 ∨ x = 12 ∨ (x ≠ 1 ∧ x ≠ 2 ∧ x ≠ 3 ∧ x ≠ 4 ∧ x ≠ 5 ∧ x ≠ 6 ∧ x ≠ 7 ∧ x ≠ 8 ∧ x ≠ 9 ∧ x ≠ 10 ∧ x ≠ 11 ∧ x ≠ 12)) with rfl | rfl | rfl | rfl | rfl | rfl | rfl | rfl | rfl | rfl | rfl | rfl | ⟨n1, n2, n3, n4, n5, n6, n7, n8, n9, n10, n11, n12⟩
  case inr.inr.inr.inr.inr.inr.inr.inr.inr.inr.inr.inr =>
    rw [if_neg (by omega), if_neg (by omega), if_neg (by omega), if_neg (by omega), if_neg (by omega), if_neg (by omega), if_neg (by omega), if_neg (by omega), if_neg (by omega), decide_eq_false (by omega)]
    rw [← beq_eq_false_iff_ne] at n1 n2 n3 n4 n5 n6 n7 n8 n9 n10 n11 n12
    go_enter Tryz.func86, Tryz.ntmps86
    go_wp2
    go_ret2
    exact ⟨rfl, rfl⟩
  all_goals
    simp only [Int.reduceEq, Int.reduceLE, or_true, or_false, if_true, if_false, or_self, and_self, decide_true]
    go_enter Tryz.func86, Tryz.ntmps86
    go_wp2
    go_ret2
    exact ⟨rfl, rfl⟩
/-- The form of a Filter with so many rules. -/
def spreadL : Nat → List UInt8
  | 0 => [119, 98]
  | k + 1 => spreadL k ++ [102, 119, 98, 98, 98]
theorem spreadL_len (k : Nat) : (spreadL k).length = 2 + 5 * k := by
  induction k with
  | zero => rfl
  | succ k ih => show (spreadL k ++ _).length = _; rw [List.length_append, ih]; simp; omega
/-- The form, with the star resolved. -/
def formS (x : Int) (b : List Int) : List UInt8 := if x = 8 then spreadL (fB b 2).toNat else formL x
theorem formL_star (x : Int) (h : x ≠ 8) : (formL x == [119, 42]) = false := by
  unfold formL
  repeat' split
  all_goals first | rfl | (exfalso; omega)
set_option maxRecDepth 100000 in
set_option maxHeartbeats 1000000 in
theorem spread_star {w : World} {a : Option Addr} {n c : Nat} {S : List Int} (h : BytesIn w (.slice a n c) S) :
    Calls Tryz.prog 87 #[.string ⟨#[119, 42]⟩, .slice a n c] w fun en w' => en = .returned (.string ⟨(spreadL (fB S 2).toNat).toArray⟩) ∧ w' = w := by
  obtain ⟨a', c', e, hl⟩ := h.slice
  simp only [Value.slice.injEq] at e
  obtain ⟨rfl, rfl, rfl⟩ := e
  obtain ⟨b0, b1⟩ := fB_ok h.1 2
  by_cases hlt : 2 < S.length
  · obtain ⟨bs, off, rfl, _, hc⟩ := h.at (k := 2) hlt
    obtain ⟨N2, hN2⟩ : ∃ m : Nat, fB S 2 = (m : Int) := ⟨(fB S 2).toNat, by omega⟩
    rw [hN2] at b0 b1 hc ⊢
    have e3 : (N2 : Int).toNat = N2 := by omega
    rw [e3]
    clear h e3 hN2
    have hlt' : (2 : Int) < (S.length : Int) := by omega
    go_enter Tryz.func87, Tryz.ntmps87
    go_wp2
    go_loopw [5, 6] (fun s i w' => ∃ k : Nat, k ≤ N2 ∧ i = .int .i64 k ∧ s = .string ⟨(spreadL k).toArray⟩ ∧ w' = w) (fun _ i _ => N2 - (intOf i).toNat)
    case atStart => exact ⟨0, by omega, rfl, rfl, rfl⟩
    case round =>
      obtain ⟨k, hk, rfl, rfl, rfl⟩ := hrel
      by_cases hk2 : k < N2
      · have hsl := spreadL_len k
        have hsu : spreadL (k + 1) = spreadL k ++ [102, 119, 98, 98, 98] := rfl
        have HSU := hide hsu
        clear hsu
        generalize spreadL k = L at *
        go_wp2
        go_roundw
        case rel => exact ⟨k + 1, by omega, by go_num, by rw [unhide HSU, ← Go.ByteArray.mk_append_mk], trivial⟩
        case measure => simp [intOf]; omega
      · obtain rfl : k = N2 := by omega
        go_wp2
        go_ret
        exact ⟨rfl, rfl⟩
  · have e0 : fB S 2 = 0 := fB_out (by omega)
    rw [e0]
    clear h b0 b1 e0
    have hlt' : ¬ ((2 : Int) < (S.length : Int)) := by omega
    go_enter Tryz.func87, Tryz.ntmps87
    go_wp2
    go_ret
    exact ⟨rfl, rfl⟩
set_option maxHeartbeats 1000000 in
theorem spread_other {w : World} (v : Value) (L : List UInt8) (hL : (L == [119, 42]) = false) :
    Calls Tryz.prog 87 #[.string ⟨L.toArray⟩, v] w fun en w' => en = .returned (.string ⟨L.toArray⟩) ∧ w' = w := by
  have hs : ((ByteArray.mk L.toArray).toList == (ByteArray.mk #[119, 42]).toList) = false := by
    rw [show (ByteArray.mk #[119, 42]) = ByteArray.mk ([119, 42] : List UInt8).toArray from rfl, ByteArray.toList_mk, ByteArray.toList_mk]
    exact hL
  go_enter Tryz.func87, Tryz.ntmps87
  go_wp2
  go_ret
  exact ⟨rfl, rfl⟩

/-- The signs of a form. -/
def chF (L : List UInt8) (i : Nat) : Nat := (L.getD i 0).toNat
theorem formIs_list (L : List UInt8) : FormIs ⟨L.toArray⟩ L.length (chF L) := by
  refine ⟨by simp [ByteArray.size], fun i h => ?_⟩
  unfold chF
  have hl : i < L.length := by simpa [ByteArray.size] using h
  rw [List.getD_eq_getElem?_getD, List.getElem?_eq_getElem hl]
  rfl
theorem fB_tail (x : Int) (b : List Int) (k : Nat) : fB (x :: b) (k + 1) = fB b k := by unfold fB; simp
theorem fB_head (x : Int) (b : List Int) : fB (x :: b) 0 = x := by unfold fB; simp
theorem fW_tail (x : Int) (b : List Int) (k : Nat) : fW (x :: b) (k + 1) = fW b k := by unfold fW; rw [fB_tail, fB_tail]
theorem sp_zero (k : Nat) : chF (spreadL k) 0 = 119 ∧ chF (spreadL k) 1 = 98 := by
  induction k with
  | zero => exact ⟨rfl, rfl⟩
  | succ k ih =>
    have hl := spreadL_len k
    have key : ∀ i, i < 2 → chF (spreadL (k + 1)) i = chF (spreadL k) i := fun i hi => by
      unfold chF
      show ((spreadL k ++ _).getD i 0).toNat = _
      rw [List.getD_eq_getElem?_getD, List.getElem?_append_left (by omega), ← List.getD_eq_getElem?_getD]
    rw [key 0 (by omega), key 1 (by omega)]
    exact ih
theorem sp_at (k : Nat) : ∀ i r, i < k → r < 5 → chF (spreadL k) (2 + 5 * i + r) = chF [102, 119, 98, 98, 98] r := by
  induction k with
  | zero => intro i r h; omega
  | succ k ih =>
    intro i r hi hr
    have hl := spreadL_len k
    by_cases h : i < k
    · rw [← ih i r h hr]
      unfold chF
      show ((spreadL k ++ _).getD _ 0).toNat = _
      rw [List.getD_eq_getElem?_getD, List.getElem?_append_left (by omega), ← List.getD_eq_getElem?_getD]
    · obtain rfl : i = k := by omega
      unfold chF
      show ((spreadL i ++ [102, 119, 98, 98, 98]).getD _ 0).toNat = _
      rw [List.getD_eq_getElem?_getD, List.getElem?_append_right (by omega), hl, show 2 + 5 * i + r - (2 + 5 * i) = r by omega, ← List.getD_eq_getElem?_getD]
theorem offW_succ (f : Nat → Nat) (i : Nat) : offW f (i + 1) = offW f i + (if f i = 119 then 2 else 1) := rfl
section
variable {k : Nat}
theorem sp5 {i : Nat} (h : i < k) : chF (spreadL k) (2 + 5 * i) = 102 ∧ chF (spreadL k) (2 + 5 * i + 1) = 119 ∧ chF (spreadL k) (2 + 5 * i + 2) = 98 ∧ chF (spreadL k) (2 + 5 * i + 3) = 98 ∧ chF (spreadL k) (2 + 5 * i + 4) = 98 :=
  ⟨sp_at k i 0 h (by omega), sp_at k i 1 h (by omega), sp_at k i 2 h (by omega), sp_at k i 3 h (by omega), sp_at k i 4 h (by omega)⟩
theorem sp_off (k : Nat) : ∀ i, i ≤ k → offW (chF (spreadL k)) (2 + 5 * i) = 3 + 6 * i := by
  intro i
  induction i with
  | zero =>
    intro _
    obtain ⟨h0, h1⟩ := sp_zero k
    show offW _ (0 + 1 + 1) = _
    rw [offW_succ, offW_succ, h1, h0]
    rfl
  | succ i ih =>
    intro hi
    obtain ⟨c0, c1, c2, c3, c4⟩ := sp5 (k := k) (i := i) (by omega)
    rw [show 2 + 5 * (i + 1) = 2 + 5 * i + 4 + 1 by omega, offW_succ, c4, offW_succ, c3, offW_succ, c2, offW_succ, c1, offW_succ, c0, ih (by omega)]
    simp
    omega
theorem sp_offs {i : Nat} (h : i < k) : offW (chF (spreadL k)) (2 + 5 * i) = 3 + 6 * i ∧ offW (chF (spreadL k)) (2 + 5 * i + 1) = 4 + 6 * i ∧ offW (chF (spreadL k)) (2 + 5 * i + 2) = 6 + 6 * i ∧ offW (chF (spreadL k)) (2 + 5 * i + 3) = 7 + 6 * i ∧ offW (chF (spreadL k)) (2 + 5 * i + 4) = 8 + 6 * i := by
  obtain ⟨c0, c1, c2, c3, c4⟩ := sp5 h
  have h0 := sp_off k i (by omega)
  have h1 : offW (chF (spreadL k)) (2 + 5 * i + 1) = 4 + 6 * i := by rw [offW_succ, c0, h0]; simp; omega
  have h2 : offW (chF (spreadL k)) (2 + 5 * i + 2) = 6 + 6 * i := by rw [offW_succ, c1, h1]; simp; omega
  have h3 : offW (chF (spreadL k)) (2 + 5 * i + 3) = 7 + 6 * i := by rw [offW_succ, c2, h2]; simp; omega
  have h4 : offW (chF (spreadL k)) (2 + 5 * i + 4) = 8 + 6 * i := by rw [offW_succ, c3, h3]; simp; omega
  exact ⟨h0, h1, h2, h3, h4⟩
theorem sp_fld {i : Nat} (h : i < k) (b : List Int) : fldW (chF (spreadL k)) b (2 + 5 * i) = fB b (3 + 6 * i) ∧ fldW (chF (spreadL k)) b (2 + 5 * i + 1) = fW b (4 + 6 * i) ∧ fldW (chF (spreadL k)) b (2 + 5 * i + 2) = fB b (6 + 6 * i) ∧ fldW (chF (spreadL k)) b (2 + 5 * i + 3) = fB b (7 + 6 * i) ∧ fldW (chF (spreadL k)) b (2 + 5 * i + 4) = fB b (8 + 6 * i) := by
  obtain ⟨c0, c1, c2, c3, c4⟩ := sp5 h
  obtain ⟨h0, h1, h2, h3, h4⟩ := sp_offs h
  unfold fldW
  rw [c0, c1, c2, c3, c4, h0, h1, h2, h3, h4]
  exact ⟨rfl, rfl, rfl, rfl, rfl⟩
theorem sp_fld0 (k : Nat) (b : List Int) : fldW (chF (spreadL k)) b 0 = fW b 0 ∧ fldW (chF (spreadL k)) b 1 = fB b 2 := by
  obtain ⟨h0, h1⟩ := sp_zero k
  unfold fldW
  rw [h0, h1, offW_succ, h0]
  exact ⟨rfl, rfl⟩
theorem sp_flag (k : Nat) (x : Int) (b : List Int) : ∀ i, i ≤ k → flagW (chF (spreadL k)) b (2 + 5 * i) = flagsTo (x :: b) i := by
  intro i
  induction i with
  | zero =>
    intro _
    obtain ⟨h0, h1⟩ := sp_zero k
    show flagW _ _ (0 + 1 + 1) = _
    rw [flagW_succ, flagW_succ, h0, h1]
    rfl
  | succ i ih =>
    intro hi
    obtain ⟨c0, c1, c2, c3, c4⟩ := sp5 (k := k) (i := i) (by omega)
    obtain ⟨f0, _, _, _, _⟩ := sp_fld (k := k) (i := i) (by omega) b
    rw [show 2 + 5 * (i + 1) = 2 + 5 * i + 4 + 1 by omega, flagW_succ, c4, flagW_succ, c3, flagW_succ, c2, flagW_succ, c1, flagW_succ, c0, f0, ih (by omega), flagsTo_succ, show 4 + 6 * i = 3 + 6 * i + 1 by omega, fB_tail]
    simp
end
/-- What is a request, by forms. -/
theorem isReq_form (x : Int) (b : List Int) (hb : okBytes (x :: b)) : isReq (x :: b) = (formOk x && okW (chF (formS x b)) (formS x b).length b) := by
  have h3 := fB_ok hb 3
  have e3 : fB (x :: b) 3 = fB b 2 := fB_tail x b 2
  have e6 : fB (x :: b) 6 = fB b 5 := fB_tail x b 5
  unfold isReq sizeB flagsB
  rw [fB_head, e3, e6]
  rw [e3] at h3
  by_cases h8 : x = 8
  · subst h8
    obtain ⟨m, hm⟩ : ∃ m : Nat, fB b 2 = (m : Int) := ⟨(fB b 2).toNat, by omega⟩
    have ef : formS 8 b = spreadL m := by unfold formS; rw [if_pos rfl, hm]; rfl
    rw [ef, spreadL_len, hm]
    unfold okW
    rw [sp_off m m (Nat.le_refl _), sp_flag m 8 b m (Nat.le_refl _)]
    simp only [Int.reduceEq, or_self, if_false, if_true, Int.toNat_natCast, List.length_cons, formOk, Int.reduceLE, and_self, decide_true, Bool.true_and]
    congr 1
    rw [decide_eq_decide]
    omega
  · have ef : formS x b = formL x := by unfold formS; rw [if_neg h8]
    rw [ef]
    clear ef hb h3 e3 e6
    by_cases hx : 1 ≤ x ∧ x ≤ 12
    · have e1 : formOk x = true := decide_eq_true hx
      rw [e1, Bool.true_and]
      rcases (by omega : x = 1 ∨ x = 2 ∨ x = 3 ∨ x = 4 ∨ x = 5 ∨ x = 6 ∨ x = 7 ∨ x = 9 ∨ x = 10 ∨ x = 11 ∨ x = 12) with rfl | rfl | rfl | rfl | rfl | rfl | rfl | rfl | rfl | rfl | rfl
      all_goals
        simp [formL, okW, offW, flagW, chF, fldW, List.range_succ]
        try first | omega | (congr 1; rw [decide_eq_decide]; omega)
    · have e1 : formOk x = false := decide_eq_false hx
      rw [e1, Bool.false_and, if_neg (by omega), if_neg (by omega), if_neg (by omega), if_neg (by omega), if_neg (by omega), if_neg (by omega), if_neg (by omega), decide_eq_false (by simp; omega)]
      rfl

/-- Numbers by a form, behind a byte 0: the first k. -/
def writeW (f : Nat → Nat) (l : Nat → Int) : Nat → List Int
  | 0 => [0]
  | k + 1 => writeW f l k ++ (if f k = 119 then [hiB (l k)] else []) ++ [loB (l k)]
theorem writeW_len (f : Nat → Nat) (l : Nat → Int) (k : Nat) : (writeW f l k).length ≤ 1 + 2 * k := by
  induction k with
  | zero => simp [writeW]
  | succ k ih =>
    show (writeW f l k ++ _ ++ _).length ≤ _
    rw [List.length_append, List.length_append]
    split <;> simp <;> omega
def numsRow (n : Nat) (l : Nat → Int) : List Value := enc n fun j => [.int .i64 (l j)]
theorem wrap_hi {n : Int} (h : 0 ≤ n) : IntKind.u8.wrap (n.tdiv 256) = hiB n := by
  rw [IntKind.wrap_u8, Int.tdiv_eq_ediv_of_nonneg h]; rfl
theorem wrap_lom {n : Int} (h : 0 ≤ n) : IntKind.u8.wrap (n.tmod 256) = loB n := by
  rw [IntKind.wrap_u8, Int.tmod_eq_emod_of_nonneg h]; unfold loB; omega
set_option maxRecDepth 100000 in
set_option maxHeartbeats 4000000 in
theorem written_any {w : World} {s : ByteArray} {n m base : Nat} {f : Nat → Nat} {l : Nat → Int} {v : Value} (hf : FormIs s m f) (hm : n ≤ m) (hn : n ≤ 5000) (hl : ∀ j, j < n → 0 ≤ l j ∧ l j ≤ 2000000) (h : w.ownsRow base 3 1 v n (numsRow n l)) :
    Calls Tryz.prog 120 #[.string s, v] w fun en w' => ∃ u, en = .returned u ∧ w'.ownsRow w.heap.size 5 1 u (writeW f l n).length ((writeW f l n).map byteC) ∧ Still w w' := by
  obtain ⟨i0, hi0, hz0, hz1, hz2⟩ := info_parts infoByteX
  obtain ⟨va, vc, rfl, hv1, hv2⟩ := ownsRow_slice h
  unfold maxLen at hv2
  obtain ⟨hsz, hch⟩ := hf
  have HR := hide h
  have HCH := hide hch
  have HL := hide hl
  have hS : Still w (w.alloc (.cells #[.int .u8 0] 5)) := (Kept.refl _ _).alloc _
  have HR1 : Hid ((w.alloc (.cells #[.int .u8 0] 5)).ownsRow w.heap.size 5 1 (.slice (some ⟨w.heap.size, 0, none⟩) 1 1) (writeW f l 0).length ((writeW f l 0).map byteC)) := bytesNew w [0] (Nat.le_refl _) (by simp)
  have HS := hide hS
  clear h hch hl hS
  go_enter Tryz.func120, Tryz.ntmps120
  go_wp2
  go_loopw [5, 6] (fun o i w' => ∃ k : Nat, k ≤ n ∧ i = .int .i64 k ∧ w'.ownsRow w.heap.size 5 1 o (writeW f l k).length ((writeW f l k).map byteC) ∧ Still w w') (fun _ i _ => n - (intOf i).toNat)
  case atStart => exact ⟨0, by omega, rfl, unhide HR1, unhide HS⟩
  case round =>
    obtain ⟨k, hk, rfl, hrow, hst⟩ := hrel
    obtain ⟨la, lc, rfl, hl1, hl2⟩ := ownsRow_slice hrow
    have HROW := hide hrow
    have HST := hide hst
    have HRW := hide (keptRowX (unhide HR) hst)
    have hwz := hst.size
    have hwl := writeW_len f l k
    clear hrow hst
    by_cases hlt : k < n
    · obtain ⟨g, rfl, hg⟩ := ownsRow_some (unhide HRW) (by omega)
      have x0 : wr.cell? ⟨g, k, none⟩ = some (.int .i64 (l k)) := by
        have := ownsRow_cell (unhide HRW) (fun _ _ => rfl) hlt (j := 0) (by omega)
        simpa using this
      have hc := unhide HCH k (by omega)
      have hk0 : (0 : Int) ≤ (k : Int) := by omega
      have hk1 : (k : Int) < (s.size : Int) := by omega
      have hk2 : (k : Int) < (n : Int) := by omega
      have hks : k < s.size := by omega
      obtain ⟨hl0, hl9⟩ := unhide HL k hlt
      have hsu : writeW f l (k + 1) = writeW f l k ++ (if f k = 119 then [hiB (l k)] else []) ++ [loB (l k)] := rfl
      have HSU := hide hsu
      have ed : (l k).tdiv 256 = l k / 256 := Int.tdiv_eq_ediv_of_nonneg hl0
      have em : (l k).tmod 256 = l k % 256 := Int.tmod_eq_emod_of_nonneg hl0
      clear hsu
      generalize hlk : l k = x at *
      have HLK := hide hlk
      clear hlk
      generalize writeW f l k = W at *
      by_cases h119 : f k = 119
      · rw [if_pos h119] at HSU
        rw [h119] at hc
        clear h119
        go_wp2_with (at_builtin; refine wpList_append_lies _ rfl _ _ _ rfl w.heap.size 5 i0 _ 1 1 Tryz.underlying33 hi0 hz0 hz1 hz2 rfl (by omega) (.slice la W.length lc) (W.length) _ rfl ((unhide HROW).alloc _) ⟨wr.heap.size, 0, none⟩ 1 1 [.int .u8 (hiB x)] rfl rfl (World.news_of_block (cs := #[.int .u8 (hiB x)]) (t := 5) (fr := (0, 0)) (heap_alloc_new wr _)) (by simp [Value.oneCell']) (by omega) (by unfold maxLen; omega) (by omega) (by simp; omega) (wr.heap.size + 1) (by simp) ?_; intro g4 cap4 w4 hown4 hgrow4 hat4 hlt4; refine unhide ?_)
        refine hide ?_
        have hge : ∀ y, (Value.slice la W.length lc).ownBlock = some y → w.heap.size ≤ y := fun y hy => ((unhide HROW).lt y hy).1
        have hkg : Kept (fun y => w.heap.size ≤ y) wr w4 := Kept.grown ((Kept.refl _ _).alloc _) hgrow4 (fun y hy => .inl (hge y hy))
        have hst5 : Still w w4 := Kept.trans' (unhide HST) hkg (fun i hi q => by omega)
        have x4 : w4.cell? ⟨g, k, none⟩ = some (.int .i64 x) := by
          have := ownsRow_cell (keptRowX (unhide HR) hst5) (fun _ _ => rfl) hlt (j := 0) (by omega)
          rw [unhide HLK] at this
          simpa using this
        have HO4 := hide hown4
        have HST5 := hide hst5
        have hz4 := hgrow4.size
        have hz4' : wr.heap.size ≤ w4.heap.size := by simp at hz4; omega
        clear hkg hst5 hown4 hgrow4 hat4 hge hz4 x0
        go_wp2_with (at_builtin; refine wpList_append_lies _ rfl _ _ _ rfl w.heap.size 5 i0 _ 1 1 Tryz.underlying33 hi0 hz0 hz1 hz2 rfl (by omega) (.slice (some ⟨g4, 0, none⟩) (W.length + 1) cap4) (W.length + 1) _ rfl ((unhide HO4).alloc _) ⟨w4.heap.size, 0, none⟩ 1 1 [.int .u8 (loB x)] rfl rfl (World.news_of_block (cs := #[.int .u8 (loB x)]) (t := 5) (fr := (0, 0)) (heap_alloc_new w4 _)) (by simp [Value.oneCell']) (by omega) (by unfold maxLen; omega) (by omega) (by simp; omega) (w4.heap.size + 1) (by simp) ?_; intro g5 cap5 w5 hown4 hgrow4 hat4 hlt4; refine unhide ?_)
        refine hide ?_
        have hge : ∀ y, (Value.slice (some ⟨g4, 0, none⟩) (W.length + 1) cap4).ownBlock = some y → w.heap.size ≤ y := fun y hy => ((unhide HO4).lt y hy).1
        have hkg : Kept (fun y => w.heap.size ≤ y) w4 w5 := Kept.grown ((Kept.refl _ _).alloc _) hgrow4 (fun y hy => .inl (hge y hy))
        have hst5 : Still w w5 := Kept.trans' (unhide HST5) hkg (fun i hi q => by omega)
        have HO5 := hide hown4
        have HST6 := hide hst5
        clear hkg hst5 hown4 hgrow4 hat4 hge x4
        go_wp2
        go_roundw
        case rel =>
          refine ⟨k + 1, by omega, by go_num, ?_, unhide HST6⟩
          rw [unhide HSU, List.length_append, List.length_append, List.map_append, List.map_append]
          exact unhide HO5
        case measure => simp [intOf]; omega
      · rw [if_neg h119] at HSU
        have n119 : ((f k : Int) == 119) = false := by rw [beq_eq_false_iff_ne]; omega
        clear h119
        go_wp2_with (at_builtin; refine wpList_append_lies _ rfl _ _ _ rfl w.heap.size 5 i0 _ 1 1 Tryz.underlying33 hi0 hz0 hz1 hz2 rfl (by omega) (.slice la W.length lc) (W.length) _ rfl ((unhide HROW).alloc _) ⟨wr.heap.size, 0, none⟩ 1 1 [.int .u8 (loB x)] rfl rfl (World.news_of_block (cs := #[.int .u8 (loB x)]) (t := 5) (fr := (0, 0)) (heap_alloc_new wr _)) (by simp [Value.oneCell']) (by omega) (by unfold maxLen; omega) (by omega) (by simp; omega) (wr.heap.size + 1) (by simp) ?_; intro g4 cap4 w4 hown4 hgrow4 hat4 hlt4; refine unhide ?_)
        refine hide ?_
        have hge : ∀ y, (Value.slice la W.length lc).ownBlock = some y → w.heap.size ≤ y := fun y hy => ((unhide HROW).lt y hy).1
        have hkg : Kept (fun y => w.heap.size ≤ y) wr w4 := Kept.grown ((Kept.refl _ _).alloc _) hgrow4 (fun y hy => .inl (hge y hy))
        have hst5 : Still w w4 := Kept.trans' (unhide HST) hkg (fun i hi q => by omega)
        have HO4 := hide hown4
        have HST5 := hide hst5
        clear hkg hst5 hown4 hgrow4 hat4 hge x0
        go_wp2
        go_roundw
        case rel =>
          refine ⟨k + 1, by omega, by go_num, ?_, unhide HST5⟩
          rw [unhide HSU, List.append_nil, List.length_append, List.map_append]
          exact unhide HO4
        case measure => simp [intOf]; omega
    · obtain rfl : k = n := by omega
      go_wp2
      go_ret
      exact ⟨_, rfl, unhide HROW, unhide HST⟩
end Go.Proofs.YtgndledehlilkaaGreat
