/-
  Revoked: the walk.
-/
import Derived.Test.YtgndledehlilkaaKeepQ
import Derived.Test.YtgndledehlilkaaRev1
namespace Go.Proofs.Ytgndledehlilkaa
open Go.RowKit

theorem infoIntK : (Try.prog.info? 3).map (fun i => (i.zero, i.size, i.bytes)) = some (some (.int .i64 0), 1, 8) := by kernel_rfl
def lineV (k : Nat) : List Value := (List.range k).map fun j => Value.int .i64 (lineN j : Int)
theorem lineV_succ (k : Nat) : lineV (k + 1) = lineV k ++ [.int .i64 (lineN k : Int)] := by simp [lineV, List.range_succ]
theorem lineV_len (k : Nat) : (lineV k).length = k := by simp [lineV]
theorem lineV_at {k j : Nat} (h : j < k) : (lineV k)[j]? = some (.int .i64 (lineN j : Int)) := by
  unfold lineV
  rw [List.getElem?_map, List.getElem?_range h]
  rfl
theorem row_int {w : World} {base g cap k : Nat} (h : w.ownsRow base 3 1 (.slice (some ⟨g, 0, none⟩) k cap) k (lineV k)) {j : Nat} (hj : j < k) : w.cell? ⟨g, j, none⟩ = some (.int .i64 (lineN j : Int)) := by
  rw [h.cellAt j (by omega)]
  exact lineV_at hj
theorem row_one (w : World) : (w.alloc (.cells #[.int .i64 1] 3)).ownsRow w.heap.size 3 1 (.slice (some ⟨w.heap.size, 0, none⟩) 1 1) 1 (lineV 1) := by
  refine ⟨rfl, .inr ⟨w.heap.size, 1, #[.int .i64 1], rfl, Nat.le_refl _, heap_alloc_new w _, by omega, by unfold maxLen; omega, rfl, rfl⟩⟩
theorem On.beside {w0 w w1 : World} {O : Tag} {e b g : Nat} {r : RefS} (h : On w0 w O e b r) (hk : Kept (· = g) w w1) (hg : ¬ mineX O e g) (hg0 : w0.heap.size ≤ g) : On w0 w1 O e b r :=
  ⟨engX.frame h.rep (fun k hk1 hm => hk.block k hk1 (fun q => by subst q; exact hg hm)) (fun _ _ _ => rfl), h.ok, h.new, Kept.trans' h.still hk (fun i hi q => by omega)⟩
set_option maxRecDepth 100000 in
set_option maxHeartbeats 4000000 in
theorem revoked_any (a b c : Int) (w : World) (a1 : -9223372036854775808 ≤ a) (a2 : a ≤ 9223372036854775807) (b1 : -9223372036854775808 ≤ b) (b2 : b ≤ 9223372036854775807) (c1 : -9223372036854775808 ≤ c) (c2 : c ≤ 9223372036854775807) :
    Calls Try.prog 7 #[.int .i64 a, .int .i64 b, .int .i64 c] w fun e w' => e = .returned (.bool true) ∧ Still w w' := by
  have hS0 : Still w (w.alloc (.cells #[.int .i64 5, .int .i64 5] 3)) := (Kept.refl _ _).alloc _
  have hcell : ∀ j, j < ([5, 5] : List Int).length → (w.alloc (.cells #[.int .i64 5, .int .i64 5] 3)).cell? ⟨w.heap.size, j, none⟩ = some (.int .i64 (([5, 5] : List Int).getD j 0)) := by
    intro j hj
    rw [World.cell?_alloc_new]
    have hj' : j < 2 := hj
    have : j = 0 ∨ j = 1 := by omega
    rcases this with rfl | rfl <;> rfl
  have hg : w.heap.size < (w.alloc (.cells #[.int .i64 5, .int .i64 5] 3)).heap.size := by simp
  have hB := begunT (w := w.alloc (.cells #[.int .i64 5, .int .i64 5] 3)) (g := w.heap.size) (cap := 2) (Q := [5, 5]) (T := tokL) (by
    intro j hj
    have hj' : j < 2 := hj
    have : j = 0 ∨ j = 1 := by omega
    rcases this with rfl | rfl <;> rfl) (fun _ => (0, 0, 0)) 1 (fun _ _ => by simp) (by
    intro j hj
    have hj' : j < 2 := hj
    have : j = 0 ∨ j = 1 := by omega
    rcases this with rfl | rfl <;> decide) (by decide) (by decide) hg hcell
  rw [show ([5, 5] : List Int).length = 2 from rfl, lineR_zero] at hB
  have HB := hide hB
  have HS0 := hide hS0
  have hn := pickF_range a (n := 20) (by omega)
  obtain ⟨n, hnE⟩ : ∃ n : Nat, (n : Int) = 1 + pickF a 20 := ⟨(1 + pickF a 20).toNat, by omega⟩
  have hn1 : 1 ≤ n := by omega
  have hn2 : n ≤ 20 := by omega
  have hbr := pickF_range c (n := (n : Int) + 1) (by omega)
  obtain ⟨bs, hbE⟩ : ∃ q : Nat, (q : Int) = pickF c ((n : Int) + 1) := ⟨(pickF c ((n : Int) + 1)).toNat, by omega⟩
  have hbn : bs ≤ n := by omega
  have hkr := pickF_range b (n := (n : Int)) (by omega)
  obtain ⟨k, hkE⟩ : ∃ q : Nat, (q : Int) = 1 + pickF b (n : Int) := ⟨(1 + pickF b (n : Int)).toNat, by omega⟩
  have hk1 : 1 ≤ k := by omega
  have hkn : k ≤ n := by omega
  have NE := hide hnE
  have BE := hide hbE
  have KE := hide hkE
  obtain ⟨i0, hi0, hz0, hz1, hz2⟩ := info_parts infoIntK
  clear hB hS0 hcell hg hn hbr hkr hnE hbE hkE
  go_enter Try.func7, Try.ntmps7
  go_wp2_with fail
  refine (unhide HB).mono ?_
  rintro en w1 ⟨bx, O1, rfl, _, hon⟩
  have HON := hide hon.cut
  clear hon HB
  go_wp2_with fail
  refine (pickK _ _ _ (by omega) a1 a2).mono ?_
  rintro en w' ⟨rfl, hw⟩
  replace hw := hw.symm
  subst hw
  have hw1 : 1 + pickF a 20 = (n : Int) := (unhide NE).symm
  have hp20 : pickF a 20 = (n : Int) - 1 := by omega
  rw [hp20]
  have hn0 : (0 : Int) ≤ (n : Int) - 1 := by omega
  have e0 : 1 + ((n : Int) - 1) = (n : Int) := by omega
  have E0 := hide e0
  clear hw1 hp20 e0
  have hrow := row_one w1
  have hSr : Still w1 (w1.alloc (.cells #[.int .i64 1] 3)) := (Kept.refl _ _).alloc _
  have HROW := hide hrow
  have HON1 := hide ((unhide HON).again hSr)
  have HOFF : Hid (¬ mineX (cutK O1 w1.heap.size) 1 w1.heap.size) := cutK_ge (Nat.le_refl _)
  clear hrow hSr
  go_wp2
  rw [unhide E0]
  generalize hV0 : w.alloc (.cells #[.int .i64 5, .int .i64 5] 3) = V0 at *
  have hz1b := (unhide HON1).still.size
  have hb1 : V0.heap.size ≤ w1.heap.size := (unhide HON).still.size
  clear hV0
  go_loopw [9, 10, 11, 12] (fun l i _ _ w' => ∃ j : Nat, j ≤ n ∧ i = .int .i64 j ∧ w'.ownsRow V0.heap.size 3 1 l (j + 1) (lineV (j + 1)) ∧ ∃ O' : Tag, On V0 w' O' 1 bx (lineR j) ∧ (∀ g, l.ownBlock = some g → ¬ mineX O' 1 g) ∧ ∀ q, w'.heap.size ≤ q → ¬ mineX O' 1 q) (fun _ i _ _ _ => n - (intOf i).toNat)
  case atStart =>
    refine ⟨0, Nat.zero_le _, rfl, (unhide HROW).mono hb1, _, unhide HON1, fun g hg => ?_, fun q hq => cutK_ge (by simp at hq; omega)⟩
    have hg' : w1.heap.size = g := by simpa [Value.ownBlock] using hg
    subst hg'
    exact unhide HOFF
  case round =>
    obtain ⟨j, hj, rfl, hro, O2, hon, hoff, hnew⟩ := hrel
    obtain ⟨la, lc, rfl, hl1, hl2⟩ := ownsRow_slice hro
    unfold maxLen at hl2
    obtain ⟨g, rfl, hgl⟩ := ownsRow_some hro (by omega)
    have HRO := hide hro
    have HON2 := hide hon
    have HOFF2 := hide hoff
    have HNEW2 := hide hnew
    have hzr := hon.still.size
    clear hon hoff hnew
    by_cases hlt : j < n
    · have c0 := row_int hro (j := j) (by omega)
      have hj0 : (0 : Int) ≤ (j : Int) := by omega
      have hjl : (j : Int) < ((j + 1 : Nat) : Int) := by omega
      have hd := lineR_derive (i := j) (by omega)
      have HD := hide hd
      have hln := lineN_pos j
      clear hro hd
      have hjn : (j : Int) < (n : Int) := by omega
      go_wp2_with fail
      refine (on_derive0 (unhide HON2) (unhide HD).1 (unhide HD).2.1 (unhide HD).2.2).mono ?_
      rintro en w2 ⟨rfl, O3, hO3, hon3, hk3, hnew3⟩
      have hr3 := kept_row (unhide HRO) hk3 (unhide HOFF2)
      have hg3 : ¬ mineX O3 1 g := fun q => by
        unfold mineX at q
        rw [hO3 g hgl] at q
        exact unhide HOFF2 g rfl q
      have hz3 := hk3.size
      have HR3 := hide hr3
      have HON3 := hide hon3
      have HG3 := hide hg3
      have HNEW3 := hide hnew3
      have HLN : Hid ((lineN (j + 1) : Int) = (j : Int) + 3) := by
        show (lineN (j + 1) : Int) = (j : Int) + 3
        unfold lineN
        rw [if_neg (by omega)]
        omega
      have hzz := hon3.still.size
      clear hr3 hon3 hg3 hnew3 hk3 hO3
      go_wp2_with (at_builtin; refine wpList_append_lies _ rfl _ _ _ rfl V0.heap.size 3 i0 _ 1 8 Try.underlying25 hi0 hz0 hz1 hz2 rfl (by omega) (.slice (some ⟨g, 0, none⟩) (j + 1) lc) (j + 1) _ rfl ((unhide HR3).alloc _) ⟨w2.heap.size, 0, none⟩ 1 1 [.int .i64 ((j : Int) + 3)] rfl rfl (World.news_of_block (cs := #[.int .i64 ((j : Int) + 3)]) (t := 3) (fr := (0, 0)) (heap_alloc_new w2 _)) (by simp [Value.oneCell']) (by omega) (by unfold maxLen; omega) (by omega) (by simp; omega) (w2.heap.size + 1) (by simp) ?_; intro g4 cap4 w4 hown4 hgrow4 hat4 hlt4)
      have hkg : Kept (· = g) w2 w4 := Kept.grown ((Kept.refl _ _).alloc _) hgrow4 (fun y hy => .inl (by simpa [Value.ownBlock] using hy.symm))
      have hgb := ((unhide HRO).lt g rfl).1
      have hz4 := hkg.size
      have hon4 := (unhide HON3).beside hkg (unhide HG3) hgb
      have hg4 : ¬ mineX O3 1 g4 := by
        rcases hat4 with hh | hh
        · have : g = g4 := by simpa [Value.ownBlock] using hh
          rw [← this]; exact unhide HG3
        · rw [hh]; exact unhide HNEW3 _ (by omega)
      have HON4 := hide hon4
      have HG4 := hide hg4
      have HO4 := hide hown4
      have HZ4 := hide hz4
      clear hkg hon4 hg4 hown4 hgrow4 hat4 hz4
      go_roundw
      case rel =>
        refine ⟨j + 1, by omega, by go_num, ?_, O3, unhide HON4, fun y hy => ?_, fun q hq => unhide HNEW3 q (by have := unhide HZ4; omega)⟩
        · rw [lineV_succ (j + 1), unhide HLN]; exact unhide HO4
        · have : g4 = y := by simpa [Value.ownBlock] using hy
          rw [← this]; exact unhide HG4
      case measure => simp [intOf]; omega
    · obtain rfl : j = n := by omega
      have c0 := row_int hro (j := bs) (by omega)
      have hb0 : (0 : Int) ≤ (bs : Int) := by omega
      have hbl : (bs : Int) < ((j + 1 : Nat) : Int) := by omega
      have hd := sideR_is (n := j) (b := bs) hbn (by omega)
      rw [sideR_eq hbn] at hd
      have HD := hide hd
      have hjn : ¬ (j : Int) < (j : Int) := by omega
      have hn0' : (0 : Int) ≤ (j : Int) := by omega
      clear hro hd
      go_wp2_with fail
      refine (pickK _ _ _ (by omega) c1 c2).mono ?_
      rintro en w' ⟨rfl, hw⟩
      replace hw := hw.symm
      subst hw
      rw [← unhide BE]
      go_wp2_with fail
      refine (on_derive0 (unhide HON2) (unhide HD).1 (unhide HD).2.1 (unhide HD).2.2).mono ?_
      rintro en w2 ⟨rfl, O3, hO3, hon3, hk3, hnew3⟩
      have hr3 := kept_row (unhide HRO) hk3 (unhide HOFF2)
      have hg3 : ¬ mineX O3 1 g := fun q => by
        unfold mineX at q
        rw [hO3 g hgl] at q
        exact unhide HOFF2 g rfl q
      have hz3 := hk3.size
      have gl3 : g < w2.heap.size := by omega
      have HR3 := hide hr3
      have HON3 := hide hon3
      have HG3 := hide hg3
      clear hr3 hon3 hg3 hnew3 hk3 hO3 HRO HON2 HOFF2 HNEW2 HD c0
      go_wp2_with fail
      refine (pickK _ _ _ (by omega) b1 b2).mono ?_
      rintro en w' ⟨rfl, hw⟩
      replace hw := hw.symm
      subst hw
      have hkk : pickF b (j : Int) = (k : Int) - 1 := by have := unhide KE; omega
      rw [hkk]
      have e1 : 1 + ((k : Int) - 1) = (k : Int) := by omega
      have E1 := hide e1
      have hk0 : (0 : Int) ≤ (k : Int) - 1 := by omega
      clear hkk e1
      obtain ⟨u1, u2, u3⟩ := rev_up (n := j) (b := bs) hk1 hkn
      have u4 := rev_done (n := j) (b := bs) hk1 hkn
      have u1' := rev_keep _ u1
      have u2' := rev_keep _ u2
      have ck := row_int (unhide HR3) (j := k) (by omega)
      have ck1 := row_int (unhide HR3) (j := k - 1) (by omega)
      have c00 := row_int (unhide HR3) (j := 0) (by omega)
      have hln0 : lineN 0 = 1 := rfl
      rw [hln0] at c00
      have hc00 : w2.cell? ⟨g, 0, none⟩ = some (.int .i64 1) := c00
      have hk0' : (0 : Int) ≤ (k : Int) := by omega
      have hk1' : (1 : Int) ≤ (k : Int) := by omega
      have hwr : IntKind.i64.wrap ((k : Int) - 1) = (k : Int) - 1 := wrap_small (by omega) (by omega)
      have hkl : (k : Int) < (j : Int) + 1 := by omega
      have hk1l : (k : Int) - 1 < (j : Int) + 1 := by omega
      have hjl0 : (0 : Int) < (j : Int) + 1 := by omega
      have U1 := hide u1
      have U2 := hide u2
      have U3 := hide u3
      have U4 := hide u4
      have U1' := hide u1'
      have U2' := hide u2'
      clear u1 u2 u3 u4 u1' u2' hln0 c00
      go_wp2_with fail
      rw [unhide E1]
      have HONd := hide ((unhide HON3).again ((Kept.refl _ w2).drew))
      go_region_held3 (fun w' => w'.cell? ⟨g, k, none⟩ = some (.int .i64 (lineN k : Int)) ∧ w'.cell? ⟨g, k - 1, none⟩ = some (.int .i64 (lineN (k - 1) : Int))) (first | go_keep | (go_split_ands; exact ⟨(hk5.cell (p := ⟨g, k, none⟩) gl3 (unhide HG3)).trans ck, (hk5.cell (p := ⟨g, _, none⟩) gl3 (unhide HG3)).trans ck1⟩)) ((go_at_call 15; refine (on_revoke0 (unhide HONd) (unhide U1) (unhide U1')).mono ?_; rintro en w5 ⟨rfl, O5, hO5, hon5, hk5, hnew5⟩))
      have hz5 := hk5.size
      have dg5 : (w2.drew).heap.size = w2.heap.size := rfl
      have gl5 : g < w5.heap.size := by omega
      have hg5 : ¬ mineX O5 1 g := fun q => by
        unfold mineX at q
        rw [hO5 g gl3] at q
        exact unhide HG3 q
      have ck5 := (hk5.cell (p := ⟨g, k, none⟩) gl3 (unhide HG3)).trans ck
      have cz5 := (hk5.cell (p := ⟨g, 0, none⟩) gl3 (unhide HG3)).trans hc00
      have hr5 := kept_row (kept_row (unhide HR3) ((Kept.refl (fun _ => False) w2).drew) (fun _ _ q => q)) hk5 (fun y hy => by have : g = y := (by simpa [Value.ownBlock] using hy); subst this; exact unhide HG3)
      have HR5 := hide hr5
      have HG5 := hide hg5
      have HONd5 := hide (hon5.again ((Kept.refl _ w5).drew))
      clear hk5 hO5 hon5 hnew5 hr5 hg5 ck ck1 hc00 HR3 HG3 HONd HON3 gl3
      go_wp2_with fail
      go_region_held3 (fun w' => w'.cell? ⟨g, k, none⟩ = some (.int .i64 (lineN k : Int))) (first | go_keep | (go_split_ands; exact ((hk6.cell (p := ⟨g, k, none⟩) gl5 (unhide HG5)).trans ck5)) | exact ((hk6.cell (p := ⟨g, k, none⟩) gl5 (unhide HG5)).trans ck5)) ((go_at_call 15; refine (on_revoke0 (unhide HONd5) (unhide U2) (unhide U2')).mono ?_; rintro en w6 ⟨rfl, O6, hO6, hon6, hk6, hnew6⟩))
      have hz6 := hk6.size
      have gl6 : g < w6.heap.size := by have : (w5.drew).heap.size = w5.heap.size := rfl; omega
      have hg6 : ¬ mineX O6 1 g := fun q => by
        unfold mineX at q
        rw [hO6 g gl5] at q
        exact unhide HG5 q
      have ck6 := (hk6.cell (p := ⟨g, k, none⟩) gl5 (unhide HG5)).trans ck5
      have cz6 := (hk6.cell (p := ⟨g, 0, none⟩) gl5 (unhide HG5)).trans cz5
      have hr6 := kept_row (kept_row (unhide HR5) ((Kept.refl (fun _ => False) w5).drew) (fun _ _ q => q)) hk6 (fun y hy => by have : g = y := (by simpa [Value.ownBlock] using hy); subst this; exact unhide HG5)
      have HR6 := hide hr6
      have HG6 := hide hg6
      have HONd6 := hide (hon6.again ((Kept.refl _ w6).drew))
      clear hk6 hO6 hon6 hnew6 hr6 hg6 ck5 cz5 HR5 HG5 HONd5
      go_wp2_with fail
      go_region_held3 (fun w' => w'.cell? ⟨g, k, none⟩ = some (.int .i64 (lineN k : Int)) ∧ w'.cell? ⟨g, 0, none⟩ = some (.int .i64 1)) (first | go_keep | (go_split_ands; exact ⟨(hk7.cell (p := ⟨g, k, none⟩) gl6 (unhide HG6)).trans ck6, (hk7.cell (p := ⟨g, 0, none⟩) gl6 (unhide HG6)).trans cz6⟩)) ((go_at_call 15; refine (on_revoke0 (unhide HONd6) (unhide U3) (unhide U4)).mono ?_; rintro en w7 ⟨rfl, O7, hO7, hon7, hk7, hnew7⟩))
      have hz7 := hk7.size
      have gl7 : g < w7.heap.size := by have : (w6.drew).heap.size = w6.heap.size := rfl; omega
      have hg7 : ¬ mineX O7 1 g := fun q => by
        unfold mineX at q
        rw [hO7 g gl6] at q
        exact unhide HG6 q
      have hr7 := kept_row (kept_row (unhide HR6) ((Kept.refl (fun _ => False) w6).drew) (fun _ _ q => q)) hk7 (fun y hy => by have : g = y := (by simpa [Value.ownBlock] using hy); subst this; exact unhide HG6)
      have HR7 := hide hr7
      have HG7 := hide hg7
      have HON7 := hide hon7
      clear hk7 hO7 hon7 hnew7 hr7 hg7 ck6 cz6 HR6 HG6 HONd6 gl6 gl5 U1 U2 U3 U4 U1' U2' HROW HOFF HON HON1
      go_wp2
      go_loopw [20, 21, 22, 23, 24] (fun i _ _ _ _ w' => ∃ q : Nat, q ≤ j + 1 ∧ i = .int .i64 q ∧ w'.ownsRow V0.heap.size 3 1 (.slice (some ⟨g, 0, none⟩) (j + 1) lc) (j + 1) (lineV (j + 1)) ∧ ∃ (O' : Tag) (own : List RouteD), (own = [] ∨ own = [zeroX]) ∧ On V0 w' O' 1 bx (revR j bs (some (lineN k - 1)) own) ∧ ¬ mineX O' 1 g) (fun i _ _ _ _ _ => j + 1 - (intOf i).toNat)
      case atStart => exact ⟨0, Nat.zero_le _, rfl, unhide HR7, O7, [], .inl rfl, unhide HON7, unhide HG7⟩
      case round =>
        obtain ⟨q, hq, rfl, hro2, O8, own, hown, hon8, hg8⟩ := hrel
        have HR8 := hide hro2
        have HON8 := hide hon8
        have HG8 := hide hg8
        have HOWN := hide hown
        have gl8 : g < wr.heap.size := ownsRow_lt hro2 rfl
        have c8 : q ≤ j → wr.cell? ⟨g, q, none⟩ = some (.int .i64 (lineN q : Int)) := fun h => row_int hro2 (by omega)
        clear hro2 hon8 hg8 hown
        by_cases hqj : q ≤ j
        · have c9 := c8 hqj
          have hq0 : (0 : Int) ≤ (q : Int) := by omega
          have hql : (q : Int) < (j : Int) + 1 := by omega
          have hqle : (q : Int) ≤ (j : Int) := by omega
          by_cases hkq : k ≤ q
          · have hkq' : (k : Int) ≤ (q : Int) := by omega
            obtain ⟨v1, v2⟩ := rev_insert (n := j) (b := bs) (k := k) hqj hkn (unhide HOWN)
            rw [if_pos hkq] at v1 v2
            obtain ⟨t1, _⟩ := may_line (n := j) (b := bs) (k := k) (own := own) hqj hkn hasB_15.1
            rw [if_pos hkq] at t1
            have V1 := hide v1
            have V2 := hide v2
            have T1 := hide t1
            clear v1 v2 t1
            go_wp2_with fail
            refine (on_insert0 (unhide HON8) (unhide V1) (unhide V2)).mono ?_
            rintro en w9 ⟨rfl, O9, hO9, hon9, hk9, _⟩
            have hr9 := kept_row (unhide HR8) hk9 (fun y hy => by have : g = y := (by simpa [Value.ownBlock] using hy); subst this; exact unhide HG8)
            have hg9 : ¬ mineX O9 1 g := fun z => by
              unfold mineX at z
              rw [hO9 g gl8] at z
              exact unhide HG8 z
            have gl9 : g < w9.heap.size := ownsRow_lt hr9 rfl
            have c10 := row_int hr9 (j := q) (by omega)
            have HR9 := hide hr9
            have HG9 := hide hg9
            have HON9 := hide hon9
            clear hr9 hg9 hon9 hk9 hO9 HR8 HG8 HON8 c9 c8
            go_wp2_with fail
            refine (on_table0 (unhide HON9) (unhide T1) rfl).mono ?_
            rintro en w10 ⟨ra, rc, rfl, _, O10, hO10, hon10, hk10, _, _⟩
            have hr10 := kept_row (unhide HR9) hk10 (fun y hy => by have : g = y := (by simpa [Value.ownBlock] using hy); subst this; exact unhide HG9)
            have hg10 : ¬ mineX O10 1 g := fun z => by
              unfold mineX at z
              rw [hO10 g gl9] at z
              exact unhide HG9 z
            have HR10 := hide hr10
            have HG10 := hide hg10
            have HON10 := hide hon10
            clear hr10 hg10 hon10 hk10 hO10 HR9 HG9 HON9 c10
            generalize (tableL (revR j bs (some (lineN k - 1)) own) (lineN q)).length = tl at *
            go_wp2
            go_roundw
            case rel => exact ⟨q + 1, by omega, by go_num, unhide HR10, O10, own, unhide HOWN, unhide HON10, unhide HG10⟩
            case measure => simp [intOf]; omega
          · have hkq' : ¬ (k : Int) ≤ (q : Int) := by omega
            obtain ⟨v1, v2⟩ := rev_insert (n := j) (b := bs) (k := k) hqj hkn (unhide HOWN)
            rw [if_neg hkq] at v1 v2
            obtain ⟨t1, _⟩ := may_line (n := j) (b := bs) (k := k) (own := [zeroX]) hqj hkn hasB_15.1
            rw [if_neg hkq] at t1
            have V1 := hide v1
            have V2 := hide v2
            have T1 := hide t1
            clear v1 v2 t1
            go_wp2_with fail
            refine (on_insert0 (unhide HON8) (unhide V1) (unhide V2)).mono ?_
            rintro en w9 ⟨rfl, O9, hO9, hon9, hk9, _⟩
            have hr9 := kept_row (unhide HR8) hk9 (fun y hy => by have : g = y := (by simpa [Value.ownBlock] using hy); subst this; exact unhide HG8)
            have hg9 : ¬ mineX O9 1 g := fun z => by
              unfold mineX at z
              rw [hO9 g gl8] at z
              exact unhide HG8 z
            have gl9 : g < w9.heap.size := ownsRow_lt hr9 rfl
            have c10 := row_int hr9 (j := q) (by omega)
            have HR9 := hide hr9
            have HG9 := hide hg9
            have HON9 := hide hon9
            clear hr9 hg9 hon9 hk9 hO9 HR8 HG8 HON8 c9 c8
            go_wp2_with fail
            refine (on_table0 (unhide HON9) (unhide T1) rfl).mono ?_
            rintro en w10 ⟨ra, rc, rfl, _, O10, hO10, hon10, hk10, _, _⟩
            have hr10 := kept_row (unhide HR9) hk10 (fun y hy => by have : g = y := (by simpa [Value.ownBlock] using hy); subst this; exact unhide HG9)
            have hg10 : ¬ mineX O10 1 g := fun z => by
              unfold mineX at z
              rw [hO10 g gl9] at z
              exact unhide HG9 z
            have HR10 := hide hr10
            have HG10 := hide hg10
            have HON10 := hide hon10
            clear hr10 hg10 hon10 hk10 hO10 HR9 HG9 HON9 c10
            generalize (tableL (revR j bs (some (lineN k - 1)) [zeroX]) (lineN q)).length = tl at *
            go_wp2
            go_roundw
            case rel => exact ⟨q + 1, by omega, by go_num, unhide HR10, O10, [zeroX], .inr rfl, unhide HON10, unhide HG10⟩
            case measure => simp [intOf]; omega
        · obtain rfl : q = j + 1 := by omega
          obtain ⟨s1, s2⟩ := may_side (n := j) (b := bs) (k := k) (own := own) hbn hkn
          obtain ⟨d1, d2⟩ := rev_last (n := j) (b := bs) (k := k) (own := own) hk1 hkn (by omega)
          have hq9 : ((j + 1 : Nat) : Int) = (j : Int) + 1 := by omega
          have D1 := hide d1
          have D2 := hide d2
          clear c8 d1 d2
          by_cases hkb : k ≤ bs
          · rw [if_pos hkb] at s1 s2
            have s3 : insertR (revR j bs (some (lineN k - 1)) own) ((j : Int) + 3) 0 0 1 = 3 := by unfold insertR; rw [if_neg (by rw [s2]; omega), s2]
            have s4 : insertedR (revR j bs (some (lineN k - 1)) own) ((j : Int) + 3) 0 0 1 = revR j bs (some (lineN k - 1)) own := by unfold insertedR; rw [if_neg (by rw [s3]; omega)]
            have S1 := hide s1
            have S3 := hide s3
            have S4 := hide s4
            have hkb' : (k : Int) ≤ (bs : Int) := by omega
            clear s1 s2 s3 s4
            go_wp2_with fail
            refine (on_table0 (unhide HON8) (unhide S1) rfl).mono ?_
            rintro en w10 ⟨ra, rc, rfl, _, O10, hO10, hon10, hk10, _, _⟩
            have HON10 := hide hon10
            clear hon10 hk10 hO10 HON8
            generalize (tableL (revR j bs (some (lineN k - 1)) own) ((j : Int) + 3)).length = tl at *
            go_wp2_with fail
            refine (on_insert0 (unhide HON10) (unhide S3) (unhide S4)).mono ?_
            rintro en w11 ⟨rfl, O11, hO11, hon11, hk11, _⟩
            have HON11 := hide hon11
            clear hon11 hk11 hO11 HON10
            go_wp2_with fail
            refine (on_derive0 (unhide HON11) (unhide D1) (unhide D2) rfl).mono ?_
            rintro en w12 ⟨rfl, O12, hO12, hon12, hk12, _⟩
            have HSF : Hid (Still w w12) := (unhide HS0).trans hon12.still
            clear hon12 hk12 hO12 HON11
            go_wp2
            go_ret
            exact ⟨rfl, unhide HSF⟩
          · rw [if_neg hkb] at s1 s2
            have s3 : insertR (revR j bs (some (lineN k - 1)) own) ((j : Int) + 3) 0 0 1 = 4 := by unfold insertR; rw [if_neg (by rw [s2]; omega), s2]
            have s4 : insertedR (revR j bs (some (lineN k - 1)) own) ((j : Int) + 3) 0 0 1 = revR j bs (some (lineN k - 1)) own := by unfold insertedR; rw [if_neg (by rw [s3]; omega)]
            have S1 := hide s1
            have S3 := hide s3
            have S4 := hide s4
            have hkb' : ¬ (k : Int) ≤ (bs : Int) := by omega
            clear s1 s2 s3 s4
            go_wp2_with fail
            refine (on_table0 (unhide HON8) (unhide S1) rfl).mono ?_
            rintro en w10 ⟨ra, rc, rfl, _, O10, hO10, hon10, hk10, _, _⟩
            have HON10 := hide hon10
            clear hon10 hk10 hO10 HON8
            generalize (tableL (revR j bs (some (lineN k - 1)) own) ((j : Int) + 3)).length = tl at *
            go_wp2_with fail
            refine (on_insert0 (unhide HON10) (unhide S3) (unhide S4)).mono ?_
            rintro en w11 ⟨rfl, O11, hO11, hon11, hk11, _⟩
            have HON11 := hide hon11
            clear hon11 hk11 hO11 HON10
            go_wp2_with fail
            refine (on_derive0 (unhide HON11) (unhide D1) (unhide D2) rfl).mono ?_
            rintro en w12 ⟨rfl, O12, hO12, hon12, hk12, _⟩
            have HSF : Hid (Still w w12) := (unhide HS0).trans hon12.still
            clear hon12 hk12 hO12 HON11
            go_wp2
            go_ret
            exact ⟨rfl, unhide HSF⟩
end Go.Proofs.Ytgndledehlilkaa
