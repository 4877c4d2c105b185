/-
  Walks: district: Table, Count.
-/
import Derived.Test.YtgndledehlilkabPrQ
import Derived.Deep.Onto
namespace Go.Proofs.Ytgndledehlilkab
open Go.RowKit

/-- The program's table of t, and its sums. -/
def tabX (p : ProgS) (t : Nat) : List RouteD := (tabTo (p.own t) (offTo p t 8) (p.quota t) (offTo p t 8).length).1
def takX (p : ProgS) (t : Nat) : Nat := (tabTo (p.own t) (offTo p t 8) (p.quota t) (offTo p t 8).length).2.1
def droX (p : ProgS) (t : Nat) : Nat := (tabTo (p.own t) (offTo p t 8) (p.quota t) (offTo p t 8).length).2.2
theorem table_fn {w : World} {b : Nat} {p : ProgS} (h : XAt w b p) (hk : ProgOk p) {t : Nat} (ht : t < 8) :
    Calls Try.prog 44 #[.pointer (some ⟨b, 0, none⟩), .int .i64 (t : Int)] w fun en w' =>
      en = .returned (.tuple #[.agg (listCells (tabX p t).length (pad (tabX p t))).toArray, .agg ([.int .i64 ((p.own t).length : Int), .int .i64 (takX p t : Int), .int .i64 (droX p t : Int), .int .i64 (p.quota t)] : List Value).toArray]) ∧ (tabX p t).length ≤ 64 ∧ Still w w' := table_any h hk ht
theorem infoSums' (a b c d : Int) : (Try.prog.info? 40).map (·.size) = some ([.int .i64 a, .int .i64 b, .int .i64 c, .int .i64 d] : List Value).toArray.size := infoSums
theorem SumAt.there {w : World} {s : Nat} {a b c d : Int} (h : SumAt w s a b c d) : w.there s 0 4 := by
  intro j hj
  refine ⟨?_, h.fz _⟩
  rw [Nat.zero_add]
  rcases j with _ | _ | _ | _ | j
  · rw [h.c0]; rfl
  · rw [h.c1]; rfl
  · rw [h.c2]; rfl
  · rw [h.c3]; rfl
  · omega
section
variable {w : World} {b : Nat} {p : ProgS}
set_option maxHeartbeats 1000000 in
theorem tableT_no (h : XAt w b p) (hf : ProgWf p) {n c : Int} (hc : checkX p n 1 = c) (hc0 : c ≠ 0) :
    Calls Try.prog 36 #[.pointer (some ⟨b, 0, none⟩), .int .i64 n] w fun en w' => en = .returned (.tuple #[.slice none 0 0, .int .i64 c]) ∧ w' = w := by
  have hne : (c != 0) = true := by simpa using hc0
  have HC := hide hc
  have HC0 := hide hc0
  clear hc hc0
  go_enter Try.func36, Try.ntmps36
  go_wp2_with (go_at_call 43; refine (check_no h hf (unhide HC) (unhide HC0)).mono ?_; rintro e w' ⟨rfl, hww⟩; replace hww := hww.symm; subst hww)
  go_ret2
  exact ⟨rfl, rfl⟩
set_option maxHeartbeats 2000000 in
theorem tableT_yes (h : XAt w b p) (hf : ProgWf p) (hk : ProgOk p) {n : Int} {t : Nat} (hc : checkX p n 1 = 0) (htn : p.tenant (n - 1).toNat = (t : Int)) (ht : t < 8) :
    Calls Try.prog 36 #[.pointer (some ⟨b, 0, none⟩), .int .i64 n] w fun en w' => ∃ v, en = .returned (.tuple #[v, .int .i64 0]) ∧ w'.ownsRow w.heap.size 42 4 v (tabX p t).length ((tabX p t).flatMap routeCells) ∧ Still w w' := by
  have HC := hide hc
  have HTN := hide htn
  have HX := hide h
  clear hc htn
  go_enter Try.func36, Try.ntmps36
  go_wp2_with fail
  refine (check_yes h hf (unhide HC)).mono ?_
  rintro e w' ⟨rfl, hww⟩
  replace hww := hww.symm
  subst hww
  rw [unhide HTN]
  clear h
  go_wp2_with fail
  refine (table_fn (unhide HX) hk ht).mono ?_
  rintro e w3 ⟨rfl, h64, hs3⟩
  generalize hl : tabX p t = l at *
  have HLL := hide hl
  clear hl
  have hz := LAt.zero w3
  have hz1 := hz.still ((Kept.refl _ (w3.alloc (.cells Try.zeroCells61 61))).alloc (.cells #[.int .i64 0, .int .i64 0, .int .i64 0, .int .i64 0] 40))
  have hsz : (w3.alloc (.cells Try.zeroCells61 61)).heap.size = w3.heap.size + 1 := by simp
  have hsm0 := SumAt.new (w3.alloc (.cells Try.zeroCells61 61)) 0 0 0 0 40
  rw [hsz] at hsm0
  have hS1 : Still w ((w3.alloc (.cells Try.zeroCells61 61)).alloc (.cells #[.int .i64 0, .int .i64 0, .int .i64 0, .int .i64 0] 40)) := (hs3.alloc _).alloc _
  have h1 := hz1.stored h64 (pad l)
  have hth := hz1.there l.length (pad l)
  have hk1 := Kept.setCells (Kept.refl (· = w3.heap.size) ((w3.alloc (.cells Try.zeroCells61 61)).alloc (.cells #[.int .i64 0, .int .i64 0, .int .i64 0, .int .i64 0] 40))) (.inl rfl) (listCells l.length (pad l)).toArray.toList 0
  have hsm1 := hsm0.kept hk1 (by omega)
  have hb3 := hs3.size
  have hi2 := infoList'' l.length (pad l)
  have ho := listCells_one l.length (pad l)
  have HTH := hide hth
  have H1 := hide h1
  have HSM1 := hide hsm1
  have HS1 := hide hS1
  have HK1 := hide hk1
  clear hz hz1 hsm0 hS1 h1 hth hk1 hsm1 hs3 hsz
  generalize hcs : listCells l.length (pad l) = cs at *
  go_wp2_with (refine wpList_store_mid rfl 61 _ _ rfl _ _ cs.toArray rfl rfl (unhide HTH) hi2 ho (unhide ?_))
  refine hide ?_
  generalize hs : w3.heap.size = s at *
  have hS2 : Still w (((w3.alloc (.cells Try.zeroCells61 61)).alloc (.cells #[.int .i64 0, .int .i64 0, .int .i64 0, .int .i64 0] 40)).setCells s 0 cs.toArray.toList) := Kept.trans' (unhide HS1) (unhide HK1) (fun i hi q => by omega)
  have HS2 := hide hS2
  clear hS2 HK1 HTH HS1
  generalize ((w3.alloc (.cells Try.zeroCells61 61)).alloc (.cells #[.int .i64 0, .int .i64 0, .int .i64 0, .int .i64 0] 40)).setCells s 0 cs.toArray.toList = Y at *
  have hth5 := (unhide HSM1).there
  have hk5 := Kept.setCells (Kept.refl (· = s + 1) Y) (.inl rfl) ([.int .i64 ((p.own t).length : Int), .int .i64 (takX p t : Int), .int .i64 (droX p t : Int), .int .i64 (p.quota t)] : List Value).toArray.toList 0
  have hls := infoSums' ((p.own t).length : Int) (takX p t : Int) (droX p t : Int) (p.quota t)
  have hos : ([.int .i64 ((p.own t).length : Int), .int .i64 (takX p t : Int), .int .i64 (droX p t : Int), .int .i64 (p.quota t)] : List Value).toArray.all (·.oneCell') = true := by simp [Value.oneCell']
  have hth5' : Y.there (s + 1) 0 ([.int .i64 ((p.own t).length : Int), .int .i64 (takX p t : Int), .int .i64 (droX p t : Int), .int .i64 (p.quota t)] : List Value).toArray.size := hth5
  generalize ([.int .i64 ((p.own t).length : Int), .int .i64 (takX p t : Int), .int .i64 (droX p t : Int), .int .i64 (p.quota t)] : List Value) = ss at *
  have h5 : LAt (Y.setCells (s + 1) 0 ss.toArray.toList) s 0 l.length (pad l) := (unhide H1).frame (Nat.lt_of_lt_of_le (unhide H1).lt hk5.size) (hk5.block s (unhide H1).lt (by omega))
  have hS5 : Still w (Y.setCells (s + 1) 0 ss.toArray.toList) := Kept.trans' (unhide HS2) hk5 (fun i hi q => by omega)
  have hz5 := hk5.size
  have hzY := (unhide HS2).size
  have H5 := hide h5
  have HS5 := hide hS5
  have HTH5 := hide hth5'
  clear hk5 h5 hS5 hth5 hth5'
  go_wp2_with (refine wpList_store_mid rfl 40 _ _ rfl _ _ ss.toArray rfl rfl (unhide HTH5) hls hos (unhide ?_))
  refine hide ?_
  generalize Y.setCells (s + 1) 0 ss.toArray.toList = Z at *
  go_wp2_with (go_at_call 66; refine (all_any (unhide H5)).mono ?_; rintro e w9 ⟨v, rfl, hown, hs9⟩; obtain ⟨va, vc, rfl, _, _⟩ := ownsRow_slice hown; have HOWN := hide hown; clear hown)
  go_ret2
  have hzS := (unhide HS5).size
  refine ⟨_, rfl, ?_, (unhide HS5).trans hs9⟩
  have hown : w9.ownsRow Z.heap.size 42 4 (.slice va l.length vc) l.length (l.flatMap routeCells) := by
    have h0 := unhide HOWN
    rw [listOf_pad] at h0
    exact h0
  rw [unhide HLL]
  exact hown.mono hzS
set_option maxHeartbeats 1000000 in
theorem countT_no (h : XAt w b p) (hf : ProgWf p) {n c : Int} (hc : checkX p n 1 = c) (hc0 : c ≠ 0) :
    Calls Try.prog 15 #[.pointer (some ⟨b, 0, none⟩), .int .i64 n] w fun en w' => en = .returned (.tuple #[.agg #[.int .i64 0, .int .i64 0, .int .i64 0, .int .i64 0], .int .i64 c]) ∧ Still w w' := by
  have hne : (c != 0) = true := by simpa using hc0
  have HC := hide hc
  have HC0 := hide hc0
  have hS1 : Still w (w.alloc (.cells #[.int .i64 0, .int .i64 0, .int .i64 0, .int .i64 0] 40)) := (Kept.refl _ _).alloc _
  have HX1 := hide (h.still hS1)
  have HSM := hide (SumAt.new w 0 0 0 0 40)
  have HS1 := hide hS1
  clear hc hc0 hS1
  go_enter Try.func15, Try.ntmps15
  go_wp2_with (go_at_call 43; refine (check_no (unhide HX1) hf (unhide HC) (unhide HC0)).mono ?_; rintro e w' ⟨rfl, hww⟩; replace hww := hww.symm; subst hww)
  refine bodyPost_ret (results_range2 rfl _ _ _ _ _ _ rfl (unhide HSM).range Try.underlying40 rfl infoSums) rfl ?_
  exact ⟨rfl, unhide HS1⟩
set_option maxHeartbeats 2000000 in
theorem countT_yes (h : XAt w b p) (hf : ProgWf p) (hk : ProgOk p) {n : Int} {t : Nat} (hc : checkX p n 1 = 0) (htn : p.tenant (n - 1).toNat = (t : Int)) (ht : t < 8) :
    Calls Try.prog 15 #[.pointer (some ⟨b, 0, none⟩), .int .i64 n] w fun en w' => en = .returned (.tuple #[.agg #[.int .i64 ((p.own t).length : Int), .int .i64 (takX p t : Int), .int .i64 (droX p t : Int), .int .i64 (p.quota t)], .int .i64 0]) ∧ Still w w' := by
  have HC := hide hc
  have HTN := hide htn
  have hS0 : Still w (w.alloc (.cells #[.int .i64 0, .int .i64 0, .int .i64 0, .int .i64 0] 40)) := (Kept.refl _ _).alloc _
  have HX := hide (h.still hS0)
  have HSM0 := hide (SumAt.new w 0 0 0 0 40)
  have HS0 := hide hS0
  clear hc htn hS0 h
  go_enter Try.func15, Try.ntmps15
  go_wp2_with fail
  generalize hs0 : w.heap.size = s0 at *
  generalize w.alloc (.cells #[.int .i64 0, .int .i64 0, .int .i64 0, .int .i64 0] 40) = W0 at *
  refine (check_yes (unhide HX) hf (unhide HC)).mono ?_
  rintro e w' ⟨rfl, hww⟩
  replace hww := hww.symm
  subst hww
  rw [unhide HTN]
  go_wp2_with fail
  refine (table_fn (unhide HX) hk ht).mono ?_
  rintro e w3 ⟨rfl, h64, hs3⟩
  generalize tabX p t = l at *
  have hz := LAt.zero w3
  have hz1 := hz.still ((Kept.refl _ (w3.alloc (.cells Try.zeroCells61 61))).alloc (.cells #[.int .i64 0, .int .i64 0, .int .i64 0, .int .i64 0] 40))
  have hsz : (w3.alloc (.cells Try.zeroCells61 61)).heap.size = w3.heap.size + 1 := by simp
  have hsm0 := SumAt.new (w3.alloc (.cells Try.zeroCells61 61)) 0 0 0 0 40
  rw [hsz] at hsm0
  have hS1 : Still W0 ((w3.alloc (.cells Try.zeroCells61 61)).alloc (.cells #[.int .i64 0, .int .i64 0, .int .i64 0, .int .i64 0] 40)) := (hs3.alloc _).alloc _
  have hth := hz1.there l.length (pad l)
  have hk1 := Kept.setCells (Kept.refl (· = w3.heap.size) ((w3.alloc (.cells Try.zeroCells61 61)).alloc (.cells #[.int .i64 0, .int .i64 0, .int .i64 0, .int .i64 0] 40))) (.inl rfl) (listCells l.length (pad l)).toArray.toList 0
  have hsm1 := hsm0.kept hk1 (by omega)
  have hb3 := hs3.size
  have hi2 := infoList'' l.length (pad l)
  have ho := listCells_one l.length (pad l)
  have HTH := hide hth
  have HSM1 := hide hsm1
  have HS1 := hide hS1
  have HK1 := hide hk1
  have b0 := (unhide HSM0).lt
  clear hz hz1 hsm0 hS1 hth hk1 hsm1 hs3 hsz
  generalize listCells l.length (pad l) = cs at *
  go_wp2_with (refine wpList_store_mid rfl 61 _ _ rfl _ _ cs.toArray rfl rfl (unhide HTH) hi2 ho (unhide ?_))
  refine hide ?_
  generalize hs : w3.heap.size = s at *
  have hS2 : Still W0 (((w3.alloc (.cells Try.zeroCells61 61)).alloc (.cells #[.int .i64 0, .int .i64 0, .int .i64 0, .int .i64 0] 40)).setCells s 0 cs.toArray.toList) := Kept.trans' (unhide HS1) (unhide HK1) (fun i hi q => by omega)
  have HS2 := hide hS2
  clear hS2 HK1 HTH HS1
  generalize ((w3.alloc (.cells Try.zeroCells61 61)).alloc (.cells #[.int .i64 0, .int .i64 0, .int .i64 0, .int .i64 0] 40)).setCells s 0 cs.toArray.toList = Y at *
  have hth5 := (unhide HSM1).there
  have hls := infoSums' ((p.own t).length : Int) (takX p t : Int) (droX p t : Int) (p.quota t)
  have hu := Try.underlying40
  have hi5 : (Try.prog.info? 40).map (·.size) = some ([.int .i64 ((p.own t).length : Int), .int .i64 (takX p t : Int), .int .i64 (droX p t : Int), .int .i64 (p.quota t)] : List Value).length := infoSums
  have hos : ([.int .i64 ((p.own t).length : Int), .int .i64 (takX p t : Int), .int .i64 (droX p t : Int), .int .i64 (p.quota t)] : List Value).toArray.all (·.oneCell') = true := by simp [Value.oneCell']
  have hsl : ([.int .i64 ((p.own t).length : Int), .int .i64 (takX p t : Int), .int .i64 (droX p t : Int), .int .i64 (p.quota t)] : List Value).length = 4 := rfl
  generalize hss : ([.int .i64 ((p.own t).length : Int), .int .i64 (takX p t : Int), .int .i64 (droX p t : Int), .int .i64 (p.quota t)] : List Value) = ss at *
  have HSS := hide hss
  have hth5' : Y.there (s + 1) 0 ss.toArray.size := by rw [List.size_toArray, hsl]; exact hth5
  have hk5 := Kept.setCells (Kept.refl (· = s + 1) Y) (.inl rfl) ss.toArray.toList 0
  have hr5 : (Y.setCells (s + 1) 0 ss.toArray.toList).rangeAt (s + 1) 0 ss := by
    have := World.rangeAt_setCells_same Y (s + 1) 0 ss (by rw [hsl]; exact hth5)
    rw [List.toList_toArray]
    exact this
  have hS5 : Still W0 (Y.setCells (s + 1) 0 ss.toArray.toList) := Kept.trans' (unhide HS2) hk5 (fun i hi q => by omega)
  have hsm5 := (unhide HSM0).kept hS5 (fun q => q)
  have H5 := hide hr5
  have HS5 := hide hS5
  have HTH5 := hide hth5'
  have HT0 : Hid ((Y.setCells (s + 1) 0 ss.toArray.toList).there s0 0 ss.toArray.size) := by
    show (Y.setCells (s + 1) 0 ss.toArray.toList).there s0 0 ss.toArray.size
    rw [List.size_toArray, hsl]
    exact hsm5.there
  clear hk5 hr5 hS5 hth5 hth5' hsm5 hss
  go_wp2_with (refine wpList_store_mid rfl 40 _ _ rfl _ _ ss.toArray rfl rfl (unhide HTH5) hls hos (unhide ?_))
  refine hide ?_
  generalize Y.setCells (s + 1) 0 ss.toArray.toList = Z at *
  have hrf : (Z.setCells s0 0 ss.toArray.toList).rangeAt s0 0 ss := by
    have h0 := unhide HT0
    rw [List.size_toArray] at h0
    have := World.rangeAt_setCells_same Z s0 0 ss h0
    rw [List.toList_toArray]
    exact this
  have hSf : Still w (Z.setCells s0 0 ss.toArray.toList) := Kept.setCells ((unhide HS0).trans (unhide HS5)) (.inr (by omega)) _ _
  have HRF := hide hrf
  have HSF := hide hSf
  clear hrf hSf
  go_wp2_with (first | (refine wpList_load_mid rfl 40 _ rfl _ _ rfl ss _ (unhide H5) hu rfl hi5 ?_) | (refine wpList_store_mid rfl 40 _ _ rfl _ _ ss.toArray rfl rfl (unhide HT0) hls hos (unhide ?_)))
  refine hide ?_
  generalize Z.setCells s0 0 ss.toArray.toList = Z2 at *
  go_wp2
  refine bodyPost_ret (results_range2 rfl _ _ s0 0 ss _ rfl (unhide HRF) hu rfl hi5) rfl ?_
  exact ⟨by rw [← unhide HSS]; rfl, unhide HSF⟩
end
end Go.Proofs.Ytgndledehlilkab
