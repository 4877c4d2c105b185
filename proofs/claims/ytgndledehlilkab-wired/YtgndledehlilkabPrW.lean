/-
  Walks: district: Lookup, Pass.
-/
import Derived.Test.YtgndledehlilkabPrV
import Derived.Test.YtgndledehlilkabPrU
namespace Go.Proofs.Ytgndledehlilkab
open Go.RowKit

/-- The program's table is in order. -/
theorem tabX_good {p : ProgS} (hk : ProgOk p) {t : Nat} (ht : t < 8) : Good (tabX p t) := Good.tab ⟨hk.sorted t ht, hk.route t ht⟩ (Good.off hk t 8 (Nat.le_refl _)) _ (Nat.le_refl _)
section
variable {w : World} {b : Nat} {p : ProgS}
set_option maxHeartbeats 1000000 in
theorem lookup_no (h : XAt w b p) (hf : ProgWf p) {n c : Int} (addr : Int) (hc : checkX p n 1 = c) (hc0 : c ≠ 0) :
    Calls Try.prog 37 #[.pointer (some ⟨b, 0, none⟩), .int .i64 n, .int .i64 addr] w fun en w' => en = .returned (.tuple #[.agg #[.int .i64 0, .int .i64 0, .int .i64 0, .int .i64 0], .int .i64 c]) ∧ Still w w' := by
  have hne : (c != 0) = true := by simpa using hc0
  have HC := hide hc
  have HC0 := hide hc0
  have hS1 : Still w (w.alloc (.cells #[.int .i64 0, .int .i64 0, .int .i64 0, .int .i64 0] 42)) := (Kept.refl _ _).alloc _
  have HX1 := hide (h.still hS1)
  have hsm := SumAt.new w 0 0 0 0 42
  have HSM := hide hsm
  have HS1 := hide hS1
  clear hc hc0 hS1 hsm
  go_enter Try.func37, Try.ntmps37
  go_wp2_with (go_at_call 43; refine (check_no (unhide HX1) hf (unhide HC) (unhide HC0)).mono ?_; rintro e w' ⟨rfl, hww⟩; replace hww := hww.symm; subst hww)
  refine bodyPost_ret (results_range2 rfl _ _ _ _ _ _ rfl (unhide HSM).range Try.underlying42 rfl infoRoute4) rfl ?_
  exact ⟨rfl, unhide HS1⟩
set_option maxHeartbeats 1000000 in
theorem lookup_arg (h : XAt w b p) (hf : ProgWf p) {n : Int} (addr : Int) (hc : checkX p n 1 = 0) (ha : okAddr addr = false) :
    Calls Try.prog 37 #[.pointer (some ⟨b, 0, none⟩), .int .i64 n, .int .i64 addr] w fun en w' => en = .returned (.tuple #[.agg #[.int .i64 0, .int .i64 0, .int .i64 0, .int .i64 0], .int .i64 2]) ∧ Still w w' := by
  have HC := hide hc
  have HA := hide ha
  have hS1 : Still w (w.alloc (.cells #[.int .i64 0, .int .i64 0, .int .i64 0, .int .i64 0] 42)) := (Kept.refl _ _).alloc _
  have HX1 := hide (h.still hS1)
  have hsm := SumAt.new w 0 0 0 0 42
  have HSM := hide hsm
  have HS1 := hide hS1
  clear hc hS1 hsm ha
  go_enter Try.func37, Try.ntmps37
  go_wp2_with fail
  refine (check_yes (unhide HX1) hf (unhide HC)).mono ?_
  rintro e w' ⟨rfl, hww⟩
  replace hww := hww.symm
  subst hww
  go_wp2_with fail
  refine (isAddr_any _ _).mono ?_
  rintro e w' ⟨rfl, hww⟩
  replace hww := hww.symm
  subst hww
  rw [unhide HA]
  go_wp2
  refine bodyPost_ret (results_range2 rfl _ _ _ _ _ _ rfl (unhide HSM).range Try.underlying42 rfl infoRoute4) rfl ?_
  exact ⟨rfl, unhide HS1⟩
set_option maxHeartbeats 4000000 in
theorem lookup_yes (h : XAt w b p) (hf : ProgWf p) (hk : ProgOk p) {n : Int} {t : Nat} (addr : Int) (hc : checkX p n 1 = 0) (htn : p.tenant (n - 1).toNat = (t : Int)) (ht : t < 8) (ha : okAddr addr = true) :
    Calls Try.prog 37 #[.pointer (some ⟨b, 0, none⟩), .int .i64 n, .int .i64 addr] w fun en w' => en = .returned (.tuple #[.agg #[.int .i64 (longA (tabX p t) addr).addr, .int .i64 (longA (tabX p t) addr).len, .int .i64 (longA (tabX p t) addr).hop, .int .i64 (longA (tabX p t) addr).from_], .int .i64 (longE (tabX p t) addr)]) ∧ Still w w' := by
  have HC := hide hc
  have HTN := hide htn
  have HA := hide ha
  have hS0 : Still w (w.alloc (.cells #[.int .i64 0, .int .i64 0, .int .i64 0, .int .i64 0] 42)) := (Kept.refl _ _).alloc _
  have HX := hide (h.still hS0)
  have hsm := SumAt.new w 0 0 0 0 42
  have HSM0 := hide hsm
  have HS0 := hide hS0
  clear hc htn hS0 h hsm ha
  go_enter Try.func37, Try.ntmps37
  go_wp2_with fail
  generalize hs0 : w.heap.size = s0 at *
  generalize w.alloc (.cells #[.int .i64 0, .int .i64 0, .int .i64 0, .int .i64 0] 42) = W0 at *
  refine (check_yes (unhide HX) hf (unhide HC)).mono ?_
  rintro e w' ⟨rfl, hww⟩
  replace hww := hww.symm
  subst hww
  rw [unhide HTN]
  go_wp2_with fail
  refine (isAddr_any _ _).mono ?_
  rintro e w' ⟨rfl, hww⟩
  replace hww := hww.symm
  subst hww
  rw [unhide HA]
  go_wp2_with fail
  refine (table_fn (unhide HX) hk ht).mono ?_
  rintro e w3 ⟨rfl, h64, hs3⟩
  have HG := hide (tabX_good hk ht)
  generalize hl : tabX p t = l at *
  have HLL := hide hl
  clear hl
  have hz := LAt.zero w3
  have hz1 := hz.still ((Kept.refl _ (w3.alloc (.cells Try.zeroCells61 61))).alloc (.cells #[.int .i64 0, .int .i64 0, .int .i64 0, .int .i64 0] 40))
  have hsz : (w3.alloc (.cells Try.zeroCells61 61)).heap.size = w3.heap.size + 1 := by simp
  have hsm0 := SumAt.new (w3.alloc (.cells Try.zeroCells61 61)) 0 0 0 0 40
  rw [hsz] at hsm0
  have hS1 : Still W0 ((w3.alloc (.cells Try.zeroCells61 61)).alloc (.cells #[.int .i64 0, .int .i64 0, .int .i64 0, .int .i64 0] 40)) := (hs3.alloc _).alloc _
  have h1 := hz1.stored h64 (pad l)
  have hth := hz1.there l.length (pad l)
  have hk1 := Kept.setCells (Kept.refl (· = w3.heap.size) ((w3.alloc (.cells Try.zeroCells61 61)).alloc (.cells #[.int .i64 0, .int .i64 0, .int .i64 0, .int .i64 0] 40))) (.inl rfl) (listCells l.length (pad l)).toArray.toList 0
  have hsm1 := hsm0.kept hk1 (by omega)
  have hb3 := hs3.size
  have hi2 := infoList'' l.length (pad l)
  have ho := listCells_one l.length (pad l)
  have HTH := hide hth
  have H1 := hide h1
  have HSM1 := hide hsm1
  have HS1 := hide hS1
  have HK1 := hide hk1
  clear hz hz1 hsm0 hS1 h1 hth hk1 hsm1 hs3 hsz
  generalize hcs : listCells l.length (pad l) = cs at *
  go_wp2_with (refine wpList_store_mid rfl 61 _ _ rfl _ _ cs.toArray rfl rfl (unhide HTH) hi2 ho (unhide ?_))
  refine hide ?_
  generalize hs : w3.heap.size = s at *
  have hS2 : Still W0 (((w3.alloc (.cells Try.zeroCells61 61)).alloc (.cells #[.int .i64 0, .int .i64 0, .int .i64 0, .int .i64 0] 40)).setCells s 0 cs.toArray.toList) := Kept.trans' (unhide HS1) (unhide HK1) (fun i hi q => by omega)
  have HS2 := hide hS2
  clear hS2 HK1 HTH HS1
  generalize ((w3.alloc (.cells Try.zeroCells61 61)).alloc (.cells #[.int .i64 0, .int .i64 0, .int .i64 0, .int .i64 0] 40)).setCells s 0 cs.toArray.toList = Y at *
  have hth5 := (unhide HSM1).there
  have hk5 := Kept.setCells (Kept.refl (· = s + 1) Y) (.inl rfl) ([.int .i64 ((p.own t).length : Int), .int .i64 (takX p t : Int), .int .i64 (droX p t : Int), .int .i64 (p.quota t)] : List Value).toArray.toList 0
  have hls := infoSums' ((p.own t).length : Int) (takX p t : Int) (droX p t : Int) (p.quota t)
  have hos : ([.int .i64 ((p.own t).length : Int), .int .i64 (takX p t : Int), .int .i64 (droX p t : Int), .int .i64 (p.quota t)] : List Value).toArray.all (·.oneCell') = true := by simp [Value.oneCell']
  have hth5' : Y.there (s + 1) 0 ([.int .i64 ((p.own t).length : Int), .int .i64 (takX p t : Int), .int .i64 (droX p t : Int), .int .i64 (p.quota t)] : List Value).toArray.size := hth5
  generalize ([.int .i64 ((p.own t).length : Int), .int .i64 (takX p t : Int), .int .i64 (droX p t : Int), .int .i64 (p.quota t)] : List Value) = ss at *
  have h5 : LAt (Y.setCells (s + 1) 0 ss.toArray.toList) s 0 l.length (pad l) := (unhide H1).frame (Nat.lt_of_lt_of_le (unhide H1).lt hk5.size) (hk5.block s (unhide H1).lt (by omega))
  have hS5 : Still W0 (Y.setCells (s + 1) 0 ss.toArray.toList) := Kept.trans' (unhide HS2) hk5 (fun i hi q => by omega)
  have hz5 := hk5.size
  have hzY := (unhide HS2).size
  have H5 := hide h5
  have HS5 := hide hS5
  have HTH5 := hide hth5'
  clear hk5 h5 hS5 hth5 hth5'
  go_wp2_with (refine wpList_store_mid rfl 40 _ _ rfl _ _ ss.toArray rfl rfl (unhide HTH5) hls hos (unhide ?_))
  refine hide ?_
  generalize Y.setCells (s + 1) 0 ss.toArray.toList = Z at *
  go_wp2_with fail
  refine (longest_any (unhide H5) (unhide HG).route ((okAddr_iff addr).1 (unhide HA))).mono ?_
  rintro e w9 ⟨rfl, hs9⟩
  have hst : Still W0 w9 := (unhide HS5).trans hs9
  have hsm9 := (unhide HSM0).kept hst (fun q => q)
  have z0 := hsm9.c0
  have z1 := hsm9.c1
  have z2 := hsm9.c2
  have z3 := hsm9.c3
  have f0 := hsm9.fz 0
  have f1 := hsm9.fz 1
  have f2 := hsm9.fz 2
  have f3 := hsm9.fz 3
  have zl := hsm9.lt
  have HSM9 := hide hsm9
  have HST := hide hst
  clear hsm9 hst hs9
  generalize hxe : longA l addr = x at *
  have HXE := hide hxe
  clear hxe
  go_wp2
  have hfin := (unhide HSM9).put x.addr x.len x.hop x.from_
  refine bodyPost_ret (results_range2 rfl _ _ _ _ _ _ rfl hfin.range Try.underlying42 rfl infoRoute4) rfl ?_
  rw [unhide HLL, unhide HXE]
  exact ⟨rfl, Still.put ((unhide HS0).trans (unhide HST)) (by omega) _ _ _ _⟩
set_option maxHeartbeats 1000000 in
theorem pass_no (h : XAt w b p) (hf : ProgWf p) {n c : Int} (addr hop : Int) (strict : Bool) (hc : checkX p n 1 = c) (hc0 : c ≠ 0) :
    Calls Try.prog 38 #[.pointer (some ⟨b, 0, none⟩), .int .i64 n, .int .i64 addr, .int .i64 hop, .bool strict] w fun en w' => en = .returned (.tuple #[.bool false, .int .i64 c]) ∧ w' = w := by
  have hne : (c != 0) = true := by simpa using hc0
  have HC := hide hc
  have HC0 := hide hc0
  clear hc hc0
  go_enter Try.func38, Try.ntmps38
  go_wp2_with (go_at_call 43; refine (check_no h hf (unhide HC) (unhide HC0)).mono ?_; rintro e w' ⟨rfl, hww⟩; replace hww := hww.symm; subst hww)
  go_ret2
  exact ⟨rfl, rfl⟩
set_option maxHeartbeats 1000000 in
theorem pass_arg (h : XAt w b p) (hf : ProgWf p) {n : Int} (addr hop : Int) (strict : Bool) (hc : checkX p n 1 = 0) (ha : (okAddr addr && okMask hop) = false) :
    Calls Try.prog 38 #[.pointer (some ⟨b, 0, none⟩), .int .i64 n, .int .i64 addr, .int .i64 hop, .bool strict] w fun en w' => en = .returned (.tuple #[.bool false, .int .i64 2]) ∧ w' = w := by
  have HC := hide hc
  clear hc
  cases h1 : okAddr addr with
  | false =>
    have HA := hide h1
    clear ha h1
    go_enter Try.func38, Try.ntmps38
    go_wp2_with fail
    refine (check_yes h hf (unhide HC)).mono ?_
    rintro e w' ⟨rfl, hww⟩
    replace hww := hww.symm
    subst hww
    go_wp2_with fail
    refine (isAddr_any _ _).mono ?_
    rintro e w' ⟨rfl, hww⟩
    replace hww := hww.symm
    subst hww
    rw [unhide HA]
    go_wp2
    go_ret2
    exact ⟨rfl, rfl⟩
  | true =>
    have h2 : okMask hop = false := by rw [h1, Bool.true_and] at ha; exact ha
    have HA := hide h1
    have HM := hide h2
    clear ha h1 h2
    go_enter Try.func38, Try.ntmps38
    go_wp2_with fail
    refine (check_yes h hf (unhide HC)).mono ?_
    rintro e w' ⟨rfl, hww⟩
    replace hww := hww.symm
    subst hww
    go_wp2_with fail
    refine (isAddr_any _ _).mono ?_
    rintro e w' ⟨rfl, hww⟩
    replace hww := hww.symm
    subst hww
    rw [unhide HA]
    go_wp2_with fail
    refine (isHop_any _ _).mono ?_
    rintro e w' ⟨rfl, hww⟩
    replace hww := hww.symm
    subst hww
    rw [unhide HM]
    go_wp2
    go_ret2
    exact ⟨rfl, rfl⟩
set_option maxHeartbeats 4000000 in
theorem pass_loose (h : XAt w b p) (hf : ProgWf p) (hk : ProgOk p) {n : Int} {t : Nat} (addr hop : Int) (hc : checkX p n 1 = 0) (htn : p.tenant (n - 1).toNat = (t : Int)) (ht : t < 8) (ha : okAddr addr = true) (hh : okMask hop = true) :
    Calls Try.prog 38 #[.pointer (some ⟨b, 0, none⟩), .int .i64 n, .int .i64 addr, .int .i64 hop, .bool false] w fun en w' => en = .returned (.tuple #[.bool (passB (tabX p t) addr hop false), .int .i64 0]) ∧ Still w w' := by
  have HC := hide hc
  have HTN := hide htn
  have HA := hide ha
  have HM := hide hh
  have HX := hide h
  clear hc htn h ha hh
  obtain ⟨W0, hW0⟩ : ∃ W0, W0 = w := ⟨w, rfl⟩
  rw [← hW0] at HX ⊢
  clear hW0
  go_enter Try.func38, Try.ntmps38
  go_wp2_with fail
  refine (check_yes (unhide HX) hf (unhide HC)).mono ?_
  rintro e w' ⟨rfl, hww⟩
  replace hww := hww.symm
  subst hww
  rw [unhide HTN]
  go_wp2_with fail
  refine (isAddr_any _ _).mono ?_
  rintro e w' ⟨rfl, hww⟩
  replace hww := hww.symm
  subst hww
  rw [unhide HA]
  go_wp2_with fail
  refine (isHop_any _ _).mono ?_
  rintro e w' ⟨rfl, hww⟩
  replace hww := hww.symm
  subst hww
  rw [unhide HM]
  go_wp2_with fail
  refine (table_fn (unhide HX) hk ht).mono ?_
  rintro e w3 ⟨rfl, h64, hs3⟩
  have HG := hide (tabX_good hk ht)
  generalize hl : tabX p t = l at *
  have HLL := hide hl
  clear hl
  have hz := LAt.zero w3
  have hz1 := hz.still ((Kept.refl _ (w3.alloc (.cells Try.zeroCells61 61))).alloc (.cells #[.int .i64 0, .int .i64 0, .int .i64 0, .int .i64 0] 40))
  have hsz : (w3.alloc (.cells Try.zeroCells61 61)).heap.size = w3.heap.size + 1 := by simp
  have hsm0 := SumAt.new (w3.alloc (.cells Try.zeroCells61 61)) 0 0 0 0 40
  rw [hsz] at hsm0
  have hS1 : Still W0 ((w3.alloc (.cells Try.zeroCells61 61)).alloc (.cells #[.int .i64 0, .int .i64 0, .int .i64 0, .int .i64 0] 40)) := (hs3.alloc _).alloc _
  have h1 := hz1.stored h64 (pad l)
  have hth := hz1.there l.length (pad l)
  have hk1 := Kept.setCells (Kept.refl (· = w3.heap.size) ((w3.alloc (.cells Try.zeroCells61 61)).alloc (.cells #[.int .i64 0, .int .i64 0, .int .i64 0, .int .i64 0] 40))) (.inl rfl) (listCells l.length (pad l)).toArray.toList 0
  have hsm1 := hsm0.kept hk1 (by omega)
  have hb3 := hs3.size
  have hi2 := infoList'' l.length (pad l)
  have ho := listCells_one l.length (pad l)
  have HTH := hide hth
  have H1 := hide h1
  have HSM1 := hide hsm1
  have HS1 := hide hS1
  have HK1 := hide hk1
  clear hz hz1 hsm0 hS1 h1 hth hk1 hsm1 hs3 hsz
  generalize hcs : listCells l.length (pad l) = cs at *
  go_wp2_with (refine wpList_store_mid rfl 61 _ _ rfl _ _ cs.toArray rfl rfl (unhide HTH) hi2 ho (unhide ?_))
  refine hide ?_
  generalize hs : w3.heap.size = s at *
  have hS2 : Still W0 (((w3.alloc (.cells Try.zeroCells61 61)).alloc (.cells #[.int .i64 0, .int .i64 0, .int .i64 0, .int .i64 0] 40)).setCells s 0 cs.toArray.toList) := Kept.trans' (unhide HS1) (unhide HK1) (fun i hi q => by omega)
  have HS2 := hide hS2
  clear hS2 HK1 HTH HS1
  generalize ((w3.alloc (.cells Try.zeroCells61 61)).alloc (.cells #[.int .i64 0, .int .i64 0, .int .i64 0, .int .i64 0] 40)).setCells s 0 cs.toArray.toList = Y at *
  have hth5 := (unhide HSM1).there
  have hk5 := Kept.setCells (Kept.refl (· = s + 1) Y) (.inl rfl) ([.int .i64 ((p.own t).length : Int), .int .i64 (takX p t : Int), .int .i64 (droX p t : Int), .int .i64 (p.quota t)] : List Value).toArray.toList 0
  have hls := infoSums' ((p.own t).length : Int) (takX p t : Int) (droX p t : Int) (p.quota t)
  have hos : ([.int .i64 ((p.own t).length : Int), .int .i64 (takX p t : Int), .int .i64 (droX p t : Int), .int .i64 (p.quota t)] : List Value).toArray.all (·.oneCell') = true := by simp [Value.oneCell']
  have hth5' : Y.there (s + 1) 0 ([.int .i64 ((p.own t).length : Int), .int .i64 (takX p t : Int), .int .i64 (droX p t : Int), .int .i64 (p.quota t)] : List Value).toArray.size := hth5
  generalize ([.int .i64 ((p.own t).length : Int), .int .i64 (takX p t : Int), .int .i64 (droX p t : Int), .int .i64 (p.quota t)] : List Value) = ss at *
  have h5 : LAt (Y.setCells (s + 1) 0 ss.toArray.toList) s 0 l.length (pad l) := (unhide H1).frame (Nat.lt_of_lt_of_le (unhide H1).lt hk5.size) (hk5.block s (unhide H1).lt (by omega))
  have hS5 : Still W0 (Y.setCells (s + 1) 0 ss.toArray.toList) := Kept.trans' (unhide HS2) hk5 (fun i hi q => by omega)
  have hz5 := hk5.size
  have hzY := (unhide HS2).size
  have H5 := hide h5
  have HS5 := hide hS5
  have HTH5 := hide hth5'
  clear hk5 h5 hS5 hth5 hth5'
  go_wp2_with (refine wpList_store_mid rfl 40 _ _ rfl _ _ ss.toArray rfl rfl (unhide HTH5) hls hos (unhide ?_))
  refine hide ?_
  generalize Y.setCells (s + 1) 0 ss.toArray.toList = Z at *
  go_wp2_with fail
  refine (leads_any (unhide H5) (unhide HG).route ((okAddr_iff addr).1 (unhide HA))).mono ?_
  rintro e w9 ⟨rfl, hs9⟩
  go_wp2
  go_ret2
  rw [unhide HLL]
  exact ⟨rfl, (unhide HS5).trans hs9⟩
set_option maxHeartbeats 4000000 in
theorem pass_strict (h : XAt w b p) (hf : ProgWf p) (hk : ProgOk p) {n : Int} {t : Nat} (addr hop : Int) (hc : checkX p n 1 = 0) (htn : p.tenant (n - 1).toNat = (t : Int)) (ht : t < 8) (ha : okAddr addr = true) (hh : okMask hop = true) :
    Calls Try.prog 38 #[.pointer (some ⟨b, 0, none⟩), .int .i64 n, .int .i64 addr, .int .i64 hop, .bool true] w fun en w' => en = .returned (.tuple #[.bool (passB (tabX p t) addr hop true), .int .i64 0]) ∧ Still w w' := by
  have HC := hide hc
  have HTN := hide htn
  have HA := hide ha
  have HM := hide hh
  have HX := hide h
  clear hc htn h ha hh
  obtain ⟨W0, hW0⟩ : ∃ W0, W0 = w := ⟨w, rfl⟩
  rw [← hW0] at HX ⊢
  clear hW0
  go_enter Try.func38, Try.ntmps38
  go_wp2_with fail
  refine (check_yes (unhide HX) hf (unhide HC)).mono ?_
  rintro e w' ⟨rfl, hww⟩
  replace hww := hww.symm
  subst hww
  rw [unhide HTN]
  go_wp2_with fail
  refine (isAddr_any _ _).mono ?_
  rintro e w' ⟨rfl, hww⟩
  replace hww := hww.symm
  subst hww
  rw [unhide HA]
  go_wp2_with fail
  refine (isHop_any _ _).mono ?_
  rintro e w' ⟨rfl, hww⟩
  replace hww := hww.symm
  subst hww
  rw [unhide HM]
  go_wp2_with fail
  refine (table_fn (unhide HX) hk ht).mono ?_
  rintro e w3 ⟨rfl, h64, hs3⟩
  have HG := hide (tabX_good hk ht)
  generalize hl : tabX p t = l at *
  have HLL := hide hl
  clear hl
  have hz := LAt.zero w3
  have hz1 := hz.still ((Kept.refl _ (w3.alloc (.cells Try.zeroCells61 61))).alloc (.cells #[.int .i64 0, .int .i64 0, .int .i64 0, .int .i64 0] 40))
  have hsz : (w3.alloc (.cells Try.zeroCells61 61)).heap.size = w3.heap.size + 1 := by simp
  have hsm0 := SumAt.new (w3.alloc (.cells Try.zeroCells61 61)) 0 0 0 0 40
  rw [hsz] at hsm0
  have hS1 : Still W0 ((w3.alloc (.cells Try.zeroCells61 61)).alloc (.cells #[.int .i64 0, .int .i64 0, .int .i64 0, .int .i64 0] 40)) := (hs3.alloc _).alloc _
  have h1 := hz1.stored h64 (pad l)
  have hth := hz1.there l.length (pad l)
  have hk1 := Kept.setCells (Kept.refl (· = w3.heap.size) ((w3.alloc (.cells Try.zeroCells61 61)).alloc (.cells #[.int .i64 0, .int .i64 0, .int .i64 0, .int .i64 0] 40))) (.inl rfl) (listCells l.length (pad l)).toArray.toList 0
  have hsm1 := hsm0.kept hk1 (by omega)
  have hb3 := hs3.size
  have hi2 := infoList'' l.length (pad l)
  have ho := listCells_one l.length (pad l)
  have HTH := hide hth
  have H1 := hide h1
  have HSM1 := hide hsm1
  have HS1 := hide hS1
  have HK1 := hide hk1
  clear hz hz1 hsm0 hS1 h1 hth hk1 hsm1 hs3 hsz
  generalize hcs : listCells l.length (pad l) = cs at *
  go_wp2_with (refine wpList_store_mid rfl 61 _ _ rfl _ _ cs.toArray rfl rfl (unhide HTH) hi2 ho (unhide ?_))
  refine hide ?_
  generalize hs : w3.heap.size = s at *
  have hS2 : Still W0 (((w3.alloc (.cells Try.zeroCells61 61)).alloc (.cells #[.int .i64 0, .int .i64 0, .int .i64 0, .int .i64 0] 40)).setCells s 0 cs.toArray.toList) := Kept.trans' (unhide HS1) (unhide HK1) (fun i hi q => by omega)
  have HS2 := hide hS2
  clear hS2 HK1 HTH HS1
  generalize ((w3.alloc (.cells Try.zeroCells61 61)).alloc (.cells #[.int .i64 0, .int .i64 0, .int .i64 0, .int .i64 0] 40)).setCells s 0 cs.toArray.toList = Y at *
  have hth5 := (unhide HSM1).there
  have hk5 := Kept.setCells (Kept.refl (· = s + 1) Y) (.inl rfl) ([.int .i64 ((p.own t).length : Int), .int .i64 (takX p t : Int), .int .i64 (droX p t : Int), .int .i64 (p.quota t)] : List Value).toArray.toList 0
  have hls := infoSums' ((p.own t).length : Int) (takX p t : Int) (droX p t : Int) (p.quota t)
  have hos : ([.int .i64 ((p.own t).length : Int), .int .i64 (takX p t : Int), .int .i64 (droX p t : Int), .int .i64 (p.quota t)] : List Value).toArray.all (·.oneCell') = true := by simp [Value.oneCell']
  have hth5' : Y.there (s + 1) 0 ([.int .i64 ((p.own t).length : Int), .int .i64 (takX p t : Int), .int .i64 (droX p t : Int), .int .i64 (p.quota t)] : List Value).toArray.size := hth5
  generalize ([.int .i64 ((p.own t).length : Int), .int .i64 (takX p t : Int), .int .i64 (droX p t : Int), .int .i64 (p.quota t)] : List Value) = ss at *
  have h5 : LAt (Y.setCells (s + 1) 0 ss.toArray.toList) s 0 l.length (pad l) := (unhide H1).frame (Nat.lt_of_lt_of_le (unhide H1).lt hk5.size) (hk5.block s (unhide H1).lt (by omega))
  have hS5 : Still W0 (Y.setCells (s + 1) 0 ss.toArray.toList) := Kept.trans' (unhide HS2) hk5 (fun i hi q => by omega)
  have hz5 := hk5.size
  have hzY := (unhide HS2).size
  have H5 := hide h5
  have HS5 := hide hS5
  have HTH5 := hide hth5'
  clear hk5 h5 hS5 hth5 hth5'
  go_wp2_with (refine wpList_store_mid rfl 40 _ _ rfl _ _ ss.toArray rfl rfl (unhide HTH5) hls hos (unhide ?_))
  refine hide ?_
  generalize Y.setCells (s + 1) 0 ss.toArray.toList = Z at *
  go_wp2_with fail
  refine (longest_any (unhide H5) (unhide HG).route ((okAddr_iff addr).1 (unhide HA))).mono ?_
  rintro e w9 ⟨rfl, hs9⟩
  have hst : Still W0 w9 := (unhide HS5).trans hs9
  have HST := hide (hst.alloc (.cells #[.int .i64 (longA l addr).addr, .int .i64 (longA l addr).len, .int .i64 (longA l addr).hop, .int .i64 (longA l addr).from_] 42))
  have hp : ∀ x, longA l addr = x → passB l addr hop true = (hop != 0 && x.hop == hop) := fun x hx => by unfold passB; rw [if_pos rfl, hx]
  have HP := hide (hp _ rfl)
  clear hst hs9 hp
  generalize longA l addr = x at *
  by_cases h0 : hop = 0
  · have e0 : passB l addr hop true = false := by rw [unhide HP, h0]; rfl
    have E0 := hide e0
    clear e0
    subst h0
    go_wp2
    go_ret2
    rw [unhide HLL, unhide E0]
    exact ⟨rfl, unhide HST⟩
  · have d0 : (hop != 0) = true := by simpa using h0
    have e0 : passB l addr hop true = (x.hop == hop) := by rw [unhide HP, d0]; rfl
    have E0 := hide e0
    clear e0
    go_wp2
    go_ret2
    rw [unhide HLL, unhide E0]
    exact ⟨rfl, unhide HST⟩
end
end Go.Proofs.Ytgndledehlilkab
