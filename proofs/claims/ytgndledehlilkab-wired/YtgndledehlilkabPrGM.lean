import Derived.Test.YtgndledehlilkabPrBM
import Derived.Test.YtgndledehlilkabRulesIn
import Derived.Laws.ResultCell
namespace Go.Proofs.Ytgndledehlilkab
open Go.RowKit

def ruleV (u : RuleD) : Value := .agg #[.bool u.allow, .int .i64 u.addr, .int .i64 u.len, .int .i64 u.ge, .int .i64 u.le]
theorem ruleB_eq (u : RuleD) : ruleB u = (!(decide (u.ge < u.len)) && (!(decide (u.le < u.ge)) && (!(decide (16 < u.le)) && isPfx u.addr u.len))) := by
  unfold ruleB
  rw [Bool.eq_iff_iff]
  simp only [Bool.and_eq_true, Bool.not_eq_true', decide_eq_true_eq, decide_eq_false_iff_not]
  constructor
  · rintro ⟨⟨⟨a, b⟩, c⟩, d⟩; exact ⟨by omega, by omega, by omega, a⟩
  · rintro ⟨a, b, c, d⟩; exact ⟨⟨⟨d, by omega⟩, by omega⟩, by omega⟩
set_option maxHeartbeats 1000000 in
theorem isRule_any (u : RuleD) (w : World) :
    Calls Try.prog 81 #[.agg #[.bool u.allow, .int .i64 u.addr, .int .i64 u.len, .int .i64 u.ge, .int .i64 u.le]] w fun e w' => e = .returned (.bool (ruleB u)) ∧ Still w w' := by
  rw [ruleB_eq]
  obtain ⟨al, ad, ln, ge, le⟩ := u
  cases h1 : decide (ge < ln) with
  | true =>
    go_enter Try.func81, Try.ntmps81
    go_wp2
    go_ret
    exact ⟨rfl, (Kept.refl _ _).alloc _⟩
  | false =>
    cases h2 : decide (le < ge) with
    | true =>
      go_enter Try.func81, Try.ntmps81
      go_wp2
      go_ret
      exact ⟨rfl, (Kept.refl _ _).alloc _⟩
    | false =>
      cases h3 : decide (16 < le) with
      | true =>
        go_enter Try.func81, Try.ntmps81
        go_wp2
        go_ret
        exact ⟨rfl, (Kept.refl _ _).alloc _⟩
      | false =>
        go_enter Try.func81, Try.ntmps81
        go_wp2_with (go_at_call 62; refine (is_any _ _ _).mono ?_; rintro e w' ⟨rfl, hw⟩; replace hw := hw.symm; subst hw)
        go_ret
        exact ⟨rfl, (Kept.refl _ _).alloc _⟩
theorem matchB_eq (u : RuleD) (r : RouteD) : matchB u r = (!(decide (r.len < u.ge)) && (!(decide (u.le < r.len)) && containsB u.addr u.len r.addr)) := by
  unfold matchB
  rw [Bool.eq_iff_iff]
  simp only [Bool.and_eq_true, Bool.not_eq_true', decide_eq_true_eq, decide_eq_false_iff_not]
  constructor
  · rintro ⟨a, b, c⟩; exact ⟨by omega, by omega, a⟩
  · rintro ⟨a, b, c⟩; exact ⟨c, by omega, by omega⟩
set_option maxHeartbeats 1000000 in
theorem matches_any (u : RuleD) (r : RouteD) (w : World) (hp : isPfx u.addr u.len = true) (ha : 0 ≤ r.addr ∧ r.addr ≤ 65535) :
    Calls Try.prog 88 #[.agg #[.bool u.allow, .int .i64 u.addr, .int .i64 u.len, .int .i64 u.ge, .int .i64 u.le], .int .i64 r.addr, .int .i64 r.len] w fun e w' => e = .returned (.bool (matchB u r)) ∧ Still w w' := by
  rw [matchB_eq]
  obtain ⟨al, ad, ln, ge, le⟩ := u
  obtain ⟨ra, rl, rh, rf⟩ := r
  have HP := hide hp
  have HA := hide ha
  clear hp ha
  cases h1 : decide (rl < ge) with
  | true =>
    go_enter Try.func88, Try.ntmps88
    go_wp2
    go_ret
    exact ⟨rfl, (Kept.refl _ _).alloc _⟩
  | false =>
    cases h2 : decide (le < rl) with
    | true =>
      go_enter Try.func88, Try.ntmps88
      go_wp2
      go_ret
      exact ⟨rfl, (Kept.refl _ _).alloc _⟩
    | false =>
      go_enter Try.func88, Try.ntmps88
      go_wp2_with (go_at_call 82; refine (contains_any _ _ _ _ (unhide HP) (unhide HA)).mono ?_; rintro e w' ⟨rfl, hw⟩; replace hw := hw.symm; subst hw)
      go_ret
      exact ⟨rfl, (Kept.refl _ _).alloc _⟩
set_option maxHeartbeats 1000000 in
theorem letsIn_any {w : World} {b o : Nat} {R : List RuleD} (h : RAt w b o R.length (padR R)) (hp : ∀ u ∈ R, ruleB u = true) (r : RouteD) (ha : 0 ≤ r.addr ∧ r.addr ≤ 65535) :
    Calls Try.prog 87 #[.pointer (some ⟨b, o, none⟩), .int .i64 r.addr, .int .i64 r.len] w fun e w' => e = .returned (.bool (letsB R r)) ∧ Still w w' := by
  have hm := h.most
  have HX := hide h
  have hb := h.lt
  have HA := hide ha
  have HP := hide hp
  clear h ha hp
  go_enter Try.func87, Try.ntmps87
  go_wp2
  go_loopw [7] (fun s w' => ∃ k : Nat, k ≤ R.length ∧ s = .int .i64 k ∧ (∀ j, j < k → matchB (R.getD j ru0) r = false) ∧ Still w w') (fun s _ => R.length - (intOf s).toNat)
  case atStart => exact ⟨0, Nat.zero_le _, rfl, fun j hj => absurd hj (Nat.not_lt_zero _), Kept.refl _ _⟩
  case round =>
    obtain ⟨k, hk, rfl, hall, hw⟩ := hrel
    have hx := (unhide HX).still hw
    have hbr : b < wr.heap.size := hx.lt
    have c := hx.cnt
    have HA2 := hide hall
    have HW := hide hw
    clear hall hw
    by_cases hlt : k < R.length
    · have c0 := hx.allow k (by omega)
      have c1 := hx.addr k (by omega)
      have c2 := hx.len k (by omega)
      have c3 := hx.ge k (by omega)
      have c4 := hx.le k (by omega)
      have hpk : isPfx (padR R k).addr (padR R k).len = true := by
        have h1 := unhide HP (padR R k) (by unfold padR; simp [List.getD_eq_getElem?_getD, hlt])
        unfold ruleB at h1
        simp only [Bool.and_eq_true] at h1
        exact h1.1.1.1
      have HPK := hide hpk
      clear hx hpk
      cases hbf : matchB (R.getD k ru0) r with
      | true =>
        have hres := letsB_some hlt (unhide HA2) hbf
        have hbf' : matchB (padR R k) r = true := hbf
        have hres' : letsB R r = (padR R k).allow := hres
        have HB := hide hbf'
        have HR := hide hres'
        clear hbf hres hbf' hres'
        generalize padR R k = u at *
        go_wp2_with fail
        refine (matches_any _ r _ (unhide HPK) (unhide HA)).mono ?_
        rintro e w2 ⟨rfl, hs2⟩
        rw [unhide HB]
        have c0' := (hs2.cell b _ hbr).trans c0
        have HS2 := hide hs2
        clear hs2
        go_wp2
        go_ret
        exact ⟨by rw [unhide HR]; rfl, (unhide HW).trans (unhide HS2)⟩
      | false =>
        have hbf' : matchB (padR R k) r = false := hbf
        have HB := hide hbf'
        have HB2 := hide hbf
        clear hbf hbf'
        generalize padR R k = u at *
        go_wp2_with fail
        refine (matches_any _ r _ (unhide HPK) (unhide HA)).mono ?_
        rintro e w2 ⟨rfl, hs2⟩
        rw [unhide HB]
        have HS2 := hide hs2
        clear hs2
        go_wp2
        go_roundw
        case rel => exact ⟨k + 1, by omega, by go_num, fun j hj => by
          by_cases ej : j = k
          · subst ej; exact unhide HB2
          · exact unhide HA2 j (by omega), (unhide HW).trans (unhide HS2)⟩
        case measure => simp [intOf]; omega
    · obtain rfl : k = R.length := by omega
      have hres := letsB_none (unhide HA2)
      have hd : decide (R.length = 0) = ((R.length : Int) == 0) := by rw [Bool.eq_iff_iff]; simp
      rw [hd] at hres
      have HR := hide hres
      clear hx hres hd
      go_wp2
      go_ret
      exact ⟨by rw [unhide HR]; rfl, unhide HW⟩

def listCells (n : Nat) (f : Nat → RouteD) : List Value := .int .i64 (n : Int) :: enc 64 (fun j => routeCells (f j))
def rulesCells (n : Nat) (f : Nat → RuleD) : List Value := .int .i64 (n : Int) :: enc 4 (fun j => ruleCells (f j))
theorem listCells_len (n : Nat) (f : Nat → RouteD) : (listCells n f).length = 257 := by
  unfold listCells
  rw [List.length_cons, enc_length (s := 4) (fun _ _ => rfl)]
theorem rulesCells_len (n : Nat) (f : Nat → RuleD) : (rulesCells n f).length = 21 := by
  unfold rulesCells
  rw [List.length_cons, enc_length (s := 5) (fun _ _ => rfl)]
theorem enc_mem {n : Nat} {f : Nat → List Value} {v : Value} (h : v ∈ enc n f) : ∃ i, i < n ∧ v ∈ f i := by
  unfold enc at h
  rw [List.mem_flatMap] at h
  obtain ⟨i, hi, hv⟩ := h
  exact ⟨i, List.mem_range.1 hi, hv⟩
theorem listCells_one (n : Nat) (f : Nat → RouteD) : (listCells n f).toArray.all (·.oneCell') = true := by
  refine all_oneCell_toArray fun v hv => ?_
  unfold listCells at hv
  rcases List.mem_cons.1 hv with rfl | h
  · rfl
  · obtain ⟨i, _, hi⟩ := enc_mem h
    unfold routeCells at hi
    simp only [List.mem_cons, List.not_mem_nil, or_false] at hi
    rcases hi with rfl | rfl | rfl | rfl <;> rfl
theorem rulesCells_one (n : Nat) (f : Nat → RuleD) : (rulesCells n f).toArray.all (·.oneCell') = true := by
  refine all_oneCell_toArray fun v hv => ?_
  unfold rulesCells at hv
  rcases List.mem_cons.1 hv with rfl | h
  · rfl
  · obtain ⟨i, _, hi⟩ := enc_mem h
    unfold ruleCells at hi
    simp only [List.mem_cons, List.not_mem_nil, or_false] at hi
    rcases hi with rfl | rfl | rfl | rfl | rfl <;> rfl
theorem enc_get {n s : Nat} {f : Nat → List Value} (h : ∀ i, i < n → (f i).length = s) {j : Nat} {v : Value} (hv : (enc n f)[j]? = some v) : j / s < n ∧ (f (j / s))[j % s]? = some v := by
  have hl := enc_length h
  have hj : j < (enc n f).length := (List.getElem?_eq_some_iff.1 hv).1
  rw [hl] at hj
  have hs : 0 < s := by
    rcases Nat.eq_zero_or_pos s with e | e
    · subst e; simp at hj
    · exact e
  have h1 : j / s < n := Nat.div_lt_of_lt_mul (by rw [Nat.mul_comm]; exact hj)
  have h2 : j % s < s := Nat.mod_lt _ hs
  have h3 : j / s * s + j % s = j := by rw [Nat.mul_comm]; exact Nat.div_add_mod _ _
  refine ⟨h1, ?_⟩
  rw [← enc_at h h1 h2, h3]
  exact hv
section
variable {w : World} {b o n : Nat}
theorem LAt.range {f : Nat → RouteD} (h : LAt w b o n f) : w.rangeAt b o (listCells n f) := by
  intro j v hv
  cases j with
  | zero => simp only [listCells, List.getElem?_cons_zero] at hv; rw [← hv]; exact h.cnt
  | succ j =>
    simp only [listCells, List.getElem?_cons_succ] at hv
    obtain ⟨h1, h2⟩ := enc_get (s := 4) (fun _ _ => rfl) hv
    have h3 : j % 4 < 4 := Nat.mod_lt _ (by omega)
    have h4 : j / 4 * 4 + j % 4 = j := by omega
    have e : o + (j + 1) = o + 1 + j / 4 * 4 + j % 4 := by omega
    rw [e]
    generalize j / 4 = q at *
    generalize j % 4 = m at *
    rcases m with _ | _ | _ | _ | m
    · rw [← h2]; exact h.addr q h1
    · rw [← h2]; exact h.len q h1
    · rw [← h2]; exact h.hop q h1
    · rw [← h2]; exact h.frm q h1
    · omega
theorem range_list {f : Nat → RouteD} (hr : w.rangeAt b o (listCells n f)) {q m : Nat} (hq : q < 64) (hm : m < 4) : w.cell? ⟨b, o + 1 + q * 4 + m, none⟩ = (routeCells (f q))[m]? := by
  have e1 : (listCells n f)[q * 4 + m + 1]? = (routeCells (f q))[m]? := by
    unfold listCells
    rw [List.getElem?_cons_succ]
    exact enc_at (s := 4) (fun _ _ => rfl) hq hm
  have e2 : (routeCells (f q))[m]? = some ((routeCells (f q))[m]'hm) := List.getElem?_eq_getElem _
  rw [e2, show o + 1 + q * 4 + m = o + (q * 4 + m + 1) from by omega]
  exact hr _ _ (e1.trans e2)
theorem LAt.ofRange {f : Nat → RouteD} (hl : b < w.heap.size) (hf : ∀ j, w.frozen? ⟨b, j, none⟩ = false) (hn : n ≤ 64) (hr : w.rangeAt b o (listCells n f)) : LAt w b o n f :=
  ⟨hl, hf, hn, hr 0 _ rfl, fun j hj => range_list hr hj (m := 0) (by omega), fun j hj => range_list hr hj (m := 1) (by omega), fun j hj => range_list hr hj (m := 2) (by omega), fun j hj => range_list hr hj (m := 3) (by omega)⟩
theorem RAt.range {f : Nat → RuleD} (h : RAt w b o n f) : w.rangeAt b o (rulesCells n f) := by
  intro j v hv
  cases j with
  | zero => simp only [rulesCells, List.getElem?_cons_zero] at hv; rw [← hv]; exact h.cnt
  | succ j =>
    simp only [rulesCells, List.getElem?_cons_succ] at hv
    obtain ⟨h1, h2⟩ := enc_get (s := 5) (fun _ _ => rfl) hv
    have h3 : j % 5 < 5 := Nat.mod_lt _ (by omega)
    have e : o + (j + 1) = o + 1 + j / 5 * 5 + j % 5 := by omega
    rw [e]
    generalize j / 5 = q at *
    generalize j % 5 = m at *
    rcases m with _ | _ | _ | _ | _ | m
    · rw [← h2]; exact h.allow q h1
    · rw [← h2]; exact h.addr q h1
    · rw [← h2]; exact h.len q h1
    · rw [← h2]; exact h.ge q h1
    · rw [← h2]; exact h.le q h1
    · omega
theorem range_rules {f : Nat → RuleD} (hr : w.rangeAt b o (rulesCells n f)) {q m : Nat} (hq : q < 4) (hm : m < 5) : w.cell? ⟨b, o + 1 + q * 5 + m, none⟩ = (ruleCells (f q))[m]? := by
  have e1 : (rulesCells n f)[q * 5 + m + 1]? = (ruleCells (f q))[m]? := by
    unfold rulesCells
    rw [List.getElem?_cons_succ]
    exact enc_at (s := 5) (fun _ _ => rfl) hq hm
  have e2 : (ruleCells (f q))[m]? = some ((ruleCells (f q))[m]'hm) := List.getElem?_eq_getElem _
  rw [e2, show o + 1 + q * 5 + m = o + (q * 5 + m + 1) from by omega]
  exact hr _ _ (e1.trans e2)
theorem RAt.ofRange {f : Nat → RuleD} (hl : b < w.heap.size) (hf : ∀ j, w.frozen? ⟨b, j, none⟩ = false) (hn : n ≤ 4) (hr : w.rangeAt b o (rulesCells n f)) : RAt w b o n f :=
  ⟨hl, hf, hn, hr 0 _ rfl, fun j hj => range_rules hr hj (m := 0) (by omega), fun j hj => range_rules hr hj (m := 1) (by omega), fun j hj => range_rules hr hj (m := 2) (by omega), fun j hj => range_rules hr hj (m := 3) (by omega), fun j hj => range_rules hr hj (m := 4) (by omega)⟩
end

theorem results_range1 {P : Program} {fn : Func} {p : Tmp} {ty : TypeId} (h : fn.results = #[.cell p ty]) (tmps : Array Value) (w : World) (b o : Nat) (cs : List Value) (d : TypeDesc)
    (hp : tmps.getD p undef = .pointer (some ⟨b, o, none⟩)) (hc : w.rangeAt b o cs) (hu : P.underlying ty = some d) (hd : d.isRow = true) (hi : (P.info? ty).map (·.size) = some cs.length) :
    (results fn tmps).run P w = .ok (.agg cs.toArray) w := by
  have hl := run_loadVar_mid (P := P) w b o ty cs d hc hu hd hi
  have hp2 : tmps[p]?.getD undef = .pointer (some ⟨b, o, none⟩) := by simpa using hp
  simp [results, h, hp2, asAddr, hl]
theorem results_range2 {P : Program} {fn : Func} {p u : Tmp} {ty : TypeId} (h : fn.results = #[.cell p ty, .tmp u]) (tmps : Array Value) (w : World) (b o : Nat) (cs : List Value) (d : TypeDesc)
    (hp : tmps.getD p undef = .pointer (some ⟨b, o, none⟩)) (hc : w.rangeAt b o cs) (hu : P.underlying ty = some d) (hd : d.isRow = true) (hi : (P.info? ty).map (·.size) = some cs.length) :
    (results fn tmps).run P w = .ok (.tuple #[.agg cs.toArray, tmps.getD u undef]) w := by
  have hl := run_loadVar_mid (P := P) w b o ty cs d hc hu hd hi
  rw [results_cell_tmp h, hp]
  simp [asAddr, hl, Result.andThen]
theorem results_range3 {P : Program} {fn : Func} {p q : Tmp} {ty tz : TypeId} (h : fn.results = #[.cell p ty, .cell q tz]) (tmps : Array Value) (w : World) (b o b' o' : Nat) (cs cs' : List Value) (d d' : TypeDesc)
    (hp : tmps.getD p undef = .pointer (some ⟨b, o, none⟩)) (hc : w.rangeAt b o cs) (hu : P.underlying ty = some d) (hd : d.isRow = true) (hi : (P.info? ty).map (·.size) = some cs.length)
    (hp' : tmps.getD q undef = .pointer (some ⟨b', o', none⟩)) (hc' : w.rangeAt b' o' cs') (hu' : P.underlying tz = some d') (hd' : d'.isRow = true) (hi' : (P.info? tz).map (·.size) = some cs'.length) :
    (results fn tmps).run P w = .ok (.tuple #[.agg cs.toArray, .agg cs'.toArray]) w := by
  have hl := run_loadVar_mid (P := P) w b o ty cs d hc hu hd hi
  have hl' := run_loadVar_mid (P := P) w b' o' tz cs' d' hc' hu' hd' hi'
  have hp2 : tmps[p]?.getD undef = .pointer (some ⟨b, o, none⟩) := by simpa using hp
  have hp3 : tmps[q]?.getD undef = .pointer (some ⟨b', o', none⟩) := by simpa using hp'
  simp [results, h, hp2, hp3, asAddr, Sem.run_bind, hl, hl']
theorem infoRules : (Try.prog.info? 58).map (·.size) = some 21 := by kernel_rfl
theorem infoList : (Try.prog.info? 61).map (·.size) = some 257 := by kernel_rfl
theorem infoSums : (Try.prog.info? 40).map (·.size) = some 4 := by kernel_rfl
def upTo (R : List RuleD) (k : Nat) : Nat → RuleD := fun j => if j < k then padR R j else ru0
theorem upTo_zero (R : List RuleD) : upTo R 0 = fun _ => ru0 := by
  funext j
  unfold upTo
  rw [if_neg (Nat.not_lt_zero _)]
theorem upTo_succ (R : List RuleD) (k : Nat) : upd (upTo R k) k (padR R k) = upTo R (k + 1) := by
  funext j
  unfold upd upTo
  by_cases e : j = k
  · subst e; rw [if_pos rfl, if_pos (by omega)]
  · rw [if_neg e]
    by_cases h : j < k
    · rw [if_pos h, if_pos (by omega)]
    · rw [if_neg h, if_neg (by omega)]
theorem upTo_all (R : List RuleD) : upTo R R.length = padR R := by
  funext j
  unfold upTo
  by_cases h : j < R.length
  · rw [if_pos h]
  · rw [if_neg h]
    unfold padR
    simp [List.getD_eq_getElem?_getD, List.getElem?_eq_none (Nat.le_of_not_lt h)]
def MakePost (w : World) (R : List RuleD) (en : Ending) (w' : World) : Prop := Still w w' ∧
  ((filterOk R = true ∧ en = .returned (.tuple #[.agg (rulesCells R.length (padR R)).toArray, .int .i64 0])) ∨
   (filterOk R = false ∧ en = .returned (.tuple #[.agg (rulesCells 0 (fun _ => ru0)).toArray, .int .i64 2])))
theorem RAt.there {w : World} {b o n : Nat} {f : Nat → RuleD} (h : RAt w b o n f) : w.there b o (rulesCells 0 (fun _ => ru0)).toArray.size := by
  intro j hj
  refine ⟨?_, h.fz _⟩
  have hl : (rulesCells n f).length = 21 := rulesCells_len n f
  refine h.range.isSome j ?_
  rw [hl]
  simpa [rulesCells_len] using hj
theorem rulesNew (w : World) : RAt (w.alloc (.cells #[.int .i64 0, .bool false, .int .i64 0, .int .i64 0, .int .i64 0, .int .i64 0, .bool false, .int .i64 0, .int .i64 0, .int .i64 0, .int .i64 0, .bool false, .int .i64 0, .int .i64 0, .int .i64 0, .int .i64 0, .bool false, .int .i64 0, .int .i64 0, .int .i64 0, .int .i64 0] 58)) w.heap.size 0 0 (fun _ => ru0) := by
  refine RAt.ofRange (by simp) (fun j => World.frozen?_alloc_new _ _ _ _) (Nat.zero_le _) ?_
  intro j v hv
  rw [World.cell?_alloc_new]
  have e : (#[.int .i64 0, .bool false, .int .i64 0, .int .i64 0, .int .i64 0, .int .i64 0, .bool false, .int .i64 0, .int .i64 0, .int .i64 0, .int .i64 0, .bool false, .int .i64 0, .int .i64 0, .int .i64 0, .int .i64 0, .bool false, .int .i64 0, .int .i64 0, .int .i64 0, .int .i64 0] : Array Value) = (rulesCells 0 (fun _ => ru0)).toArray := rfl
  rw [e]
  simpa using hv
theorem Kept.setCells {P : Nat → Prop} {a w : World} (h : Kept P a w) {b : Nat} (hp : P b ∨ a.heap.size ≤ b) : ∀ (vs : List Value) (o : Nat), Kept P a (w.setCells b o vs) := by
  intro vs
  induction vs generalizing w with
  | nil => intro o; exact h
  | cons v vs ih =>
    intro o
    rw [World.setCells]
    exact ih (Kept.setCell h (p := ⟨b, o, none⟩) hp v) (o + 1)
theorem Within.setCells {b o n : Nat} {w w1 : World} (h : Within b o n w w1) : ∀ (vs : List Value) (o' : Nat), o ≤ o' → o' + vs.length ≤ o + n → Within b o n w (w1.setCells b o' vs) := by
  intro vs
  induction vs generalizing w1 with
  | nil => intro o' _ _; exact h
  | cons v vs ih =>
    intro o' h1 h2
    rw [List.length_cons] at h2
    rw [World.setCells]
    exact ih (h.setCell (by omega) v) (o' + 1) (by omega) (by omega)
theorem RAt.stored {w : World} {b o n : Nat} {f : Nat → RuleD} (h : RAt w b o n f) {m : Nat} (hm : m ≤ 4) (g : Nat → RuleD) : RAt (w.setCells b o (rulesCells m g).toArray.toList) b o m g := by
  have ht : w.there b o (rulesCells m g).length := by
    have := h.there
    rw [List.size_toArray, rulesCells_len] at this
    rw [rulesCells_len]
    exact this
  have hr := World.rangeAt_setCells_same w b o (rulesCells m g) ht
  have hl := (Kept.setCells (Kept.refl (· = b) w) (.inl rfl) (rulesCells m g) o).size
  have hf : ∀ j, (w.setCells b o (rulesCells m g)).frozen? ⟨b, j, none⟩ = false := fun j => by rw [World.frozen?_setCells]; exact h.fz j
  have h0 := h.lt
  rw [List.toList_toArray]
  generalize w.setCells b o (rulesCells m g) = w' at *
  exact RAt.ofRange (by omega) hf hm hr
theorem Kept.put5 {P : Nat → Prop} {a w : World} (h : Kept P a w) {b : Nat} (hp : P b) (o0 o1 o2 o3 o4 : Nat) (v0 v1 v2 v3 v4 : Value) : Kept P a (((((w.setCell ⟨b, o0, none⟩ v0).setCell ⟨b, o1, none⟩ v1).setCell ⟨b, o2, none⟩ v2).setCell ⟨b, o3, none⟩ v3).setCell ⟨b, o4, none⟩ v4) :=
  Kept.setCell (Kept.setCell (Kept.setCell (Kept.setCell (Kept.setCell h (p := ⟨b, o0, none⟩) (.inl hp) v0) (p := ⟨b, o1, none⟩) (.inl hp) v1) (p := ⟨b, o2, none⟩) (.inl hp) v2) (p := ⟨b, o3, none⟩) (.inl hp) v3) (p := ⟨b, o4, none⟩) (.inl hp) v4
set_option maxHeartbeats 2000000 in
theorem make_any {w : World} {v : Value} {R : List RuleD} (hR : RulesIn w v R) :
    Calls Try.prog 65 #[v] w fun en w' => MakePost w R en w' := by
  obtain ⟨ra, rc, rfl, hRl⟩ := hR.len
  have HN := hide (rulesNew w)
  by_cases h4 : 4 < R.length
  · have hbad : filterOk R = false := by unfold filterOk; rw [show decide (R.length ≤ 4) = false from by simp; omega]; rfl
    have d1 : decide ((4 : Int) < (R.length : Int)) = true := by simp; omega
    have HB := hide hbad
    clear hbad
    go_enter Try.func65, Try.ntmps65
    go_wp2_with (refine wpList_store_mid rfl 58 _ _ rfl _ _ (rulesCells 0 (fun _ => ru0)).toArray rfl rfl (unhide HN).there infoRules (rulesCells_one _ _) ?_)
    refine bodyPost_ret (results_range2 rfl _ _ _ _ _ _ rfl ((unhide HN).stored (Nat.zero_le _) _).range Try.underlying58 rfl infoRules) rfl ?_
    exact ⟨Kept.setCells ((Kept.refl _ _).alloc _) (.inr (Nat.le_refl _)) _ _, Or.inr ⟨unhide HB, rfl⟩⟩
  · have d1 : decide ((4 : Int) < (R.length : Int)) = false := by simp; omega
    have hl4 : R.length ≤ 4 := by omega
    have HR := hide hR
    have hS2 : Still w ((w.alloc (.cells #[.int .i64 0, .bool false, .int .i64 0, .int .i64 0, .int .i64 0, .int .i64 0, .bool false, .int .i64 0, .int .i64 0, .int .i64 0, .int .i64 0, .bool false, .int .i64 0, .int .i64 0, .int .i64 0, .int .i64 0, .bool false, .int .i64 0, .int .i64 0, .int .i64 0, .int .i64 0] 58)).alloc (.cells #[.int .i64 0, .bool false, .int .i64 0, .int .i64 0, .int .i64 0, .int .i64 0, .bool false, .int .i64 0, .int .i64 0, .int .i64 0, .int .i64 0, .bool false, .int .i64 0, .int .i64 0, .int .i64 0, .int .i64 0, .bool false, .int .i64 0, .int .i64 0, .int .i64 0, .int .i64 0] 58)) := ((Kept.refl _ _).alloc _).alloc _
    have hn2 := rulesNew (w.alloc (.cells #[.int .i64 0, .bool false, .int .i64 0, .int .i64 0, .int .i64 0, .int .i64 0, .bool false, .int .i64 0, .int .i64 0, .int .i64 0, .int .i64 0, .bool false, .int .i64 0, .int .i64 0, .int .i64 0, .int .i64 0, .bool false, .int .i64 0, .int .i64 0, .int .i64 0, .int .i64 0] 58))
    have hz1 : (w.alloc (.cells #[.int .i64 0, .bool false, .int .i64 0, .int .i64 0, .int .i64 0, .int .i64 0, .bool false, .int .i64 0, .int .i64 0, .int .i64 0, .int .i64 0, .bool false, .int .i64 0, .int .i64 0, .int .i64 0, .int .i64 0, .bool false, .int .i64 0, .int .i64 0, .int .i64 0, .int .i64 0] 58)).heap.size = w.heap.size + 1 := by simp
    have hn1 : RAt ((w.alloc (.cells #[.int .i64 0, .bool false, .int .i64 0, .int .i64 0, .int .i64 0, .int .i64 0, .bool false, .int .i64 0, .int .i64 0, .int .i64 0, .int .i64 0, .bool false, .int .i64 0, .int .i64 0, .int .i64 0, .int .i64 0, .bool false, .int .i64 0, .int .i64 0, .int .i64 0, .int .i64 0] 58)).alloc (.cells #[.int .i64 0, .bool false, .int .i64 0, .int .i64 0, .int .i64 0, .int .i64 0, .bool false, .int .i64 0, .int .i64 0, .int .i64 0, .int .i64 0, .bool false, .int .i64 0, .int .i64 0, .int .i64 0, .int .i64 0, .bool false, .int .i64 0, .int .i64 0, .int .i64 0, .int .i64 0] 58)) w.heap.size 0 0 (fun _ => ru0) := (unhide HN).still ((Kept.refl _ _).alloc _)
    rw [hz1] at hn2
    have HS2 := hide hS2
    have HN2 := hide hn2
    have HN1 := hide hn1
    clear hR h4 hS2 hn2 hn1 hz1 HN
    go_enter Try.func65, Try.ntmps65
    go_wp2
    generalize hsz : w.heap.size = s at *
    generalize (w.alloc (.cells #[.int .i64 0, .bool false, .int .i64 0, .int .i64 0, .int .i64 0, .int .i64 0, .bool false, .int .i64 0, .int .i64 0, .int .i64 0, .int .i64 0, .bool false, .int .i64 0, .int .i64 0, .int .i64 0, .int .i64 0, .bool false, .int .i64 0, .int .i64 0, .int .i64 0, .int .i64 0] 58)).alloc (.cells #[.int .i64 0, .bool false, .int .i64 0, .int .i64 0, .int .i64 0, .int .i64 0, .bool false, .int .i64 0, .int .i64 0, .int .i64 0, .int .i64 0, .bool false, .int .i64 0, .int .i64 0, .int .i64 0, .int .i64 0, .bool false, .int .i64 0, .int .i64 0, .int .i64 0, .int .i64 0] 58) = W2 at *
    go_loopw [5] (fun t w' => ∃ k : Nat, k ≤ R.length ∧ t = .int .i64 k ∧ RAt w' (s + 1) 0 0 (upTo R k) ∧ RAt w' s 0 0 (fun _ => ru0) ∧ Kept (· = s + 1) W2 w' ∧ ∀ j, j < k → ruleB (padR R j) = true) (fun t _ => R.length - (intOf t).toNat)
    case atStart => exact ⟨0, Nat.zero_le _, rfl, by rw [upTo_zero]; exact unhide HN2, unhide HN1, Kept.refl _ _, fun j hj => absurd hj (Nat.not_lt_zero _)⟩
    case round =>
      obtain ⟨k, hk, rfl, h2, h1, hkp, hall⟩ := hrel
      have hst : Still w wr := Kept.trans' (unhide HS2) hkp (fun i hi q => by omega)
      have hin := (unhide HR).still hst
      have l2 := h2.lt
      have HIN := hide hin
      have H2 := hide h2
      have H1 := hide h1
      have HKP := hide hkp
      have HALL := hide hall
      have HST := hide hst
      clear hin h1 hkp hall hst
      by_cases hlt : k < R.length
      · obtain ⟨bs, off, rfl, hbs, r0, r1, r2, r3, r4⟩ := (unhide HIN).at hlt
        have EP : Hid (padR R k = R.getD k ru0) := rfl
        have EU := hide (upTo_succ R k)
        clear h2
        cases hrb : ruleB (R.getD k ru0) with
        | true =>
          have HRB := hide hrb
          clear hrb
          generalize R.getD k ru0 = u at *
          go_wp2_with fail
          refine (isRule_any u _).mono ?_
          rintro e w3 ⟨rfl, hs3⟩
          rw [unhide HRB]
          have h3 := (unhide H2).still hs3
          have a0 := h3.allow k (by omega)
          have a1 := h3.addr k (by omega)
          have a2 := h3.len k (by omega)
          have a3 := h3.ge k (by omega)
          have a4 := h3.le k (by omega)
          have fz := h3.fz
          have l3 := h3.lt
          simp only [Nat.zero_add] at a0 a1 a2 a3 a4
          replace r0 := (hs3.cell bs _ hbs).trans r0
          replace r1 := (hs3.cell bs _ hbs).trans r1
          replace r2 := (hs3.cell bs _ hbs).trans r2
          replace r3 := (hs3.cell bs _ hbs).trans r3
          replace r4 := (hs3.cell bs _ hbs).trans r4
          have X3 := hide (h3.put (k := k) (by omega) u)
          have K3 := hide (Kept.trans (unhide HKP) (Still.kept hs3 _))
          have X1 := hide ((unhide H1).still hs3)
          clear h3 hs3
          go_wp2
          go_roundw
          case rel =>
            have x3 := unhide X3
            rw [← unhide EP, unhide EU, unhide EP] at x3
            simp only [Nat.zero_add] at x3
            refine ⟨k + 1, by omega, by go_num, x3, ?_, ?_, ?_⟩
            · have hq := Kept.put5 (Kept.refl (· = s + 1) w3) rfl (1 + k * 5) (1 + k * 5 + 1) (1 + k * 5 + 2) (1 + k * 5 + 3) (1 + k * 5 + 4) (.bool u.allow) (.int .i64 u.addr) (.int .i64 u.len) (.int .i64 u.ge) (.int .i64 u.le)
              have h1 := unhide X1
              exact h1.frame (Nat.lt_of_lt_of_le h1.lt hq.size) (hq.block s h1.lt (by omega))
            · exact Kept.put5 (unhide K3) rfl _ _ _ _ _ _ _ _ _ _
            · intro j hj
              by_cases ej : j = k
              · subst ej; rw [unhide EP]; exact unhide HRB
              · exact unhide HALL j (by omega)
          case measure => simp [intOf]; omega
        | false =>
          have hbad : filterOk R = false := by
            unfold filterOk
            rw [show R.all ruleB = false from by
              rw [List.all_eq_false]
              exact ⟨R[k], List.getElem_mem hlt, by rw [show R[k] = R.getD k ru0 from by simp [List.getD_eq_getElem?_getD, hlt], hrb]; simp⟩]
            exact Bool.and_false _
          have HBAD := hide hbad
          have HRB := hide hrb
          clear hrb hbad
          generalize R.getD k ru0 = u at *
          go_wp2_with fail
          refine (isRule_any u _).mono ?_
          rintro e w3 ⟨rfl, hs3⟩
          rw [unhide HRB]
          have X1 := hide ((unhide H1).still hs3)
          have HS3 : Hid (Still w w3) := (unhide HST).trans hs3
          clear hs3
          go_wp2_with (refine wpList_store_mid rfl 58 _ _ rfl _ _ (rulesCells 0 (fun _ => ru0)).toArray rfl rfl (unhide X1).there infoRules (rulesCells_one _ _) ?_)
          refine bodyPost_ret (results_range2 rfl _ _ _ _ _ _ rfl ((unhide X1).stored (Nat.zero_le _) _).range Try.underlying58 rfl infoRules) rfl ?_
          exact ⟨Kept.setCells (unhide HS3) (.inr (by omega)) _ _, Or.inr ⟨unhide HBAD, rfl⟩⟩
      · obtain rfl : k = R.length := by omega
        have hok : filterOk R = true := by
          unfold filterOk
          rw [show decide (R.length ≤ 4) = true from by simpa using hl4, Bool.true_and, List.all_eq_true]
          intro u hu
          obtain ⟨j, hj, rfl⟩ := List.getElem_of_mem hu
          have := unhide HALL j hj
          unfold padR at this
          rw [show R.getD j ru0 = R[j] from by simp [List.getD_eq_getElem?_getD, hj]] at this
          exact this
        have HOK := hide hok
        have c2 := h2.cnt
        have fz := h2.fz
        have X2 : Hid (RAt (wr.setCell ⟨s + 1, 0, none⟩ (.int .i64 (R.length : Int))) (s + 1) 0 R.length (padR R)) := by
          have := h2.setCnt hl4
          rw [upTo_all] at this
          exact this
        have X1 : Hid (RAt (wr.setCell ⟨s + 1, 0, none⟩ (.int .i64 (R.length : Int))) s 0 0 (fun _ => ru0)) := by
          have h1 := unhide H1
          exact h1.frame (by simpa using h1.lt) (Below.heap_setCell _ _ _ _ (by show s ≠ s + 1; omega))
        have HS3 : Hid (Still w (wr.setCell ⟨s + 1, 0, none⟩ (.int .i64 (R.length : Int)))) := Kept.setCell (unhide HST) (p := ⟨s + 1, 0, none⟩) (.inr (by show w.heap.size ≤ s + 1; omega)) _
        clear hok h2
        go_wp2_with (first | (refine wpList_load_mid rfl 58 _ rfl _ _ rfl (rulesCells R.length (padR R)) _ (unhide X2).range Try.underlying58 rfl infoRules ?_) | (refine wpList_store_mid rfl 58 _ _ rfl _ _ (rulesCells R.length (padR R)).toArray rfl rfl (unhide X1).there infoRules (rulesCells_one _ _) ?_))
        refine bodyPost_ret (results_range2 rfl _ _ _ _ _ _ rfl ((unhide X1).stored hl4 _).range Try.underlying58 rfl infoRules) rfl ?_
        exact ⟨Kept.setCells (unhide HS3) (.inr (by omega)) _ _, Or.inl ⟨unhide HOK, rfl⟩⟩

def hasP (l : List RouteD) (x : RouteD) : Bool := l.any fun y => sameB y x
def delL (l : List RouteD) (x : RouteD) : List RouteD := l.filter fun y => !sameB y x
def putL (l : List RouteD) (x : RouteD) : List RouteD := sortR (delL l x ++ [x])
theorem hasP_true {l : List RouteD} {x : RouteD} : hasP l x = true ↔ ∃ y ∈ l, sameB y x = true := by unfold hasP; rw [List.any_eq_true]
theorem hasP_false {l : List RouteD} {x : RouteD} : hasP l x = false ↔ ∀ y ∈ l, sameB y x = false := by
  unfold hasP
  rw [List.any_eq_false]
  simp
theorem mem_delL {l : List RouteD} {x z : RouteD} : z ∈ delL l x ↔ z ∈ l ∧ sameB z x = false := by
  unfold delL
  rw [List.mem_filter]
  simp
section
variable {l : List RouteD} {x : RouteD}
theorem sorted_delL (hs : Sorted l) (x : RouteD) : Sorted (delL l x) := List.Pairwise.sublist List.filter_sublist hs
theorem sorted_ne (hs : Sorted l) : l.Pairwise fun x y => key x ≠ key y := List.Pairwise.imp (fun h e => by omega) hs
theorem putL_ok (hs : Sorted l) (hl : ∀ y ∈ l, okRoute y) (hx : okRoute x) : Sorted (putL l x) ∧ ∀ z, z ∈ putL l x ↔ (z ∈ l ∧ sameB z x = false) ∨ z = x := by
  have h1 : ∀ y ∈ delL l x ++ [x], okRoute y := fun y hy => by
    rcases List.mem_append.1 hy with h | h
    · exact hl y (mem_delL.1 h).1
    · rw [List.mem_singleton] at h; subst h; exact hx
  have h2 : (delL l x ++ [x]).Pairwise fun x y => key x ≠ key y := by
    refine List.pairwise_append.2 ⟨sorted_ne (sorted_delL hs x), by simp, fun y hy z hz => ?_⟩
    rw [List.mem_singleton] at hz
    subst hz
    obtain ⟨a, b⟩ := mem_delL.1 hy
    intro e
    rw [(same_key (hl y a) hx).2 e] at b
    simp at b
  obtain ⟨h3, h4⟩ := sortR_ok h1 h2
  exact ⟨h3, fun z => by
    unfold putL
    rw [h4 z, List.mem_append, mem_delL, List.mem_singleton]⟩
theorem putL_okr (hs : Sorted l) (hl : ∀ y ∈ l, okRoute y) (hx : okRoute x) : ∀ y ∈ putL l x, okRoute y := fun y hy => by
  rcases ((putL_ok hs hl hx).2 y).1 hy with h | h
  · exact hl y h.1
  · subst h; exact hx
theorem pad_lt {j : Nat} (h : j < l.length) : pad l j = l[j] := by unfold pad; simp [List.getD_eq_getElem?_getD, h]
theorem pad_ge {j : Nat} (h : l.length ≤ j) : pad l j = rt0 := by unfold pad; simp [List.getD_eq_getElem?_getD, List.getElem?_eq_none h]
theorem sorted_get (hs : Sorted l) {i j : Nat} (hi : i < l.length) (hj : j < l.length) (h : i < j) : key l[i] < key l[j] := List.pairwise_iff_getElem.1 hs i j hi hj h
/-- What the place of a prefix says. -/
theorem place_keys (hs : Sorted l) (hl : ∀ y ∈ l, okRoute y) (hx : okRoute x) {i : Nat} (hp : IsPl (pad l) l.length x.addr x.len i) : (∀ j (hj : j < l.length), j < i → key l[j] < key x) ∧ (∀ j (hj : j < l.length), i ≤ j → key x ≤ key l[j]) := by
  obtain ⟨h1, h2, h3⟩ := hp
  refine ⟨fun j hj hji => ?_, fun j hj hij => ?_⟩
  · have h := h2 j hji
    rw [pad_lt hj] at h
    exact (less_key (hl _ (List.getElem_mem hj)) hx).1 h
  · have hi : i < l.length := by omega
    have h := h3 hi
    rw [pad_lt hi] at h
    have hk : ¬ key l[i] < key x := fun hh => by
      have h' : befB l[i] x.addr x.len = true := (less_key (hl _ (List.getElem_mem hi)) hx).2 hh
      rw [h] at h'
      simp at h'
    by_cases e : i = j
    · subst e; omega
    · have := sorted_get hs hi hj (by omega)
      omega
theorem stands_has (hs : Sorted l) (hl : ∀ y ∈ l, okRoute y) (hx : okRoute x) {i : Nat} (hp : IsPl (pad l) l.length x.addr x.len i) : stB (pad l) l.length i x.addr x.len = hasP l x := by
  obtain ⟨h1, h2⟩ := place_keys hs hl hx hp
  rw [Bool.eq_iff_iff, hasP_true]
  unfold stB
  constructor
  · intro h
    rw [Bool.and_eq_true, decide_eq_true_eq] at h
    rw [pad_lt h.1] at h
    exact ⟨l[i], List.getElem_mem h.1, h.2⟩
  · rintro ⟨y, hy, hsy⟩
    obtain ⟨j, hj, rfl⟩ := List.getElem_of_mem hy
    have hk := (same_key (hl _ hy) hx).1 hsy
    have hji : j = i := by
      rcases Nat.lt_trichotomy j i with h | h | h
      · have := h1 j hj h; omega
      · exact h
      · have a := h2 i (by omega) (Nat.le_refl _)
        have b := sorted_get hs (by omega) hj h
        omega
    subst hji
    rw [Bool.and_eq_true, decide_eq_true_eq, pad_lt hj]
    exact ⟨hj, hsy⟩
theorem set_sorted {i : Nat} (hs : Sorted l) (hi : i < l.length) (hk : key l[i] = key x) : Sorted (l.set i x) := by
  unfold Sorted
  rw [List.pairwise_iff_getElem]
  intro a b ha hb hab
  rw [List.length_set] at ha hb
  have hp := sorted_get hs ha hb hab
  rw [List.getElem_set, List.getElem_set]
  by_cases ea : i = a
  · rw [if_pos ea, if_neg (by omega)]
    subst ea
    omega
  · rw [if_neg ea]
    by_cases eb : i = b
    · rw [if_pos eb]
      subst eb
      omega
    · rw [if_neg eb]; exact hp
theorem sorted_one (hs : Sorted l) {y z : RouteD} (hy : y ∈ l) (hz : z ∈ l) (hk : key y = key z) : y = z := by
  obtain ⟨a, ha, rfl⟩ := List.getElem_of_mem hy
  obtain ⟨b, hb, rfl⟩ := List.getElem_of_mem hz
  rcases Nat.lt_trichotomy a b with h | h | h
  · have := sorted_get hs ha hb h; omega
  · subst h; rfl
  · have := sorted_get hs hb ha h; omega
/-- In the place of one of the same prefix. -/
theorem put_set (hs : Sorted l) (hl : ∀ y ∈ l, okRoute y) (hx : okRoute x) {i : Nat} (hi : i < l.length) (hsm : sameB l[i] x = true) : putL l x = l.set i x := by
  have hk := (same_key (hl _ (List.getElem_mem hi)) hx).1 hsm
  obtain ⟨h1, h2⟩ := putL_ok hs hl hx
  refine sorted_ext h1 (set_sorted hs hi hk) fun z => ?_
  rw [h2 z]
  constructor
  · rintro (⟨a, b⟩ | rfl)
    · obtain ⟨j, hj, rfl⟩ := List.getElem_of_mem a
      have hne : i ≠ j := fun e => by subst e; rw [hsm] at b; simp at b
      rw [List.mem_iff_getElem]
      exact ⟨j, by simpa using hj, by rw [List.getElem_set, if_neg hne]⟩
    · exact List.mem_iff_getElem.2 ⟨i, by simpa using hi, by simp⟩
  · intro h
    obtain ⟨j, hj, rfl⟩ := List.getElem_of_mem h
    rw [List.length_set] at hj
    rw [List.getElem_set]
    by_cases e : i = j
    · rw [if_pos e]; exact .inr rfl
    · rw [if_neg e]
      refine .inl ⟨List.getElem_mem hj, ?_⟩
      cases hb : sameB l[j] x with
      | false => rfl
      | true =>
        have hk2 := (same_key (hl _ (List.getElem_mem hj)) hx).1 hb
        rcases Nat.lt_or_gt_of_ne e with h | h
        · have := sorted_get hs hi hj h; omega
        · have := sorted_get hs hj hi h; omega
theorem pad_set {i : Nat} (hi : i < l.length) : pad (l.set i x) = upd (pad l) i x := by
  funext j
  unfold upd
  by_cases hj : j < l.length
  · rw [pad_lt (by simpa using hj), List.getElem_set]
    by_cases e : i = j
    · rw [if_pos e, if_pos e.symm]
    · rw [if_neg e, if_neg (fun h => e h.symm), pad_lt hj]
  · rw [pad_ge (by simpa using hj), if_neg (by omega), pad_ge (by omega)]
def insI (l : List RouteD) (i : Nat) (x : RouteD) : List RouteD := l.take i ++ x :: l.drop i
theorem insI_len {i : Nat} (hi : i ≤ l.length) : (insI l i x).length = l.length + 1 := by
  unfold insI
  rw [List.length_append, List.length_cons, List.length_take, List.length_drop]
  omega
theorem pad_ins {i : Nat} (hi : i ≤ l.length) : ∀ j, pad (insI l i x) j = insAt (pad l) l.length i x j := by
  intro j
  have hlen := insI_len (x := x) hi
  unfold insAt
  by_cases hj : j < l.length + 1
  · rw [pad_lt (by omega)]
    unfold insI
    by_cases h1 : j < i
    · rw [if_pos h1, List.getElem_append_left (by rw [List.length_take]; omega), List.getElem_take, pad_lt (by omega)]
    · rw [if_neg h1, List.getElem_append_right (by rw [List.length_take]; omega)]
      by_cases h2 : j = i
      · rw [if_pos h2]
        have : j - (l.take i).length = 0 := by rw [List.length_take]; omega
        simp only [this, List.getElem_cons_zero]
      · rw [if_neg h2, if_pos (by omega)]
        have : j - (l.take i).length = (j - 1 - i) + 1 := by rw [List.length_take]; omega
        simp only [this, List.getElem_cons_succ, List.getElem_drop]
        rw [pad_lt (by omega)]
        congr 1
        omega
  · rw [pad_ge (by omega), if_neg (by omega), if_neg (by omega), if_neg (by omega), pad_ge (by omega)]
theorem put_ins (hs : Sorted l) (hl : ∀ y ∈ l, okRoute y) (hx : okRoute x) {i : Nat} (hp : IsPl (pad l) l.length x.addr x.len i) (hn : hasP l x = false) : putL l x = insI l i x := by
  obtain ⟨h1, h2⟩ := place_keys hs hl hx hp
  obtain ⟨h3, h4⟩ := putL_ok hs hl hx
  have hnk : ∀ y ∈ l, key y ≠ key x := fun y hy e => by
    have := hasP_false.1 hn y hy
    rw [(same_key (hl y hy) hx).2 e] at this
    simp at this
  have hm : ∀ z, z ∈ insI l i x ↔ z ∈ l ∨ z = x := fun z => by
    unfold insI
    rw [List.mem_append, List.mem_cons]
    conv => rhs; rw [← List.take_append_drop i l]
    rw [List.mem_append]
    constructor
    · rintro (h | h | h)
      · exact .inl (.inl h)
      · exact .inr h
      · exact .inl (.inr h)
    · rintro ((h | h) | h)
      · exact .inl h
      · exact .inr (.inr h)
      · exact .inr (.inl h)
  refine sorted_ext h3 ?_ fun z => ?_
  · unfold insI Sorted
    refine List.pairwise_append.2 ⟨List.Pairwise.sublist (List.take_sublist _ _) hs, List.pairwise_cons.2 ⟨fun y hy => ?_, List.Pairwise.sublist (List.drop_sublist _ _) hs⟩, fun y hy z hz => ?_⟩
    · obtain ⟨j, hj, rfl⟩ := List.getElem_of_mem hy
      rw [List.length_drop] at hj
      rw [List.getElem_drop]
      have a := h2 (i + j) (by omega) (by omega)
      have b := hnk _ (List.getElem_mem (show i + j < l.length by omega))
      omega
    · obtain ⟨j, hj, rfl⟩ := List.getElem_of_mem hy
      rw [List.length_take] at hj
      rw [List.getElem_take]
      have a := h1 j (by omega) (by omega)
      rcases List.mem_cons.1 hz with rfl | hz
      · exact a
      · obtain ⟨m, hm', rfl⟩ := List.getElem_of_mem hz
        rw [List.length_drop] at hm'
        rw [List.getElem_drop]
        have b := h2 (i + m) (by omega) (by omega)
        omega
  · rw [h4 z, hm z]
    constructor
    · rintro (h | h)
      · exact .inl h.1
      · exact .inr h
    · rintro (h | h)
      · exact .inl ⟨h, hasP_false.1 hn z h⟩
      · exact .inr h
theorem del_erase (hs : Sorted l) (hl : ∀ y ∈ l, okRoute y) (hx : okRoute x) {i : Nat} (hi : i < l.length) (hsm : sameB l[i] x = true) : delL l x = l.eraseIdx i := by
  refine sorted_ext (sorted_delL hs x) (List.Pairwise.sublist (List.eraseIdx_sublist _ _) hs) fun z => ?_
  have hk := (same_key (hl _ (List.getElem_mem hi)) hx).1 hsm
  rw [mem_delL, List.mem_eraseIdx_iff_getElem]
  constructor
  · rintro ⟨a, b⟩
    obtain ⟨j, hj, rfl⟩ := List.getElem_of_mem a
    exact ⟨j, hj, fun e => by subst e; rw [hsm] at b; simp at b, rfl⟩
  · rintro ⟨j, hj, hne, rfl⟩
    refine ⟨List.getElem_mem hj, ?_⟩
    cases hb : sameB l[j] x with
    | false => rfl
    | true =>
      have hk2 := (same_key (hl _ (List.getElem_mem hj)) hx).1 hb
      rcases Nat.lt_or_gt_of_ne hne with h | h
      · have := sorted_get hs hj hi h; omega
      · have := sorted_get hs hi hj h; omega
theorem pad_erase {i : Nat} (hi : i < l.length) : ∀ j, pad (l.eraseIdx i) j = delAt (pad l) (l.length - 1) i j := by
  intro j
  have hlen : (l.eraseIdx i).length = l.length - 1 := by rw [List.length_eraseIdx, if_pos hi]
  unfold delAt
  by_cases hj : j < l.length - 1
  · rw [pad_lt (by omega), List.getElem_eraseIdx]
    by_cases h1 : j < i
    · rw [if_pos h1, dif_pos h1, pad_lt (by omega)]
    · rw [if_neg h1, dif_neg h1, if_pos hj, pad_lt (by omega)]
  · rw [pad_ge (by omega)]
    by_cases h1 : j < i
    · omega
    · rw [if_neg h1, if_neg hj]
      by_cases h2 : j = l.length - 1
      · rw [if_pos h2]
      · rw [if_neg h2, pad_ge (by omega)]
end
end Go.Proofs.Ytgndledehlilkab
