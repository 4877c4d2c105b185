/-
  ones: routes out of raw numbers.
-/
import Derived.Test.YtgndledehlilkaaKeepQ
namespace Go.Proofs.Ytgndledehlilkaa
open Go.RowKit

def oneCells (x : RouteD) : List Value := [.int .i64 x.from_, .int .i64 x.addr, .int .i64 x.len, .int .i64 x.hop, .int .i64 x.from_]
def sameO (x y : RouteD) : Bool := x.from_ == y.from_ && (x.addr == y.addr && x.len == y.len)
def cnt (L : List RouteD) (t : Int) : Nat := (L.filter fun x => decide (x.from_ = t)).length
/-- What such a list keeps to. -/
structure OkOnes (L : List RouteD) : Prop where
  pfx : ∀ x ∈ L, isPfx x.addr x.len = true
  hop : ∀ x ∈ L, 0 ≤ x.hop ∧ x.hop ≤ 255
  who : ∀ x ∈ L, x.from_ = 0 ∨ x.from_ = 1 ∨ x.from_ = 2
  dist : L.Pairwise fun x y => sameO x y = false
  few : ∀ t, cnt L t ≤ 10
theorem cnt_snoc (L : List RouteD) (x : RouteD) (t : Int) : cnt (L ++ [x]) t = cnt L t + if x.from_ = t then 1 else 0 := by
  unfold cnt
  rw [List.filter_append, List.length_append]
  by_cases h : x.from_ = t
  · simp [h]
  · simp [h]
theorem cnt_sum {L : List RouteD} (h : ∀ x ∈ L, x.from_ = 0 ∨ x.from_ = 1 ∨ x.from_ = 2) : cnt L 0 + cnt L 1 + cnt L 2 = L.length := by
  induction L with
  | nil => rfl
  | cons x L ih =>
    have i1 := ih (fun y hy => h y (List.mem_cons_of_mem _ hy))
    have key : ∀ t, cnt (x :: L) t = cnt L t + if x.from_ = t then 1 else 0 := fun t => by
      unfold cnt
      rw [List.filter_cons]
      by_cases e : x.from_ = t
      · simp [e]
      · simp [e]
    rw [key, key, key, List.length_cons]
    rcases h x (List.mem_cons_self ..) with e | e | e <;> simp [e] <;> omega
theorem OkOnes.nil : OkOnes [] := ⟨by simp, by simp, by simp, by simp, fun _ => by simp [cnt]⟩
theorem OkOnes.len {L : List RouteD} (h : OkOnes L) : L.length ≤ 30 := by
  rw [← cnt_sum h.who]
  have := h.few 0
  have := h.few 1
  have := h.few 2
  omega
theorem OkOnes.snoc {L : List RouteD} (h : OkOnes L) {x : RouteD} (h1 : isPfx x.addr x.len = true) (h2 : 0 ≤ x.hop ∧ x.hop ≤ 255) (h3 : x.from_ = 0 ∨ x.from_ = 1 ∨ x.from_ = 2) (h4 : (L.any fun y => sameO y x) = false) (h5 : cnt L x.from_ < 10) : OkOnes (L ++ [x]) := by
  refine ⟨?_, ?_, ?_, ?_, fun t => ?_⟩
  · intro y hy
    rcases List.mem_append.1 hy with h' | h'
    · exact h.pfx y h'
    · rw [List.mem_singleton] at h'; subst h'; exact h1
  · intro y hy
    rcases List.mem_append.1 hy with h' | h'
    · exact h.hop y h'
    · rw [List.mem_singleton] at h'; subst h'; exact h2
  · intro y hy
    rcases List.mem_append.1 hy with h' | h'
    · exact h.who y h'
    · rw [List.mem_singleton] at h'; subst h'; exact h3
  · refine List.pairwise_append.2 ⟨h.dist, by simp, fun y hy z hz => ?_⟩
    rw [List.mem_singleton] at hz; subst hz
    rw [List.any_eq_false] at h4
    simpa using h4 y hy
  · rw [cnt_snoc]
    have := h.few t
    by_cases e : x.from_ = t
    · subst e; rw [if_pos rfl]; omega
    · rw [if_neg e]; omega
/-- The raw numbers that came in. -/
structure RawIn (w : World) (a : Option Addr) (n : Nat) (X : Nat → Int) : Prop where
  most : n ≤ 17592186044416
  at_ : 0 < n → ∃ bs off, a = some ⟨bs, off, none⟩ ∧ bs < w.heap.size ∧ ∀ i, i < n → w.cell? ⟨bs, off + i, none⟩ = some (.int .i64 (X i)) ∧ -9223372036854775808 ≤ X i ∧ X i ≤ 9223372036854775807
/-- How many of each. -/
structure CntAt (w : World) (s : Nat) (L : List RouteD) : Prop where
  lt : s < w.heap.size
  fz : ∀ j, w.frozen? ⟨s, j, none⟩ = false
  c : ∀ t : Nat, t < 3 → w.cell? ⟨s, t, none⟩ = some (.int .i64 (cnt L (t : Int) : Int))
theorem CntAt.kept {P : Nat → Prop} {w w' : World} {s : Nat} {L : List RouteD} (h : CntAt w s L) (hk : Kept P w w') (hp : ¬ P s) : CntAt w' s L :=
  ⟨Nat.lt_of_lt_of_le h.lt hk.size, fun j => (hk.frozen (p := ⟨s, j, none⟩) h.lt hp).trans (h.fz j), fun t ht => (hk.cell (p := ⟨s, t, none⟩) h.lt hp).trans (h.c t ht)⟩
theorem CntAt.more {w : World} {s : Nat} {L : List RouteD} (h : CntAt w s L) {x : RouteD} {t : Nat} (ht : t < 3) (hx : x.from_ = (t : Int)) : CntAt (w.setCell ⟨s, t, none⟩ (.int .i64 ((cnt L (t : Int) : Int) + 1))) s (L ++ [x]) := by
  refine ⟨by simpa using h.lt, fun j => by simpa using h.fz j, fun q hq => ?_⟩
  rw [cnt_snoc, hx]
  by_cases e : q = t
  · subst e
    rw [World.cell?_setCell_same _ _ _ (h.c q hq), if_pos rfl]
    rfl
  · rw [off_cell _ _ _ e, if_neg (by omega)]
    exact h.c q hq
theorem one_snoc (L : List RouteD) (x : RouteD) : (L ++ [x]).flatMap oneCells = L.flatMap oneCells ++ oneCells x := by rw [List.flatMap_append]; simp
theorem oneCell {w : World} {base : Nat} {g cap n : Nat} {l : List RouteD} (h : w.ownsRow base 52 5 (.slice (some ⟨g, 0, none⟩) n cap) n (l.flatMap oneCells)) (hn : n = l.length) {i : Nat} (hi : i < l.length) :
    w.cell? ⟨g, i * 5, none⟩ = some (.int .i64 (l.getD i rt0).from_) ∧ w.cell? ⟨g, i * 5 + 1, none⟩ = some (.int .i64 (l.getD i rt0).addr) ∧ w.cell? ⟨g, i * 5 + 2, none⟩ = some (.int .i64 (l.getD i rt0).len) ∧ w.cell? ⟨g, i * 5 + 3, none⟩ = some (.int .i64 (l.getD i rt0).hop) ∧ w.cell? ⟨g, i * 5 + 4, none⟩ = some (.int .i64 (l.getD i rt0).from_) := by
  subst hn
  rw [flat_enc l rt0] at h
  have hs : ∀ i, i < l.length → (oneCells (l.getD i rt0)).length = 5 := fun _ _ => rfl
  exact ⟨ownsRow_cell h hs hi (j := 0) (by omega), ownsRow_cell h hs hi (j := 1) (by omega), ownsRow_cell h hs hi (j := 2) (by omega), ownsRow_cell h hs hi (j := 3) (by omega), ownsRow_cell h hs hi (j := 4) (by omega)⟩
theorem infoOne : (Try.prog.info? 52).map (fun i => (i.zero, i.size, i.bytes)) = some (some (.agg #[.int .i64 0, .int .i64 0, .int .i64 0, .int .i64 0, .int .i64 0]), 5, 40) := by kernel_rfl
theorem any_snoc {L : List RouteD} {k : Nat} (hk : k < L.length) (p : RouteD → Bool) : (L.take (k + 1)).any p = ((L.take k).any p || p (L.getD k rt0)) := by
  rw [List.take_add_one, List.getElem?_eq_getElem hk, List.any_append, show L.getD k rt0 = L[k] from by simp [List.getD_eq_getElem?_getD, hk]]
  simp
set_option maxRecDepth 100000 in
set_option maxHeartbeats 4000000 in
theorem onesK {w : World} {a : Option Addr} {n cap : Nat} {X : Nat → Int} (h : RawIn w a n X) :
    Calls Try.prog 19 #[.slice a n cap] w fun en w' => ∃ (L : List RouteD) (v : Value), en = .returned v ∧ OkOnes L ∧ w'.ownsRow w.heap.size 52 5 v L.length (L.flatMap oneCells) ∧ Still w w' := by
  have hmost := h.most
  have HR := hide h
  have hS0 : Still w (w.alloc (.cells #[.int .i64 0, .int .i64 0, .int .i64 0] 97)) := (Kept.refl _ _).alloc _
  have hc0 : CntAt (w.alloc (.cells #[.int .i64 0, .int .i64 0, .int .i64 0] 97)) w.heap.size [] := by
    refine ⟨by simp, fun j => World.frozen?_alloc_new _ _ _ _, fun t ht => ?_⟩
    rw [World.cell?_alloc_new]
    have : t = 0 ∨ t = 1 ∨ t = 2 := by omega
    rcases this with rfl | rfl | rfl <;> rfl
  have hzs : (w.alloc (.cells #[.int .i64 0, .int .i64 0, .int .i64 0] 97)).heap.size = w.heap.size + 1 := by simp
  have HS0 := hide hS0
  have HC0 := hide hc0
  obtain ⟨i0, hi0, hz0, hz1, hz2⟩ := info_parts infoOne
  clear h hS0 hc0
  go_enter Try.func19, Try.ntmps19
  go_wp2
  generalize hsz : w.heap.size = s at *
  generalize w.alloc (.cells #[.int .i64 0, .int .i64 0, .int .i64 0] 97) = V at *
  go_loopw [3, 5, 6, 7, 8, 9, 10, 11] (fun l i _ _ _ _ _ _ w' => ∃ (m : Nat) (L : List RouteD), 3 * m ≤ n + 2 ∧ i = .int .i64 ((3 * m : Nat) : Int) ∧ OkOnes L ∧ w'.ownsRow (s + 1) 52 5 l L.length (L.flatMap oneCells) ∧ CntAt w' s L ∧ Still w w') (fun _ i _ _ _ _ _ _ _ => n + 3 - (intOf i).toNat)
  case atStart => exact ⟨0, [], by omega, rfl, OkOnes.nil, World.ownsRow_nil _ _ _ _, unhide HC0, unhide HS0⟩
  case round =>
    obtain ⟨m, L, hm, rfl, hok, hro, hcn, hst⟩ := hrel
    obtain ⟨la, lc, rfl, hl1, hl2⟩ := ownsRow_slice hro
    unfold maxLen at hl2
    have hlen := hok.len
    have hcs := hst.size
    have HOK := hide hok
    have HRO := hide hro
    have HCN := hide hcn
    have HST := hide hst
    clear hok hro hcn hst
    by_cases hlt : 3 * m + 2 < n
    · obtain ⟨bs, off, rfl, hbs, hX⟩ := (unhide HR).at_ (by omega)
      obtain ⟨x0, x1, x2⟩ := hX (3 * m) (by omega)
      obtain ⟨y0, y1, y2⟩ := hX (3 * m + 1) (by omega)
      obtain ⟨z0, z1, z2⟩ := hX (3 * m + 2) (by omega)
      have x0' := ((unhide HST).cell bs _ hbs).trans x0
      have y0' := ((unhide HST).cell bs _ hbs).trans y0
      have z0' := ((unhide HST).cell bs _ hbs).trans z0
      have hbw : bs < wr.heap.size := by omega
      have hmc : ((3 * (m + 1) : Nat) : Int) = ((3 * m : Nat) : Int) + 3 := by omega
      have HMC := hide hmc
      generalize hX0 : X (3 * m) = X0 at *
      generalize hX1 : X (3 * m + 1) = X1 at *
      generalize hX2 : X (3 * m + 2) = X2 at *
      clear hX hX0 hX1 hX2 x0 y0 z0 hmc
      have hm2 : m + 1 ≤ n := by omega
      generalize hqq : 3 * m = q at *
      have HQQ := hide hqq
      clear hqq
      have hq0 : (0 : Int) ≤ (q : Int) := by omega
      have hql : (q : Int) < (n : Int) := by omega
      have hq1 : (0 : Int) ≤ (q : Int) + 1 := by omega
      have hq1l : (q : Int) + 1 < (n : Int) := by omega
      have hq2 : (0 : Int) ≤ (q : Int) + 2 := by omega
      have hq2l : (q : Int) + 2 < (n : Int) := by omega
      have hw1 : IntKind.i64.wrap ((q : Int) + 1) = (q : Int) + 1 := by rw [IntKind.wrap_i64]; omega
      have hw2 : IntKind.i64.wrap ((q : Int) + 2) = (q : Int) + 2 := by rw [IntKind.wrap_i64]; omega
      have hp3 := pickF_range X0 (n := 3) (by omega)
      have hd1 : -9223372036854775808 ≤ X0.tdiv 3 ∧ X0.tdiv 3 ≤ 9223372036854775807 := by
        rcases Int.le_total 0 X0 with h | h
        · rw [Int.tdiv_eq_ediv_of_nonneg h]; omega
        · have : X0.tdiv 3 = -((-X0).tdiv 3) := by rw [Int.neg_tdiv]; omega
          rw [this, Int.tdiv_eq_ediv_of_nonneg (by omega)]; omega
      have hp256 := pickF_range (X0.tdiv 3) (n := 256) (by omega)
      obtain ⟨who, hwho⟩ : ∃ t : Nat, (t : Int) = pickF X0 3 := ⟨(pickF X0 3).toNat, by omega⟩
      have hw3 : who < 3 := by omega
      have WHO := hide hwho
      have PFX := hide (pfx_is X1 X2)
      clear hwho hp3
      go_wp2_with fail
      refine (pickK _ _ _ (by omega) x1 x2).mono ?_
      rintro en w' ⟨rfl, hw⟩
      replace hw := hw.symm
      subst hw
      rw [← unhide WHO]
      go_wp2_with fail
      go_quiet ((go_at_call 27; exact Calls.quiet_of_same (prefixK _ _ _ y1 y2 z1 z2)))
      generalize hpa : pfxA X1 X2 = pa at *
      generalize hpl : pfxL X2 = pl at *
      clear hpa hpl
      have hStd : Still w (wr.drewN nq) := (unhide HST).drewN _
      have HRO2 : Hid ((wr.drewN nq).ownsRow (s + 1) 52 5 (.slice la L.length lc) L.length (L.flatMap oneCells)) := ownsRow_of_block (unhide HRO) (fun _ _ => rfl)
      have HCN2 : Hid (CntAt (wr.drewN nq) s L) := (unhide HCN).kept ((Kept.refl (fun _ => False) wr).drewN _) (fun q => q)
      have HST2 := hide hStd
      have x0'' : (wr.drewN nq).cell? ⟨bs, off + q, none⟩ = some (.int .i64 X0) := x0'
      have hbw' : bs < (wr.drewN nq).heap.size := hbw
      clear hStd HRO HCN HST x0' y0' z0' hbw
      generalize wr.drewN nq = U at *
      go_wp2_with fail
      refine (pickK _ _ _ (by omega) hd1.1 hd1.2).mono ?_
      rintro en w' ⟨rfl, hw⟩
      replace hw := hw.symm
      subst hw
      generalize hph : pickF (X0.tdiv 3) 256 = ph at *
      clear hph
      have hsU := (unhide HCN2).lt
      have hbx := BoxX.new U ⟨pa, pl, ph, who⟩ 34
      have hSU : Still U (U.alloc (.cells #[.int .i64 pa, .int .i64 pl, .int .i64 ph, .int .i64 (who : Int)] 34)) := (Kept.refl _ _).alloc _
      have HRO3 := hide (kept_row (unhide HRO2) hSU (fun _ _ q => q))
      have HCN3 := hide ((unhide HCN2).kept hSU (fun q => q))
      have HST3 := hide ((unhide HST2).trans hSU)
      have HBX := hide hbx
      clear hbx hSU HRO2 HCN2 HST2 x0'' hbw'
      go_wp2
      generalize hsu : U.heap.size = su at *
      generalize U.alloc (.cells #[.int .i64 pa, .int .i64 pl, .int .i64 ph, .int .i64 (who : Int)] 34) = U1 at *
      go_loop [10, 11] (fun tw k => ∃ k' : Nat, k' ≤ L.length ∧ k = .int .i64 k' ∧ tw = .bool ((L.take k').any fun y => sameO y ⟨pa, pl, ph, who⟩)) (fun _ k => L.length - (intOf k).toNat)
      case atStart => exact ⟨0, Nat.zero_le _, rfl, rfl⟩
      case round =>
        obtain ⟨k, hk, rfl, rfl⟩ := hrel
        by_cases hkl : k < L.length
        · obtain ⟨g, rfl, hgl⟩ := ownsRow_some (unhide HRO3) (by omega)
          obtain ⟨o0, o1, o2, o3, o4⟩ := oneCell (unhide HRO3) rfl hkl
          have EA := hide (any_snoc hkl (fun y => sameO y ⟨pa, pl, ph, who⟩))
          have hk0 : (0 : Int) ≤ (k : Int) := by omega
          have hkll : (k : Int) < (L.length : Int) := by omega
          generalize L.getD k rt0 = y at *
          cases htw : ((L.take k).any fun y => sameO y ⟨pa, pl, ph, who⟩) with
          | true =>
            have HT := hide htw
            clear htw
            go_wp2
            go_round
            case rel => exact ⟨k + 1, by omega, by go_num, by rw [unhide EA, unhide HT]; rfl⟩
            case measure => simp [intOf]; omega
          | false =>
            have HT := hide htw
            clear htw
            have hso : sameO y ⟨pa, pl, ph, who⟩ = (y.from_ == (who : Int) && (y.addr == pa && y.len == pl)) := rfl
            have HSO := hide hso
            clear hso
            cases e1 : (y.from_ == (who : Int)) with
            | false =>
              have E1 := hide e1
              go_wp2
              go_round
              case rel => exact ⟨k + 1, by omega, by go_num, by rw [unhide EA, unhide HT, unhide HSO, unhide E1]; rfl⟩
              case measure => simp [intOf]; omega
            | true =>
              have E1 := hide e1
              cases e2 : (y.addr == pa) with
              | false =>
                have E2 := hide e2
                go_wp2
                go_round
                case rel => exact ⟨k + 1, by omega, by go_num, by rw [unhide EA, unhide HT, unhide HSO, unhide E1, unhide E2]; rfl⟩
                case measure => simp [intOf]; omega
              | true =>
                have E2 := hide e2
                cases e3 : (y.len == pl) with
                | false =>
                  have E3 := hide e3
                  go_wp2
                  go_round
                  case rel => exact ⟨k + 1, by omega, by go_num, by rw [unhide EA, unhide HT, unhide HSO, unhide E1, unhide E2, unhide E3]; rfl⟩
                  case measure => simp [intOf]; omega
                | true =>
                  have E3 := hide e3
                  go_wp2
                  go_round
                  case rel => exact ⟨k + 1, by omega, by go_num, by rw [unhide EA, unhide HT, unhide HSO, unhide E1, unhide E2, unhide E3]; rfl⟩
                  case measure => simp [intOf]; omega
        · obtain rfl : k = L.length := by omega
          rw [List.take_of_length_le (Nat.le_refl _)]
          have cw := (unhide HCN3).c who hw3
          have fzs := (unhide HCN3).fz
          have lts := (unhide HCN3).lt
          have bx := unhide HBX
          have q0 := bx.c0
          have q1 := bx.c1
          have q2 := bx.c2
          have q3 := bx.c3
          have ql := bx.lt
          simp only at q0 q1 q2 q3
          clear bx
          have hwc0 : (0 : Int) ≤ (who : Int) := by omega
          have hwc3 : (who : Int) < 3 := by omega
          have hwn : IntKind.i64.wrap ((q : Int) + 3) = (q : Int) + 3 := by rw [IntKind.wrap_i64]; omega
          cases htw : (L.any fun y => sameO y ⟨pa, pl, ph, who⟩) with
          | true =>
            clear htw
            go_wp2
            go_roundw
            case rel => exact ⟨m + 1, L, by have := unhide HQQ; omega, by rw [unhide HMC], unhide HOK, unhide HRO3, unhide HCN3, unhide HST3⟩
            case measure => simp [intOf]; omega
          | false =>
            have HT := hide htw
            clear htw
            by_cases hct : cnt L (who : Int) < 10
            · have hct' : decide ((cnt L (who : Int) : Int) < 10) = true := by simp; omega
              have hsne : su ≠ s := by omega
              have hsne' : s ≠ su := by omega
              have hcw0 : (0 : Int) ≤ (cnt L (who : Int) : Int) := by omega
              have hcw1 : (cnt L (who : Int) : Int) < 10 := by omega
              have hcm := (unhide HCN3).more hw3 (x := ⟨pa, pl, ph, who⟩) rfl
              have hks : Kept (· = s) U1 (U1.setCell ⟨s, who, none⟩ (.int .i64 ((cnt L (who : Int) : Int) + 1))) := Kept.setAt (Kept.refl _ _) _ _
              have hr4 := kept_row (unhide HRO3) hks (fun y hy => by have := ((unhide HRO3).lt y hy).1; omega)
              have hst4 : Still w (U1.setCell ⟨s, who, none⟩ (.int .i64 ((cnt L (who : Int) : Int) + 1))) := Kept.trans' (unhide HST3) hks (fun i hi q => by omega)
              have hsnoc : OkOnes (L ++ [⟨pa, pl, ph, who⟩]) := (unhide HOK).snoc (unhide PFX) ⟨hp256.1, by show ph ≤ 255; omega⟩ (by show (who : Int) = 0 ∨ (who : Int) = 1 ∨ (who : Int) = 2; omega) (unhide HT) hct
              have HCM := hide hcm
              have HR4 := hide hr4
              have HST4 := hide hst4
              have HSN := hide hsnoc
              have hszU := hst4.size
              clear hcm hks hr4 hst4 hsnoc
              go_wp2_with (at_builtin; refine wpList_append_lies _ rfl _ _ _ rfl (s + 1) 52 i0 _ 5 40 Try.underlying48 hi0 hz0 hz1 hz2 rfl (by omega) (.slice la L.length lc) L.length _ rfl ((unhide HR4).alloc _) ⟨U1.heap.size, 0, none⟩ 1 1 [.int .i64 (who : Int), .int .i64 pa, .int .i64 pl, .int .i64 ph, .int .i64 (who : Int)] rfl rfl (World.news_of_block (cs := #[.int .i64 (who : Int), .int .i64 pa, .int .i64 pl, .int .i64 ph, .int .i64 (who : Int)]) (t := 52) (fr := (0, 0)) (by have := heap_alloc_new (U1.setCell ⟨s, who, none⟩ (.int .i64 ((cnt L (who : Int) : Int) + 1))) (.cells #[.int .i64 (who : Int), .int .i64 pa, .int .i64 pl, .int .i64 ph, .int .i64 (who : Int)] 52); simpa using this)) (by simp [Value.oneCell']) (by omega) (by unfold maxLen; omega) (by omega) (by simp; omega) (U1.heap.size + 1) (by simp) ?_; intro g4 cap4 w4 hown4 hgrow4 hat4 hlt4)
              have hge : ∀ y, (Value.slice la L.length lc).ownBlock = some y → s + 1 ≤ y := fun y hy => ((unhide HR4).lt y hy).1
              have hkg : Kept (fun y => (Value.slice la L.length lc).ownBlock = some y) (U1.setCell ⟨s, who, none⟩ (.int .i64 ((cnt L (who : Int) : Int) + 1))) w4 := Kept.grown ((Kept.refl _ _).alloc _) hgrow4 (fun y hy => .inl hy)
              have hcn4 := (unhide HCM).kept hkg (fun q => by have := hge s q; omega)
              have hst5 : Still w w4 := Kept.trans' (unhide HST4) hkg (fun i hi q => by have := hge i q; omega)
              have HO4 := hide hown4
              have HCN4 := hide hcn4
              have HST5 := hide hst5
              clear hkg hcn4 hst5 hown4 hgrow4 hat4 hge
              go_roundw
              case rel =>
                refine ⟨m + 1, L ++ [⟨pa, pl, ph, who⟩], by have := unhide HQQ; omega, by rw [unhide HMC], unhide HSN, ?_, unhide HCN4, unhide HST5⟩
                rw [one_snoc, List.length_append]
                exact unhide HO4
              case measure => simp [intOf]; omega
            · have hct' : decide ((cnt L (who : Int) : Int) < 10) = false := by simp; omega
              go_wp2
              go_roundw
              case rel => exact ⟨m + 1, L, by have := unhide HQQ; omega, by rw [unhide HMC], unhide HOK, unhide HRO3, unhide HCN3, unhide HST3⟩
              case measure => simp [intOf]; omega
    · have hge : ¬ ((3 * m : Nat) : Int) + 2 < (n : Int) := by omega
      have hw3 : IntKind.i64.wrap (((3 * m : Nat) : Int) + 2) = ((3 * m : Nat) : Int) + 2 := by rw [IntKind.wrap_i64]; omega
      go_wp2
      go_ret
      exact ⟨L, .slice la L.length lc, rfl, unhide HOK, (unhide HRO).mono (by omega), unhide HST⟩
end Go.Proofs.Ytgndledehlilkaa
