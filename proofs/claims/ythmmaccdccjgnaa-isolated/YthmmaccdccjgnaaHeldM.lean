import Derived.Test.YthmmaccdccjgnaaPlayM
import Derived.Test.YthmmaccdccjgnaaKeep4
import Derived.Test.YthmmaccdccjgnaaOrdM
namespace Go.Proofs.Ythmmaccdccjgnaa
open Go.RowKit

/-- What a step leaves: one life has turned, or none. -/
def OneLife (r r' : RefS) (l : Nat) : Prop := ∃ L : Life, r' = { r with life := upd r.life l L } ∧ L.no = (r.life l).no ∧ L.quota = (r.life l).quota ∧ L.gone = (r.life l).gone
theorem playS_one (r : RefS) (n : Int) (o : OpD) (mk : Int) : playS r n o mk = r ∨ OneLife r (playS r n o mk) (lifeOf r n) := by
  unfold playS
  split
  · unfold insertedR
    split
    · exact .inr ⟨_, rfl, rfl, rfl, rfl⟩
    · exact .inl rfl
  · split
    · unfold removedR
      split
      · exact .inr ⟨_, rfl, rfl, rfl, rfl⟩
      · exact .inl rfl
    · split
      · unfold sharedR
        split
        · exact .inr ⟨_, rfl, rfl, rfl, rfl⟩
        · exact .inl rfl
      · split
        · unfold filteredR
          split
          · exact .inr ⟨_, rfl, rfl, rfl, rfl⟩
          · exact .inl rfl
        · exact .inl rfl
/-- Three tenants of quotas q, with their first tokens. -/
structure Three (q : Nat → Int) (r : RefS) : Prop where
  nl : r.nl = 3
  firsts : Firsts r 3
  no : ∀ i, i < 3 → (r.life i).no = (i : Int)
  quota : ∀ i, i < 3 → (r.life i).quota = q i
theorem Three.turn {q : Nat → Int} {r r' : RefS} (h : Three q r) {l : Nat} (ho : OneLife r r' l) : Three q r' := by
  obtain ⟨L, rfl, h1, h2, h3⟩ := ho
  refine ⟨h.nl, ⟨h.firsts.nt, h.firsts.tok, fun i hi => ?_⟩, fun i hi => ?_, fun i hi => ?_⟩
  · show (upd r.life l L i).gone = false
    by_cases e : i = l
    · subst e; rw [upd_same, h3]; exact h.firsts.live i hi
    · rw [upd_other _ _ e]; exact h.firsts.live i hi
  · show (upd r.life l L i).no = _
    by_cases e : i = l
    · subst e; rw [upd_same, h1]; exact h.no i hi
    · rw [upd_other _ _ e]; exact h.no i hi
  · show (upd r.life l L i).quota = _
    by_cases e : i = l
    · subst e; rw [upd_same, h2]; exact h.quota i hi
    · rw [upd_other _ _ e]; exact h.quota i hi
theorem Three.play {q : Nat → Int} {r : RefS} (h : Three q r) (n : Int) (o : OpD) (mk : Int) : Three q (playS r n o mk) := by
  rcases playS_one r n o mk with e | e
  · rw [e]; exact h
  · exact h.turn e
def ownTo (l : List RouteD) (t : Int) : Nat → Nat
  | 0 => 0
  | k + 1 => ownTo l t k + (if (l.getD k rt0).from_ = t then 1 else 0)
theorem ownTo_is (l : List RouteD) (t : Int) : ownTo l t l.length = (l.filter fun x => decide (x.from_ = t)).length := by
  have key : ∀ k, k ≤ l.length → ownTo l t k = ((l.take k).filter fun x => decide (x.from_ = t)).length := by
    intro k
    induction k with
    | zero => intro _; rfl
    | succ k ih =>
      intro hk
      have e : l.take (k + 1) = l.take k ++ [l.getD k rt0] := by
        rw [List.take_succ_eq_append_getElem (by omega)]
        simp [List.getD_eq_getElem?_getD, show k < l.length by omega]
      show ownTo l t k + _ = _
      rw [ih (by omega), e, List.filter_append, List.length_append]
      congr 1
      by_cases h : (l.getD k rt0).from_ = t
      · rw [if_pos h]; simp only [List.filter_cons, h, decide_true, if_true]; rfl
      · rw [if_neg h]; simp only [List.filter_cons, h, decide_false]; rfl
  rw [key _ (Nat.le_refl _), List.take_length]
theorem ownTo_le (l : List RouteD) (t : Int) : ∀ k, ownTo l t k ≤ k
  | 0 => Nat.le_refl _
  | k + 1 => by
    have := ownTo_le l t k
    show ownTo l t k + _ ≤ _
    split <;> omega
section
variable {q : Nat → Int} {r : RefS}
/-- Who is not the tenant gives what the tenant has taken. -/
theorem taken_from (hk : RefOk r) {t : Nat} (ht : t < r.nl) {x : RouteD} (hx : x ∈ takenF r t) : x.from_ ≠ (r.life t).no := by
  have h2 : x ∈ offF r t := List.mem_of_mem_take hx
  obtain ⟨⟨u, hu, hxu, ho⟩, _⟩ := ((offF_is hk.tab hk.own t).2 x).1 h2
  obtain ⟨o1, o2, o3, _⟩ := offerB_parts ho
  rw [hk.own.from_ u hu x hxu]
  exact fun e => hk.own.nos t u ht hu o1 o2 o3 e.symm
theorem own_count (hk : RefOk r) {t : Nat} (ht : t < r.nl) : ((tabF r t).filter fun x => decide (x.from_ = (r.life t).no)).length = (r.life t).own.length := by
  obtain ⟨s, m⟩ := tabF_is hk.tab hk.own ht
  have hnd : ((tabF r t).filter fun x => decide (x.from_ = (r.life t).no)).Nodup := (List.Pairwise.imp (fun {a b} (h : key a < key b) e => by rw [e] at h; omega) s).filter _
  have hno : ((r.life t).own).Nodup := List.Pairwise.imp (fun {a b} (h : key a ≠ key b) (e : a = b) => h (by rw [e])) (hk.own.dist t ht)
  have hp : ((tabF r t).filter fun x => decide (x.from_ = (r.life t).no)).Perm (r.life t).own := by
    rw [List.perm_ext_iff_of_nodup hnd hno]
    intro x
    rw [List.mem_filter, m, decide_eq_true_eq]
    constructor
    · rintro ⟨h1 | h1, h2⟩
      · exact h1
      · exact absurd h2 (taken_from hk ht h1)
    · intro h1
      exact ⟨.inl h1, hk.own.from_ t ht x h1⟩
  exact hp.length_eq
/-- What counted finds. -/
theorem told_count (hk : RefOk r) (h : Three q r) {t : Nat} (ht : t < 3) :
    ∃ s : SumsD, ∃ l : List RouteD, mayI r ((t : Int) + 1) 1 = 0 ∧ countF r ((t : Int) + 1) = s ∧ tableL r ((t : Int) + 1) = l ∧ l.length ≤ 64 ∧ s.quota = q t ∧ s.own = (ownTo l (t : Int) l.length : Int) ∧ s.taken = (l.length : Int) - (ownTo l (t : Int) l.length : Int) ∧ (l.length : Int) ≤ q t ∧ 0 ≤ s.dropped ∧ (s.dropped = 0 ∨ (l.length : Int) = q t) ∧
      s.own = ((r.life t).own.length : Int) ∧ (∀ i, i + 1 < l.length → (l.getD i rt0).addr < (l.getD (i + 1) rt0).addr ∨ ((l.getD i rt0).addr = (l.getD (i + 1) rt0).addr ∧ (l.getD i rt0).len < (l.getD (i + 1) rt0).len)) ∧ (∀ x, x ∈ l ∧ x.from_ = (t : Int) ↔ x ∈ (r.life t).own) := by
  obtain ⟨m1, m2⟩ := h.firsts.may ht (right := 1) (by decide)
  have htn : t < r.nl := by rw [h.nl]; exact ht
  have hno := h.no t ht
  have hq := h.quota t ht
  have e1 : tableL r ((t : Int) + 1) = tabF r t := by unfold tableL; rw [if_pos m1, m2]
  have e2 : countF r ((t : Int) + 1) = ⟨(r.life t).own.length, (takenF r t).length, droppedR (r.life t) (offF r t), (r.life t).quota⟩ := by unfold countF; rw [if_pos m1, m2]
  have hoc := own_count hk htn
  rw [hno] at hoc
  have hlen : (tabF r t).length = (r.life t).own.length + ((offF r t).take (spare (r.life t))).length := by unfold tabF; rw [tableR_len]
  have hown := hk.tab.ownN t htn
  have hq64 := hk.wf.quota t htn
  have hsp : (spare (r.life t) : Int) = (r.life t).quota - (r.life t).own.length := by unfold spare; omega
  have htk : ((offF r t).take (spare (r.life t))).length = min (spare (r.life t)) (offF r t).length := List.length_take
  have hdr : droppedR (r.life t) (offF r t) = (((offF r t).length - min (offF r t).length (spare (r.life t)) : Nat) : Int) := rfl
  obtain ⟨s, m⟩ := tabF_is hk.tab hk.own htn
  have hok : ∀ y ∈ tabF r t, okRoute y := fun y hy => by
    rcases (m y).1 hy with h1 | h1
    · exact hk.tab.own t htn y h1
    · exact (((offF_is hk.tab hk.own t).2 y).1 (List.mem_of_mem_take h1)).1.ok hk.tab
  have htf : (takenF r t).length = ((offF r t).take (spare (r.life t))).length := rfl
  refine ⟨_, _, m1, e2, e1, ?_, hq, ?_, ?_, ?_, ?_, ?_, rfl, ?_, ?_⟩
  · omega
  · rw [ownTo_is, hoc]
  · rw [ownTo_is, hoc]
    show ((takenF r t).length : Int) = _
    rw [htf, hlen]; omega
  · omega
  · show 0 ≤ droppedR (r.life t) (offF r t)
    rw [hdr]; omega
  · show droppedR (r.life t) (offF r t) = 0 ∨ _
    rw [hdr]; omega
  · intro i hi
    have h1 : i < (tabF r t).length := by omega
    have hk1 := List.pairwise_iff_getElem.1 s i (i + 1) h1 hi (by omega)
    have g1 : (tabF r t).getD i rt0 = (tabF r t)[i] := by simp [List.getD_eq_getElem?_getD, h1]
    have g2 : (tabF r t).getD (i + 1) rt0 = (tabF r t)[i + 1] := by simp [List.getD_eq_getElem?_getD, hi]
    rw [g1, g2]
    have a1 := hok _ (List.getElem_mem h1)
    have a2 := hok _ (List.getElem_mem hi)
    have := a1.l0; have := a1.l1; have := a2.l0; have := a2.l1
    unfold key at hk1
    omega
  · intro x
    rw [m]
    constructor
    · rintro ⟨h1 | h1, h2⟩
      · exact h1
      · exact absurd (by rw [hno]; exact h2) (taken_from hk htn h1)
    · intro h1
      exact ⟨.inl h1, by rw [hk.own.from_ t htn x h1, hno]⟩
end

/-- Each route of a list stands behind the one ahead of it. -/
def Behind (l : List RouteD) : Prop := ∀ i, i + 1 < l.length → (l.getD i rt0).addr < (l.getD (i + 1) rt0).addr ∨ ((l.getD i rt0).addr = (l.getD (i + 1) rt0).addr ∧ (l.getD i rt0).len < (l.getD (i + 1) rt0).len)
set_option maxRecDepth 20000 in
set_option maxHeartbeats 8000000 in
theorem countedK {w0 w : World} {b : Nat} {r : RefS} (h : On w0 w (oneTag b) 1 b r) {t : Nat} (ht : t < 3) {qt so st sd : Int} {l : List RouteD} (m1 : mayI r ((t : Int) + 1) 1 = 0) (m2 : countF r ((t : Int) + 1) = ⟨so, st, sd, qt⟩) (m3 : tableL r ((t : Int) + 1) = l) (hlen : l.length ≤ 64)
    (hso : so = (ownTo l (t : Int) l.length : Int)) (hst : st = (l.length : Int) - (ownTo l (t : Int) l.length : Int)) (hle : (l.length : Int) ≤ qt) (hd0 : 0 ≤ sd) (hd1 : sd = 0 ∨ (l.length : Int) = qt) (hbe : Behind l) :
    Calls Try.prog 26 #[.pointer (some ⟨b, 0, none⟩), .int .i64 ((t : Int) + 1), .int .i64 qt] w fun en w' => en = .returned (.tuple #[.agg #[.int .i64 so, .int .i64 st, .int .i64 sd, .int .i64 qt], .bool true]) ∧ On w0 w' (oneTag b) 1 b r ∧ Kept (· = b) w w' := by
  have hb := h.lt
  have hbase := h.still.size
  have hS1 : Still w (w.alloc (.cells #[.int .i64 0, .int .i64 0, .int .i64 0, .int .i64 0] 32)) := (Kept.refl _ _).alloc _
  have HS1 := hide hS1
  have HON := hide (h.again hS1)
  have HSM := hide (SumAt.new w 0 0 0 0 32)
  have M1 := hide m1
  have M2 := hide m2
  have M3 := hide m3
  have HBE := hide hbe
  have HSO := hide hso
  have HSTK := hide hst
  have HD1 := hide hd1
  clear hS1 h m1 m2 m3 hbe hso hst hd1
  go_enter Try.func26, Try.ntmps26
  go_wp2_with fail
  generalize hs0 : w.heap.size = s0 at *
  generalize w.alloc (.cells #[.int .i64 0, .int .i64 0, .int .i64 0, .int .i64 0] 32) = W1 at *
  refine (on_count0 (unhide HON) (unhide M1) (unhide M2)).mono ?_
  rintro en w2 ⟨rfl, hn2⟩
  obtain ⟨hon2, hk2⟩ := (unhide HON).stepP hn2
  have hS2 : Still w2 (w2.alloc (.cells #[.int .i64 so, .int .i64 st, .int .i64 sd, .int .i64 qt] 32)) := (Kept.refl _ _).alloc _
  have HBX := hide (SumAt.new w2 so st sd qt 32)
  have HON2 := hide (hon2.again hS2)
  have HSM2 := hide (((unhide HSM).kept hk2 (by omega)).kept hS2 (fun q => q))
  have HK2 := hide (((Still.kept (unhide HS1) (· = b)).trans hk2).trans (Still.kept hS2 (· = b)))
  have hsz2 : s0 < w2.heap.size := ((unhide HSM).kept hk2 (by omega)).lt
  clear hn2 hon2 hk2 hS2 HON HSM HS1
  go_wp2_with fail
  generalize hs2 : w2.heap.size = s2 at *
  generalize w2.alloc (.cells #[.int .i64 so, .int .i64 st, .int .i64 sd, .int .i64 qt] 32) = W2 at *
  refine (on_table0 (unhide HON2) (unhide M1) (unhide M3)).mono ?_
  rintro en w3 ⟨ta, tc, rfl, hr3, O3, hO3, hon3', hk3', _, hnew3⟩
  obtain ⟨hon3, hk3⟩ := (unhide HON2).stepP ⟨O3, hO3, hon3', hk3', hnew3⟩
  obtain ⟨_, _, _, ht1, ht2⟩ := ownsRow_slice hr3
  have HR3 := hide hr3
  have HON3 := hide hon3
  have HBX3 := hide ((unhide HBX).kept hk3 (by omega))
  have HSM3 := hide ((unhide HSM2).kept hk3 (by omega))
  have HK3 := hide ((unhide HK2).trans hk3)
  have hwt : IntKind.i64.wrap ((t : Int) + 1 - 1) = (t : Int) := by rw [wrap_small (by omega) (by omega)]; omega
  clear hr3 hO3 hon3' hk3' hnew3 hon3 hk3 HON2 HBX HSM2 HK2
  generalize W2.heap.size = s3 at *
  go_wp2
  go_loopw [12, 13] (fun ow i w' => ∃ k : Nat, k ≤ l.length ∧ i = .int .i64 k ∧ ow = .int .i64 (ownTo l (t : Int) k : Int) ∧ Still w3 w') (fun _ i _ => l.length - (intOf i).toNat)
  case atStart => exact ⟨0, by omega, rfl, rfl, Kept.refl _ _⟩
  case round =>
    obtain ⟨k, hk, rfl, rfl, hw⟩ := hrel
    have hr := kept_row (unhide HR3) hw (fun _ _ q => q)
    have HW := hide hw
    have HR := hide hr
    clear hr
    by_cases hlt : k < l.length
    · obtain ⟨g, rfl, hg⟩ := ownsRow_some (unhide HR) (by omega)
      obtain ⟨x0, x1, x2, x3⟩ := rowCell (unhide HR) rfl hlt
      have hol := ownTo_le l (t : Int) k
      have hnx : ownTo l (t : Int) (k + 1) = ownTo l (t : Int) k + (if (l.getD k rt0).from_ = (t : Int) then 1 else 0) := rfl
      have hk0 : (0 : Int) ≤ (k : Int) := by omega
      have hkl : (k : Int) < (l.length : Int) := by omega
      clear hw
      rcases Nat.eq_zero_or_pos k with hk00 | hkp
      · have hkz : decide (0 < k) = false := decide_eq_false (by omega)
        generalize l.getD k rt0 = x at *
        generalize ownTo l (t : Int) k = ow at *
        clear hk00
        by_cases hf : x.from_ = (t : Int)
        · rw [if_pos hf] at hnx
          rw [hf] at x3
          have NX := hide hnx
          clear hnx
          go_wp2_with fail
          go_quiet (fail)
          go_wp2
          go_roundw
          case rel => exact ⟨k + 1, by omega, by go_num, by rw [unhide NX]; go_num, (unhide HW).drewN _⟩
          case measure => simp [intOf]; omega
        · rw [if_neg hf] at hnx
          have hff : (x.from_ == (t : Int)) = false := by simpa using hf
          have NX := hide hnx
          clear hnx
          go_wp2_with fail
          go_quiet (fail)
          go_wp2
          go_roundw
          case rel => exact ⟨k + 1, by omega, by go_num, by rw [unhide NX]; rfl, (unhide HW).drewN _⟩
          case measure => simp [intOf]; omega
      · obtain ⟨j, hj⟩ : ∃ j, k = j + 1 := ⟨k - 1, by omega⟩
        obtain ⟨y0, y1, _, _⟩ := rowCell (unhide HR) rfl (show j < l.length by omega)
        have hbj := unhide HBE j (by omega)
        rw [← hj] at hbj
        have hwj : IntKind.i64.wrap ((k : Int) - 1) = (j : Int) := by rw [wrap_small (by omega) (by omega)]; omega
        have hj0 : (0 : Int) ≤ (j : Int) := by omega
        have hjl : (j : Int) < (l.length : Int) := by omega
        have hjp : decide (0 < k) = true := decide_eq_true (by omega)
        generalize l.getD k rt0 = x at *
        generalize l.getD j rt0 = y at *
        generalize ownTo l (t : Int) k = ow at *
        clear hj
        rcases hbj with hbj | ⟨hbj, hbl⟩
        · have c1 : decide (x.addr < y.addr) = false := decide_eq_false (by omega)
          have c2 : (x.addr == y.addr) = false := by rw [beq_eq_false_iff_ne]; omega
          by_cases hf : x.from_ = (t : Int)
          · rw [if_pos hf] at hnx
            rw [hf] at x3
            have NX := hide hnx
            clear hnx
            go_wp2_with fail
            go_quiet (fail)
            go_wp2
            go_roundw
            case rel => exact ⟨k + 1, by omega, by go_num, by rw [unhide NX]; go_num, (unhide HW).drewN _⟩
            case measure => simp [intOf]; omega
          · rw [if_neg hf] at hnx
            have hff : (x.from_ == (t : Int)) = false := by simpa using hf
            have NX := hide hnx
            clear hnx
            go_wp2_with fail
            go_quiet (fail)
            go_wp2
            go_roundw
            case rel => exact ⟨k + 1, by omega, by go_num, by rw [unhide NX]; rfl, (unhide HW).drewN _⟩
            case measure => simp [intOf]; omega
        · have c1 : decide (x.addr < y.addr) = false := decide_eq_false (by omega)
          have c2 : (x.addr == y.addr) = true := by rw [beq_iff_eq]; omega
          have c3 : decide (x.len ≤ y.len) = false := decide_eq_false (by omega)
          clear hbj
          by_cases hf : x.from_ = (t : Int)
          · rw [if_pos hf] at hnx
            rw [hf] at x3
            have NX := hide hnx
            clear hnx
            go_wp2_with fail
            go_quiet (fail)
            go_wp2
            go_roundw
            case rel => exact ⟨k + 1, by omega, by go_num, by rw [unhide NX]; go_num, (unhide HW).drewN _⟩
            case measure => simp [intOf]; omega
          · rw [if_neg hf] at hnx
            have hff : (x.from_ == (t : Int)) = false := by simpa using hf
            have NX := hide hnx
            clear hnx
            go_wp2_with fail
            go_quiet (fail)
            go_wp2
            go_roundw
            case rel => exact ⟨k + 1, by omega, by go_num, by rw [unhide NX]; rfl, (unhide HW).drewN _⟩
            case measure => simp [intOf]; omega
    · obtain rfl : k = l.length := by omega
      have hol := ownTo_le l (t : Int) l.length
      have hso := unhide HSO
      have hst := unhide HSTK
      generalize ownTo l (t : Int) l.length = ow at *
      have bx := (unhide HBX3).kept hw (fun q => q)
      have sm := (unhide HSM3).kept hw (fun q => q)
      rw [hso] at bx
      have b0 := bx.c0
      have b1 := bx.c1
      have b2 := bx.c2
      have b3 := bx.c3
      have bl := bx.lt
      have s0' := sm.c0
      have s1' := sm.c1
      have s2' := sm.c2
      have s3' := sm.c3
      have f0 := sm.fz 0
      have f1 := sm.fz 1
      have f2 := sm.fz 2
      have f3 := sm.fz 3
      have sl := sm.lt
      have hne : s0 ≠ s2 := by omega
      have hws : IntKind.i64.wrap ((l.length : Int) - (ow : Int)) = st := by rw [hst]; exact wrap_small (by omega) (by omega)
      have hd2 : decide ((l.length : Int) ≤ qt) = true := decide_eq_true hle
      have hd3 : decide (0 ≤ sd) = true := decide_eq_true hd0
      have HSM9 := hide sm
      have HSO2 := hide hso
      clear bx sm hso hst HW HR
      have HKW := hide ((unhide HK3).trans (Still.kept hw (· = b)))
      have HONW := hide ((unhide HON3).again hw)
      clear hw
      by_cases hsd : sd = 0
      · subst hsd
        go_wp2
        have hfin := (unhide HSM9).put (ow : Int) st 0 qt
        refine bodyPost_ret (results_range2 rfl _ _ _ _ _ _ rfl hfin.range Try.underlying32 rfl infoSums) rfl ?_
        have hkp : Kept (· = s0) wr ((((wr.setCell ⟨s0, 0, none⟩ (.int .i64 (ow : Int))).setCell ⟨s0, 1, none⟩ (.int .i64 st)).setCell ⟨s0, 2, none⟩ (.int .i64 0)).setCell ⟨s0, 3, none⟩ (.int .i64 qt)) := Kept.setAt (Kept.setAt (Kept.setAt (Kept.setAt (Kept.refl _ _) _ _) _ _) _ _) _ _
        refine ⟨by rw [unhide HSO2]; rfl, (unhide HONW).past hkp (by omega) (by omega), Kept.trans' (unhide HKW) hkp (fun i hi q => by omega)⟩
      · have hsd' : (sd == 0) = false := by simpa using hsd
        have hlq : (l.length : Int) = qt := by rcases unhide HD1 with e | e; exact absurd e hsd; exact e
        subst hlq
        go_wp2
        have hfin := (unhide HSM9).put (ow : Int) st sd (l.length : Int)
        refine bodyPost_ret (results_range2 rfl _ _ _ _ _ _ rfl hfin.range Try.underlying32 rfl infoSums) rfl ?_
        have hkp : Kept (· = s0) wr ((((wr.setCell ⟨s0, 0, none⟩ (.int .i64 (ow : Int))).setCell ⟨s0, 1, none⟩ (.int .i64 st)).setCell ⟨s0, 2, none⟩ (.int .i64 sd)).setCell ⟨s0, 3, none⟩ (.int .i64 (l.length : Int))) := Kept.setAt (Kept.setAt (Kept.setAt (Kept.setAt (Kept.refl _ _) _ _) _ _) _ _) _ _
        refine ⟨by rw [unhide HSO2]; rfl, (unhide HONW).past hkp (by omega) (by omega), Kept.trans' (unhide HKW) hkp (fun i hi q => by omega)⟩

def oldB (t a n : Int) (x : RouteD) : Bool := x.from_ == t && x.addr == a && x.len == n
def oldTo (l : List RouteD) (t a n : Int) : Nat → Bool
  | 0 => false
  | k + 1 => oldTo l t a n k || oldB t a n (l.getD k rt0)
theorem oldTo_is (l : List RouteD) (t a n : Int) : oldTo l t a n l.length = l.any (oldB t a n) := by
  have key : ∀ k, k ≤ l.length → oldTo l t a n k = (l.take k).any (oldB t a n) := by
    intro k
    induction k with
    | zero => intro _; rfl
    | succ k ih =>
      intro hk
      have e : l.take (k + 1) = l.take k ++ [l.getD k rt0] := by
        rw [List.take_succ_eq_append_getElem (by omega)]
        simp [List.getD_eq_getElem?_getD, show k < l.length by omega]
      show (oldTo l t a n k || oldB t a n (l.getD k rt0)) = _
      rw [ih (by omega), e, List.any_append]
      simp
  rw [key _ (Nat.le_refl _), List.take_length]
/-- An own route is refused just at the quota. -/
theorem held_step {q : Nat → Int} {r : RefS} (hk : RefOk r) (h3 : Three q r) {t : Nat} (ht : t < 3) {l : List RouteD} {so : Int} (hso : so = ((r.life t).own.length : Int)) (hl : ∀ x, x ∈ l ∧ x.from_ = (t : Int) ↔ x ∈ (r.life t).own) (o : OpD) (hkd : pickF o.kind 8 = 0) {ob : Bool} (hob : l.any (oldB (t : Int) (pfxA o.a o.b) (pfxL o.b)) = ob) (mk : Int) :
    ((playT r ((t : Int) + 1) o mk).e = if ob = false ∧ so = q t then 8 else 0) := by
  obtain ⟨m1, m2⟩ := h3.firsts.may ht (right := 2) (by decide)
  have hc := pickF_range o.c (n := 256) (by omega)
  have hq := h3.quota t ht
  have hown := hk.tab.ownN t (by rw [h3.nl]; exact ht)
  have e1 : playT r ((t : Int) + 1) o mk = toldE (insertR r ((t : Int) + 1) (pfxA o.a o.b) (pfxL o.b) (pickF o.c 256)) := by unfold playT; rw [if_pos hkd]
  rw [e1]
  show insertR r ((t : Int) + 1) (pfxA o.a o.b) (pfxL o.b) (pickF o.c 256) = _
  unfold insertR
  rw [if_pos m1, pfx_is, (okMask_iff _).2 ⟨hc.1, by omega⟩, m2]
  show insIn (r.life t) (newRoute r ((t : Int) + 1) (pfxA o.a o.b) (pfxL o.b) (pickF o.c 256)) = _
  unfold insIn newRoute
  rw [m2]
  have hfi : 0 ≤ findI (r.life t).own ⟨pfxA o.a o.b, pfxL o.b, pickF o.c 256, (r.life t).no⟩ ↔ ob = true := by
    rw [← hob, List.any_eq_true]
    rcases findI_cases (r.life t).own ⟨pfxA o.a o.b, pfxL o.b, pickF o.c 256, (r.life t).no⟩ with ⟨i, hi, hfi, hs⟩ | ⟨hfi, hall⟩
    · have hmem : (r.life t).own.getD i rt0 ∈ (r.life t).own := by rw [List.getD_eq_getElem?_getD, List.getElem?_eq_getElem hi]; exact List.getElem_mem hi
      generalize (r.life t).own.getD i rt0 = y at *
      obtain ⟨h1, h2⟩ := (hl y).2 hmem
      refine ⟨fun _ => ⟨y, h1, ?_⟩, fun _ => by omega⟩
      unfold sameB at hs
      unfold oldB
      rw [Bool.and_eq_true] at hs
      rw [h2, hs.1, hs.2]
      simp
    · refine ⟨fun hh => by omega, fun ⟨y, hy, hb⟩ => ?_⟩
      unfold oldB at hb
      simp only [Bool.and_eq_true, beq_iff_eq] at hb
      have := hall y ((hl y).1 ⟨hy, hb.1.1⟩)
      unfold sameB at this
      simp [hb.1.2, hb.2] at this
  cases ob with
  | true => rw [if_pos (hfi.2 rfl)]; simp
  | false =>
    rw [if_neg (fun q => by have := hfi.1 q; cases this), hq]
    by_cases e : so = q t
    · rw [if_pos (by omega), if_pos ⟨rfl, e⟩]
    · rw [if_neg (by omega), if_neg (fun q => e q.2)]
/-- The steps that came in. -/
structure OpsIn (w : World) (a : Option Addr) (n : Nat) (X : Nat → OpD) : Prop where
  most : n ≤ 17592186044416
  at_ : 0 < n → ∃ bs off, a = some ⟨bs, off, none⟩ ∧ bs < w.heap.size ∧ ∀ i, i < n → OpOk (X i) ∧ w.cell? ⟨bs, off + i * 6, none⟩ = some (.int .i64 (X i).kind) ∧ w.cell? ⟨bs, off + i * 6 + 1, none⟩ = some (.int .i64 (X i).who) ∧ w.cell? ⟨bs, off + i * 6 + 2, none⟩ = some (.int .i64 (X i).a) ∧ w.cell? ⟨bs, off + i * 6 + 3, none⟩ = some (.int .i64 (X i).b) ∧ w.cell? ⟨bs, off + i * 6 + 4, none⟩ = some (.int .i64 (X i).c) ∧ w.cell? ⟨bs, off + i * 6 + 5, none⟩ = some (.int .i64 (X i).d)
theorem Three.start (a b c : Int) : Three (quota3 a b c) (sR (quota3 a b c) (fun _ => 0) (fun _ => 0) []) := ⟨rfl, sR_firsts _ _ _ _, fun _ _ => rfl, fun _ _ => rfl⟩
/-- The last two calls. -/
theorem held_last {q : Nat → Int} {r : RefS} (h3 : Three q r) : (removeR r 3 0 0 = 0 ∨ removeR r 3 0 0 = 9) ∧ (insertR (removedR r 3 0 0) 3 0 0 1 = 0 ∨ insertR (removedR r 3 0 0) 3 0 0 1 = 8) := by
  have e : ((2 : Nat) : Int) + 1 = 3 := rfl
  have hp : isPfx 0 0 = true := by decide
  have key : ∀ r : RefS, Three q r → insertR r 3 0 0 1 = 0 ∨ insertR r 3 0 0 1 = 8 := fun r h => by
    obtain ⟨m1, m2⟩ := h.firsts.may (i := 2) (by omega) (right := 2) (by decide)
    rw [e] at m1 m2
    unfold insertR
    rw [if_pos m1, hp, m2]
    show insIn _ _ = 0 ∨ insIn _ _ = 8
    unfold insIn
    split
    · exact .inl rfl
    · split
      · exact .inr rfl
      · exact .inl rfl
  refine ⟨?_, key _ ?_⟩
  · obtain ⟨m1, m2⟩ := h3.firsts.may (i := 2) (by omega) (right := 2) (by decide)
    rw [e] at m1 m2
    unfold removeR
    rw [if_pos m1, hp, m2]
    show remIn _ _ = 0 ∨ remIn _ _ = 9
    unfold remIn
    split
    · exact .inl rfl
    · exact .inr rfl
  · unfold removedR
    split
    · exact h3.turn ⟨_, rfl, rfl, rfl, rfl⟩
    · exact h3
end Go.Proofs.Ythmmaccdccjgnaa
