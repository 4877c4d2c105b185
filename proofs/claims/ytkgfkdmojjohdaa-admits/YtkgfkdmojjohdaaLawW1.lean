/-
  Walks: districtlaw: pick, tenants (Create, Drop, Derive, Revoke).
-/
import Derived.Test.YtkgfkdmojjohdaaSimOps2
namespace Go.Proofs.Ytkgfkdmojjohdaa
open Go.RowKit

set_option maxHeartbeats 400000 in
theorem pick_any (c n : Int) (w : World) (hn : 1 ≤ n) (h1 : -9223372036854775808 ≤ c) (h2 : c ≤ 9223372036854775807) :
    Calls Try.prog 9 #[.int .i64 c, .int .i64 n] w fun e w' => ∃ q : Int, 0 ≤ q ∧ q < n ∧ e = .returned (.int .i64 q) ∧ w' = w := by
  by_cases hc : c < 0
  · go_enter Try.func9, Try.ntmps9
    go_wp2
    go_ret
    have e1 : -((c + 1).tmod n) = (-(c + 1)) % n := by rw [← Int.neg_tmod, Int.tmod_eq_emod_of_nonneg (by omega)]
    have e2 := Int.emod_nonneg (-(c + 1)) (b := n) (by omega)
    have e3 := Int.emod_lt_of_pos (-(c + 1)) (b := n) (by omega)
    exact ⟨-((c + 1).tmod n), by omega, by omega, rfl, rfl⟩
  · go_enter Try.func9, Try.ntmps9
    go_wp2
    go_ret
    exact ⟨_, Int.emod_nonneg _ (by omega), Int.emod_lt_of_pos _ (by omega), rfl, rfl⟩

/-- An engine of the program's and one of the document's, number e, side by side. -/
structure Pair (w : World) (O : Nat → Nat × Nat × Nat) (e bx by_ : Nat) (p : ProgS) (r : RefS) : Prop where
  x : XAt w bx p
  xt : O bx = (e, 10, 0)
  y : RefRep w O e by_ r
  s : Sim p r
def mineE (O : Nat → Nat × Nat × Nat) (e : Nat) : Nat → Prop := fun k => (O k).1 = e
/-- What a call leaves of the pair. -/
def After (w : World) (O : Nat → Nat × Nat × Nat) (e bx by_ : Nat) (w' : World) : Prop :=
  ∃ O' : Nat → Nat × Nat × Nat, (∀ k, k < w.heap.size → O' k = O k) ∧ (∃ p' r', Pair w' O' e bx by_ p' r') ∧ Kept (mineE O e) w w'
section
variable {w w1 w2 w3 : World} {O O' : Nat → Nat × Nat × Nat} {e bx by_ : Nat} {p p' : ProgS} {r r' : RefS}
theorem Pair.frame (h : Pair w O e bx by_ p r) (hk : ∀ k, k < w.heap.size → (O k).1 = e → w1.heap[k]? = w.heap[k]?) (hO : ∀ k, k < w.heap.size → O' k = O k) : Pair w1 O' e bx by_ p r :=
  ⟨h.x.frame (hk bx h.x.lt (by rw [h.xt])), by rw [hO bx h.x.lt]; exact h.xt, h.y.frame (fun k a c _ => hk k a c) hO, h.s⟩
theorem Pair.still (h : Pair w O e bx by_ p r) (hs : Still w w1) : Pair w1 O e bx by_ p r := h.frame (fun _ hk _ => hs.heap hk) (fun _ _ => rfl)
/-- Behind the program's call the document's engine stands as it did. -/
theorem Pair.ref (h : Pair w O e bx by_ p r) (hk : Kept (· = bx) w w1) : RefRep w1 O e by_ r :=
  h.y.frame (fun k a _ d => hk.block k a (by rintro rfl; rw [h.xt] at d; simp at d)) (fun _ _ => rfl)
/-- Behind the document's call the program's engine stands as it did. -/
theorem XAt.behind (h : XAt w1 bx p) (hxt : O bx = (e, 10, 0)) (hk : Kept (mineR O e) w1 w2) : XAt w2 bx p :=
  h.frame (hk.block bx h.lt (by unfold mineR; rw [hxt]; simp))
/-- The two calls of one step, behind one another. -/
theorem after_two (hw : Still w w1) (hx1 : Kept (· = bx) w1 w2) (hy : Kept (mineR O e) w2 w3) (hxt : O bx = (e, 10, 0)) (hO : ∀ k, k < w2.heap.size → O' k = O k) (hX : XAt w2 bx p') (hR : RefRep w3 O' e by_ r') (hs : Sim p' r') : After w O e bx by_ w3 := by
  have z1 := hw.size
  have z2 := hx1.size
  refine ⟨O', fun k hk => hO k (by omega), ⟨p', r', hX.behind hxt hy, by rw [hO bx hX.lt]; exact hxt, hR, hs⟩, ?_⟩
  refine Kept.trans' (Kept.trans' (Still.kept hw _) hx1 ?_) hy ?_
  · rintro i _ rfl; unfold mineE; rw [hxt]
  · intro i _ hq; exact hq.1
end

theorem sim_derived {p : ProgS} {r : RefS} (h : Sim p r) {t rights : Int} (h0 : deriveR r t rights = 0) : Sim (addS p (p.tenant (t - 1).toNat) rights t.toNat) (deriveS r (t - 1).toNat rights) := by
  unfold deriveR at h0
  cases ha : aliveI r t with
  | false => rw [ha] at h0; simp at h0
  | true =>
    rw [ha, if_pos rfl] at h0
    have hr : ¬ (rights < 0 ∨ 15 < rights) := fun hr => by rw [if_pos hr] at h0; omega
    rw [if_neg hr] at h0
    cases hl : lacks (r.tok (t - 1).toNat).rights rights with
    | true => rw [hl, if_pos rfl] at h0; omega
    | false =>
      rw [hl, if_neg (by simp)] at h0
      have h100 : ¬ 100 ≤ r.nt := fun hc => by rw [if_pos hc] at h0; omega
      obtain ⟨h1, h2, h3⟩ := aliveI_bounds ha
      have := h.deriveS (k := (t - 1).toNat) (by omega) (rights := rights) (by omega) (by omega) (by omega) h3
      rwa [show (t - 1).toNat + 1 = t.toNat from by omega] at this
theorem revokeR_zero {r : RefS} {t which : Int} (h : revokeR r t which = 0) : 1 ≤ which ∧ which ≤ r.nt := by
  unfold revokeR at h
  split at h
  · split at h
    · assumption
    · omega
  · omega
theorem sim_revoked {p : ProgS} {r : RefS} (h : Sim p r) (t which : Int) : Sim (revokedX p t which) (revokedR r t which) := by
  unfold revokedX revokedR
  rw [h.revoke t which]
  by_cases h0 : revokeR r t which = 0
  · rw [if_pos h0, if_pos h0]
    have := revokeR_zero h0
    exact h.revokeS (by omega)
  · rw [if_neg h0, if_neg h0]
    exact h

/-- A step's struct. -/
def stepV (kind ei a b c d : Int) (f : Bool) (rs bs : Value) : Value := .agg #[.int .i64 kind, .int .i64 ei, .int .i64 a, .int .i64 b, .int .i64 c, .int .i64 d, .bool f, rs, bs]
def engV (bx by_ : Nat) : Value := .agg #[.pointer (some ⟨bx, 0, none⟩), .pointer (some ⟨by_, 0, none⟩)]
theorem box_cells {w w1 : World} {bx : Nat} (hx : bx < w.heap.size) (o1 o2 : Obj) (h : Kept (· = bx) ((w.alloc o1).alloc o2) w1) :
    (∀ j, w1.cell? ⟨w.heap.size, j, none⟩ = (w.alloc o1).cell? ⟨w.heap.size, j, none⟩) ∧ (∀ j, w1.cell? ⟨w.heap.size + 1, j, none⟩ = ((w.alloc o1).alloc o2).cell? ⟨w.heap.size + 1, j, none⟩) := by
  refine ⟨fun j => ?_, fun j => ?_⟩
  · rw [Kept.cell (p := ⟨w.heap.size, j, none⟩) h (by simp; omega) (by simp; omega), World.cell?_alloc_lt _ _ _ (by simp)]
  · exact Kept.cell (p := ⟨w.heap.size + 1, j, none⟩) h (by simp) (by simp; omega)
set_option maxHeartbeats 2000000 in
theorem tenants_create {w : World} {O : Nat → Nat × Nat × Nat} {e bx by_ : Nat} {p : ProgS} {r : RefS} (h : Pair w O e bx by_ p r) (ei a b c d : Int) (f : Bool) (ra : Option Addr) (rn rc : Nat) (sa : Option Addr) (sn sc : Nat) :
    Calls Try.prog 10 #[engV bx by_, stepV 2 ei a b c d f (.slice ra rn rc) (.slice sa sn sc)] w fun en w' => en = .returned (.bool true) ∧ After w O e bx by_ w' := by
  unfold engV stepV
  have bxl := h.x.lt
  have HP := hide h
  clear h
  go_enter Try.func10, Try.ntmps10
  go_wp2_with fail
  have hst : Still w ((w.alloc (.cells #[.pointer (some ⟨bx, 0, none⟩), .pointer (some ⟨by_, 0, none⟩)] 46)).alloc (.cells #[.int .i64 2, .int .i64 ei, .int .i64 a, .int .i64 b, .int .i64 c, .int .i64 d, .bool f, .slice ra rn rc, .slice sa sn sc] 35)) := ((Kept.refl _ _).alloc _).alloc _
  have hp1 := (unhide HP).still hst
  refine (engCreate_any hp1.x hp1.s.wp _).mono ?_
  rintro en w2 ⟨n, hn, hcr⟩
  have hce := hp1.s.create hn a
  rcases hcr with ⟨hne, rfl, hx2, hk2⟩ | ⟨h0, rfl, hx2, hk2⟩
  · obtain ⟨b1, b2⟩ := box_cells bxl _ _ hk2
    have y1 : w2.cell? ⟨w.heap.size, 1, none⟩ = some (.pointer (some ⟨by_, 0, none⟩)) := by rw [b1, World.cell?_alloc_new]; rfl
    have y2 : w2.cell? ⟨w.heap.size + 1, 2, none⟩ = some (.int .i64 a) := by rw [b2, ← World.size_alloc w, World.cell?_alloc_new]; rfl
    rw [hce] at hne ⊢
    have hr2 := hp1.ref hk2
    have H1 := hide hp1
    have H2 := hide hk2
    have H3 := hide hne
    have H4 := hide hst
    have H5 := hide hx2
    clear b1 b2 hp1 hk2 hne hce hst hx2
    go_wp2_with fail
    refine (refCreate_bad hr2 (unhide H1).s.wr _ (unhide H3)).mono ?_
    rintro en w3 ⟨rfl, hr3, hk3⟩
    have HF := hide (after_two (unhide H4) (unhide H2) hk3 (unhide HP).xt (fun _ _ => rfl) (unhide H5) hr3 (unhide H1).s)
    clear hr2 hr3 hk3
    go_wp2
    go_ret
    exact ⟨rfl, unhide HF⟩
  · obtain ⟨b1, b2⟩ := box_cells bxl _ _ hk2
    have y1 : w2.cell? ⟨w.heap.size, 1, none⟩ = some (.pointer (some ⟨by_, 0, none⟩)) := by rw [b1, World.cell?_alloc_new]; rfl
    have y2 : w2.cell? ⟨w.heap.size + 1, 2, none⟩ = some (.int .i64 a) := by rw [b2, ← World.size_alloc w, World.cell?_alloc_new]; rfl
    rw [hce] at h0
    have hr2 := hp1.ref hk2
    have hgv : (p.given : Int) = (r.nt : Int) := by rw [hp1.s.given]
    rw [hgv]
    have H1 := hide hp1
    have H2 := hide hk2
    have H3 := hide h0
    have H4 := hide hst
    have H5 := hide hx2
    have H6 := hide hn
    clear b1 b2 hp1 hk2 h0 hce hst hx2 hn hgv
    go_wp2_with fail
    refine (refCreate_good hr2 (unhide H1).s.wr _ (unhide H3)).mono ?_
    rintro en w3 ⟨no, hno8, hfree, hall, rfl, O', hO, hr3, hk3⟩
    have hsame := (unhide H1).s.sameNo (unhide H6) hfree hall hno8
    subst hsame
    have HF := hide (after_two (unhide H4) (unhide H2) hk3 (unhide HP).xt hO (unhide H5) hr3 ((unhide H1).s.createS (unhide H6) hfree (unhide H3)))
    clear hr2 hr3 hk3 hfree hall hO
    go_wp2
    go_ret
    exact ⟨rfl, unhide HF⟩
set_option maxHeartbeats 2000000 in
theorem tenants_drop {w : World} {O : Nat → Nat × Nat × Nat} {e bx by_ : Nat} {p : ProgS} {r : RefS} (h : Pair w O e bx by_ p r) (ei a b c d : Int) (f : Bool) (ra : Option Addr) (rn rc : Nat) (sa : Option Addr) (sn sc : Nat) :
    Calls Try.prog 10 #[engV bx by_, stepV 3 ei a b c d f (.slice ra rn rc) (.slice sa sn sc)] w fun en w' => en = .returned (.bool true) ∧ After w O e bx by_ w' := by
  unfold engV stepV
  have bxl := h.x.lt
  have HP := hide h
  clear h
  go_enter Try.func10, Try.ntmps10
  go_wp2_with fail
  have hst : Still w ((w.alloc (.cells #[.pointer (some ⟨bx, 0, none⟩), .pointer (some ⟨by_, 0, none⟩)] 46)).alloc (.cells #[.int .i64 3, .int .i64 ei, .int .i64 a, .int .i64 b, .int .i64 c, .int .i64 d, .bool f, .slice ra rn rc, .slice sa sn sc] 35)) := ((Kept.refl _ _).alloc _).alloc _
  have hp1 := (unhide HP).still hst
  refine (engDrop_any hp1.x hp1.s.wp _).mono ?_
  rintro en w2 hcr
  have hti := hp1.s.tenantIs a
  rcases hcr with ⟨hT, rfl, hx2, hk2⟩ | ⟨hT, rfl, hx2, hk2⟩
  all_goals
    obtain ⟨b1, b2⟩ := box_cells bxl _ _ hk2
    have y1 : w2.cell? ⟨w.heap.size, 1, none⟩ = some (.pointer (some ⟨by_, 0, none⟩)) := by rw [b1, World.cell?_alloc_new]; rfl
    have y2 : w2.cell? ⟨w.heap.size + 1, 2, none⟩ = some (.int .i64 a) := by rw [b2, ← World.size_alloc w, World.cell?_alloc_new]; rfl
    have hr2 := hp1.ref hk2
    have H1 := hide hp1
    have H2 := hide hk2
    have H3 := hide hT
    have H4 := hide hst
    have H5 := hide hx2
    have H6 := hide hti
    clear b1 b2 hp1 hk2 hT hst hx2 hti
    go_wp2_with fail
    refine (refDrop_any hr2 (unhide H1).s.wr _).mono ?_
    rintro en w3 hcr
  · rcases hcr with ⟨i, hi, hg, rfl, rfl, hr3, hk3⟩ | ⟨hall, rfl, hr3, hk3⟩
    · have HF := hide (after_two (unhide H4) (unhide H2) hk3 (unhide HP).xt (fun _ _ => rfl) (unhide H5) hr3 ((unhide H1).s.dropS hi hg))
      clear hr2 hr3 hk3 hi hg
      go_wp2
      go_ret
      exact ⟨rfl, unhide HF⟩
    · exfalso
      obtain ⟨i, hi, hg, hno⟩ := (unhide H6).1 (unhide H3)
      rcases hall i hi with hh | hh
      · rw [hg] at hh; cases hh
      · exact hh hno
  · rcases hcr with ⟨i, hi, hg, hno, rfl, hr3, hk3⟩ | ⟨hall, rfl, hr3, hk3⟩
    · exfalso
      have := (unhide H6).2 ⟨i, hi, hg, hno⟩
      rw [unhide H3] at this
      cases this
    · have HF := hide (after_two (unhide H4) (unhide H2) hk3 (unhide HP).xt (fun _ _ => rfl) (unhide H5) hr3 (unhide H1).s)
      clear hr2 hr3 hk3 hall
      go_wp2
      go_ret
      exact ⟨rfl, unhide HF⟩
set_option maxHeartbeats 2000000 in
theorem tenants_derive {w : World} {O : Nat → Nat × Nat × Nat} {e bx by_ : Nat} {p : ProgS} {r : RefS} (h : Pair w O e bx by_ p r) (ei a b c d : Int) (f : Bool) (ra : Option Addr) (rn rc : Nat) (sa : Option Addr) (sn sc : Nat) :
    Calls Try.prog 10 #[engV bx by_, stepV 4 ei a b c d f (.slice ra rn rc) (.slice sa sn sc)] w fun en w' => en = .returned (.bool true) ∧ After w O e bx by_ w' := by
  unfold engV stepV
  have bxl := h.x.lt
  have HP := hide h
  clear h
  go_enter Try.func10, Try.ntmps10
  go_wp2_with fail
  have hst : Still w ((w.alloc (.cells #[.pointer (some ⟨bx, 0, none⟩), .pointer (some ⟨by_, 0, none⟩)] 46)).alloc (.cells #[.int .i64 4, .int .i64 ei, .int .i64 a, .int .i64 b, .int .i64 c, .int .i64 d, .bool f, .slice ra rn rc, .slice sa sn sc] 35)) := ((Kept.refl _ _).alloc _).alloc _
  have hp1 := (unhide HP).still hst
  refine (engDerive_any hp1.x hp1.s.wp _ _).mono ?_
  rintro en w2 hcr
  have hde := hp1.s.derive a b
  rcases hcr with ⟨hne, rfl, hx2, hk2⟩ | ⟨h0, rfl, hx2, hk2⟩
  · obtain ⟨b1, b2⟩ := box_cells bxl _ _ hk2
    have y1 : w2.cell? ⟨w.heap.size, 1, none⟩ = some (.pointer (some ⟨by_, 0, none⟩)) := by rw [b1, World.cell?_alloc_new]; rfl
    have y2 : w2.cell? ⟨w.heap.size + 1, 2, none⟩ = some (.int .i64 a) := by rw [b2, ← World.size_alloc w, World.cell?_alloc_new]; rfl
    have y3 : w2.cell? ⟨w.heap.size + 1, 3, none⟩ = some (.int .i64 b) := by rw [b2, ← World.size_alloc w, World.cell?_alloc_new]; rfl
    rw [hde] at hne ⊢
    have hr2 := hp1.ref hk2
    have H1 := hide hp1
    have H2 := hide hk2
    have H3 := hide hne
    have H4 := hide hst
    have H5 := hide hx2
    clear b1 b2 hp1 hk2 hne hde hst hx2
    go_wp2_with fail
    refine (refDerive_any hr2 (unhide H1).s.wr _ _).mono ?_
    rintro en w3 hcr
    rcases hcr with ⟨_, rfl, hr3, hk3⟩ | ⟨h0, _⟩
    · have HF := hide (after_two (unhide H4) (unhide H2) hk3 (unhide HP).xt (fun _ _ => rfl) (unhide H5) hr3 (unhide H1).s)
      clear hr2 hr3 hk3
      go_wp2
      go_ret
      exact ⟨rfl, unhide HF⟩
    · exact absurd h0 (unhide H3)
  · obtain ⟨b1, b2⟩ := box_cells bxl _ _ hk2
    have y1 : w2.cell? ⟨w.heap.size, 1, none⟩ = some (.pointer (some ⟨by_, 0, none⟩)) := by rw [b1, World.cell?_alloc_new]; rfl
    have y2 : w2.cell? ⟨w.heap.size + 1, 2, none⟩ = some (.int .i64 a) := by rw [b2, ← World.size_alloc w, World.cell?_alloc_new]; rfl
    have y3 : w2.cell? ⟨w.heap.size + 1, 3, none⟩ = some (.int .i64 b) := by rw [b2, ← World.size_alloc w, World.cell?_alloc_new]; rfl
    rw [hde] at h0
    have hr2 := hp1.ref hk2
    have hgv : (p.given : Int) = (r.nt : Int) := by rw [hp1.s.given]
    rw [hgv]
    have H1 := hide hp1
    have H2 := hide hk2
    have H3 := hide h0
    have H4 := hide hst
    have H5 := hide hx2
    clear b1 b2 hp1 hk2 h0 hde hst hx2 hgv
    go_wp2_with fail
    refine (refDerive_any hr2 (unhide H1).s.wr _ _).mono ?_
    rintro en w3 hcr
    rcases hcr with ⟨hne, _⟩ | ⟨_, rfl, O', hO, hr3, hk3⟩
    · exact absurd (unhide H3) hne
    · have hsim := sim_derived (unhide H1).s (unhide H3)
      have HF := hide (after_two (unhide H4) (unhide H2) hk3 (unhide HP).xt hO (unhide H5) hr3 hsim)
      clear hr2 hr3 hk3 hO hsim
      go_wp2
      go_ret
      exact ⟨rfl, unhide HF⟩
set_option maxHeartbeats 2000000 in
theorem tenants_revoke {w : World} {O : Nat → Nat × Nat × Nat} {e bx by_ : Nat} {p : ProgS} {r : RefS} (h : Pair w O e bx by_ p r) (ei a b c d : Int) (f : Bool) (ra : Option Addr) (rn rc : Nat) (sa : Option Addr) (sn sc : Nat) :
    Calls Try.prog 10 #[engV bx by_, stepV 5 ei a b c d f (.slice ra rn rc) (.slice sa sn sc)] w fun en w' => en = .returned (.bool true) ∧ After w O e bx by_ w' := by
  unfold engV stepV
  have bxl := h.x.lt
  have HP := hide h
  clear h
  go_enter Try.func10, Try.ntmps10
  go_wp2_with fail
  have hst : Still w ((w.alloc (.cells #[.pointer (some ⟨bx, 0, none⟩), .pointer (some ⟨by_, 0, none⟩)] 46)).alloc (.cells #[.int .i64 5, .int .i64 ei, .int .i64 a, .int .i64 b, .int .i64 c, .int .i64 d, .bool f, .slice ra rn rc, .slice sa sn sc] 35)) := ((Kept.refl _ _).alloc _).alloc _
  have hp1 := (unhide HP).still hst
  refine (engRevoke_any hp1.x hp1.s.wp _ _).mono ?_
  rintro en w2 ⟨rfl, hx2, hk2⟩
  have hre := hp1.s.revoke a b
  obtain ⟨b1, b2⟩ := box_cells bxl _ _ hk2
  have y1 : w2.cell? ⟨w.heap.size, 1, none⟩ = some (.pointer (some ⟨by_, 0, none⟩)) := by rw [b1, World.cell?_alloc_new]; rfl
  have y2 : w2.cell? ⟨w.heap.size + 1, 2, none⟩ = some (.int .i64 a) := by rw [b2, ← World.size_alloc w, World.cell?_alloc_new]; rfl
  have y3 : w2.cell? ⟨w.heap.size + 1, 3, none⟩ = some (.int .i64 b) := by rw [b2, ← World.size_alloc w, World.cell?_alloc_new]; rfl
  rw [hre]
  have hr2 := hp1.ref hk2
  have H1 := hide hp1
  have H2 := hide hk2
  have H4 := hide hst
  have H5 := hide hx2
  clear b1 b2 hp1 hk2 hre hst hx2
  go_wp2_with fail
  refine (refRevoke_any hr2 (unhide H1).s.wr _ _).mono ?_
  rintro en w3 ⟨rfl, hr3, hk3⟩
  have HF := hide (after_two (unhide H4) (unhide H2) hk3 (unhide HP).xt (fun _ _ => rfl) (unhide H5) hr3 (sim_revoked (unhide H1).s a b))
  clear hr2 hr3 hk3
  generalize revokeR r a b = x at *
  go_wp2
  go_ret
  exact ⟨rfl, unhide HF⟩
end Go.Proofs.Ytkgfkdmojjohdaa
