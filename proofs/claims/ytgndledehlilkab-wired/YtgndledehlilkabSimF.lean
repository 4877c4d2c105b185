/-
  The program's tables are the document's.
-/
import Derived.Test.YtgndledehlilkabSimE
namespace Go.Proofs.Ytgndledehlilkab
open Go.RowKit

theorem delL_none {l : List RouteD} {x : RouteD} (h : hasP l x = false) : delL l x = l := by
  unfold delL
  rw [List.filter_eq_self]
  intro y hy
  rw [hasP_false.1 h y hy]
  rfl
theorem putL_len {l : List RouteD} {x : RouteD} (h : hasP l x = false) : (putL l x).length = l.length + 1 := by
  unfold putL
  rw [sortR_len, delL_none h, List.length_append]
  rfl
theorem same_eq {x y z : RouteD} (h : sameB x y = true) : sameB z x = sameB z y := by
  unfold sameB at *
  rw [Bool.and_eq_true, beq_iff_eq, beq_iff_eq] at h
  rw [h.1, h.2]
theorem same_symm {x y : RouteD} (h : sameB x y = true) : sameB y x = true := by
  unfold sameB at *
  rw [Bool.and_eq_true, beq_iff_eq, beq_iff_eq] at *
  exact ⟨h.1.symm, h.2.symm⟩
theorem hasP_same {l : List RouteD} {x y : RouteD} (h : sameB x y = true) : hasP l x = hasP l y := by
  unfold hasP
  congr 1
  funext z
  exact same_eq h
theorem matchB_same {x y : RouteD} (h : sameB x y = true) (u : RuleD) : matchB u x = matchB u y := by
  unfold sameB at h
  rw [Bool.and_eq_true, beq_iff_eq, beq_iff_eq] at h
  unfold matchB
  rw [h.1, h.2]
theorem letsB_same {x y : RouteD} (h : sameB x y = true) (R : List RuleD) : letsB R x = letsB R y := by
  unfold letsB
  rw [show (fun u => matchB u x) = fun u => matchB u y from funext fun u => matchB_same h u]
theorem wantB_same {p : ProgS} {t : Nat} {x y : RouteD} (h : sameB x y = true) : wantB p t x = wantB p t y := by
  unfold wantB
  rw [hasP_same h, letsB_same h]
/-- Behind a giver: who is on the list. -/
theorem gto_mem {p : ProgS} {t : Nat} {q l : List RouteD} (hq : Good q) (hl : Good l) : ∀ k, k ≤ l.length → q.length + k ≤ 64 →
    (gto p t q l k).length ≤ q.length + k ∧ ∀ z, z ∈ gto p t q l k ↔ z ∈ q ∨ (z ∈ l.take k ∧ wantB p t z = true ∧ hasP q z = false)
  | 0, _, _ => by
    rw [gto_zero]
    exact ⟨by omega, fun z => by simp⟩
  | k + 1, hk, h64 => by
    obtain ⟨i1, i2⟩ := gto_mem hq hl k (by omega) (by omega)
    have hg := hq.gto (p := p) (t := t) hl.route k (by omega)
    rw [gto_succ _ _ _ _ (by omega), pad_lt (by omega)]
    have hx := hl.route l[k] (List.getElem_mem _)
    have htk : ∀ z, z ∈ l.take (k + 1) ↔ z ∈ l.take k ∨ z = l[k] := fun z => by
      rw [List.take_add_one, List.getElem?_eq_getElem (by omega), List.mem_append]
      simp
    have hnt : ∀ y ∈ l.take k, sameB y l[k] = false := fun y hy => by
      obtain ⟨j, hj, rfl⟩ := List.getElem_of_mem hy
      rw [List.length_take] at hj
      rw [List.getElem_take]
      have := sorted_get hl.sorted (show j < l.length by omega) (show k < l.length by omega) (by omega)
      cases hb : sameB l[j] l[k] with
      | false => rfl
      | true =>
        have := (same_key (hl.route _ (List.getElem_mem _)) hx).1 hb
        omega
    have hhas : hasP (gto p t q l k) l[k] = hasP q l[k] := by
      rw [Bool.eq_iff_iff, hasP_true, hasP_true]
      constructor
      · rintro ⟨y, hy, hs⟩
        rcases (i2 y).1 hy with h | h
        · exact ⟨y, h, hs⟩
        · rw [hnt y h.1] at hs; simp at hs
      · rintro ⟨y, hy, hs⟩
        exact ⟨y, (i2 y).2 (.inl hy), hs⟩
    unfold gst
    rw [hhas]
    by_cases hc : (!hasP q l[k] && wantB p t l[k]) = true
    · rw [if_pos hc, if_pos (by omega)]
      rw [Bool.and_eq_true, Bool.not_eq_true'] at hc
      have hp := putL_ok hg.sorted hg.route hx
      have hn : hasP (gto p t q l k) l[k] = false := hhas.trans hc.1
      refine ⟨by rw [putL_len hn]; omega, fun z => ?_⟩
      rw [hp.2 z, i2 z, htk z]
      constructor
      · rintro (⟨h1 | h1, h2⟩ | rfl)
        · exact .inl h1
        · exact .inr ⟨.inl h1.1, h1.2⟩
        · exact .inr ⟨.inr rfl, hc.2, hc.1⟩
      · rintro (h1 | ⟨h1 | rfl, h2, h3⟩)
        · exact .inl ⟨.inl h1, hasP_false.1 hc.1 z h1⟩
        · exact .inl ⟨.inr ⟨h1, h2, h3⟩, hnt z h1⟩
        · exact .inr rfl
    · rw [if_neg hc]
      refine ⟨by omega, fun z => ?_⟩
      rw [i2 z, htk z]
      constructor
      · rintro (h1 | ⟨h1, h2⟩)
        · exact .inl h1
        · exact .inr ⟨.inl h1, h2⟩
      · rintro (h1 | ⟨h1 | rfl, h2, h3⟩)
        · exact .inl h1
        · exact .inr ⟨h1, h2, h3⟩
        · rw [h2, h3] at hc; simp at hc
def sumL (p : ProgS) : Nat → Nat
  | 0 => 0
  | n + 1 => sumL p n + (p.own n).length
/-- A giver's route that t wants. -/
def CandP (p : ProgS) (t g : Nat) (z : RouteD) : Prop := givesB p t g = true ∧ z ∈ p.own g ∧ wantB p t z = true
theorem sumL_mono (p : ProgS) {m n : Nat} (h : m ≤ n) : sumL p m ≤ sumL p n := by
  induction n with
  | zero =>
    obtain rfl : m = 0 := (by omega)
    exact Nat.le_refl _
  | succ n ih =>
    by_cases e : m = n + 1
    · subst e; exact Nat.le_refl _
    · have := ih (by omega)
      simp only [sumL]; omega
theorem off_mem {p : ProgS} (hk : ProgOk p) {t : Nat} (h64 : sumL p 8 ≤ 64) : ∀ G, G ≤ 8 →
    (offTo p t G).length ≤ sumL p G ∧ ∀ z, z ∈ offTo p t G ↔ ∃ g, g < G ∧ CandP p t g z ∧ ∀ g', g' < g → ∀ y, CandP p t g' y → sameB y z = false
  | 0, _ => ⟨Nat.zero_le _, fun z => ⟨fun h => (by cases h), fun ⟨g, hg, _⟩ => (by omega)⟩⟩
  | G + 1, hG => by
    obtain ⟨i1, i2⟩ := off_mem hk h64 G (by omega)
    have hg := Good.off hk t G (by omega)
    have hm : sumL p G + (p.own G).length ≤ sumL p 8 := sumL_mono p hG
    -- a prefix that somebody below G has is on the list
    have hex : ∀ g, g < G → ∀ y, CandP p t g y → ∃ x ∈ offTo p t G, sameB x y = true := by
      intro g
      induction g using Nat.strongRecOn with
      | ind g ih =>
        intro hgG y hy
        by_cases hh : ∃ g' y', g' < g ∧ CandP p t g' y' ∧ sameB y' y = true
        · obtain ⟨g', y', h1, h2, h3⟩ := hh
          obtain ⟨x, hx1, hx2⟩ := ih g' h1 (by omega) y' h2
          exact ⟨x, hx1, by rw [← same_eq h3]; exact hx2⟩
        · refine ⟨y, (i2 y).2 ⟨g, hgG, hy, fun g' h1 y' h2 => ?_⟩, ?_⟩
          · cases hb : sameB y' y with
            | false => rfl
            | true => exact absurd ⟨g', y', h1, h2, hb⟩ hh
          · unfold sameB; simp
    have hno : ∀ z, hasP (offTo p t G) z = false ↔ ∀ g', g' < G → ∀ y, CandP p t g' y → sameB y z = false := fun z => by
      constructor
      · intro h g' hg' y hy
        cases hb : sameB y z with
        | false => rfl
        | true =>
          obtain ⟨x, hx1, hx2⟩ := hex g' hg' y hy
          have := hasP_false.1 h x hx1
          rw [← same_eq hb] at this
          rw [hx2] at this
          simp at this
      · intro h
        rw [hasP_false]
        intro x hx
        obtain ⟨g, hgG, hc, _⟩ := (i2 x).1 hx
        exact h g hgG x hc
    unfold offTo
    by_cases hgv : givesB p t G = true
    · rw [if_pos hgv]
      have hgo : Good (p.own G) := ⟨hk.sorted G (by omega), hk.route G (by omega)⟩
      obtain ⟨j1, j2⟩ := gto_mem (p := p) (t := t) hg hgo (p.own G).length (Nat.le_refl _) (by omega)
      refine ⟨by simp only [sumL]; omega, fun z => ?_⟩
      rw [j2 z, i2 z, List.take_of_length_le (Nat.le_refl _), hno z]
      constructor
      · rintro (⟨g, h1, h2, h3⟩ | ⟨h1, h2, h3⟩)
        · exact ⟨g, by omega, h2, h3⟩
        · exact ⟨G, by omega, ⟨hgv, h1, h2⟩, h3⟩
      · rintro ⟨g, h1, h2, h3⟩
        by_cases e : g = G
        · subst e; exact .inr ⟨h2.2.1, h2.2.2, h3⟩
        · exact .inl ⟨g, by omega, h2, h3⟩
    · rw [if_neg hgv]
      refine ⟨by simp only [sumL]; omega, fun z => ?_⟩
      rw [i2 z]
      constructor
      · rintro ⟨g, h1, h2, h3⟩; exact ⟨g, by omega, h2, h3⟩
      · rintro ⟨g, h1, h2, h3⟩
        refine ⟨g, ?_, h2, h3⟩
        by_cases e : g = G
        · subst e; exact absurd h2.1 hgv
        · omega
section
variable {p : ProgS} {r : RefS}
/-- Whose number is t? -/
theorem live_or_free (r : RefS) (j : Nat) : (∃ i, i < r.nl ∧ (r.life i).gone = false ∧ (r.life i).no = (j : Int)) ∨ freeR r j := by
  by_cases h : ∃ i, i < r.nl ∧ (r.life i).gone = false ∧ (r.life i).no = (j : Int)
  · exact .inl h
  · right
    intro i hi
    cases hg : (r.life i).gone with
    | true => exact .inl rfl
    | false => exact .inr fun e => h ⟨i, hi, hg, e⟩
theorem own_le (h : Sim p r) (hm : Mem p r) (hk : RefOk r) {j : Nat} (hj : j < 8) : ((p.own j).length : Int) ≤ p.quota j := by
  rcases live_or_free r j with ⟨i, hi, hg, hno⟩ | hf
  · have e : (r.life i).no.toNat = j := by rw [hno]; omega
    have h1 := hm.own i hi hg
    have h2 := h.quotaL i hi hg
    rw [e] at h1 h2
    rw [h1, h2, sortR_len]
    exact hk.tab.ownN i hi
  · rw [hm.free j hj hf, h.quotaF j hj hf]
    simp
theorem sumL_le (h : Sim p r) (hm : Mem p r) (hk : RefOk r) : sumL p 8 ≤ 64 := by
  have key : ∀ n, n ≤ 8 → (sumL p n : Int) ≤ qsum p n := by
    intro n
    induction n with
    | zero => intro _; simp [sumL, qsum]
    | succ n ih =>
      intro hn
      have := ih (by omega)
      have := own_le h hm hk (j := n) (by omega)
      simp only [sumL, qsum]
      omega
  have h1 := key 8 (Nat.le_refl _)
  have h2 := hm.sum
  have h3 := h.wp.room
  omega
theorem want_offer (h : Sim p r) (hm : Mem p r) (hk : RefOk r) {T U : Nat} (hT : T < r.nl) (hU : U < r.nl) (gT : (r.life T).gone = false) (gU : (r.life U).gone = false) (x : RouteD) :
    offerB r T U x = true ↔ givesB p (r.life T).no.toNat (r.life U).no.toNat = true ∧ wantB p (r.life T).no.toNat x = true := by
  have nT := h.wr.no T hT
  have nU := h.wr.no U hU
  have hne : T = U ↔ (r.life U).no = (r.life T).no := ⟨fun e => by rw [e], fun e => h.uniq T U hT hU gT gU e.symm⟩
  have hown := own_sorted hk hT
  have hfind := hasP_find hown.2 x
  have e1 := hm.gives U hU gU
  have e2 := hm.takes T hT gT
  have e3 := hm.rules T hT gT
  have e4 := hm.own T hT gT
  have hcm := comP_common (hk.tab.gives U hU) (hk.tab.takes T hT)
  have hi : ((((r.life U).no.toNat : Nat) : Int) == (((r.life T).no.toNat : Nat) : Int)) = decide (T = U) := by
    rw [Bool.eq_iff_iff, beq_iff_eq, decide_eq_true_eq, hne]
    omega
  unfold givesB wantB offerB
  rw [e1, e2, e3, e4, hcm, hi, gT, gU]
  simp only [Bool.and_eq_true, Bool.not_eq_true', decide_eq_false_iff_not, decide_eq_true_eq]
  have hf2 : findI (r.life T).own x < 0 ↔ hasP (sortR (r.life T).own) x = false := by
    constructor
    · intro hh
      cases hb : hasP (sortR (r.life T).own) x with
      | false => rfl
      | true => have := hfind.1 hb; omega
    · intro hh
      by_cases h0 : 0 ≤ findI (r.life T).own x
      · rw [hfind.2 h0] at hh; simp at hh
      · omega
  rw [hf2]
  constructor
  · rintro ⟨⟨⟨⟨⟨a, _⟩, _⟩, d⟩, e⟩, f⟩; exact ⟨⟨a, d⟩, f, e⟩
  · rintro ⟨⟨a, d⟩, f, e⟩; exact ⟨⟨⟨⟨⟨a, trivial⟩, trivial⟩, d⟩, e⟩, f⟩
theorem cand_iff (h : Sim p r) (hm : Mem p r) (hk : RefOk r) {T : Nat} (hT : T < r.nl) (gT : (r.life T).gone = false) (x : RouteD) :
    Cand r T x ↔ ∃ g, g < 8 ∧ CandP p (r.life T).no.toNat g x ∧ x.from_ = (g : Int) := by
  constructor
  · rintro ⟨U, hU, hx, ho⟩
    have gU := (offerB_parts ho).2.2.1
    have nU := h.wr.no U hU
    obtain ⟨a, b⟩ := (want_offer h hm hk hT hU gT gU x).1 ho
    refine ⟨(r.life U).no.toNat, by omega, ⟨a, ?_, b⟩, ?_⟩
    · rw [hm.own U hU gU]; exact ((own_sorted hk hU).2 x).2 hx
    · rw [hk.own.from_ U hU x hx]; omega
  · rintro ⟨g, hg, ⟨a, b, c⟩, d⟩
    rcases live_or_free r g with ⟨U, hU, gU, hno⟩ | hf
    · have e : (r.life U).no.toNat = g := by rw [hno]; omega
      refine ⟨U, hU, ?_, (want_offer h hm hk hT hU gT gU x).2 (by rw [e]; exact ⟨a, c⟩)⟩
      have h1 := hm.own U hU gU
      rw [e] at h1
      rw [h1] at b
      exact ((own_sorted hk hU).2 x).1 b
    · rw [hm.free g hg hf] at b; cases b
theorem candP_from (hm : Mem p r) (hk : RefOk r) {t g : Nat} (hg : g < 8) {x : RouteD} (hc : CandP p t g x) : x.from_ = (g : Int) := by
  rcases live_or_free r g with ⟨U, hU, gU, hno⟩ | hf
  · have e : (r.life U).no.toNat = g := by rw [hno]; omega
    have h1 := hm.own U hU gU
    rw [e] at h1
    have b := hc.2.1
    rw [h1] at b
    rw [hk.own.from_ U hU x (((own_sorted hk hU).2 x).1 b), hno]
  · have b := hc.2.1
    rw [hm.free g hg hf] at b; cases b
theorem off_is (h : Sim p r) (hm : Mem p r) (hk : RefOk r) {T : Nat} (hT : T < r.nl) (gT : (r.life T).gone = false) : offTo p (r.life T).no.toNat 8 = offF r T := by
  have hg := Good.off hm.ok (r.life T).no.toNat 8 (Nat.le_refl _)
  have hmem := (off_mem hm.ok (t := (r.life T).no.toNat) (sumL_le h hm hk) 8 (Nat.le_refl _)).2
  refine IsOff.uniq ⟨hg.sorted, fun x => ?_⟩ (offF_is hk.tab hk.own T)
  rw [hmem x]
  unfold Best
  rw [cand_iff h hm hk hT gT x]
  constructor
  · rintro ⟨g, h1, h2, h3⟩
    have hf := candP_from hm hk h1 h2
    refine ⟨⟨g, h1, h2, hf⟩, fun y hy hky => ?_⟩
    obtain ⟨g', k1, k2, k3⟩ := (cand_iff h hm hk hT gT y).1 hy
    rw [hf, k3]
    by_cases hlt : g' < g
    · have := h3 g' hlt y k2
      rw [(same_key (hm.ok.route g' k1 y k2.2.1) (hm.ok.route g h1 x h2.2.1)).2 hky] at this
      simp at this
    · omega
  · rintro ⟨⟨g, h1, h2, hf⟩, hb⟩
    refine ⟨g, h1, h2, fun g' hlt y hy => ?_⟩
    cases hs : sameB y x with
    | false => rfl
    | true =>
      have hfy := candP_from hm hk (show g' < 8 by omega) hy
      have := hb y ((cand_iff h hm hk hT gT y).2 ⟨g', by omega, hy, hfy⟩) ((same_key (hm.ok.route g' (by omega) y hy.2.1) (hm.ok.route g h1 x h2.2.1)).1 hs)
      rw [hf, hfy] at this
      omega
/-- The table, offer by offer. -/
theorem tab_is {own off : List RouteD} {quota : Int} (h1 : Good own) (h2 : Good off) (hd : ∀ x ∈ own, ∀ y ∈ off, key x ≠ key y) (hq : (own.length : Int) ≤ quota) (hq2 : quota ≤ 64) : ∀ k, k ≤ off.length →
    (tabTo own off quota k).1 = sortR (own ++ off.take (min k (quota - own.length).toNat)) ∧ (tabTo own off quota k).2.1 = min k (quota - own.length).toNat ∧ (tabTo own off quota k).2.2 = k - min k (quota - own.length).toNat
  | 0, _ => by
    refine ⟨?_, ?_, ?_⟩
    · show own = _
      simp only [Nat.zero_min, List.take_zero, List.append_nil]
      obtain ⟨s1, s2⟩ := sortR_ok h1.route (sorted_ne h1.sorted)
      exact sorted_ext h1.sorted s1 fun z => (s2 z).symm
    · show 0 = _; omega
    · show 0 = _; omega
  | k + 1, hk => by
    obtain ⟨a, b, c⟩ := tab_is h1 h2 hd hq hq2 k (by omega)
    have hparts : ∀ m, (∀ y ∈ own ++ off.take m, okRoute y) ∧ (own ++ off.take m).Pairwise (fun x y => key x ≠ key y) := fun m => by
      refine ⟨fun y hy => ?_, List.pairwise_append.2 ⟨sorted_ne h1.sorted, List.Pairwise.sublist (List.take_sublist _ _) (sorted_ne h2.sorted), fun x hx y hy => hd x hx y (List.mem_of_mem_take hy)⟩⟩
      rcases List.mem_append.1 hy with h | h
      · exact h1.route y h
      · exact h2.route y (List.mem_of_mem_take h)
    have hlen : (tabTo own off quota k).1.length = own.length + min k (quota - own.length).toNat := by
      rw [a, sortR_len, List.length_append, List.length_take]
      omega
    have hx : okRoute off[k] := h2.route _ (List.getElem_mem _)
    obtain ⟨s1, s2⟩ := sortR_ok (hparts (min k (quota - own.length).toNat)).1 (hparts (min k (quota - own.length).toNat)).2
    have hn : hasP (tabTo own off quota k).1 off[k] = false := by
      rw [hasP_false]
      intro y hy
      rw [a, s2 y] at hy
      cases hb : sameB y off[k] with
      | false => rfl
      | true =>
        rcases List.mem_append.1 hy with h | h
        · exact absurd ((same_key (h1.route y h) hx).1 hb) (hd y h _ (List.getElem_mem _))
        · have hkk := (same_key (h2.route y (List.mem_of_mem_take h)) hx).1 hb
          obtain ⟨j, hj, rfl⟩ := List.getElem_of_mem h
          rw [List.length_take] at hj
          rw [List.getElem_take] at hkk
          have := sorted_get h2.sorted (show j < off.length by omega) (show k < off.length by omega) (by omega)
          omega
    unfold tabTo
    rw [pad_lt (by omega), hn, hlen]
    by_cases hc : k < (quota - own.length).toNat
    · rw [if_pos (.inr ⟨by omega, by omega⟩)]
      have e1 : min k (quota - own.length).toNat = k := by omega
      have e2 : min (k + 1) (quota - own.length).toNat = k + 1 := by omega
      refine ⟨?_, ?_, ?_⟩
      · show putL (tabTo own off quota k).1 off[k] = _
        rw [e2]
        obtain ⟨t1, t2⟩ := sortR_ok (hparts (k + 1)).1 (hparts (k + 1)).2
        have hg : Good (tabTo own off quota k).1 := h1.tab h2 k (by omega)
        obtain ⟨p1, p2⟩ := putL_ok hg.sorted hg.route hx
        refine sorted_ext p1 t1 fun z => ?_
        rw [p2 z, t2 z, a, s2 z, e1, List.mem_append, List.mem_append, List.take_add_one, List.getElem?_eq_getElem (by omega), List.mem_append]
        have hz : z ∈ (tabTo own off quota k).1 → sameB z off[k] = false := fun hz => hasP_false.1 hn z hz
        rw [a, s2 z, e1, List.mem_append] at hz
        simp only [Option.toList_some, List.mem_singleton]
        constructor
        · rintro (⟨q1 | q1, _⟩ | q)
          · exact .inl q1
          · exact .inr (.inl q1)
          · exact .inr (.inr q)
        · rintro (q | q | q)
          · exact .inl ⟨.inl q, hz (.inl q)⟩
          · exact .inl ⟨.inr q, hz (.inr q)⟩
          · exact .inr q
      · show (tabTo own off quota k).2.1 + 1 = _; omega
      · show (tabTo own off quota k).2.2 = _; omega
    · have hno : ¬ (false = true ∨ (((own.length + min k (quota - own.length).toNat : Nat) : Int) < quota ∧ own.length + min k (quota - own.length).toNat < 64)) := by
        rintro (h | h)
        · simp at h
        · omega
      rw [if_neg hno]
      have e1 : min k (quota - own.length).toNat = (quota - own.length).toNat := by omega
      have e2 : min (k + 1) (quota - own.length).toNat = (quota - own.length).toNat := by omega
      refine ⟨?_, ?_, ?_⟩
      · show (tabTo own off quota k).1 = _; rw [a, e1, e2]
      · show (tabTo own off quota k).2.1 = _; omega
      · show (tabTo own off quota k).2.2 + 1 = _; omega
/-- Table and Count. -/
theorem side_tab (h : Sim p r) (hm : Mem p r) (hk : RefOk r) {T : Nat} (hT : T < r.nl) (gT : (r.life T).gone = false) :
    tabX p (r.life T).no.toNat = tabF r T ∧ (takX p (r.life T).no.toNat : Int) = (takenF r T).length ∧ (droX p (r.life T).no.toNat : Int) = droppedR (r.life T) (offF r T) ∧ (p.own (r.life T).no.toNat).length = (r.life T).own.length := by
  have nT := h.wr.no T hT
  have e1 := off_is h hm hk hT gT
  have e2 := hm.own T hT gT
  have e3 := h.quotaL T hT gT
  have hqw := h.wr.quota T hT
  have hoff := offF_is hk.tab hk.own T
  obtain ⟨s1, s2⟩ := own_sorted hk hT
  have g1 : Good (sortR (r.life T).own) := ⟨s1, fun y hy => hk.tab.own T hT y ((s2 y).1 hy)⟩
  have g2 : Good (offF r T) := by
    rw [← e1]; exact Good.off hm.ok _ 8 (Nat.le_refl _)
  have hd : ∀ x ∈ sortR (r.life T).own, ∀ y ∈ offF r T, key x ≠ key y := fun x hx y hy => by
    obtain ⟨⟨U, hU, hyU, hof⟩, _⟩ := (hoff.2 y).1 hy
    exact findI_neg (hk.tab.own T hT) (hk.tab.own U hU y hyU) (offerB_parts hof).2.2.2.2.2 x ((s2 x).1 hx)
  have hN := hk.tab.ownN T hT
  have hlen := sortR_len (r.life T).own
  obtain ⟨a, b, c⟩ := tab_is (quota := (r.life T).quota) g1 g2 hd (by rw [hlen]; exact hN) hqw.2 (offF r T).length (Nat.le_refl _)
  rw [hlen] at a b c
  refine ⟨?_, ?_, ?_, ?_⟩
  · unfold tabX
    rw [e1, e2, e3, a]
    obtain ⟨t1, t2⟩ := tabF_is hk.tab hk.own hT
    have hp := tab_parts hk.tab hk.own hT
    have hq : (∀ y ∈ sortR (r.life T).own ++ (offF r T).take (min (offF r T).length ((r.life T).quota - ↑(r.life T).own.length).toNat), okRoute y) ∧ (sortR (r.life T).own ++ (offF r T).take (min (offF r T).length ((r.life T).quota - ↑(r.life T).own.length).toNat)).Pairwise (fun x y => key x ≠ key y) := by
      refine ⟨fun y hy => ?_, List.pairwise_append.2 ⟨sorted_ne g1.sorted, List.Pairwise.sublist (List.take_sublist _ _) (sorted_ne g2.sorted), fun x hx y hy => hd x hx y (List.mem_of_mem_take hy)⟩⟩
      rcases List.mem_append.1 hy with h | h
      · exact g1.route y h
      · exact g2.route y (List.mem_of_mem_take h)
    obtain ⟨u1, u2⟩ := sortR_ok hq.1 hq.2
    refine sorted_ext u1 t1 fun z => ?_
    rw [u2 z, t2 z, List.mem_append, s2 z]
    have : (offF r T).take (min (offF r T).length ((r.life T).quota - ↑(r.life T).own.length).toNat) = takenF r T := by
      unfold takenF spare
      by_cases hh : (offF r T).length ≤ ((r.life T).quota - ↑(r.life T).own.length).toNat
      · rw [Nat.min_eq_left hh, List.take_of_length_le (Nat.le_refl _), List.take_of_length_le hh]
      · rw [Nat.min_eq_right (by omega)]
    rw [this]
  · unfold takX
    rw [e1, e2, e3, b]
    unfold takenF spare
    rw [List.length_take]
    omega
  · unfold droX
    rw [e1, e2, e3, c]
    unfold droppedR spare
    omega
  · rw [e2, hlen]
end
end Go.Proofs.Ytgndledehlilkab
