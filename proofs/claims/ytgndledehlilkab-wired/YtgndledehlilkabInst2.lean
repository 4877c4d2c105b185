/-
  The program's engine: Lookup and Pass ('EngI3').
-/
import Derived.Test.YtgndledehlilkabInst
import Derived.Test.YtgndledehlilkabPrW
namespace Go.Proofs.Ytgndledehlilkab
open Go.RowKit

/-- The calls of lookups. -/
structure EngI3 (I : EngI) : Prop where
  lookup : ∀ {w O e b r}, I.Rep w O e b r → RefOk r → ∀ n addr : Int, Calls Try.prog 37 #[.pointer (some ⟨b, 0, none⟩), .int .i64 n, .int .i64 addr] w fun en w' =>
    en = .returned (.tuple #[.agg #[.int .i64 (lookA r n addr).addr, .int .i64 (lookA r n addr).len, .int .i64 (lookA r n addr).hop, .int .i64 (lookA r n addr).from_], .int .i64 (lookR r n addr)]) ∧ doneX I.Rep w O e b r w'
  pass : ∀ {w O e b r}, I.Rep w O e b r → RefOk r → ∀ (n addr hop : Int) (strict : Bool), Calls Try.prog 38 #[.pointer (some ⟨b, 0, none⟩), .int .i64 n, .int .i64 addr, .int .i64 hop, .bool strict] w fun en w' =>
    en = .returned (.tuple #[.bool (passA r n addr hop strict), .int .i64 (passR r n addr hop)]) ∧ doneX I.Rep w O e b r w'
section
variable {w : World} {O : Tag} {e b : Nat} {r : RefS}
theorem repX_lookup (h : RepX w O e b r) (hk : RefOk r) (n addr : Int) : Calls Try.prog 37 #[.pointer (some ⟨b, 0, none⟩), .int .i64 n, .int .i64 addr] w fun en w' =>
    en = .returned (.tuple #[.agg #[.int .i64 (lookA r n addr).addr, .int .i64 (lookA r n addr).len, .int .i64 (lookA r n addr).hop, .int .i64 (lookA r n addr).from_], .int .i64 (lookR r n addr)]) ∧ doneX RepX w O e b r w' := by
  have h0 := h
  obtain ⟨p, hx, hs, hm, ht⟩ := h
  have ec := (hs.check124 n).1
  by_cases hc : mayI r n 1 = 0
  · obtain ⟨t, ho⟩ := of_may hs hc
    have hno : (r.life (lifeOf r n)).no.toNat = t := by rw [ho.no]; omega
    have hsd := (side_tab hs hm hk ho.life ho.live).1
    rw [hno] at hsd
    have e1 : tableL r n = tabX p t := by unfold tableL; rw [if_pos hc, hsd]
    unfold lookA lookR
    rw [if_pos hc, if_pos hc, e1]
    cases ha : okAddr addr with
    | false =>
      refine (lookup_arg hx hs.wp addr (ec.trans hc) ha).mono ?_
      rintro en w' ⟨rfl, hst⟩
      exact ⟨rfl, h0.done (hx.still hst) hs hm (Still.kept hst _)⟩
    | true =>
      refine (lookup_yes hx hs.wp hm.ok addr (ec.trans hc) ho.tenant ho.t8 ha).mono ?_
      rintro en w' ⟨rfl, hst⟩
      exact ⟨rfl, h0.done (hx.still hst) hs hm (Still.kept hst _)⟩
  · unfold lookA lookR
    rw [if_neg hc, if_neg hc]
    refine (lookup_no hx hs.wp addr ec hc).mono ?_
    rintro en w' ⟨rfl, hst⟩
    exact ⟨rfl, h0.done (hx.still hst) hs hm (Still.kept hst _)⟩
theorem repX_pass (h : RepX w O e b r) (hk : RefOk r) (n addr hop : Int) (strict : Bool) : Calls Try.prog 38 #[.pointer (some ⟨b, 0, none⟩), .int .i64 n, .int .i64 addr, .int .i64 hop, .bool strict] w fun en w' =>
    en = .returned (.tuple #[.bool (passA r n addr hop strict), .int .i64 (passR r n addr hop)]) ∧ doneX RepX w O e b r w' := by
  have h0 := h
  obtain ⟨p, hx, hs, hm, ht⟩ := h
  have ec := (hs.check124 n).1
  by_cases hc : mayI r n 1 = 0
  · obtain ⟨t, ho⟩ := of_may hs hc
    have hno : (r.life (lifeOf r n)).no.toNat = t := by rw [ho.no]; omega
    have hsd := (side_tab hs hm hk ho.life ho.live).1
    rw [hno] at hsd
    have e1 : tableL r n = tabX p t := by unfold tableL; rw [if_pos hc, hsd]
    unfold passA passR
    rw [if_pos hc, if_pos hc, e1]
    cases ha : (okAddr addr && okMask hop) with
    | false =>
      refine (pass_arg hx hs.wp addr hop strict (ec.trans hc) ha).mono ?_
      rintro en w' ⟨rfl, rfl⟩
      exact ⟨rfl, h0.done hx hs hm (Kept.refl _ _)⟩
    | true =>
      rw [Bool.and_eq_true] at ha
      cases strict with
      | false =>
        refine (pass_loose hx hs.wp hm.ok addr hop (ec.trans hc) ho.tenant ho.t8 ha.1 ha.2).mono ?_
        rintro en w' ⟨rfl, hst⟩
        exact ⟨rfl, h0.done (hx.still hst) hs hm (Still.kept hst _)⟩
      | true =>
        refine (pass_strict hx hs.wp hm.ok addr hop (ec.trans hc) ho.tenant ho.t8 ha.1 ha.2).mono ?_
        rintro en w' ⟨rfl, hst⟩
        exact ⟨rfl, h0.done (hx.still hst) hs hm (Still.kept hst _)⟩
  · unfold passA passR
    rw [if_neg hc, if_neg hc]
    refine (pass_no hx hs.wp addr hop strict ec hc).mono ?_
    rintro en w' ⟨rfl, rfl⟩
    exact ⟨rfl, h0.done hx hs hm (Kept.refl _ _)⟩
end
theorem engX3 : EngI3 engX := ⟨repX_lookup, repX_pass⟩
end Go.Proofs.Ytgndledehlilkab
