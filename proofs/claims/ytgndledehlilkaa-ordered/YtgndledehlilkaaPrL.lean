/-
  Walks: district: gather.
-/
import Derived.Test.YtgndledehlilkaaPrK
namespace Go.Proofs.Ytgndledehlilkaa
open Go.RowKit

/-- One route of a giver's. -/
def gst (p : ProgS) (t : Nat) (q : List RouteD) (x : RouteD) : List RouteD := if (!hasP q x && wantB p t x) = true then (if q.length < 64 then putL q x else q) else q
def gto (p : ProgS) (t : Nat) (q l : List RouteD) (k : Nat) : List RouteD := (l.take k).foldl (gst p t) q
theorem gto_zero (p : ProgS) (t : Nat) (q l : List RouteD) : gto p t q l 0 = q := by simp [gto]
theorem gto_succ (p : ProgS) (t : Nat) (q l : List RouteD) {k : Nat} (h : k < l.length) : gto p t q l (k + 1) = gst p t (gto p t q l k) (pad l k) := by
  unfold gto
  rw [List.take_add_one, List.getElem?_eq_getElem h, List.foldl_append, pad_lt h]
  rfl
/-- Sorted, and of routes that may be. -/
structure Good (q : List RouteD) : Prop where
  sorted : Sorted q
  route : ∀ y ∈ q, okRoute y
theorem Good.put {q : List RouteD} {x : RouteD} (h : Good q) (hx : okRoute x) : Good (putL q x) := ⟨(putL_ok h.sorted h.route hx).1, putL_okr h.sorted h.route hx⟩
theorem Good.gst {p : ProgS} {t : Nat} {q : List RouteD} {x : RouteD} (h : Good q) (hx : okRoute x) : Good (gst p t q x) := by
  unfold Go.Proofs.Ytgndledehlilkaa.gst
  split
  · split
    · exact h.put hx
    · exact h
  · exact h
theorem Good.gto {p : ProgS} {t : Nat} {q l : List RouteD} (h : Good q) (hl : ∀ y ∈ l, okRoute y) : ∀ k, k ≤ l.length → Good (gto p t q l k)
  | 0, _ => by rw [gto_zero]; exact h
  | k + 1, hk => by
    rw [gto_succ _ _ _ _ (by omega)]
    exact (Good.gto h hl k (by omega)).gst (by rw [pad_lt (by omega)]; exact hl _ (List.getElem_mem _))
set_option maxHeartbeats 4000000 in
theorem gather_any {w : World} {b c : Nat} {p : ProgS} (h : XAt w b p) (hk : ProgOk p) {t g : Nat} (ht : t < 8) (hg : g < 8) {q : List RouteD} (hq : LAt w c 0 q.length (pad q)) (hgq : Good q) (hne : b ≠ c) :
    Calls Try.prog 66 #[.pointer (some ⟨b, 0, none⟩), .int .i64 (t : Int), .int .i64 (g : Int), .pointer (some ⟨c, 0, none⟩)] w fun en w' =>
      en = .returned (.tuple #[]) ∧ LAt w' c 0 (gto p t q (p.own g) (p.own g).length).length (pad (gto p t q (p.own g) (p.own g).length)) ∧ Kept (· = c) w w' := by
  have hb := h.lt
  have hc := hq.lt
  have HX := hide h
  have HQ := hide hq
  have HG := hide hgq
  have HK := hide hk
  have ht0 : (0 : Int) ≤ (t : Int) := by omega
  have ht8 : (t : Int) < 8 := by omega
  have hg0 : (0 : Int) ≤ (g : Int) := by omega
  have hg8 : (g : Int) < 8 := by omega
  clear h hq hgq hk
  go_enter Try.func66, Try.ntmps66
  go_wp2
  go_loopw [8] (fun s w' => ∃ k : Nat, k ≤ (p.own g).length ∧ s = .int .i64 k ∧ LAt w' c 0 (gto p t q (p.own g) k).length (pad (gto p t q (p.own g) k)) ∧ Kept (· = c) w w') (fun s _ => (p.own g).length - (intOf s).toNat)
  case atStart => exact ⟨0, Nat.zero_le _, rfl, by rw [gto_zero]; exact unhide HQ, Kept.refl _ _⟩
  case round =>
    obtain ⟨k, hkl, rfl, hqk, hkp⟩ := hrel
    have hx := (unhide HX).frame (hkp.block b hb hne)
    have HXR := hide hx
    have HQK := hide hqk
    have HKP := hide hkp
    have hbr := hx.lt
    have hcr := hqk.lt
    have hm := (hx.ow g hg).most
    clear hx hqk hkp
    by_cases hlt : k < (p.own g).length
    · have hok : okRoute (pad (p.own g) k) := by rw [pad_lt hlt]; exact (unhide HK).route g hg _ (List.getElem_mem _)
      have HGK := hide ((unhide HG).gto (p := p) (t := t) ((unhide HK).route g hg) k hkl)
      have HE := hide (gto_succ p t q (p.own g) hlt)
      have HOK := hide hok
      clear hok
      go_wp2_with fail
      refine (len_any ((unhide HXR).ow g hg)).mono ?_
      rintro e w1 ⟨rfl, hw1⟩
      replace hw1 := hw1.symm
      subst hw1
      go_wp2_with fail
      refine (at_any ((unhide HXR).ow g hg) hlt).mono ?_
      rintro e w1 ⟨rfl, hs1⟩
      generalize hxx : pad (p.own g) k = x at *
      have HXX := hide hxx
      clear hxx
      generalize hqq : gto p t q (p.own g) k = qk at *
      have HQQ := hide hqq
      clear hqq
      have hSV : Still wr (w1.alloc (.cells #[.int .i64 x.addr, .int .i64 x.len, .int .i64 x.hop, .int .i64 x.from_] 34)) := Kept.alloc hs1 _
      have hBV := BoxX.new w1 x 34
      have HSV := hide hSV
      have HBV := hide hBV
      clear hSV hBV hs1
      go_wp2_with fail
      generalize w1.heap.size = s0 at *
      generalize w1.alloc (.cells #[.int .i64 x.addr, .int .i64 x.len, .int .i64 x.hop, .int .i64 x.from_] 34) = V at *
      refine (hasL_fn ((unhide HQK).still (unhide HSV)) (unhide HGK).sorted (unhide HGK).route (unhide HOK)).mono ?_
      rintro e w2 ⟨rfl, hs2⟩
      have hS2 : Still wr w2 := (unhide HSV).trans hs2
      have b2 := (unhide HBV).kept hs2 (fun q => q)
      have q0 := b2.c0
      have q1 := b2.c1
      have q2 := b2.c2
      have q3 := b2.c3
      have ql := b2.lt
      have HS2 := hide hS2
      have HB2 := hide b2
      clear hs2 hS2 b2
      cases hh : hasP qk x with
      | true =>
        have hgs : gst p t qk x = qk := by unfold gst; rw [hh]; rfl
        have HGS := hide hgs
        clear hh hgs
        go_wp2
        go_roundw
        case rel => exact ⟨k + 1, by omega, by go_num, by rw [unhide HE, unhide HGS]; exact (unhide HQK).still (unhide HS2), (unhide HKP).trans (Still.kept (unhide HS2) _)⟩
        case measure => simp [intOf]; omega
      | false =>
        have HH := hide hh
        clear hh
        go_wp2_with fail
        refine (wants_any ((unhide HXR).still (unhide HS2)) (unhide HK) ht (unhide HOK)).mono ?_
        rintro e w3 ⟨rfl, hs3⟩
        have hS3 : Still wr w3 := (unhide HS2).trans hs3
        have b3 := (unhide HB2).kept hs3 (fun q => q)
        have q0' := b3.c0
        have q1' := b3.c1
        have q2' := b3.c2
        have q3' := b3.c3
        have ql' := b3.lt
        have HS3 := hide hS3
        clear hs3 hS3 b3 q0 q1 q2 q3 ql
        cases hw : wantB p t x with
        | false =>
          have hgs : gst p t qk x = qk := by unfold gst; rw [unhide HH, hw]; rfl
          have HGS := hide hgs
          clear hw hgs
          go_wp2
          go_roundw
          case rel => exact ⟨k + 1, by omega, by go_num, by rw [unhide HE, unhide HGS]; exact (unhide HQK).still (unhide HS3), (unhide HKP).trans (Still.kept (unhide HS3) _)⟩
          case measure => simp [intOf]; omega
        | true =>
          have hgs : gst p t qk x = if qk.length < 64 then putL qk x else qk := by unfold gst; rw [unhide HH, hw]; rfl
          have HGS := hide hgs
          clear hw hgs
          go_wp2_with fail
          refine (put_fn ((unhide HQK).still (unhide HS3)) (unhide HGK).sorted (unhide HGK).route (unhide HOK) 64).mono ?_
          rintro e w4 ⟨hwi, hc4⟩
          have hK4 : Kept (· = c) w w4 := ((unhide HKP).trans (Still.kept (unhide HS3) _)).trans hwi.kept
          have hq4 : LAt w4 c 0 (gst p t qk x).length (pad (gst p t qk x)) ∧ ∃ n : Int, e = .returned (.int .i64 n) := by
            rw [unhide HGS]
            rcases hc4 with ⟨h1, rfl, h3, h4⟩ | ⟨h1, h2, rfl, h3⟩ | ⟨h1, h2, h3, rfl, h4, h5⟩
            · rw [unhide HH] at h1; simp at h1
            · rw [if_neg (by omega)]; exact ⟨h3, _, rfl⟩
            · rw [if_pos h3]; exact ⟨h4, _, rfl⟩
          obtain ⟨hq5, n, rfl⟩ := hq4
          have HQ5 := hide hq5
          have HK4 := hide hK4
          clear hq5 hK4 hwi hc4 HGS
          go_wp2
          go_roundw
          case rel => exact ⟨k + 1, by omega, by go_num, by rw [unhide HE]; exact unhide HQ5, unhide HK4⟩
          case measure => simp [intOf]; omega
    · obtain rfl : k = (p.own g).length := by omega
      go_wp2_with (go_at_call 57; refine (len_any ((unhide HXR).ow g hg)).mono ?_; rintro e w1 ⟨rfl, hw1⟩; replace hw1 := hw1.symm; subst hw1)
      go_end0
      exact ⟨rfl, unhide HQK, unhide HKP⟩
end Go.Proofs.Ytgndledehlilkaa
