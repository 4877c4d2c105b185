/-
  Walks: districtkeep: none.
-/
import Derived.Test.YtgndledehlilkabWirD
namespace Go.Proofs.Ytgndledehlilkab
open Go.RowKit

section
variable {w0 w : World} {b c : Nat} {r s : RefS}
set_option maxHeartbeats 4000000 in
theorem none_W (h : Pair w0 w b c r s) {base g cap : Nat} {S : List Int} (hr : w.ownsRow base 5 1 (.slice (some ⟨g, 0, none⟩) S.length cap) S.length (S.map byteC)) (hS : okBytes S) (hq : isReq S = true) (hl : S.length ≤ 100) (h3 : 3 ≤ S.length) (hgc : g ≠ c) (ct : Int) (c0 : -9223372036854775808 ≤ ct) (c1 : ct ≤ 9223372036854775807) :
    Calls Try.prog 10 #[.pointer (some ⟨c, 0, none⟩), .slice (some ⟨g, 0, none⟩) S.length cap, .int .i64 ct] w fun en w' => en = .returned (.bool true) ∧ Pair w0 w' b c r s ∧ Kept (· = c) w w' := by
  obtain ⟨i0, hi0, hz0, hz1, hz2⟩ := info_parts infoByteX
  have hp := pickF_range ct (n := (S.length : Int)) (by omega)
  obtain ⟨k, hk⟩ : ∃ k : Nat, pickF ct (S.length : Int) = (k : Int) := ⟨(pickF ct (S.length : Int)).toNat, by omega⟩
  have hkS : k < S.length := by omega
  obtain ⟨_, cp, e, hc1, _⟩ := ownsRow_slice hr
  obtain ⟨rfl, _, rfl⟩ := Value.slice.inj e
  have hb := BytesIn.rowB hr rfl hS (by omega)
  have hcut := hb.cut (k := k) (c' := cap) (by omega) (by omega) (by omega)
  have hn1 := cut_none hS hq hkS
  have hn2 := more_none hS hq (loB ct)
  have eB1 : doB s (S.take k) = [1] := by unfold doB; rw [hn1]; rfl
  have eS1 : doS s (S.take k) = s := by unfold doS; rw [hn1]; rfl
  have eB2 : doB s (S ++ [loB ct]) = [1] := by unfold doB; rw [hn2]; rfl
  have eS2 : doS s (S ++ [loB ct]) = s := by unfold doS; rw [hn2]; rfl
  have H1 := hide (h.do2 hcut)
  rw [eB1, eS1] at H1
  have HR := hide hr
  have HE := hide (And.intro eB2 eS2)
  have HPK := hide (pickK ct (S.length : Int) w (by omega) c0 c1)
  rw [hk] at HPK
  have hk0 : (0 : Int) ≤ (k : Int) := by omega
  have hkl : (k : Int) ≤ (cap : Int) := by omega
  have hwc := wrap_lo ct
  have hcl := h.y.lt
  have hgl : g < w.heap.size := ownsRow_lt hr rfl
  clear hr hb hcut hn1 hn2 eB1 eS1 eB2 eS2 h hp hk e
  go_enter Try.func10, Try.ntmps10
  go_wp2_with fail
  refine (unhide HPK).mono ?_
  rintro en w' ⟨rfl, hw⟩
  replace hw := hw.symm
  subst hw
  go_wp2_with fail
  refine (unhide H1).mono ?_
  rintro en w1 ⟨a1, p1, rfl, hr1, hpr1, hk1⟩
  have hz1' := hk1.size
  have HR1 := hide hr1
  have HP1 := hide hpr1
  have HK1 := hide hk1
  have HRQ := hide (kept_row (unhide HR) hk1 (fun x hx => by
    have e : g = x := by simpa [Value.ownBlock] using hx
    omega))
  have hcl1 : c < w1.heap.size := by omega
  clear hr1 hpr1 hk1 HR H1 HPK
  go_wp2_with (at_builtin; refine wpList_append_lies _ rfl _ _ _ rfl w1.heap.size 5 i0 _ 1 1 Try.underlying29 hi0 hz0 hz1 hz2 rfl (by omega) (.slice none 0 0) 0 [] rfl (World.ownsRow_nil _ _ _ _) ⟨g, 0, none⟩ S.length cap (S.map byteC) rfl (by simp) (fun j u hu => (unhide HRQ).cells (g := g) rfl j u hu) (byteC_one S) (by omega) (by unfold maxLen; omega) (by omega) (by omega) w1.heap.size rfl ?_; intro g0 cap0 w2 hown4 hgrow4 hat4 hlt4; refine unhide ?_)
  refine hide ?_
  have hs2 : Still w1 w2 := Kept.grown (Kept.refl _ _) hgrow4 (fun y hy => by simp [Value.ownBlock] at hy)
  rw [List.nil_append] at hown4
  have hown5 : w2.ownsRow w1.heap.size 5 1 (.slice (some ⟨g0, 0, none⟩) S.length cap0) S.length (S.map byteC) := by simpa using hown4
  have HO2 := hide hown5
  have HS2 := hide hs2
  have hz2' := hs2.size
  obtain ⟨_, _, _, hc2, _⟩ := ownsRow_slice hown5
  clear hown4 hown5 hgrow4 hat4 hlt4 hs2
  go_wp2_with (at_builtin; refine wpList_append_lies _ rfl _ _ _ rfl w1.heap.size 5 i0 _ 1 1 Try.underlying29 hi0 hz0 hz1 hz2 rfl (by omega) (.slice (some ⟨g0, 0, none⟩) S.length cap0) S.length _ rfl ((unhide HO2).alloc _) ⟨w2.heap.size, 0, none⟩ 1 1 [.int .u8 (loB ct)] rfl rfl (World.news_of_block (cs := #[.int .u8 (loB ct)]) (t := 5) (fr := (0, 0)) (heap_alloc_new w2 _)) (by simp [Value.oneCell']) (by omega) (by unfold maxLen; omega) (by omega) (by simp; omega) (w2.heap.size + 1) (by simp) ?_; intro g1 cap1 w3 hown4 hgrow4 hat4 hlt4; refine unhide ?_)
  refine hide ?_
  have hk3 := grew_of (n := S.length + 1) (cap := cap1) hgrow4 hat4 (by omega)
  have hs3 : Still w1 w3 := grew_still (unhide HS2) (unhide HO2) (Nat.le_refl _) hk3
  have eM : S.map byteC ++ [.int .u8 (loB ct)] = (S ++ [loB ct]).map byteC := by simp [byteC]
  rw [eM] at hown4
  have hlen : S.length + 1 = (S ++ [loB ct]).length := by simp
  have hb3 := BytesIn.rowB hown4 hlen (hS.snoc ct) (by omega)
  have hp3 := (unhide HP1).again hs3
  have H3 := hide (hp3.do2 hb3)
  rw [(unhide HE).1, (unhide HE).2] at H3
  have HR1c := hide (kept_row (unhide HR1) hs3 (fun _ _ q => q))
  have HS3 := hide hs3
  have hz3 := hs3.size
  clear hown4 hgrow4 hat4 hlt4 hk3 hs3 eM hlen hb3 hp3 HO2 HS2 HP1 HR1
  go_wp2_with fail
  refine (unhide H3).mono ?_
  rintro en w4 ⟨a4, p4, rfl, hr4, hpr4, hk4⟩
  have hr1 := kept_row (unhide HR1c) hk4 (fun x hx => by have := ((unhide HR1c).lt x hx).1; omega)
  obtain ⟨y1, rfl, _⟩ := ownsRow_some hr1 (by decide)
  obtain ⟨y4, rfl, _⟩ := ownsRow_some hr4 (by decide)
  have d1 : w4.cell? ⟨y1, 0, none⟩ = some (.int .u8 1) := hr1.cells (g := y1) rfl 0 _ rfl
  have d4 : w4.cell? ⟨y4, 0, none⟩ = some (.int .u8 1) := hr4.cells (g := y4) rfl 0 _ rfl
  have l1 := ownsRow_lt hr1 rfl
  have l4 := ownsRow_lt hr4 rfl
  have HP4 := hide hpr4
  have HK4 : Hid (Kept (· = c) w w4) := Kept.trans (Kept.trans (unhide HK1) (Still.kept (unhide HS3) _)) hk4
  clear hr1 hr4 hpr4 hk4 H3 HR1c HS3 HK1
  simp only [List.length_cons, List.length_nil]
  go_wp2
  go_ret
  exact ⟨rfl, unhide HP4, unhide HK4⟩
end
end Go.Proofs.Ytgndledehlilkab
