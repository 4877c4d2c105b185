/-
  Walks: districtref: Offered.
-/
import Derived.Test.YtgndledehlilkaaGreatPure
import Derived.Test.YtgndledehlilkaaGreatRefT6
namespace Go.Proofs.YtgndledehlilkaaGreat
open Go.RowKit
theorem infoRoute : (Tryz.prog.info? 50).map (fun i => (i.zero, i.size, i.bytes)) = some (some (.agg #[.int .i64 0, .int .i64 0, .int .i64 0, .int .i64 0]), 4, 32) := by kernel_rfl
def offMu (s : Nat) (f : Value) (w : World) : Nat := match f with
  | .bool true => (1114112 - (cellInt (w.cell? ⟨s, 0, none⟩) * 17 + cellInt (w.cell? ⟨s, 1, none⟩))).toNat + 1
  | _ => 0
theorem offMu_true {w : World} {s : Nat} {x : RouteD} (h : Box4 w s x) : offMu s (.bool true) w = (1114112 - key x).toNat + 1 := by
  unfold offMu key
  rw [h.c0, h.c1]
  rfl
theorem offMu_false (w : World) (s : Nat) : offMu s (.bool false) w = 0 := rfl
attribute [local go_sem ↓] Go.wp_at_zero Go.wp_at_succ
set_option maxRecDepth 100000 in
set_option maxHeartbeats 8000000 in
theorem offered_any {w : World} {O : Nat → Nat × Nat × Nat} {e b : Nat} {r : RefS} (h : RefRep w O e b r) (hf : RefWf r) (htb : RefTab r) (t : Nat) (ht : t < r.nl) :
    Calls Tryz.prog 105 #[.pointer (some ⟨b, 0, none⟩), .int .i64 t] w fun en w' => ∃ (l : List RouteD) (v : Value), Chain r t (nxAll r t rt0 true r.nl) l ∧ l.length ≤ 1114112 ∧ en = .returned v ∧ w'.ownsRow w.heap.size 50 4 v l.length (l.flatMap routeCells) ∧ Still w w' := by
  have HR := hide h
  have HF := hide hf
  have HTB := hide htb
  clear h hf htb
  obtain ⟨i0, hi0, hz0, hz1, hz2⟩ := info_parts infoRoute
  go_enter Tryz.func105, Tryz.ntmps105
  go_wp2_with fail
  refine (next_any (unhide HR) (unhide HF) (unhide HTB) t ht rt0 true).mono ?_
  rintro en w1 ⟨rfl, hs1⟩
  have HS1 := hide hs1
  have hz1' := hs1.size
  clear hs1
  generalize hst : nxAll r t rt0 true r.nl = st0 at *
  have HST := hide hst
  clear hst
  go_wp2
  have hb0 := Box4.new w1 st0.1 50
  have hsw : Still w (w1.alloc (.cells #[.int .i64 st0.1.addr, .int .i64 st0.1.len, .int .i64 st0.1.hop, .int .i64 st0.1.from_] 50)) := Kept.alloc (unhide HS1) _
  have HB0 := hide hb0
  have HSW := hide hsw
  clear hb0 hsw
  generalize hse : w1.heap.size = s0 at *
  clear hse
  generalize w1.alloc (.cells #[.int .i64 st0.1.addr, .int .i64 st0.1.len, .int .i64 st0.1.hop, .int .i64 st0.1.from_] 50) = W at *
  go_loopw [5, 7] (fun v f w' => ∃ (k : Nat) (l : List RouteD) (st : RouteD × Bool), l.length = k ∧ f = .bool st.2 ∧ (st.2 = true → okRoute st.1 ∧ (k : Int) ≤ key st.1) ∧ (k : Int) ≤ 1114112 ∧ (∀ rest, Chain r t st rest → Chain r t st0 (l ++ rest)) ∧ w'.ownsRow w.heap.size 50 4 v k (l.flatMap routeCells) ∧ v.ownBlock ≠ some s0 ∧ Box4 w' s0 st.1 ∧ Still w w') (fun v f w' => offMu s0 f w')
  case atStart => exact ⟨0, [], st0, rfl, rfl, fun hh => by
      have hok : okRoute st0.1 := by rw [← unhide HST] at hh ⊢; exact nxAll_ok (unhide HTB) hh
      exact ⟨hok, (key_le hok).1⟩, by omega, chain_start, World.ownsRow_nil _ _ _ _, by simp [Value.ownBlock], unhide HB0, unhide HSW⟩
  case round =>
    obtain ⟨k, l, st, hlk, rfl, hok, hkb, hch, hown, hnb, hbx, hst⟩ := hrel
    obtain ⟨va, vc, rfl, hv1, hv2⟩ := ownsRow_slice hown
    have HLK := hide hlk
    have HOK := hide hok
    have HCH := hide hch
    have HOWN := hide hown
    have HBX := hide hbx
    have HSTL := hide hst
    have hzz := hst.size
    have bsl := hbx.lt
    have q0 := hbx.c0
    have q1 := hbx.c1
    have q2 := hbx.c2
    have q3 := hbx.c3
    have qf := hbx.fz
    clear hlk hok hch hown hbx hst
    cases hfo : st.2 with
    | false =>
      have hfin := unhide HCH [] hfo
      rw [List.append_nil] at hfin
      have HFIN := hide hfin
      clear hfin hfo
      go_wp2
      go_ret
      refine ⟨l, _, by rw [unhide HST]; exact unhide HFIN, by have := unhide HLK; omega, rfl, ?_, unhide HSTL⟩
      rw [unhide HLK]
      exact unhide HOWN
    | true =>
      obtain ⟨hok1, hkk⟩ := unhide HOK hfo
      have hkl := key_le hok1
      have HCS := hide (chain_step (unhide HCH) hfo)
      have HMU : Hid (offMu s0 (.bool true) wr = (1114112 - key st.1).toNat + 1) := offMu_true (unhide HBX)
      have HOK1 := hide hok1
      have HKK := hide hkk
      have HKL := hide hkl
      clear hfo hok1 hkk hkl
      have hkb2 : k ≤ 1114111 := by have h1 := unhide HKK; have h2 := unhide HKL; omega
      generalize hx : st.1 = x at *
      clear hx
      go_wp2_with (first | (at_builtin; refine wpList_append_lies _ rfl _ _ _ rfl w.heap.size 50 i0 _ 4 32 Tryz.underlying52 hi0 hz0 hz1 hz2 rfl (by omega) (.slice va k vc) k _ rfl ((unhide HOWN).alloc _) ⟨wr.heap.size, 0, none⟩ 1 1 [.int .i64 x.addr, .int .i64 x.len, .int .i64 x.hop, .int .i64 x.from_] rfl rfl (World.news_of_block (cs := #[.int .i64 x.addr, .int .i64 x.len, .int .i64 x.hop, .int .i64 x.from_]) (t := 50) (fr := (0, 0)) (heap_alloc_new wr _)) (by simp [Value.oneCell']) (by omega) (by unfold maxLen; omega) (by omega) (by simp; omega) (wr.heap.size + 1) (by simp) ?_; intro g2 cap2 w2 hown2 hgrow hat hlt2; have e0 := (hgrow.cell_far ⟨s0, 0, none⟩ (by simp; omega) (Ne.symm hnb)).trans ((World.cell?_alloc_lt _ _ _ bsl).trans q0); have e1 := (hgrow.cell_far ⟨s0, 1, none⟩ (by simp; omega) (Ne.symm hnb)).trans ((World.cell?_alloc_lt _ _ _ bsl).trans q1); have e2 := (hgrow.cell_far ⟨s0, 2, none⟩ (by simp; omega) (Ne.symm hnb)).trans ((World.cell?_alloc_lt _ _ _ bsl).trans q2); have e3 := (hgrow.cell_far ⟨s0, 3, none⟩ (by simp; omega) (Ne.symm hnb)).trans ((World.cell?_alloc_lt _ _ _ bsl).trans q3)) | fail)
      have hst2 : Still w w2 := Kept.grown (Kept.alloc (unhide HSTL) _) hgrow (fun y hy => .inr ((unhide HOWN).lt y hy).1)
      have hbx2 : Box4 w2 s0 x := ((unhide HBX).still ((Kept.refl _ _).alloc _)).heap (hgrow.block s0 (by simp; omega) (Ne.symm hnb))
      have hg2 : g2 ≠ s0 := by
        rcases hat with hh | hh
        · intro h0; rw [h0] at hh; exact hnb hh
        · omega
      have HST2 := hide hst2
      have HBX2 := hide hbx2
      have HOW2 := hide hown2
      clear hgrow hat q0 q1 q2 q3 qf hst2 hbx2 hown2
      refine (next_any ((unhide HR).still (unhide HST2)) (unhide HF) (unhide HTB) t ht x false).mono ?_
      rintro en w3 ⟨rfl, hs3⟩
      have hbx3 := (unhide HBX2).still hs3
      have hst3 : Still w w3 := Kept.trans (unhide HST2) hs3
      have hown3 : w3.ownsRow w.heap.size 50 4 (.slice (some ⟨g2, 0, none⟩) (k + 1) cap2) (k + 1) (l.flatMap routeCells ++ [.int .i64 x.addr, .int .i64 x.len, .int .i64 x.hop, .int .i64 x.from_]) := ownsRow_of_block (unhide HOW2) (fun y hy => hs3.heap (by
        have : g2 = y := by simpa [Value.ownBlock] using hy
        omega))
      have q0 := hbx3.c0
      have q1 := hbx3.c1
      have q2 := hbx3.c2
      have q3 := hbx3.c3
      have qf := hbx3.fz
      have hnok : (nxAll r t x false r.nl).2 = true → okRoute (nxAll r t x false r.nl).1 ∧ ((k + 1 : Nat) : Int) ≤ key (nxAll r t x false r.nl).1 := fun hh => by
        have h1 := nxAll_ok (unhide HTB) hh
        have h2 := key_less (unhide HOK1) h1 (nxAll_less hh)
        have h3 := unhide HKK
        exact ⟨h1, by omega⟩
      have HBX3 := hide hbx3
      have HST3 := hide hst3
      have HOW3 := hide hown3
      have HNOK := hide hnok
      have HNL : Hid ((nxAll r t x false r.nl).2 = true → key x < key (nxAll r t x false r.nl).1 ∧ key (nxAll r t x false r.nl).1 ≤ 1114111) := fun hh => ⟨key_less (unhide HOK1) (nxAll_ok (unhide HTB) hh) (nxAll_less hh), (key_le (nxAll_ok (unhide HTB) hh)).2⟩
      clear hs3 hbx3 hst3 hown3 hnok e0 e1 e2 e3
      generalize nxAll r t x false r.nl = st' at *
      go_wp2
      go_roundw
      case rel =>
        refine ⟨k + 1, l ++ [x], st', by rw [List.length_append, unhide HLK]; rfl, rfl, unhide HNOK, by omega, unhide HCS, ?_, ?_, (unhide HBX3).put st'.1, ?_⟩
        · rw [List.flatMap_append]
          exact ownsRow_of_block (unhide HOW3) (fun y hy => by
            have : g2 = y := by simpa [Value.ownBlock] using hy
            subst this
            rw [Below.heap_setCell _ _ _ _ hg2, Below.heap_setCell _ _ _ _ hg2, Below.heap_setCell _ _ _ _ hg2, Below.heap_setCell _ _ _ _ hg2])
        · simp [Value.ownBlock]; exact hg2
        · exact Kept.setCell (Kept.setCell (Kept.setCell (Kept.setCell (unhide HST3) (.inr (by show w.heap.size ≤ s0; omega)) _) (.inr (by show w.heap.size ≤ s0; omega)) _) (.inr (by show w.heap.size ≤ s0; omega)) _) (.inr (by show w.heap.size ≤ s0; omega)) _
      case measure =>
        show offMu s0 (.bool st'.2) _ < offMu s0 (.bool true) wr
        rw [unhide HMU]
        cases hfo : st'.2 with
        | false => rw [offMu_false]; omega
        | true =>
          rw [offMu_true ((unhide HBX3).put st'.1)]
          have h1 := unhide HNL hfo
          have h2 := unhide HKL
          omega
end Go.Proofs.YtgndledehlilkaaGreat
