/-
  Walks: districtlaw: routes.
-/
import Derived.Test.YtgndledehlilkaaGreatLawI3M
namespace Go.Proofs.YtgndledehlilkaaGreat
open Go.RowKit
theorem Mid.grownT {W : World} {O : Tag} {bw : Nat} {lv tv kv bv cv l : Value} {k : Int} {w w9 : World} {O' : Tag} {xs : List Value} {tx kx : Value} {nt nk : Nat} {T K : List Value} {o : Obj} (h : Mid W O bw lv tv kv bv cv l k xs w O' tx kx nt nk T K) (hgr : (w.alloc o).grownBy w9 tx.ownBlock) :
    w9.cell? ⟨bw, 1, none⟩ = some tx ∧ w9.cell? ⟨bw, 2, none⟩ = some kx ∧ (∀ j, w9.frozen? ⟨bw, j, none⟩ = false) := by
  obtain ⟨c1, c2, cf, bwl⟩ := h.cells
  have hb : w9.heap[bw]? = w.heap[bw]? := by
    rw [hgr.block bw (by simp; omega) (fun e => by have := (h.ttag bw e.symm).1; rw [h.bwt] at this; simp at this), Below.heap_alloc _ _ _ bwl]
  have hc : ∀ j, w9.cell? ⟨bw, j, none⟩ = w.cell? ⟨bw, j, none⟩ := fun j => World.cell?_of_block (w := w) (a := ⟨bw, j, none⟩) hb
  have hf : ∀ j, w9.frozen? ⟨bw, j, none⟩ = w.frozen? ⟨bw, j, none⟩ := fun j => World.frozen?_of_block (w := w) (a := ⟨bw, j, none⟩) hb
  exact ⟨(hc 1).trans c1, (hc 2).trans c2, fun j => (hf j).trans (cf j)⟩
theorem Mid.grownK {W : World} {O : Tag} {bw : Nat} {lv tv kv bv cv l : Value} {k : Int} {w w9 : World} {O' : Tag} {xs : List Value} {tx kx : Value} {nt nk : Nat} {T K : List Value} {o : Obj} (h : Mid W O bw lv tv kv bv cv l k xs w O' tx kx nt nk T K) (hgr : (w.alloc o).grownBy w9 kx.ownBlock) :
    w9.cell? ⟨bw, 1, none⟩ = some tx ∧ w9.cell? ⟨bw, 2, none⟩ = some kx ∧ (∀ j, w9.frozen? ⟨bw, j, none⟩ = false) := by
  obtain ⟨c1, c2, cf, bwl⟩ := h.cells
  have hb : w9.heap[bw]? = w.heap[bw]? := by
    rw [hgr.block bw (by simp; omega) (fun e => by have := (h.ktag bw e.symm).1; rw [h.bwt] at this; simp at this), Below.heap_alloc _ _ _ bwl]
  have hc : ∀ j, w9.cell? ⟨bw, j, none⟩ = w.cell? ⟨bw, j, none⟩ := fun j => World.cell?_of_block (w := w) (a := ⟨bw, j, none⟩) hb
  have hf : ∀ j, w9.frozen? ⟨bw, j, none⟩ = w.frozen? ⟨bw, j, none⟩ := fun j => World.frozen?_of_block (w := w) (a := ⟨bw, j, none⟩) hb
  exact ⟨(hc 1).trans c1, (hc 2).trans c2, fun j => (hf j).trans (cf j)⟩
attribute [local go_sem ↓] Go.wp_at_zero Go.wp_at_succ

set_option maxRecDepth 100000 in
set_option maxHeartbeats 8000000 in
theorem routes_any {W : World} {O : Tag} {base bw n : Nat} {lv tv kv bv cv l : Value} {T K : List Value} {L : List RouteD}
    (hblk : W.heap[bw]? = some (.cells #[lv, tv, kv, bv, cv] 31 (0, 0))) (hbw : O bw = (0, 6, 0))
    (ht : W.ownsRow 0 52 1 tv n T) (htt : ∀ b, tv.ownBlock = some b → O b = (0, 7, 1)) (hk : W.ownsRow 0 3 1 kv n K) (hkt : ∀ b, kv.ownBlock = some b → O b = (0, 7, 2))
    (hl : W.ownsRow base 50 4 l L.length (L.flatMap routeCells)) (hlt : ∀ b, l.ownBlock = some b → O b = (0, 9, 0)) (hL : L.length ≤ 64) (hbase : base ≤ W.heap.size) (hn : n ≤ 5864062014800) :
    Calls Tryz.prog 38 #[.pointer (some ⟨bw, 0, none⟩), l] W fun en w' => en = .returned (.tuple #[]) ∧ RoutesPost W O bw n lv tv kv bv cv l T K w' := by
  obtain ⟨ta, tc, rfl, t1, t2⟩ := ownsRow_slice ht
  obtain ⟨ka, kc, rfl, k1, k2⟩ := ownsRow_slice hk
  obtain ⟨la, lc, rfl, l1, l2⟩ := ownsRow_slice hl
  obtain ⟨i0, hi0, hz0, hz1, hz2⟩ := info_parts infoRoute
  obtain ⟨i1, hi1, hy0, hy1, hy2⟩ := info_parts infoTs
  obtain ⟨i2, hi2, hx0, hx1, hx2⟩ := info_parts infoInt
  unfold maxLen at t2 k2 l2
  have c1 : W.cell? ⟨bw, 1, none⟩ = some (.slice ta n tc) := by simp [World.cell?, hblk]
  have bwl : bw < W.heap.size := (Array.getElem?_eq_some_iff.1 hblk).1
  have HBLK := hide hblk
  have HBW := hide hbw
  have HTT := hide htt
  have HKT := hide hkt
  have HLT := hide hlt
  have HT := hide ht
  have HK := hide hk
  have HL := hide hl
  clear hblk ht hk hl hbw htt hkt hlt
  go_enter Tryz.func38, Tryz.ntmps38
  go_wp2_with fail
  refine (mark_any _ _ (by omega) (by omega)).mono ?_
  rintro en w1 ⟨rfl, hw⟩
  have HW := hide hw
  have hz1' := hw.size
  clear hw c1
  go_wp2
  have hbx : Box4 (w1.alloc (.cells #[.int .i64 (-(n : Int)), .int .i64 (n : Int), .int .i64 (-7), .int .i64 (n : Int)] 50)) w1.heap.size ⟨-(n : Int), n, -7, n⟩ := Box4.new w1 ⟨-(n : Int), n, -7, n⟩ _
  have hs2 : Still W (w1.alloc (.cells #[.int .i64 (-(n : Int)), .int .i64 (n : Int), .int .i64 (-7), .int .i64 (n : Int)] 50)) := Kept.alloc (unhide HW) _
  have hs0 : w1.heap.size < (w1.alloc (.cells #[.int .i64 (-(n : Int)), .int .i64 (n : Int), .int .i64 (-7), .int .i64 (n : Int)] 50)).heap.size := by simp
  generalize w1.alloc (.cells #[.int .i64 (-(n : Int)), .int .i64 (n : Int), .int .i64 (-7), .int .i64 (n : Int)] 50) = W2 at *
  generalize w1.heap.size = s0 at *
  have HBX := hide hbx
  have HS2 := hide hs2
  clear hbx hs2 HW
  go_loopw [6] (fun t w' => ∃ i : Nat, i ≤ L.length ∧ t = .int .i64 i ∧ w'.ownsRow base 50 4 (.slice la L.length lc) L.length (enc L.length (mixC n L i)) ∧ Kept (fun b => (Value.slice la L.length lc).ownBlock = some b) W2 w') (fun t _ => L.length - (intOf t).toNat)
  case atStart =>
    refine ⟨0, Nat.zero_le _, rfl, ?_, Kept.refl _ _⟩
    have e : enc L.length (mixC n L 0) = L.flatMap routeCells := by
      rw [flat_enc L rt0]
      exact enc_congr fun j _ => by unfold mixC; rw [if_neg (by omega)]
    rw [e]
    exact ownsRow_of_block (unhide HL) fun b hb => (unhide HS2).heap (ownsRow_lt (unhide HL) hb)
  case round =>
    obtain ⟨i, hi, rfl, hrow, hkp⟩ := hrel
    have HROW := hide hrow
    have HKP := hide hkp
    have hzr := hkp.size
    clear hrow hkp
    by_cases hlt : i < L.length
    · obtain ⟨g, rfl, hg⟩ := ownsRow_some (unhide HL) (by omega)
      have hgs : g ≠ s0 := by omega
      have hsg : s0 ≠ g := Ne.symm hgs
      have hbr := (unhide HBX).kept (unhide HKP) (by show ¬ some g = some s0; simp; omega)
      obtain ⟨_, x0, x1, x2, x3, _⟩ := hbr
      have hi0' : (0 : Int) ≤ (i : Int) := by omega
      have hi1' : (i : Int) < (L.length : Int) := by omega
      obtain ⟨ca, cb, cc, cd, hmx⟩ := mixC_get n L i i
      have q := fun (j : Nat) (hj : j < 4) => ownsRow_cell (unhide HROW) (fun a _ => mixC_len n L i a) hlt hj
      have q0 := (q 0 (by omega)).trans (by rw [hmx]; rfl : _ = some (.int .i64 ca))
      have q1 := (q 1 (by omega)).trans (by rw [hmx]; rfl : _ = some (.int .i64 cb))
      have q2 := (q 2 (by omega)).trans (by rw [hmx]; rfl : _ = some (.int .i64 cc))
      have q3 := (q 3 (by omega)).trans (by rw [hmx]; rfl : _ = some (.int .i64 cd))
      have ff : ∀ j, wr.frozen? ⟨g, j, none⟩ = false := fun j => (unhide HROW).frozenAt j
      rw [Nat.add_zero] at q0
      have HR4 : Hid (((((wr.setCell ⟨g, i * 4, none⟩ (.int .i64 (-(n : Int)))).setCell ⟨g, i * 4 + 1, none⟩ (.int .i64 (n : Int))).setCell ⟨g, i * 4 + 2, none⟩ (.int .i64 (-7))).setCell ⟨g, i * 4 + 3, none⟩ (.int .i64 (n : Int))).ownsRow base 50 4 (.slice (some ⟨g, 0, none⟩) L.length lc) L.length (enc L.length (mixC n L (i + 1)))) := by
        have := ownsRow_store4 (unhide HROW) (fun a _ => mixC_len n L i a) hlt (.int .i64 (-(n : Int))) (.int .i64 (n : Int)) (.int .i64 (-7)) (.int .i64 (n : Int))
        rw [← mixC_step]
        exact this
      have HK4 : Hid (Kept (fun b => (Value.slice (some ⟨g, 0, none⟩) L.length lc).ownBlock = some b) W2 ((((wr.setCell ⟨g, i * 4, none⟩ (.int .i64 (-(n : Int)))).setCell ⟨g, i * 4 + 1, none⟩ (.int .i64 (n : Int))).setCell ⟨g, i * 4 + 2, none⟩ (.int .i64 (-7))).setCell ⟨g, i * 4 + 3, none⟩ (.int .i64 (n : Int)))) :=
        Kept.setCell (p := ⟨g, i * 4 + 3, none⟩) (Kept.setCell (p := ⟨g, i * 4 + 2, none⟩) (Kept.setCell (p := ⟨g, i * 4 + 1, none⟩) (Kept.setCell (p := ⟨g, i * 4, none⟩) (unhide HKP) (.inl rfl) _) (.inl rfl) _) (.inl rfl) _) (.inl rfl) _
      clear q hmx
      go_wp2
      go_roundw
      case rel =>
        exact ⟨i + 1, by omega, by go_num, unhide HR4, unhide HK4⟩
      case measure => simp [intOf]; omega
    · obtain rfl : i = L.length := by omega
      have e : enc L.length (mixC n L L.length) = enc L.length fun _ => markC n := enc_congr fun j hj => by unfold mixC; rw [if_pos hj]
      have hrow2 : wr.ownsRow base 50 4 (.slice la L.length lc) L.length (enc L.length fun _ => markC n) := by rw [← e]; exact unhide HROW
      have hls : Lists W O base s0 (.slice la L.length lc) n wr O (.slice la L.length lc) L.length [.slice la L.length lc] := by
        refine ⟨fun _ _ => rfl, Kept.trans (Still.kept (unhide HS2) _) (unhide HKP), hrow2, fun b hb => ⟨unhide HLT b hb, ?_, .inl hb⟩, by omega, by omega, (unhide HBX).kept (unhide HKP) ?_, fun x hx => ?_, List.mem_singleton.2 rfl⟩
        · have := ownsRow_lt (unhide HL) hb; omega
        · intro hb; have := ownsRow_lt (unhide HL) hb; omega
        · rw [List.mem_singleton] at hx
          subst hx
          exact ⟨FilledR.row hrow2, fun a nx c' e => by simp only [Value.slice.injEq] at e; omega, fun b hb => ⟨ownsRow_lt hrow2 hb, unhide HLT b hb⟩⟩
      obtain ⟨_, x0, x1, x2, x3, _⟩ := hls.box
      have HLS := hide hls
      clear hls hrow2 HROW HKP HBX e
      generalize wr = v0 at *
      go_wp2_with (at_builtin; refine wpList_append_still rfl _ _ _ rfl base 50 i0 _ 4 32 Tryz.underlying52 hi0 hz0 hz1 hz2 rfl (by omega) (.slice la L.length lc) (L.length) _ rfl ((unhide HLS).row.alloc _) ⟨v0.heap.size, 0, none⟩ 1 1 (markC n) rfl rfl (World.news_of_block (cs := #[.int .i64 (-(n : Int)), .int .i64 (n : Int), .int .i64 (-7), .int .i64 (n : Int)]) (t := 50) (fr := (0, 0)) (heap_alloc_new v0 _)) (by simp [markC, Value.oneCell']) (by omega) (by unfold maxLen; omega) (by omega) (by have := (unhide HLS).kept.size; simp; omega) (v0.heap.size + 1) (by simp) ?_; intro g0 cap0 v1 hown hgrow hat hlt; refine unhide ?_)
      refine hide ?_
      obtain ⟨O0, hls⟩ := (unhide HLS).push hown hgrow hat
      obtain ⟨_, x0, x1, x2, x3, _⟩ := hls.box
      have HLS := hide hls
      clear hls hown hgrow hat hlt
      go_wp2_with (at_builtin; refine wpList_append_still rfl _ _ _ rfl base 50 i0 _ 4 32 Tryz.underlying52 hi0 hz0 hz1 hz2 rfl (by omega) (.slice (some ⟨g0, 0, none⟩) (L.length + 1) cap0) (L.length + 1) _ rfl ((unhide HLS).row.alloc _) ⟨v1.heap.size, 0, none⟩ 1 1 (markC n) rfl rfl (World.news_of_block (cs := #[.int .i64 (-(n : Int)), .int .i64 (n : Int), .int .i64 (-7), .int .i64 (n : Int)]) (t := 50) (fr := (0, 0)) (heap_alloc_new v1 _)) (by simp [markC, Value.oneCell']) (by omega) (by unfold maxLen; omega) (by omega) (by have := (unhide HLS).kept.size; simp; omega) (v1.heap.size + 1) (by simp) ?_; intro g1 cap1 v2 hown hgrow hat hlt; refine unhide ?_)
      refine hide ?_
      obtain ⟨O1, hls⟩ := (unhide HLS).push hown hgrow hat
      obtain ⟨_, x0, x1, x2, x3, _⟩ := hls.box
      have HLS := hide hls
      clear hls hown hgrow hat hlt
      go_wp2_with (at_builtin; refine wpList_append_still rfl _ _ _ rfl base 50 i0 _ 4 32 Tryz.underlying52 hi0 hz0 hz1 hz2 rfl (by omega) (.slice (some ⟨g1, 0, none⟩) (L.length + 1 + 1) cap1) (L.length + 1 + 1) _ rfl ((unhide HLS).row.alloc _) ⟨v2.heap.size, 0, none⟩ 1 1 (markC n) rfl rfl (World.news_of_block (cs := #[.int .i64 (-(n : Int)), .int .i64 (n : Int), .int .i64 (-7), .int .i64 (n : Int)]) (t := 50) (fr := (0, 0)) (heap_alloc_new v2 _)) (by simp [markC, Value.oneCell']) (by omega) (by unfold maxLen; omega) (by omega) (by have := (unhide HLS).kept.size; simp; omega) (v2.heap.size + 1) (by simp) ?_; intro g2 cap2 v3 hown hgrow hat hlt; refine unhide ?_)
      refine hide ?_
      obtain ⟨O2, hls⟩ := (unhide HLS).push hown hgrow hat
      obtain ⟨_, x0, x1, x2, x3, _⟩ := hls.box
      have HLS := hide hls
      clear hls hown hgrow hat hlt
      have hmid := (unhide HLS).mid (unhide HBLK) (unhide HBW) (unhide HT) (unhide HTT) (unhide HK) (unhide HKT) (unhide HLT)
      obtain ⟨c1, c2, cf, _⟩ := hmid.cells
      have HMID := hide hmid
      clear hmid x0 x1 x2 x3
      go_wp2_with (at_builtin; refine wpList_append_lies _ rfl _ _ _ rfl 0 52 i1 _ 1 24 Tryz.underlying28 hi1 hy0 hy1 hy2 rfl (by omega) (.slice ta n tc) n _ rfl ((unhide HMID).trow.alloc _) ⟨v3.heap.size, 0, none⟩ 4 4 [.slice la L.length lc, .slice (some ⟨g0, 0, none⟩) (L.length + 1) cap0, .slice (some ⟨g1, 0, none⟩) (L.length + 1 + 1) cap1, .slice (some ⟨g2, 0, none⟩) (L.length + 1 + 1 + 1) cap2] rfl rfl (World.news_of_block (cs := #[.slice la L.length lc, .slice (some ⟨g0, 0, none⟩) (L.length + 1) cap0, .slice (some ⟨g1, 0, none⟩) (L.length + 1 + 1) cap1, .slice (some ⟨g2, 0, none⟩) (L.length + 1 + 1 + 1) cap2]) (t := 52) (fr := (0, 0)) (heap_alloc_new v3 _)) (by simp [Value.oneCell']) (by omega) (by unfold maxLen; omega) (by omega) (Nat.zero_le _) (v3.heap.size + 1) (by simp) ?_; intro g3 cap3 v4 hown hgrow hat hlt; refine unhide ?_)
      refine hide ?_
      obtain ⟨d1, d2, df⟩ := (unhide HMID).grownT hgrow
      obtain ⟨O4, hmid⟩ := (unhide HMID).pushT hown hgrow hat
      have HM4 := hide hmid
      clear hmid hown hgrow hat c1 c2 cf hlt
      go_wp2_with (at_builtin; refine wpList_append_lies _ rfl _ _ _ rfl 0 3 i2 _ 1 8 Tryz.underlying24 hi2 hx0 hx1 hx2 rfl (by omega) (.slice ka n kc) n _ rfl ((unhide HM4).krow.alloc _) _ 4 4 [.int .i64 (n : Int), .int .i64 (n : Int), .int .i64 (n : Int), .int .i64 (n : Int)] rfl rfl (by have hq := heap_alloc_new (v4.setCell ⟨bw, 1, none⟩ (.slice (some ⟨g3, 0, none⟩) (n + 4) cap3)) (.cells #[.int .i64 (n : Int), .int .i64 (n : Int), .int .i64 (n : Int), .int .i64 (n : Int)] 3); rw [World.size_setCell] at hq; exact World.news_of_block hq) (by simp [Value.oneCell']) (by omega) (by unfold maxLen; omega) (by omega) (Nat.zero_le _) ((v4.setCell ⟨bw, 1, none⟩ (.slice (some ⟨g3, 0, none⟩) (n + 4) cap3)).heap.size + 1) (by simp) ?_; intro g4 cap4 v5 hown hgrow hat hlt; refine unhide ?_)
      refine hide ?_
      obtain ⟨e1, e2, ef⟩ := (unhide HM4).grownK hgrow
      obtain ⟨O5, hmid⟩ := (unhide HM4).pushK hown hgrow hat
      have HFIN := hide hmid.post
      clear hmid hown hgrow hat d1 d2 df hlt
      go_wp2
      refine bodyPost_end (v := .tuple #[]) ?_ rfl ⟨rfl, unhide HFIN⟩
      simp [results, Tryz.results38, go_sem]
end Go.Proofs.YtgndledehlilkaaGreat
