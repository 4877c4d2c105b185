/-
  Walks: districtlaw: bytes: an answer that came out is written full by its owner, with three more behind it.
-/
import Derived.Test.YtgndledehlilkaaGreatLawB1M
import Derived.Test.YtgndledehlilkaaGreatPrX1M
namespace Go.Proofs.YtgndledehlilkaaGreat
open Go.RowKit

def signN (k i : Nat) : Int := ((if i % 2 = 0 then k % 256 else k / 256 % 256 : Nat) : Int)
theorem signC_is (k i : Nat) : signC k i = .int .u8 (signN k i) := rfl
def mixB (k : Nat) (F : List Int) (i j : Nat) : List Value := if j < i then [signC k j] else [byteC (F.getD j 0)]
theorem mixB_len (k : Nat) (F : List Int) (i j : Nat) : (mixB k F i j).length = 1 := by unfold mixB; split <;> rfl
theorem mixB_get (k : Nat) (F : List Int) (i j : Nat) : ∃ a : Int, mixB k F i j = [.int .u8 a] := by
  unfold mixB
  split
  · exact ⟨_, rfl⟩
  · exact ⟨_, rfl⟩
theorem enc_bytes (F : List Int) : F.map byteC = enc F.length fun i => [byteC (F.getD i 0)] := by
  unfold enc
  rw [← List.map_eq_flatMap]
  refine List.ext_getElem? fun j => ?_
  rw [List.getElem?_map, List.getElem?_map]
  by_cases h : j < F.length
  · rw [List.getElem?_range h, List.getElem?_eq_getElem h]
    simp [List.getD_eq_getElem?_getD, h]
  · rw [List.getElem?_eq_none (by omega), List.getElem?_eq_none (by simp; omega)]
    rfl
theorem infoTsB : (Tryz.prog.info? 33).map (fun i => (i.zero, i.size, i.bytes)) = some (some (.slice none 0 0), 1, 24) := by kernel_rfl
attribute [local go_sem ↓] Go.wp_at_zero Go.wp_at_succ
set_option maxRecDepth 100000 in
set_option maxHeartbeats 8000000 in
theorem bytes_any {W : World} {O : Tag} {base bw n : Nat} {lv tv kv bv cv l : Value} {T K : List Value} {L : List Int}
    (hblk : W.heap[bw]? = some (.cells #[lv, bv, cv, tv, kv] 31 (0, 0))) (hbw : O bw = (0, 6, 0))
    (ht : W.ownsRow 0 33 1 tv n T) (htt : ∀ b, tv.ownBlock = some b → O b = (0, 7, 3)) (hk : W.ownsRow 0 3 1 kv n K) (hkt : ∀ b, kv.ownBlock = some b → O b = (0, 7, 4))
    (hl : W.ownsRow base 5 1 l L.length (L.map byteC)) (hlt : ∀ b, l.ownBlock = some b → O b = (0, 9, 0)) (hL : L.length ≤ 1000) (hbase : base ≤ W.heap.size) (hn : n ≤ 5864062014800) :
    Calls Tryz.prog 47 #[.pointer (some ⟨bw, 0, none⟩), l] W fun en w' => en = .returned (.tuple #[]) ∧ BytesPost W O bw n lv tv kv bv cv l T K w' := by
  obtain ⟨ta, tc, rfl, t1, t2⟩ := ownsRow_slice ht
  obtain ⟨ka, kc, rfl, k1, k2⟩ := ownsRow_slice hk
  obtain ⟨la, lc, rfl, l1, l2⟩ := ownsRow_slice hl
  obtain ⟨i0, hi0, hz0, hz1, hz2⟩ := info_parts infoByteX
  obtain ⟨i1, hi1, hy0, hy1, hy2⟩ := info_parts infoTsB
  obtain ⟨i2, hi2, hx0, hx1, hx2⟩ := info_parts infoInt
  unfold maxLen at t2 k2 l2
  have c3 : W.cell? ⟨bw, 3, none⟩ = some (.slice ta n tc) := by simp [World.cell?, hblk]
  have bwl : bw < W.heap.size := (Array.getElem?_eq_some_iff.1 hblk).1
  rw [enc_bytes] at hl
  have HBLK := hide hblk
  have HBW := hide hbw
  have HTT := hide htt
  have HKT := hide hkt
  have HLT := hide hlt
  have HT := hide ht
  have HK := hide hk
  have HL := hide hl
  clear hblk ht hk hl hbw htt hkt hlt
  go_enter Tryz.func47, Tryz.ntmps47
  go_wp2
  go_loopw [6] (fun t w' => ∃ i : Nat, i ≤ L.length ∧ t = .int .i64 i ∧ w'.ownsRow base 5 1 (.slice la L.length lc) L.length (enc L.length (mixB n L i)) ∧ Kept (fun b => (Value.slice la L.length lc).ownBlock = some b) W w') (fun t _ => L.length - (intOf t).toNat)
  case atStart =>
    refine ⟨0, Nat.zero_le _, rfl, ?_, Kept.refl _ _⟩
    have e : enc L.length (mixB n L 0) = enc L.length fun i => [byteC (L.getD i 0)] := enc_congr fun j _ => by unfold mixB; rw [if_neg (by omega)]
    rw [e]
    exact unhide HL
  case round =>
    obtain ⟨i, hi, rfl, hrow, hkp⟩ := hrel
    have HROW := hide hrow
    have HKP := hide hkp
    have hzr := hkp.size
    clear hrow hkp
    by_cases hlt : i < L.length
    · obtain ⟨g, rfl, hg⟩ := ownsRow_some (unhide HL) (by omega)
      have hi0' : (0 : Int) ≤ (i : Int) := by omega
      have hi1' : (i : Int) < (L.length : Int) := by omega
      obtain ⟨ca, hmx⟩ := mixB_get n L i i
      have q0 : wr.cell? ⟨g, i, none⟩ = some (.int .u8 ca) := by
        have := ownsRow_cell (unhide HROW) (fun a _ => mixB_len n L i a) hlt (j := 0) (by omega)
        rw [hmx] at this
        simpa using this
      have ff : ∀ j, wr.frozen? ⟨g, j, none⟩ = false := fun j => (unhide HROW).frozenAt j
      have HR4 : Hid ((wr.setCell ⟨g, i, none⟩ (.int .u8 (signN n i))).ownsRow base 5 1 (.slice (some ⟨g, 0, none⟩) L.length lc) L.length (enc L.length (mixB n L (i + 1)))) := by
        have := ownsRow_store (unhide HROW) (fun a _ => mixB_len n L i a) (i := i) (j := 0) (u := .int .u8 (signN n i)) (f' := mixB n L (i + 1)) hlt (by omega) (by
          rw [hmx]
          unfold mixB
          rw [if_pos (by omega)]
          rfl) (fun k _ hk => by
          unfold mixB
          by_cases h : k < i
          · rw [if_pos h, if_pos (by omega)]
          · rw [if_neg h, if_neg (by omega)])
        refine hide ?_
        simpa using this
      have HK4 : Hid (Kept (fun b => (Value.slice (some ⟨g, 0, none⟩) L.length lc).ownBlock = some b) W (wr.setCell ⟨g, i, none⟩ (.int .u8 (signN n i)))) :=
        Kept.setCell (p := ⟨g, i, none⟩) (unhide HKP) (.inl rfl) _
      have HSG : Hid (Calls Tryz.prog 19 #[.int .i64 (n : Int), .int .i64 (i : Int)] wr fun en w' => en = .returned (.int .u8 (signN n i)) ∧ w' = wr) := sign_any n i wr (by omega) (by omega)
      generalize signN n i = sg at *
      clear hmx
      go_wp2_with (go_at_call 19; refine (unhide HSG).mono ?_; rintro en w1 ⟨rfl, hw⟩; replace hw := hw.symm; subst hw)
      go_roundw
      case rel => exact ⟨i + 1, by omega, by go_num, unhide HR4, unhide HK4⟩
      case measure => simp [intOf]; omega
    · obtain rfl : i = L.length := by omega
      have e : enc L.length (mixB n L L.length) = enc L.length fun i => [signC n i] := enc_congr fun j hj => by unfold mixB; rw [if_pos hj]
      have hrow2 : wr.ownsRow base 5 1 (.slice la L.length lc) L.length (enc L.length fun i => [signC n i]) := by rw [← e]; exact unhide HROW
      have hls : ListsB W O base (.slice la L.length lc) n wr O (.slice la L.length lc) L.length [.slice la L.length lc] := by
        refine ⟨fun _ _ => rfl, unhide HKP, hrow2, fun b hb => ⟨unhide HLT b hb, .inl hb⟩, fun x hx => ?_, List.mem_singleton.2 rfl⟩
        rw [List.mem_singleton] at hx
        subst hx
        exact ⟨FilledB.row hrow2, fun a nx c' e => by simp only [Value.slice.injEq] at e; omega, fun b hb => ⟨ownsRow_lt hrow2 hb, unhide HLT b hb⟩⟩
      have HS0 : Hid (∀ w, Calls Tryz.prog 19 #[.int .i64 (n : Int), .int .i64 (L.length : Int)] w fun en w' => en = .returned (.int .u8 (signN n L.length)) ∧ w' = w) := fun w => sign_any n L.length w (by omega) (by omega)
      have HS1 : Hid (∀ w, Calls Tryz.prog 19 #[.int .i64 (n : Int), .int .i64 ((L.length : Int) + 1)] w fun en w' => en = .returned (.int .u8 (signN n (L.length + 1))) ∧ w' = w) := fun w => sign_any n (L.length + 1) w (by omega) (by omega)
      have HS2 : Hid (∀ w, Calls Tryz.prog 19 #[.int .i64 (n : Int), .int .i64 ((L.length : Int) + 2)] w fun en w' => en = .returned (.int .u8 (signN n (L.length + 1 + 1))) ∧ w' = w) := fun w => sign_any n (L.length + 2) w (by omega) (by omega)
      have e0 := hide (signC_is n L.length)
      have e1 := hide (signC_is n (L.length + 1))
      have e2 := hide (signC_is n (L.length + 1 + 1))
      have HLS := hide hls
      clear hls hrow2 HROW HKP e
      generalize signN n L.length = g0s at *
      generalize signN n (L.length + 1) = g1s at *
      generalize signN n (L.length + 1 + 1) = g2s at *
      generalize wr = v0 at *
      go_wp2_with fail
      refine (unhide HS0 _).mono ?_
      rintro en w1 ⟨rfl, hw⟩
      replace hw := hw.symm
      subst hw
      go_wp2_with (at_builtin; refine wpList_append_still rfl _ _ _ rfl base 5 i0 _ 1 1 Tryz.underlying33 hi0 hz0 hz1 hz2 rfl (by omega) (.slice la L.length lc) (L.length) _ rfl ((unhide HLS).row.alloc _) ⟨v0.heap.size, 0, none⟩ 1 1 [.int .u8 g0s] rfl rfl (World.news_of_block (cs := #[.int .u8 g0s]) (t := 5) (fr := (0, 0)) (heap_alloc_new v0 _)) (by simp [Value.oneCell']) (by omega) (by unfold maxLen; omega) (by omega) (by have := (unhide HLS).kept.size; simp; omega) (v0.heap.size + 1) (by simp) ?_; intro g0 cap0 v1 hown hgrow hat hlt; refine unhide ?_)
      refine hide ?_
      rw [← unhide e0] at hown
      obtain ⟨O0, hls⟩ := (unhide HLS).push hown hgrow hat
      have HLS := hide hls
      clear hls hown hgrow hat hlt
      go_wp2_with fail
      refine (unhide HS1 _).mono ?_
      rintro en w1 ⟨rfl, hw⟩
      replace hw := hw.symm
      subst hw
      go_wp2_with (at_builtin; refine wpList_append_still rfl _ _ _ rfl base 5 i0 _ 1 1 Tryz.underlying33 hi0 hz0 hz1 hz2 rfl (by omega) (.slice (some ⟨g0, 0, none⟩) (L.length + 1) cap0) (L.length + 1) _ rfl ((unhide HLS).row.alloc _) ⟨v1.heap.size, 0, none⟩ 1 1 [.int .u8 g1s] rfl rfl (World.news_of_block (cs := #[.int .u8 g1s]) (t := 5) (fr := (0, 0)) (heap_alloc_new v1 _)) (by simp [Value.oneCell']) (by omega) (by unfold maxLen; omega) (by omega) (by have := (unhide HLS).kept.size; simp; omega) (v1.heap.size + 1) (by simp) ?_; intro g1 cap1 v2 hown hgrow hat hlt; refine unhide ?_)
      refine hide ?_
      rw [← unhide e1] at hown
      obtain ⟨O1, hls⟩ := (unhide HLS).push hown hgrow hat
      have HLS := hide hls
      clear hls hown hgrow hat hlt
      go_wp2_with fail
      refine (unhide HS2 _).mono ?_
      rintro en w1 ⟨rfl, hw⟩
      replace hw := hw.symm
      subst hw
      go_wp2_with (at_builtin; refine wpList_append_still rfl _ _ _ rfl base 5 i0 _ 1 1 Tryz.underlying33 hi0 hz0 hz1 hz2 rfl (by omega) (.slice (some ⟨g1, 0, none⟩) (L.length + 1 + 1) cap1) (L.length + 1 + 1) _ rfl ((unhide HLS).row.alloc _) ⟨v2.heap.size, 0, none⟩ 1 1 [.int .u8 g2s] rfl rfl (World.news_of_block (cs := #[.int .u8 g2s]) (t := 5) (fr := (0, 0)) (heap_alloc_new v2 _)) (by simp [Value.oneCell']) (by omega) (by unfold maxLen; omega) (by omega) (by have := (unhide HLS).kept.size; simp; omega) (v2.heap.size + 1) (by simp) ?_; intro g2 cap2 v3 hown hgrow hat hlt; refine unhide ?_)
      refine hide ?_
      rw [← unhide e2] at hown
      obtain ⟨O2, hls⟩ := (unhide HLS).push hown hgrow hat
      have HLS := hide hls
      clear hls hown hgrow hat hlt
      have hmid := (unhide HLS).mid (unhide HBLK) (unhide HBW) (unhide HT) (unhide HTT) (unhide HK) (unhide HKT) (unhide HLT)
      obtain ⟨c1, c2, cf, _⟩ := hmid.cells
      have HMID := hide hmid
      clear hmid
      go_wp2_with (at_builtin; refine wpList_append_lies _ rfl _ _ _ rfl 0 33 i1 _ 1 24 Tryz.underlying29 hi1 hy0 hy1 hy2 rfl (by omega) (.slice ta n tc) n _ rfl ((unhide HMID).trow.alloc _) ⟨v3.heap.size, 0, none⟩ 4 4 [.slice la L.length lc, .slice (some ⟨g0, 0, none⟩) (L.length + 1) cap0, .slice (some ⟨g1, 0, none⟩) (L.length + 1 + 1) cap1, .slice (some ⟨g2, 0, none⟩) (L.length + 1 + 1 + 1) cap2] rfl rfl (World.news_of_block (cs := #[.slice la L.length lc, .slice (some ⟨g0, 0, none⟩) (L.length + 1) cap0, .slice (some ⟨g1, 0, none⟩) (L.length + 1 + 1) cap1, .slice (some ⟨g2, 0, none⟩) (L.length + 1 + 1 + 1) cap2]) (t := 33) (fr := (0, 0)) (heap_alloc_new v3 _)) (by simp [Value.oneCell']) (by omega) (by unfold maxLen; omega) (by omega) (Nat.zero_le _) (v3.heap.size + 1) (by simp) ?_; intro g3 cap3 v4 hown hgrow hat hlt; refine unhide ?_)
      refine hide ?_
      obtain ⟨d1, d2, df⟩ := (unhide HMID).grownT hgrow
      obtain ⟨O4, hmid⟩ := (unhide HMID).pushT hown hgrow hat
      have HM4 := hide hmid
      clear hmid hown hgrow hat c1 c2 cf hlt
      go_wp2_with (at_builtin; refine wpList_append_lies _ rfl _ _ _ rfl 0 3 i2 _ 1 8 Tryz.underlying24 hi2 hx0 hx1 hx2 rfl (by omega) (.slice ka n kc) n _ rfl ((unhide HM4).krow.alloc _) _ 4 4 [.int .i64 (n : Int), .int .i64 (n : Int), .int .i64 (n : Int), .int .i64 (n : Int)] rfl rfl (by have hq := heap_alloc_new (v4.setCell ⟨bw, 3, none⟩ (.slice (some ⟨g3, 0, none⟩) (n + 4) cap3)) (.cells #[.int .i64 (n : Int), .int .i64 (n : Int), .int .i64 (n : Int), .int .i64 (n : Int)] 3); rw [World.size_setCell] at hq; exact World.news_of_block hq) (by simp [Value.oneCell']) (by omega) (by unfold maxLen; omega) (by omega) (Nat.zero_le _) ((v4.setCell ⟨bw, 3, none⟩ (.slice (some ⟨g3, 0, none⟩) (n + 4) cap3)).heap.size + 1) (by simp) ?_; intro g4 cap4 v5 hown hgrow hat hlt; refine unhide ?_)
      refine hide ?_
      obtain ⟨e1, e2, ef⟩ := (unhide HM4).grownK hgrow
      obtain ⟨O5, hmid⟩ := (unhide HM4).pushK hown hgrow hat
      have HFIN := hide hmid.post
      clear hmid hown hgrow hat d1 d2 df hlt
      go_wp2
      refine bodyPost_end (v := .tuple #[]) ?_ rfl ⟨rfl, unhide HFIN⟩
      simp [results, Tryz.results47, go_sem]
end Go.Proofs.YtgndledehlilkaaGreat
