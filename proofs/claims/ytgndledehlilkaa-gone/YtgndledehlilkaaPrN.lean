/-
  Walks: district: table.
-/
import Derived.Test.YtgndledehlilkaaPrM
namespace Go.Proofs.Ytgndledehlilkaa
open Go.RowKit

/-- The table behind k offers, how many were taken, how many found no room. -/
def tabTo (own off : List RouteD) (quota : Int) : Nat → List RouteD × Nat × Nat
  | 0 => (own, 0, 0)
  | k + 1 => if hasP (tabTo own off quota k).1 (pad off k) = true ∨ (((tabTo own off quota k).1.length : Int) < quota ∧ (tabTo own off quota k).1.length < 64) then (putL (tabTo own off quota k).1 (pad off k), (tabTo own off quota k).2.1 + 1, (tabTo own off quota k).2.2)
    else ((tabTo own off quota k).1, (tabTo own off quota k).2.1, (tabTo own off quota k).2.2 + 1)
theorem Good.tab {own off : List RouteD} {quota : Int} (h1 : Good own) (h2 : Good off) : ∀ k, k ≤ off.length → Good (tabTo own off quota k).1
  | 0, _ => h1
  | k + 1, h => by
    unfold tabTo
    split
    · exact (Good.tab h1 h2 k (by omega)).put (by rw [pad_lt (by omega)]; exact h2.route _ (List.getElem_mem _))
    · exact Good.tab h1 h2 k (by omega)
theorem tabTo_sum (own off : List RouteD) (quota : Int) : ∀ k, (tabTo own off quota k).2.1 + (tabTo own off quota k).2.2 = k
  | 0 => rfl
  | k + 1 => by
    have := tabTo_sum own off quota k
    unfold tabTo
    split
    · show (tabTo own off quota k).2.1 + 1 + (tabTo own off quota k).2.2 = k + 1; omega
    · show (tabTo own off quota k).2.1 + ((tabTo own off quota k).2.2 + 1) = k + 1; omega
/-- Sums in a block of their own. -/
structure SumAt (w : World) (s : Nat) (a b c d : Int) : Prop where
  lt : s < w.heap.size
  fz : ∀ j, w.frozen? ⟨s, j, none⟩ = false
  c0 : w.cell? ⟨s, 0, none⟩ = some (.int .i64 a)
  c1 : w.cell? ⟨s, 1, none⟩ = some (.int .i64 b)
  c2 : w.cell? ⟨s, 2, none⟩ = some (.int .i64 c)
  c3 : w.cell? ⟨s, 3, none⟩ = some (.int .i64 d)
theorem SumAt.new (w : World) (a b c d : Int) (t : TypeId) : SumAt (w.alloc (.cells #[.int .i64 a, .int .i64 b, .int .i64 c, .int .i64 d] t)) w.heap.size a b c d := by
  refine ⟨by simp, fun j => World.frozen?_alloc_new _ _ _ _, ?_, ?_, ?_, ?_⟩ <;> rw [World.cell?_alloc_new] <;> rfl
theorem SumAt.kept {w w' : World} {s : Nat} {a b c d : Int} {P : Nat → Prop} (h : SumAt w s a b c d) (hk : Kept P w w') (hp : ¬ P s) : SumAt w' s a b c d :=
  ⟨Nat.lt_of_lt_of_le h.lt hk.size, fun j => (hk.frozen (p := ⟨s, j, none⟩) h.lt hp).trans (h.fz j), (hk.cell (p := ⟨s, 0, none⟩) h.lt hp).trans h.c0, (hk.cell (p := ⟨s, 1, none⟩) h.lt hp).trans h.c1, (hk.cell (p := ⟨s, 2, none⟩) h.lt hp).trans h.c2, (hk.cell (p := ⟨s, 3, none⟩) h.lt hp).trans h.c3⟩
theorem SumAt.set1 {w : World} {s : Nat} {a b c d : Int} (h : SumAt w s a b c d) (v : Int) : SumAt (w.setCell ⟨s, 1, none⟩ (.int .i64 v)) s a v c d :=
  ⟨by simpa using h.lt, fun j => by simpa using h.fz j, by rw [off_cell _ _ _ (by omega)]; exact h.c0, World.cell?_setCell_same _ _ _ h.c1, by rw [off_cell _ _ _ (by omega)]; exact h.c2, by rw [off_cell _ _ _ (by omega)]; exact h.c3⟩
theorem SumAt.set2 {w : World} {s : Nat} {a b c d : Int} (h : SumAt w s a b c d) (v : Int) : SumAt (w.setCell ⟨s, 2, none⟩ (.int .i64 v)) s a b v d :=
  ⟨by simpa using h.lt, fun j => by simpa using h.fz j, by rw [off_cell _ _ _ (by omega)]; exact h.c0, by rw [off_cell _ _ _ (by omega)]; exact h.c1, World.cell?_setCell_same _ _ _ h.c2, by rw [off_cell _ _ _ (by omega)]; exact h.c3⟩
theorem SumAt.range {w : World} {s : Nat} {a b c d : Int} (h : SumAt w s a b c d) : w.rangeAt s 0 [.int .i64 a, .int .i64 b, .int .i64 c, .int .i64 d] := by
  intro j v hv
  rw [Nat.zero_add]
  rcases j with _ | _ | _ | _ | j
  · simp at hv; rw [← hv]; exact h.c0
  · simp at hv; rw [← hv]; exact h.c1
  · simp at hv; rw [← hv]; exact h.c2
  · simp at hv; rw [← hv]; exact h.c3
  · simp at hv
theorem listCells_mem (n : Nat) (f : Nat → RouteD) : ∀ v ∈ listCells n f, v.oneCell' = true := fun v hv => (Array.all_eq_true_iff_forall_mem.1 (listCells_one n f)) v (by simpa using hv)
set_option maxRecDepth 100000 in
set_option maxHeartbeats 4000000 in
theorem table_any {w : World} {b : Nat} {p : ProgS} (h : XAt w b p) (hk : ProgOk p) {t : Nat} (ht : t < 8) :
    Calls Try.prog 38 #[.pointer (some ⟨b, 0, none⟩), .int .i64 (t : Int)] w fun en w' =>
      en = .returned (.tuple #[.agg (listCells (tabTo (p.own t) (offTo p t 8) (p.quota t) (offTo p t 8).length).1.length (pad (tabTo (p.own t) (offTo p t 8) (p.quota t) (offTo p t 8).length).1)).toArray,
        .agg #[.int .i64 ((p.own t).length : Int), .int .i64 ((tabTo (p.own t) (offTo p t 8) (p.quota t) (offTo p t 8).length).2.1 : Int), .int .i64 ((tabTo (p.own t) (offTo p t 8) (p.quota t) (offTo p t 8).length).2.2 : Int), .int .i64 (p.quota t)]]) ∧ (tabTo (p.own t) (offTo p t 8) (p.quota t) (offTo p t 8).length).1.length ≤ 64 ∧ Still w w' := by
  have hb := h.lt
  have hS1 : Still w ((w.alloc (.cells Try.zeroCells83 83)).alloc (.cells #[.int .i64 0, .int .i64 0, .int .i64 0, .int .i64 0] 32)) := ((Kept.refl _ _).alloc _).alloc _
  have HX := hide (h.still hS1)
  have ht0 : (0 : Int) ≤ (t : Int) := by omega
  have ht8 : (t : Int) < 8 := by omega
  have HS1 := hide hS1
  have HZ4 := hide ((LAt.zero w).still ((Kept.refl _ (w.alloc (.cells Try.zeroCells83 83))).alloc (.cells #[.int .i64 0, .int .i64 0, .int .i64 0, .int .i64 0] 32)))
  have HZ5 := hide (SumAt.new (w.alloc (.cells Try.zeroCells83 83)) 0 0 0 0 32)
  have HK := hide hk
  clear h hS1 hk
  go_enter Try.func38, Try.ntmps38
  go_wp2_with (refine wpList_load_mid rfl 83 _ rfl _ _ rfl (listCells (p.own t).length (pad (p.own t))) _ ((unhide HX).ow t ht).range Try.underlying83 rfl (infoList' _ _) (unhide ?_))
  refine hide ?_
  have hz5 : SumAt ((w.alloc (.cells Try.zeroCells83 83)).alloc (.cells #[.int .i64 0, .int .i64 0, .int .i64 0, .int .i64 0] 32)) (w.heap.size + 1) 0 0 0 0 := by
    have h5 := unhide HZ5
    rw [show (w.alloc (.cells Try.zeroCells83 83)).heap.size = w.heap.size + 1 from by simp] at h5
    exact h5
  have H5 := hide hz5
  clear HZ5 hz5
  generalize hsz : w.heap.size = s at *
  generalize (w.alloc (.cells Try.zeroCells83 83)).alloc (.cells #[.int .i64 0, .int .i64 0, .int .i64 0, .int .i64 0] 32) = V at *
  have hZV := LAt.zero V
  have hmo := ((unhide HX).ow t ht).most
  have HLV := hide (hZV.stored hmo (pad (p.own t)))
  have HSV : Hid (Still V ((V.alloc (.cells Try.zeroCells83 83)).setCells V.heap.size 0 (listCells (p.own t).length (pad (p.own t))).toArray.toList)) := Kept.setCells ((Kept.refl _ _).alloc _) (.inr (Nat.le_refl _)) _ _
  have HZV := hide hZV
  clear hZV
  go_wp2_with (refine wpList_store_mid rfl 83 _ _ rfl _ _ (listCells (p.own t).length (pad (p.own t))).toArray rfl rfl ((unhide HZV).there _ _) (infoList'' _ _) (listCells_one _ _) (unhide ?_))
  refine hide ?_
  have b5 := (unhide H5).lt
  have v5 : V.heap.size = V.heap.size := rfl
  generalize hs6 : V.heap.size = s6 at *
  generalize (V.alloc (.cells Try.zeroCells83 83)).setCells s6 0 (listCells (p.own t).length (pad (p.own t))).toArray.toList = W at *
  have hxW := (unhide HX).still (unhide HSV)
  have cq := hxW.quota t ht
  have hbW := hxW.lt
  have hlW : LAt W.drew s6 0 (p.own t).length (pad (p.own t)) := (unhide HLV).still ((Kept.refl _ _).drew)
  have HXW := hide hxW
  have HLW := hide hlW
  clear hxW hlW v5
  have HLW2 : Hid (LAt (W.alloc (.cells #[.int .i64 0, .int .i64 0, .int .i64 0, .int .i64 0] 32)).drew s6 0 (p.own t).length (pad (p.own t))) := (unhide HLV).still ((Kept.refl _ _).alloc _).drew
  go_wp2_with fail
  go_region_held3 (fun w' => w'.cell? ⟨b, 1 + t * 281, none⟩ = some (.int .i64 (p.quota t))) (first | go_keep) ((go_at_call 57; refine (len_any (by first | exact unhide HLW | exact unhide HLW2)).mono ?_; rintro e w3 ⟨rfl, hw3⟩; replace hw3 := hw3.symm; subst hw3))
  all_goals
    have hs3 : Still W (W.alloc (.cells #[.int .i64 ((p.own t).length : Int), .int .i64 0, .int .i64 0, .int .i64 (p.quota t)] 32)).drew := ((Kept.refl _ _).alloc _).drew
    have hsm3 := (SumAt.new W ((p.own t).length : Int) 0 0 (p.quota t) 32).kept (P := fun _ => False) ((Kept.refl _ _).drew) (fun q => q)
    have hx3 := (unhide HXW).still hs3
    have hl3 := (unhide HLV).still hs3
    have b6 := (unhide HLV).lt
    generalize hs7 : W.heap.size = s7 at *
    generalize (W.alloc (.cells #[.int .i64 ((p.own t).length : Int), .int .i64 0, .int .i64 0, .int .i64 (p.quota t)] 32)).drew = X3 at *
    have HS3 := hide hs3
    have HSM3 := hide hsm3
    have HX3 := hide hx3
    have HL3 := hide hl3
    clear hs3 hsm3 hx3 hl3 HLW HLW2 HXW HLV
    go_wp2_with fail
    refine (offers_any (unhide HX3) (unhide HK) ht).mono ?_
    rintro e w4 ⟨rfl, ho64, hs4⟩
    have HGO := hide (Good.off (unhide HK) t 8 (Nat.le_refl _))
    generalize hoff : offTo p t 8 = off at *
    have HOFF := hide hoff
    clear hoff
    have hz8 := LAt.zero w4
    have HS8 : Hid (Still X3 ((w4.alloc (.cells Try.zeroCells83 83)).setCells w4.heap.size 0 (listCells off.length (pad off)).toArray.toList)) := hs4.trans (Kept.setCells ((Kept.refl _ _).alloc _) (.inr (Nat.le_refl _)) _ _)
    have HL8 := hide (hz8.stored ho64 (pad off))
    have HZ8 := hide hz8
    have b4 := hs4.size
    have b7 := (unhide HSM3).lt
    clear hs4 hz8
    go_wp2_with (refine wpList_store_mid rfl 83 _ _ rfl _ _ (listCells off.length (pad off)).toArray rfl rfl ((unhide HZ8).there _ _) (infoList'' _ _) (listCells_one _ _) (unhide ?_))
    refine hide ?_
    generalize hs8 : w4.heap.size = s8 at *
    generalize (w4.alloc (.cells Try.zeroCells83 83)).setCells s8 0 (listCells off.length (pad off)).toArray.toList = X8 at *
    have HL68 := hide ((unhide HL3).still (unhide HS8))
    have HSM8 := hide ((unhide HSM3).kept (unhide HS8) (fun q => q))
    clear HL3 HSM3 HZ8
    have HGW : Hid (Good (p.own t)) := ⟨(unhide HK).sorted t ht, (unhide HK).route t ht⟩
    generalize hown : p.own t = own at *
    generalize hqt : p.quota t = quota at *
    have HOWN := hide hown
    have HQT := hide hqt
    clear hown hqt
    have hne67 : s6 ≠ s7 := by omega
    have hne68 : s6 ≠ s8 := by omega
    have hne78 : s7 ≠ s8 := by omega
    have hS8w : Still w X8 := (((unhide HS1).trans (unhide HSV)).trans (unhide HS3)).trans (unhide HS8)
    have hz4 := (((unhide HZ4).still (unhide HSV)).still (unhide HS3)).still (unhide HS8)
    have hb5 := (((unhide H5).kept (unhide HSV) (fun q => q)).kept (unhide HS3) (fun q => q)).kept (unhide HS8) (fun q => q)
    have HS8W := hide hS8w
    have HZ4' := hide hz4
    have H5' := hide hb5
    clear hS8w hz4 hb5 HZ4 H5
    go_wp2
    go_loopw [9] (fun i w' => ∃ k : Nat, k ≤ off.length ∧ i = .int .i64 k ∧ LAt w' s6 0 (tabTo own off quota k).1.length (pad (tabTo own off quota k).1) ∧ SumAt w' s7 (own.length : Int) ((tabTo own off quota k).2.1 : Int) ((tabTo own off quota k).2.2 : Int) quota ∧ LAt w' s8 0 off.length (pad off) ∧ Kept (fun x => x = s6 ∨ x = s7) X8 w') (fun i _ => off.length - (intOf i).toNat)
    case atStart => exact ⟨0, Nat.zero_le _, rfl, unhide HL68, unhide HSM8, unhide HL8, Kept.refl _ _⟩
    case round =>
      obtain ⟨k, hk, rfl, hlk, hsk, h8k, hkp⟩ := hrel
      have HLK := hide hlk
      have HSK := hide hsk
      have H8K := hide h8k
      have HKP := hide hkp
      have z6 := hlk.lt
      have z7 := hsk.lt
      have hsum := tabTo_sum own off quota k
      clear hlk hsk h8k hkp
      by_cases hlt : k < off.length
      · have hok : okRoute (pad off k) := by rw [pad_lt hlt]; exact (unhide HGO).route _ (List.getElem_mem _)
        have HOK := hide hok
        have HGT := hide ((unhide HGW).tab (quota := quota) (unhide HGO) k hk)
        have hstep : tabTo own off quota (k + 1) = if hasP (tabTo own off quota k).1 (pad off k) = true ∨ (((tabTo own off quota k).1.length : Int) < quota ∧ (tabTo own off quota k).1.length < 64) then (putL (tabTo own off quota k).1 (pad off k), (tabTo own off quota k).2.1 + 1, (tabTo own off quota k).2.2)
          else ((tabTo own off quota k).1, (tabTo own off quota k).2.1, (tabTo own off quota k).2.2 + 1) := rfl
        have HST := hide hstep
        clear hok hstep
        go_wp2_with fail
        refine (len_any (unhide H8K)).mono ?_
        rintro e w1 ⟨rfl, hw1⟩
        replace hw1 := hw1.symm
        subst hw1
        go_wp2_with fail
        refine (at_any (unhide H8K) hlt).mono ?_
        rintro e w1 ⟨rfl, hs1⟩
        generalize hxx : pad off k = x at *
        have HXX := hide hxx
        clear hxx
        generalize htt : tabTo own off quota k = tk at *
        have HTT := hide htt
        clear htt
        obtain ⟨tb, tkn, drp⟩ := tk
        simp only at HLK HSK hsum HGT HST
        have hSV : Still wr (w1.alloc (.cells #[.int .i64 x.addr, .int .i64 x.len, .int .i64 x.hop, .int .i64 x.from_] 34)) := Kept.alloc hs1 _
        have hBV := BoxX.new w1 x 34
        have hsv := (unhide HSK).kept hSV (fun q => q)
        have c3 := hsv.c3
        have l7 := hsv.lt
        have HSV' := hide hSV
        clear hSV hs1
        go_wp2_with fail
        clear hBV c3 l7
        generalize w1.alloc (.cells #[.int .i64 x.addr, .int .i64 x.len, .int .i64 x.hop, .int .i64 x.from_] 34) = Y at *
        refine (put_fn ((unhide HLK).still (unhide HSV')) (unhide HGT).sorted (unhide HGT).route (unhide HOK) quota).mono ?_
        rintro e w5 ⟨hwi, hc5⟩
        have hs5 := hsv.kept hwi.kept (by show ¬ s7 = s6; omega)
        have d1 := hs5.c1
        have d2 := hs5.c2
        have fz7 := hs5.fz
        have l75 := hs5.lt
        have h85 : LAt w5 s8 0 off.length (pad off) := ((unhide H8K).still (unhide HSV')).frame (Nat.lt_of_lt_of_le ((unhide H8K).still (unhide HSV')).lt hwi.kept.size) (hwi.kept.block s8 ((unhide H8K).still (unhide HSV')).lt (by omega))
        have hk5 : Kept (fun x => x = s6 ∨ x = s7) X8 w5 := ((unhide HKP).trans (Still.kept (unhide HSV') _)).trans (Kept.mono hwi.kept (fun i _ q => .inl q))
        have H85 := hide h85
        have HK5 := hide hk5
        have HS5 := hide hs5
        clear hs5 h85 hk5 hwi hsv
        have hcase : (e = .returned (.int .i64 0) ∧ LAt w5 s6 0 (putL tb x).length (pad (putL tb x)) ∧ tabTo own off quota (k + 1) = (putL tb x, tkn + 1, drp)) ∨ (e = .returned (.int .i64 8) ∧ LAt w5 s6 0 tb.length (pad tb) ∧ tabTo own off quota (k + 1) = (tb, tkn, drp + 1)) := by
          rw [unhide HST]
          rcases hc5 with ⟨h1, rfl, h3, h4⟩ | ⟨h1, h2, rfl, h3⟩ | ⟨h1, h2, h3, rfl, h4, h5⟩
          · exact .inl ⟨rfl, h3, if_pos (.inl h1)⟩
          · refine .inr ⟨rfl, h3, if_neg ?_⟩
            rw [h1]
            simp
            omega
          · exact .inl ⟨rfl, h4, if_pos (.inr ⟨h2, h3⟩)⟩
        clear hc5 HST
        rcases hcase with ⟨rfl, hq6, het⟩ | ⟨rfl, hq6, het⟩
        · have HQ6 := hide hq6
          have HET := hide het
          clear hq6 het
          go_wp2
          go_roundw
          case rel =>
            refine ⟨k + 1, by omega, by go_num, ?_, ?_, ?_, ?_⟩
            · rw [unhide HET]
              exact (unhide HQ6).frame (by simpa using (unhide HQ6).lt) (Below.heap_setCell _ _ _ _ (by show s6 ≠ s7; omega))
            · rw [unhide HET]
              have := (unhide HS5).set1 ((tkn : Int) + 1)
              rw [show ((tkn + 1 : Nat) : Int) = (tkn : Int) + 1 from by omega]
              exact this
            · exact (unhide H85).frame (by simpa using (unhide H85).lt) (Below.heap_setCell _ _ _ _ (by show s8 ≠ s7; omega))
            · exact Kept.setCell (unhide HK5) (p := ⟨s7, 1, none⟩) (.inl (.inr rfl)) _
          case measure => simp [intOf]; omega
        · have HQ6 := hide hq6
          have HET := hide het
          clear hq6 het
          go_wp2
          go_roundw
          case rel =>
            refine ⟨k + 1, by omega, by go_num, ?_, ?_, ?_, ?_⟩
            · rw [unhide HET]
              exact (unhide HQ6).frame (by simpa using (unhide HQ6).lt) (Below.heap_setCell _ _ _ _ (by show s6 ≠ s7; omega))
            · rw [unhide HET]
              have := (unhide HS5).set2 ((drp : Int) + 1)
              rw [show ((drp + 1 : Nat) : Int) = (drp : Int) + 1 from by omega]
              exact this
            · exact (unhide H85).frame (by simpa using (unhide H85).lt) (Below.heap_setCell _ _ _ _ (by show s8 ≠ s7; omega))
            · exact Kept.setCell (unhide HK5) (p := ⟨s7, 2, none⟩) (.inl (.inr rfl)) _
          case measure => simp [intOf]; omega
      · obtain rfl : k = off.length := by omega
        have hkp := unhide HKP
        have b84 := (unhide HZ4').lt
        have b85 := (unhide H5').lt
        have hz4 : LAt wr s 0 0 (pad []) := (unhide HZ4').frame (Nat.lt_of_lt_of_le (unhide HZ4').lt hkp.size) (hkp.block s (unhide HZ4').lt (by omega))
        have hb5 := (unhide H5').kept hkp (by omega)
        have hfz5 := hb5.fz
        have r6 := (unhide HLK).range
        have r7 := (unhide HSK).range
        have t4 : wr.there s 0 257 := by
          have := hz4.there 0 (pad [])
          rw [List.size_toArray, listCells_len] at this
          exact this
        have t5 : wr.there (s + 1) 0 4 := by
          intro j hj
          refine ⟨?_, hfz5 _⟩
          rw [Nat.zero_add]
          rcases j with _ | _ | _ | _ | j
          · rw [hb5.c0]; rfl
          · rw [hb5.c1]; rfl
          · rw [hb5.c2]; rfl
          · rw [hb5.c3]; rfl
          · omega
        have hmost := (unhide HLK).most
        have hl6 := listCells_len (tabTo own off quota off.length).1.length (pad (tabTo own off quota off.length).1)
        have ho6 : ∀ v ∈ listCells (tabTo own off quota off.length).1.length (pad (tabTo own off quota off.length).1), v.oneCell' = true := listCells_mem _ _
        have hu := Try.underlying83
        have hu5 := Try.underlying32
        have hi : (Try.prog.info? 83).map (·.size) = some (listCells (tabTo own off quota off.length).1.length (pad (tabTo own off quota off.length).1)).length := infoList' _ _
        generalize hcs : listCells (tabTo own off quota off.length).1.length (pad (tabTo own off quota off.length).1) = cs at *
        have ho7 : ∀ v ∈ ([.int .i64 (own.length : Int), .int .i64 ((tabTo own off quota off.length).2.1 : Int), .int .i64 ((tabTo own off quota off.length).2.2 : Int), .int .i64 quota] : List Value), v.oneCell' = true := by simp [Value.oneCell']
        have hl7 : ([.int .i64 (own.length : Int), .int .i64 ((tabTo own off quota off.length).2.1 : Int), .int .i64 ((tabTo own off quota off.length).2.2 : Int), .int .i64 quota] : List Value).length = 4 := rfl
        have hi7 : (Try.prog.info? 32).map (·.size) = some ([.int .i64 (own.length : Int), .int .i64 ((tabTo own off quota off.length).2.1 : Int), .int .i64 ((tabTo own off quota off.length).2.2 : Int), .int .i64 quota] : List Value).length := infoSums
        generalize hss : ([.int .i64 (own.length : Int), .int .i64 ((tabTo own off quota off.length).2.1 : Int), .int .i64 ((tabTo own off quota off.length).2.2 : Int), .int .i64 quota] : List Value) = ss at *
        have HCS := hide hcs
        have HSS := hide hss
        clear hcs hss hkp hz4 hb5
        go_wp2_with (go_at_call 57; refine (len_any (unhide H8K)).mono ?_; rintro e w1 ⟨rfl, hw1⟩; replace hw1 := hw1.symm; subst hw1)
        clear HX HS1 HZV HSV HS3 HX3 HGO HS8 HL8 HL68 HGW HSM8 HLK HSK H8K
        have hSd : (fun w' : World => w'.rangeAt s6 0 cs ∧ w'.there s 0 257 ∧ w'.rangeAt s7 0 ss ∧ w'.there (s + 1) 0 4) wr.drew := ⟨by simpa using r6, by simpa using t4, by simpa using r7, by simpa using t5⟩
        refine wp_region_held_drew (S := fun w' : World => w'.rangeAt s6 0 cs ∧ w'.there s 0 257 ∧ w'.rangeAt s7 0 ss ∧ w'.there (s + 1) 0 4) (by kernel_rfl) hSd (fun hHeld => ?_)
        refine wpAnyH_take (i := 0) (v := .agg cs.toArray) rfl (by kernel_rfl) (by kernel_rfl) (by kernel_rfl) (fun _ _ _ h => h) (yieldsIf_load_mid (by rfl) 83 _ rfl s6 0 rfl cs _ (fun w h => h.1) hu rfl hi) hHeld ?_
        refine wpAnyH_take (i := 1) (v := .agg ss.toArray) rfl (by kernel_rfl) (by kernel_rfl) (by kernel_rfl) (fun _ _ _ h => h) (yieldsIf_load_mid (by rfl) 32 _ rfl s7 0 rfl ss _ (fun w h => h.2.2.1) hu5 rfl hi7) hHeld ?_
        refine wpAnyH_ready (rs := [2]) (by kernel_rfl) (by simp) ?_
        refine AllReadyH.cons rfl (fun K hK => ?_) AllReadyH.nil
        rw [if_pos (by rfl)]
        refine wp_store_mid _ _ _ rfl s 0 cs.toArray rfl rfl (by rw [List.size_toArray, hl6]; exact hHeld.2.1) (by rw [List.size_toArray]; exact hi) (all_oneCell_toArray ho6) ?_
        have hS2 : (fun w' : World => w'.rangeAt s6 0 cs ∧ w'.there s 0 257 ∧ w'.rangeAt s7 0 ss ∧ w'.there (s + 1) 0 4) (wr.drew.setCells s 0 cs.toArray.toList) :=
          ⟨World.rangeAt_setCells_apart hHeld.1 _ _ _ (.inl (by omega)), World.there_setCells hHeld.2.1 _ _ _, World.rangeAt_setCells_apart hHeld.2.2.1 _ _ _ (.inl (by omega)), World.there_setCells hHeld.2.2.2 _ _ _⟩
        refine hK.out _ _ hS2 (fun hHeld2 => ?_)
        refine wpAnyH_ready (rs := [3]) (by kernel_rfl) (by simp) ?_
        refine AllReadyH.cons rfl (fun K2 hK2 => ?_) AllReadyH.nil
        rw [if_pos (by rfl)]
        refine wp_store_mid _ _ _ rfl (s + 1) 0 ss.toArray rfl rfl (by rw [List.size_toArray, hl7]; exact hHeld2.2.2.2) (by rw [List.size_toArray]; exact hi7) (all_oneCell_toArray ho7) ?_
        have hS3 : (fun w' : World => w'.rangeAt s6 0 cs ∧ w'.there s 0 257 ∧ w'.rangeAt s7 0 ss ∧ w'.there (s + 1) 0 4) ((wr.drew.setCells s 0 cs.toArray.toList).setCells (s + 1) 0 ss.toArray.toList) :=
          ⟨World.rangeAt_setCells_apart hHeld2.1 _ _ _ (.inl (by omega)), World.there_setCells hHeld2.2.1 _ _ _, World.rangeAt_setCells_apart hHeld2.2.2.1 _ _ _ (.inl (by omega)), World.there_setCells hHeld2.2.2.2 _ _ _⟩
        refine hK2.out _ _ hS3 (fun _ => ?_)
        refine wpAnyH_done (by kernel_rfl) ?_ _
        have hrc : ((wr.drew.setCells s 0 cs.toArray.toList).setCells (s + 1) 0 ss.toArray.toList).rangeAt s 0 cs := by
          refine World.rangeAt_setCells_apart ?_ _ _ _ (.inl (by omega))
          have := World.rangeAt_setCells_same wr.drew s 0 cs (by rw [hl6]; exact hHeld.2.1)
          simpa using this
        have hrs : ((wr.drew.setCells s 0 cs.toArray.toList).setCells (s + 1) 0 ss.toArray.toList).rangeAt (s + 1) 0 ss := by
          have := World.rangeAt_setCells_same (wr.drew.setCells s 0 cs.toArray.toList) (s + 1) 0 ss (by rw [hl7]; exact hHeld2.2.2.2)
          simpa using this
        have hkf : Still w ((wr.drew.setCells s 0 cs.toArray.toList).setCells (s + 1) 0 ss.toArray.toList) := by
          have h0 : Still w wr := Kept.trans' (unhide HS8W) (unhide HKP) (fun i hi q => by omega)
          exact Kept.setCells (Kept.setCells h0.drew (.inr (by omega)) _ _) (.inr (by omega)) _ _
        have HRC := hide hrc
        have HRS := hide hrs
        have HKF := hide hkf
        clear hK hK2 hHeld hHeld2 hS2 hS3 hSd hrc hrs hkf r6 r7 t4 t5
        generalize (wr.drew.setCells s 0 cs.toArray.toList).setCells (s + 1) 0 ss.toArray.toList = Z at *
        go_wp2
        refine bodyPost_ret (results_range3 rfl _ _ s 0 (s + 1) 0 cs ss _ _ rfl (unhide HRC) hu rfl hi rfl (unhide HRS) hu5 rfl hi7) rfl ?_
        rw [unhide HOFF, unhide HOWN, unhide HQT]
        exact ⟨by rw [← unhide HCS, ← unhide HSS], hmost, unhide HKF⟩
end Go.Proofs.Ytgndledehlilkaa
