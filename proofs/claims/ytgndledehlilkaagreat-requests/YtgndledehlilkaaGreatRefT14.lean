/-
  Walks: districtref: Filter.
-/
import Derived.Test.YtgndledehlilkaaGreatPure
import Derived.Test.YtgndledehlilkaaGreatRefT12a
import Derived.Test.YtgndledehlilkaaGreatAppend
import Derived.Test.YtgndledehlilkaaGreatRulesIn
namespace Go.Proofs.YtgndledehlilkaaGreat
open Go.RowKit
/-- append of rules that are handed in onto a row that is owned. -/
theorem wpList_append_in {P : Program} {w : World} {ops : Array Oper} {rest : List Oper} {o : Oper} {a : Act} {Q : Exit → Act → World → Prop} (hgd : o.guard = none) (s x : Operand) (t : TypeId)
    (ho : o.op = .call { callee := .builtin .append, args := #[s, x], argTypes := #[t, t] })
    (base : Nat) (e : TypeId) (i : TypeInfo) (z : Value) (bytes : Nat) (ht : P.underlying t = some (.slice e)) (hi : P.info? e = some i) (hz : i.zero = some z)
    (hsize : i.size = 5) (hby : i.bytes = bytes) (hzs : z.cells.size = 5)
    (v : Value) (n : Nat) (xs : List Value) (hs : a.eval s = v) (hown : w.ownsRow base e 5 v n xs)
    (u : Value) (R : List RuleD) (hx : a.eval x = u) (hu : RulesIn w u R)
    (h63 : n + R.length ≤ maxLen) (hbytes : (n + R.length) * bytes ≤ 140737488355328) (hbase : base ≤ w.heap.size) (H : Nat) (hH : w.heap.size = H)
    (h : ∀ v' w', w'.ownsRow base e 5 v' (n + R.length) (xs ++ R.flatMap ruleCells) → w.grownBy w' v.ownBlock → (v'.ownBlock = v.ownBlock ∨ v'.ownBlock = some H) → wpList P ops Q rest (a.put o.dst v') w') : wpList P ops Q (o :: rest) a w := by
  rcases hu with ⟨rfl, rfl⟩ | ⟨ad, c, rfl, _, hc⟩
  · exact wpList_append_own_none hgd s x t ho base e i 5 ht hi v n xs hs hown hx (h v w (ownsRow_add_zero hown rfl rfl) ⟨rfl, rfl, rfl, Nat.le_refl _, fun _ _ _ => rfl⟩ (.inl rfl))
  · refine wpList_plain hgd fun K hK => ?_
    obtain ⟨v', w', hr, h2, h3, _, h5⟩ := run_append_own_at (P := P) w base t o.type e i z 5 bytes ht hi hz hsize hby hzs (by omega) v n xs hown ad R.length c (R.flatMap ruleCells) (ruleCells_len R) hc (ruleCells_one R) h63 hbytes hbase
    unfold Oper.wp execOp
    simp only [ho, resolve, invoke, builtin, Sem.run_bind, Sem.run_pure, Result.andThen_ok, List.map_toArray, List.map_cons, List.map_nil, hs, hx, hr]
    exact hK _ _ (h v' w' h2 h3 (by rw [← hH]; exact h5))
theorem changed.still {w w1 w2 : World} {O : Nat → Nat × Nat × Nat} {e b : Nat} {r : RefS} (h : changed w O e b r w1) (hs : Still w1 w2) : changed w O e b r w2 := by
  obtain ⟨O', h1, h2, h3⟩ := h
  exact ⟨O', h1, h2.still hs, Kept.trans h3 (Still.kept hs _)⟩
theorem infoRule : (Tryz.prog.info? 55).map (fun i => (i.zero, i.size, i.bytes)) = some (some (.agg #[.bool false, .int .i64 0, .int .i64 0, .int .i64 0, .int .i64 0]), 5, 40) := by kernel_rfl
set_option maxRecDepth 100000 in
set_option maxHeartbeats 4000000 in
theorem refFilter_any {w : World} {O : Nat → Nat × Nat × Nat} {e b : Nat} {r : RefS} (h : RefRep w O e b r) (hf : RefWf r) (n : Int) {v : Value} {R : List RuleD} (hR : RulesIn w v R) :
    Calls Tryz.prog 68 #[.pointer (some ⟨b, 0, none⟩), .int .i64 n, v] w fun en w' =>
      en = .returned (.int .i64 (filterR r n R)) ∧ changed w O e b (filteredR r n R) w' := by
  obtain ⟨ra, rc, rfl, hrl⟩ := hR.len
  by_cases hm : mayI r n 4 = 0
  · obtain ⟨_, hn1, hn2⟩ := mayI_zero hm
    obtain ⟨k, rfl⟩ : ∃ k : Nat, n = (k : Int) + 1 := ⟨(n - 1).toNat, by omega⟩
    have hk : k < r.nt := by omega
    have hlf : lifeOf r ((k : Int) + 1) = (r.tok k).life := by unfold lifeOf; rw [show ((k : Int) + 1 - 1).toNat = k from by omega]
    have hnl := hf.life k hk
    have hn := hf.nt
    have hl := hf.nl
    have HM := hide hm
    have e1 : filterR r ((k : Int) + 1) R = if filterOk R = true then 0 else 2 := by unfold filterR; rw [if_pos hm]
    have E2 : Hid (filterOk R = true → filteredR r ((k : Int) + 1) R = rulesS r (r.tok k).life R) := fun hok => by unfold filteredR; rw [e1, if_pos hok, if_pos rfl, hlf]
    have E3 : Hid (filterOk R = false → filteredR r ((k : Int) + 1) R = r) := fun hok => by unfold filteredR; rw [e1, hok]; rfl
    have E1 := hide e1
    obtain ⟨lv, tv, ov, rv, ln, ht⟩ := h
    have bl := ht.lt
    obtain ⟨a, cap, rfl, h1, h2, h3⟩ := ht.toksAt
    obtain ⟨g, rfl⟩ := h3 k hk
    obtain ⟨al, capl, rfl, h1', h2', h3'⟩ := ht.livesAt
    obtain ⟨gl, rfl⟩ := h3' _ hnl
    unfold maxLen at h2 h2'
    have hgb : gl ≠ b := tag_ne (ht.ltag gl rfl) ht.btag (by simp)
    have hbg : b ≠ gl := Ne.symm hgb
    have HT := hide ht
    have HIN := hide hR
    clear ht h3 h3' hm e1 hlf hR
    obtain ⟨i0, hi0, hz0, hz1', hz2⟩ := info_parts infoRule
    go_enter Tryz.func68, Tryz.ntmps68
    go_wp2_with fail
    refine (may_any ⟨_, _, _, _, _, unhide HT⟩ hf _ _ (by omega) (by omega)).mono ?_
    rintro en w1 ⟨rfl, hw⟩
    rw [unhide HM]
    have HT1 := hide ((unhide HT).still hw)
    have HIN1 := hide ((unhide HIN).still hw)
    have HW := hide hw
    clear hw HIN HT
    have HS : Hid (decide (R.length ≤ 4) = okTo R 0) := by show _ = _; unfold okTo; simp
    cases h4 : decide (R.length ≤ 4) with
    | false =>
      have hlong : ¬ (R.length : Int) ≤ 4 := by have := of_decide_eq_false h4; omega
      have hok : filterOk R = false := by unfold filterOk; rw [h4]; rfl
      have HE1 : Hid (filterR r ((k : Int) + 1) R = 2) := by have := unhide E1; rw [hok] at this; exact this
      have HE3 := hide (unhide E3 hok)
      clear h4 hok
      go_wp2
      go_loopw [8, 9] (fun o i w' => o = .bool false ∧ i = .int .i64 0 ∧ w' = w1) (fun _ _ _ => 0)
      case atStart => exact ⟨congrArg Value.bool (decide_eq_false (by omega)), rfl, rfl⟩
      case round =>
        obtain ⟨rfl, rfl, hwr⟩ := hrel
        subst hwr
        go_wp2
        go_ret
        exact ⟨ret_int (unhide HE1).symm, O, fun _ _ => rfl, by rw [unhide HE3]; exact ⟨_, _, _, _, _, unhide HT1⟩, Still.kept (unhide HW) _⟩
    | true =>
      have hshort : (R.length : Int) ≤ 4 := by have := of_decide_eq_true h4; omega
      have HS0 := hide ((unhide HS).symm.trans h4)
      clear h4
      go_wp2
      go_loopw [8, 9] (fun o i w' => ∃ m : Nat, m ≤ R.length ∧ i = .int .i64 m ∧ o = .bool (okTo R m) ∧ Still w1 w') (fun o i _ => (R.length - (intOf i).toNat) + (match o with | .bool true => 1 | _ => 0))
      case atStart => exact ⟨0, Nat.zero_le _, rfl, by rw [unhide HS0], Kept.refl _ _⟩
      case round =>
        obtain ⟨m, hm, rfl, rfl, hms⟩ := hrel
        have HMS := hide hms
        have HIN2 := hide ((unhide HIN1).still hms)
        clear hms
        cases hok : okTo R m with
        | false =>
          have hokf := okTo_false hok
          have HE1 : Hid (filterR r ((k : Int) + 1) R = 2) := by have := unhide E1; rw [hokf] at this; exact this
          have HE3 := hide (unhide E3 hokf)
          clear hok hokf
          generalize hmi : (m : Int) = mi at *
          have HMI := hide hmi
          have hmi0 : (0 : Int) ≤ mi := by omega
          clear hmi
          by_cases hlt : mi < (R.length : Int)
          · go_wp2
            go_ret
            exact ⟨ret_int (unhide HE1).symm, O, fun _ _ => rfl, by rw [unhide HE3]; exact ⟨_, _, _, _, _, (unhide HT1).still (unhide HMS)⟩, Still.kept (Kept.trans (unhide HW) (unhide HMS)) _⟩
          · go_wp2
            go_ret
            exact ⟨ret_int (unhide HE1).symm, O, fun _ _ => rfl, by rw [unhide HE3]; exact ⟨_, _, _, _, _, (unhide HT1).still (unhide HMS)⟩, Still.kept (Kept.trans (unhide HW) (unhide HMS)) _⟩
        | true =>
          by_cases hlt : m < R.length
          · obtain ⟨bs, off, rfl, hbs, c0, c1, c2, c3, c4⟩ := (unhide HIN2).at hlt
            have hmi0 : (0 : Int) ≤ (m : Int) := by omega
            have hmi1 : (m : Int) < (R.length : Int) := by omega
            have HN := hide (okTo_succ hlt)
            have HOKM := hide hok
            clear hok
            generalize R.getD m ru0 = q at *
            have HRB : Hid (okTo R (m + 1) = ruleB q) := by show _ = _; rw [unhide HN, unhide HOKM]; rfl
            have HKS : Hid (Still w1 (wr.alloc (.cells #[.bool q.allow, .int .i64 q.addr, .int .i64 q.len, .int .i64 q.ge, .int .i64 q.le] 55))) := Kept.alloc (unhide HMS) _
            go_wp2_with fail
            have x2 : (wr.alloc (.cells #[.bool q.allow, .int .i64 q.addr, .int .i64 q.len, .int .i64 q.ge, .int .i64 q.le] 55)).cell? ⟨wr.heap.size, 2, none⟩ = some (.int .i64 q.len) := by rw [World.cell?_alloc_new]; rfl
            have x3 : (wr.alloc (.cells #[.bool q.allow, .int .i64 q.addr, .int .i64 q.len, .int .i64 q.ge, .int .i64 q.le] 55)).cell? ⟨wr.heap.size, 3, none⟩ = some (.int .i64 q.ge) := by rw [World.cell?_alloc_new]; rfl
            have x4 : (wr.alloc (.cells #[.bool q.allow, .int .i64 q.addr, .int .i64 q.len, .int .i64 q.ge, .int .i64 q.le] 55)).cell? ⟨wr.heap.size, 4, none⟩ = some (.int .i64 q.le) := by rw [World.cell?_alloc_new]; rfl
            clear c0 c1 c2 c3 c4
            generalize wr.alloc (.cells #[.bool q.allow, .int .i64 q.addr, .int .i64 q.len, .int .i64 q.ge, .int .i64 q.le] 55) = V at *
            refine (prefix_any _ _ _).mono ?_
            rintro en w2 ⟨rfl, hw⟩
            replace hw := hw.symm
            subst hw
            generalize wr.heap.size = s0 at *
            cases hp : isPfx q.addr q.len with
            | false =>
              have HB : Hid (okTo R (m + 1) = false) := by show _ = _; rw [unhide HRB]; unfold ruleB; rw [hp]; rfl
              clear hp
              go_wp2
              go_roundw
              case rel => exact ⟨m + 1, by omega, by go_num, by rw [unhide HB], unhide HKS⟩
              case measure => simp [intOf]; omega
            | true =>
              by_cases g1 : q.len ≤ q.ge
              · by_cases g2 : q.ge ≤ q.le
                · by_cases g3 : q.le ≤ 16
                  · have HB : Hid (okTo R (m + 1) = true) := by show _ = _; rw [unhide HRB]; unfold ruleB; rw [hp]; simp [g1, g2, g3]
                    clear hp
                    go_wp2
                    go_roundw
                    case rel => exact ⟨m + 1, by omega, by go_num, by rw [unhide HB], unhide HKS⟩
                    case measure => simp [intOf]; omega
                  · have HB : Hid (okTo R (m + 1) = false) := by show _ = _; rw [unhide HRB]; unfold ruleB; rw [hp]; simp [g1, g2, g3]
                    have HD : Hid (decide (q.le ≤ 16) = false) := decide_eq_false g3
                    clear hp
                    go_wp2
                    go_roundw
                    case rel => exact ⟨m + 1, by omega, by go_num, by rw [unhide HB, unhide HD], unhide HKS⟩
                    case measure => rw [unhide HD]; simp [intOf]; omega
                · have HB : Hid (okTo R (m + 1) = false) := by show _ = _; rw [unhide HRB]; unfold ruleB; rw [hp]; simp [g1, g2]
                  clear hp
                  go_wp2
                  go_roundw
                  case rel => exact ⟨m + 1, by omega, by go_num, by rw [unhide HB], unhide HKS⟩
                  case measure => simp [intOf]; omega
              · have HB : Hid (okTo R (m + 1) = false) := by show _ = _; rw [unhide HRB]; unfold ruleB; rw [hp]; simp [g1]
                clear hp
                go_wp2
                go_roundw
                case rel => exact ⟨m + 1, by omega, by go_num, by rw [unhide HB], unhide HKS⟩
                case measure => simp [intOf]; omega
          · obtain rfl : m = R.length := by omega
            have hall := (okTo_all R).symm.trans hok
            have HE1 : Hid (filterR r ((k : Int) + 1) R = 0) := by have := unhide E1; rw [hall] at this; exact this
            have HE2 := hide (unhide E2 hall)
            clear hok hall
            go_wp2_with (at_builtin; refine wpList_append_in rfl _ _ _ rfl wr.heap.size 55 i0 _ 40 Tryz.underlying32 hi0 hz0 hz1' hz2 rfl (.slice none 0 0) 0 [] rfl (World.ownsRow_nil _ _ _ _) _ R rfl (unhide HIN2) (by unfold maxLen; omega) (by omega) (Nat.le_refl _) wr.heap.size rfl ?_; intro u5 w5 hown5 hgrow5 hat5)
            obtain ⟨ua, uc, rfl, _, _⟩ := ownsRow_slice hown5
            have hs5 : Still wr w5 := Kept.grown (Kept.refl _ _) hgrow5 (fun z hz => by simp [Value.ownBlock] at hz)
            have htr := (unhide HT1).still (unhide HMS)
            have HFIN := hide (rules_fin (Kept.trans (unhide HW) (unhide HMS)) htr hnl hs5 (by simpa using hown5))
            have ht5 := htr.still hs5
            obtain ⟨_, d1, d2, _⟩ := ht5.cells
            have t0 : w5.cell? ⟨g, k * 4, none⟩ = some (.int .i64 ((r.tok k).life : Int)) := ht5.tokCell hk 0 (by omega)
            have u5' : w5.cell? ⟨gl, (r.tok k).life * 7 + 5, none⟩ = some (rv (r.tok k).life) := ht5.lifeCell hnl 5 (by omega)
            have f5 : w5.frozen? ⟨gl, (r.tok k).life * 7 + 5, none⟩ = false := ht5.lives.frozenAt _
            clear htr ht5 hs5 hown5 hgrow5 hat5
            have hl0 : (0 : Int) ≤ ((r.tok k).life : Int) := by omega
            have hl1 : ((r.tok k).life : Int) < (r.nl : Int) := by omega
            go_region
            go_wp2
            go_ret
            exact ⟨ret_int (unhide HE1).symm, by rw [unhide HE2]; exact (unhide HFIN).still ((Kept.refl _ _).drew)⟩
  · have e1 : filterR r n R = mayI r n 4 := by unfold filterR; rw [if_neg hm]
    have e2 : filteredR r n R = r := by unfold filteredR; rw [e1, if_neg hm]
    rw [e1, e2]
    have hc := mayI_cases r n 4
    have hne : (mayI r n 4 != 0) = true := by simpa using hm
    clear e1 hm e2
    go_enter Tryz.func68, Tryz.ntmps68
    go_wp2_with fail
    refine (may_any h hf _ _ (by omega) (by omega)).mono ?_
    rintro en w1 ⟨rfl, hw⟩
    have HR : Hid (changed w O e b r w1) := ⟨O, fun _ _ => rfl, h.still hw, Still.kept hw _⟩
    generalize hx : mayI r n 4 = x at *
    have Hx := hide hx
    clear hx
    go_wp2
    go_ret
    exact ⟨ret_int (unhide Hx).symm, unhide HR⟩
end Go.Proofs.YtgndledehlilkaaGreat
