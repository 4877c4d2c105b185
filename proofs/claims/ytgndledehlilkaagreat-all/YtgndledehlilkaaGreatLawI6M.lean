import Derived.Test.YtgndledehlilkaaGreatLawI5
import Derived.Laws.CopyRow
import Derived.OwnWalk
namespace Go.Proofs.YtgndledehlilkaaGreat
open Go.RowKit

theorem run_copy_wide {P : Program} (w : World) (dT sT ty elem : TypeId) (i : TypeInfo) (g o dLen dCap : Nat) (a : Addr) (sLen sCap : Nat) (cur : Array Value) (t : TypeId) (cs : List Value)
    (hu : P.underlying dT = some (.slice elem)) (hi : P.info? elem = some i)
    (hg : w.heap[g]? = some (.cells cur t (0, 0))) (hn : cs.length = Nat.min sLen dLen * i.size)
    (hsrc : ∀ j v, cs[j]? = some v → w.cell? (a.add j) = some v) (hfit : o + cs.length ≤ cur.size) (h1 : ∀ v ∈ cs, v.oneCell' = true) :
    (Builtin.copy_ #[dT, sT] ty #[.slice (some ⟨g, o, none⟩) dLen dCap, .slice (some a) sLen sCap]).run P w =
      .ok (goInt (Nat.min sLen dLen)) (w.setRow g (cur.toList.take o ++ cs ++ cur.toList.drop (o + cs.length)).toArray) := by
  have hl := run_firstCells_some (P := P) w i.size (Nat.min sLen dLen) a sLen sCap cs hn hsrc
  have hst := run_storeCells_at P g o t cs 0 cur w hg (by simpa using hfit) h1
  simp [Builtin.copy_, run_underlying hu, Builtin.lenOf, sizeOf, typeInfo, hi, hl, hst]
theorem take_over (L cs : List Value) (m : Nat) (hc : cs.length ≤ m) : (L.take 0 ++ cs ++ L.drop (0 + cs.length)).take m = cs ++ (L.take m).drop cs.length := by
  rw [List.take_zero, List.nil_append, Nat.zero_add, List.take_append, List.take_of_length_le hc, List.drop_take]
theorem wpList_copy_in {P : Program} {w : World} {ops : Array Oper} {rest : List Oper} {o : Oper} {a : Act} {Q : Exit → Act → World → Prop} (hgd : o.guard = none) (d s : Operand) (t : TypeId)
    (ho : o.op = .call { callee := .builtin .copy, args := #[d, s], argTypes := #[t, t] }) (base : Nat) (e : TypeId) (i : TypeInfo) (hu : P.underlying t = some (.slice e)) (hi : P.info? e = some i) (hsize : i.size = 5)
    (g m c : Nat) (xs : List Value) (hd : a.eval d = .slice (some ⟨g, 0, none⟩) m c) (hown : w.ownsRow base e 5 (.slice (some ⟨g, 0, none⟩) m c) m xs)
    (u : Value) (R : List RuleD) (hx : a.eval s = u) (hR : RulesIn w u R) (hm : R.length ≤ m)
    (h : ∀ w', w'.ownsRow base e 5 (.slice (some ⟨g, 0, none⟩) m c) m (R.flatMap ruleCells ++ xs.drop (R.length * 5)) → w.grownBy w' (some g) → wpList P ops Q rest (a.put o.dst (goInt R.length)) w') : wpList P ops Q (o :: rest) a w := by
  refine wpList_plain hgd fun K hK => ?_
  rcases hR with ⟨rfl, rfl⟩ | ⟨ad, c', rfl, _, hc⟩
  · have hr := run_copy_nil (P := P) w t t o.type e ⟨g, 0, none⟩ m c hu (by rw [hi]; rfl)
    unfold Oper.wp
    simp [execOp, ho, resolve, invoke, builtin, hd, hx, hr, Result.andThen]
    exact hK _ _ (h w (by simpa using hown) ⟨rfl, rfl, rfl, Nat.le_refl _, fun _ _ _ => rfl⟩)
  · rcases hown.2 with ⟨e1, _⟩ | ⟨g', cap, cur, e1, hb, hg, hnc, hcm, hcs, htake⟩
    · simp at e1
    · simp only [Value.slice.injEq, Option.some.injEq, Addr.mk.injEq, and_true, true_and] at e1
      obtain ⟨rfl, rfl⟩ := e1
      have hl5 := ruleCells_len R
      have hmul : R.length * 5 ≤ m * 5 := Nat.mul_le_mul_right 5 hm
      have hmul2 : m * 5 ≤ c * 5 := Nat.mul_le_mul_right 5 hnc
      have hmin : Nat.min R.length m = R.length := Nat.min_eq_left hm
      have hr := run_copy_wide (P := P) w t t o.type e i g 0 m c ad R.length c' cur e (R.flatMap ruleCells) hu hi hg (by rw [hmin, hsize]; exact hl5) hc (by rw [hl5, hcs]; omega) (ruleCells_one R)
      rw [hmin] at hr
      generalize R.flatMap ruleCells = cs at *
      unfold Oper.wp
      simp [execOp, ho, resolve, invoke, builtin, hd, hx, hr, Result.andThen]
      refine hK _ _ (h _ ⟨?_, .inr ⟨g, c, _, rfl, hb, setRow_heap w g cur _ e _ hg, hnc, hcm, ?_, ?_⟩⟩ ⟨rfl, rfl, rfl, by simp, fun k _ hk => setRow_other w g k _ (fun e => hk (by simp [e]))⟩)
      · rw [List.length_append, List.length_drop, hown.1, hl5]; omega
      · simp [hl5, hcs]; omega
      · have := take_over cur.toList cs (m * 5) (by omega)
        rw [htake, hl5] at this
        simpa [hl5] using this
def foreignC : List Value := [.bool true, .int .i64 (-1), .int .i64 77, .int .i64 77, .int .i64 77]
set_option maxHeartbeats 400000 in
theorem foreign_any (w : World) :
    Calls Tryz.prog 66 #[] w fun en w' => en = .returned (.agg #[.bool true, .int .i64 (-1), .int .i64 77, .int .i64 77, .int .i64 77]) ∧ Still w w' := by
  go_enter Tryz.func66, Tryz.ntmps66
  go_wp2
  have hs : Still w (w.alloc (.cells #[.bool true, .int .i64 (-1), .int .i64 77, .int .i64 77, .int .i64 77] 55)) := (Kept.refl _ _).alloc _
  refine bodyPost_ret (v := .agg #[.bool true, .int .i64 (-1), .int .i64 77, .int .i64 77, .int .i64 77]) ?_ rfl ⟨rfl, hs⟩
  simp [results, Tryz.results66, go_sem]

theorem enc_append (a b : Nat) (f g : Nat → List Value) : enc a f ++ enc b g = enc (a + b) fun j => if j < a then f j else g (j - a) := by
  induction b with
  | zero =>
    rw [enc_zero, List.append_nil]
    exact enc_congr fun i hi => by rw [if_pos (by omega)]
  | succ b ih =>
    rw [enc_succ, ← List.append_assoc, ih, ← Nat.add_assoc, enc_succ]
    congr 1
    rw [if_neg (by omega), Nat.add_sub_cancel_left]
theorem enc_of_list (s : Nat) : ∀ (m : Nat) (ys : List Value), ys.length = m * s → ys = enc m fun j => (ys.drop (j * s)).take s
  | 0, ys, h => by
    rw [enc_zero]
    exact List.eq_nil_of_length_eq_zero (by simpa using h)
  | m + 1, ys, h => by
    rw [enc_succ]
    have hl : ys.length = m * s + s := by rw [h, Nat.add_mul, Nat.one_mul]
    have ih := enc_of_list s m (ys.take (m * s)) (by rw [List.length_take]; omega)
    have e1 : (ys.drop (m * s)).take s = ys.drop (m * s) := List.take_of_length_le (by rw [List.length_drop]; omega)
    have e2 : enc m (fun j => ((ys.take (m * s)).drop (j * s)).take s) = enc m fun j => (ys.drop (j * s)).take s := enc_congr fun j hj => by
      have : (j + 1) * s ≤ m * s := Nat.mul_le_mul_right s hj
      rw [Nat.add_mul, Nat.one_mul] at this
      rw [List.drop_take, List.take_take, Nat.min_eq_left (by omega)]
    rw [e1, ← e2, ← ih, List.take_append_drop]
/-- Five cells of a row of things of five cells. -/
theorem ownsRow_store5 {w : World} {base : Nat} {e : TypeId} {g n cap : Nat} {f : Nat → List Value} (h : w.ownsRow base e 5 (.slice (some ⟨g, 0, none⟩) n cap) n (enc n f)) (hs : ∀ i, i < n → (f i).length = 5) {i : Nat} (hi : i < n) (a b c d x : Value) :
    (((((w.setCell ⟨g, i * 5, none⟩ a).setCell ⟨g, i * 5 + 1, none⟩ b).setCell ⟨g, i * 5 + 2, none⟩ c).setCell ⟨g, i * 5 + 3, none⟩ d).setCell ⟨g, i * 5 + 4, none⟩ x).ownsRow base e 5 (.slice (some ⟨g, 0, none⟩) n cap) n (enc n (upd f i [a, b, c, d, x])) := by
  have hu : ∀ (x : List Value) (f' : Nat → List Value), x.length = 5 → (∀ k, k < n → (f' k).length = 5) → ∀ k, k < n → (upd f' i x k).length = 5 := fun x f' hx hf' k hk => by
    by_cases e : k = i
    · subst e; rw [upd_same]; exact hx
    · rw [upd_other _ _ e]; exact hf' k hk
  have hl := hs i hi
  have s0 := ownsRow_store h hs (i := i) (j := 0) (u := a) (f' := upd f i ((f i).set 0 a)) hi (by omega) (by rw [upd_same]) (fun k _ hk => upd_other _ _ hk)
  have s1 := ownsRow_store s0 (hu _ _ (by simpa using hl) hs) (i := i) (j := 1) (u := b) (f' := upd f i (((f i).set 0 a).set 1 b)) hi (by omega) (by rw [upd_same, upd_same]) (fun k _ hk => by rw [upd_other _ _ hk, upd_other _ _ hk])
  have s2 := ownsRow_store s1 (hu _ _ (by simpa using hl) hs) (i := i) (j := 2) (u := c) (f' := upd f i ((((f i).set 0 a).set 1 b).set 2 c)) hi (by omega) (by rw [upd_same, upd_same]) (fun k _ hk => by rw [upd_other _ _ hk, upd_other _ _ hk])
  have s3 := ownsRow_store s2 (hu _ _ (by simpa using hl) hs) (i := i) (j := 3) (u := d) (f' := upd f i (((((f i).set 0 a).set 1 b).set 2 c).set 3 d)) hi (by omega) (by rw [upd_same, upd_same]) (fun k _ hk => by rw [upd_other _ _ hk, upd_other _ _ hk])
  have s4 := ownsRow_store s3 (hu _ _ (by simpa using hl) hs) (i := i) (j := 4) (u := x) (f' := upd f i [a, b, c, d, x]) hi (by omega) (by
    rw [upd_same, upd_same]
    match f i, hl with
    | [x0, x1, x2, x3, x4], _ => rfl) (fun k _ hk => by rw [upd_other _ _ hk, upd_other _ _ hk])
  exact s4
/-- A row of rules while the spare room is written full. -/
def fullF (R : List RuleD) (g : Nat → List Value) (i j : Nat) : List Value := if j < R.length then ruleCells (R.getD j ru0) else if j < i then foreignC else g (j - R.length)
theorem fullF_len (R : List RuleD) {g : Nat → List Value} (hg : ∀ j, j < 8 → (g j).length = 5) (i : Nat) {j : Nat} (hj : j < R.length + 8) : (fullF R g i j).length = 5 := by
  unfold fullF
  split
  · rfl
  · split
    · rfl
    · exact hg _ (by omega)
theorem fullF_step (R : List RuleD) (g : Nat → List Value) {i : Nat} (hi : R.length ≤ i) (n : Nat) : enc n (upd (fullF R g i) i foreignC) = enc n (fullF R g (i + 1)) := by
  refine enc_congr fun j _ => ?_
  by_cases e : j = i
  · subst e; rw [upd_same]; unfold fullF; rw [if_neg (by omega), if_pos (by omega)]
  · rw [upd_other _ _ e]
    unfold fullF
    split
    · rfl
    · by_cases h : j < i
      · rw [if_pos h, if_pos (by omega)]
      · rw [if_neg h, if_neg (by omega)]
/-- A row of rules while it is written over. -/
def overF (R : List RuleD) (i j : Nat) : List Value := if j < i then foreignC else if j < R.length then ruleCells (R.getD j ru0) else foreignC
theorem overF_len (R : List RuleD) (i j : Nat) : (overF R i j).length = 5 := by
  unfold overF
  split
  · rfl
  · split <;> rfl
theorem overF_step (R : List RuleD) (i n : Nat) : enc n (upd (overF R i) i foreignC) = enc n (overF R (i + 1)) := by
  refine enc_congr fun j _ => ?_
  by_cases e : j = i
  · subst e; rw [upd_same]; unfold overF; rw [if_pos (by omega)]
  · rw [upd_other _ _ e]
    unfold overF
    by_cases h : j < i
    · rw [if_pos h, if_pos (show j < i + 1 by omega)]
    · rw [if_neg h, if_neg (show ¬ j < i + 1 by omega)]
theorem full_over (R : List RuleD) (g : Nat → List Value) : enc (R.length + 8) (fullF R g (R.length + 8)) = enc (R.length + 8) (overF R 0) := by
  refine enc_congr fun j hj => ?_
  unfold fullF overF
  rw [if_neg (Nat.not_lt_zero _), if_pos hj]
theorem full_start (R : List RuleD) (ys : List Value) (h : ys.length = 40) : R.flatMap ruleCells ++ ys = enc (R.length + 8) (fullF R (fun j => (ys.drop (j * 5)).take 5) R.length) := by
  rw [flat_enc R ru0]
  have e := enc_of_list 5 8 ys h
  conv => lhs; rw [e]
  rw [enc_append]
  refine enc_congr fun j _ => ?_
  unfold fullF
  by_cases h1 : j < R.length
  · rw [if_pos h1, if_pos h1]
  · rw [if_neg h1, if_neg h1, if_neg h1]
theorem full_tail {ys : List Value} (h : ys.length = 40) {j : Nat} (hj : j < 8) : ((ys.drop (j * 5)).take 5).length = 5 := by
  rw [List.length_take, List.length_drop]; omega
theorem five {l : List Value} (h : l.length = 5) : ∃ a b c d e, l = [a, b, c, d, e] := by
  match l, h with
  | [a, b, c, d, e], _ => exact ⟨a, b, c, d, e, rfl⟩
/-- The rules in a row that is owned, as rules that are handed in. -/
theorem RulesIn.row {w : World} {base : Nat} {R : List RuleD} {g m cap c : Nat} (h : w.ownsRow base 55 5 (.slice (some ⟨g, 0, none⟩) m cap) m (enc m (overF R 0))) (hm : R.length ≤ m) (hb : R.length * 40 ≤ 140737488355328) : RulesIn w (.slice (some ⟨g, 0, none⟩) R.length c) R := by
  refine .inr ⟨⟨g, 0, none⟩, c, rfl, hb, fun j u hu => ?_⟩
  have hj : j < R.length * 5 := by
    rcases Nat.lt_or_ge j (R.length * 5) with h1 | h1
    · exact h1
    · rw [List.getElem?_eq_none (by rw [ruleCells_len]; exact h1)] at hu; cases hu
  have e : j / 5 * 5 + j % 5 = j := by omega
  have hc := ownsRow_cell h (fun a _ => overF_len R 0 a) (i := j / 5) (j := j % 5) (by omega) (by omega)
  rw [e] at hc
  rw [flat_enc R ru0, ← e, enc_at (s := 5) (f := fun i => ruleCells (R.getD i ru0)) (fun _ _ => rfl) (by omega) (by omega)] at hu
  have ho : overF R 0 (j / 5) = ruleCells (R.getD (j / 5) ru0) := by unfold overF; rw [if_neg (Nat.not_lt_zero _), if_pos (by omega)]
  rw [ho] at hc
  have ha : (⟨g, 0, none⟩ : Addr).add j = ⟨g, j, none⟩ := by unfold Addr.add; split <;> simp_all
  rw [ha, hc]
  exact hu
end Go.Proofs.YtgndledehlilkaaGreat
